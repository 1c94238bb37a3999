import PyProof.Rows.All
import Wide.All
import OpenK.AllK
import Wide.FinOn
import Lean
import PyProof.EqAt
import PyProof.EqKinds
import PyProof.TupleCall
import PySem.Challenge.RW_hingedraw_k64_curves_of_pens
set_option Elab.async false
set_option linter.all false
set_option maxRecDepth 100000
set_option Elab.async false
set_option linter.all false
set_option maxRecDepth 100000
namespace L2
open PySem PySem.Spec PyProof.Rows
abbrev Key:=Sum Int Str
def keyIs:Key->Value->Bool
  | .inl k,v=>Value.isInt k v
  | .inr x,v=>Value.isStrOf x v
def keyH (w:World):Key->Int
  | .inl k=>hashInt k
  | .inr x=>hashStr w x
theorem keyIs_shape:∀ {k:Key} {v:Value},keyIs k v=true->(∃ i t,k=Sum.inl i/\v=Value.int i t)\/(∃ x t,k=Sum.inr x/\v=Value.str x t)
  | .inl i,v,h=>by
    obtain⟨t,e⟩:=Value.isInt_shape (k:=i) (v:=v) h
    exact .inl ⟨i,t,rfl,e⟩
  | .inr x,v,h=>by
    obtain⟨t,e⟩:=Value.isStrOf_shape (x:=x) (v:=v) h
    exact .inr ⟨x,t,rfl,e⟩
theorem key_ll (a b:Int):decide ((Sum.inl a:Key)=Sum.inl b)=(a == b):=by
  by_cases e:a=b
  · subst e; simp
  · have h:¬ (Sum.inl a:Key)=Sum.inl b:=fun q=>e (Sum.inl.inj q)
    rw [decide_eq_false h]
    exact(beq_eq_false_iff_ne.mpr e).symm
theorem key_rr (a b:Str):decide ((Sum.inr a:Key)=Sum.inr b)=decide (a=b):=by
  by_cases e:a=b
  · subst e; simp
  · have h:¬ (Sum.inr a:Key)=Sum.inr b:=fun q=>e (Sum.inr.inj q)
    rw [decide_eq_false h,decide_eq_false e]
theorem key_lr (a:Int) (b:Str):decide ((Sum.inl a:Key)=Sum.inr b)=false:=decide_eq_false (fun q=>nomatch q)
theorem key_rl (a:Str) (b:Int):decide ((Sum.inr a:Key)=Sum.inl b)=false:=decide_eq_false (fun q=>nomatch q)
def mixKind (prog:Program) (w:World):PySem.KeyKind prog w Key where
  is:=keyIs
  hash:=keyH w
  inj:=fun v a b ha hb=>by
    rcases keyIs_shape ha with ⟨i,t,rfl,rfl⟩ | ⟨x,t,rfl,rfl⟩
    · rcases keyIs_shape hb with ⟨j,u,rfl,e⟩ | ⟨y,u,rfl,e⟩
      · injection e with e1 _; rw [e1]
      · exact nomatch e
    · rcases keyIs_shape hb with ⟨j,u,rfl,e⟩ | ⟨y,u,rfl,e⟩
      · exact nomatch e
      · injection e with e1 _; rw [e1]
  byValue:=fun k v h=>by
    rcases keyIs_shape h with ⟨i,t,rfl,rfl⟩ | ⟨x,t,rfl,rfl⟩ <;> rfl
  pyHash:=fun hv h=>by
    rcases keyIs_shape hv with ⟨i,t,rfl,rfl⟩ | ⟨x,t,rfl,rfl⟩
    · exact wpAny_pyHash_int h
    · exact wpAny_pyHash_str h
  eqBool:=fun hu hv h=>by
    rcases keyIs_shape hu with ⟨i,t,rfl,rfl⟩ | ⟨x,t,rfl,rfl⟩
    · rcases keyIs_shape hv with ⟨j,u,rfl,rfl⟩ | ⟨y,u,rfl,rfl⟩
      · rw [key_ll] at h; exact wpAny_eqBool_int h
      · rw [key_lr] at h; exact SeqAt.EqAt.int_str i t y u _ _ _ _ h
    · rcases keyIs_shape hv with ⟨j,u,rfl,rfl⟩ | ⟨y,u,rfl,rfl⟩
      · rw [key_rl] at h; exact SeqAt.EqAt.str_int x t j u _ _ _ _ h
      · rw [key_rr] at h; exact wpAny_eqBool_str h
  «strs»:=fun k x t v h=>by
    rcases keyIs_shape h with ⟨i,u,rfl,e⟩ | ⟨y,u,rfl,e⟩
    · exact nomatch e
    · injection e with e1 _
      subst e1
      cases v <;> rfl
inductive V where
  | non | bl (b:Bool) | int (i:Int) | str (x:Str) | byt (b:Array UInt8) | flt (b:UInt64) | ref (a:Addr) | ty (n:String)
  deriving DecidableEq
def RelV:V->Value->Prop
  | .non,u=>u=Value.none
  | .bl b,u=>u=Value.bool b
  | .int i,u=>∃ t,u=Value.int i t
  | .str x,u=>∃ t,u=Value.str x t
  | .byt b,u=>∃ t,u=Value.bytes b t
  | .flt b,u=>∃ t,u=Value.float b t
  | .ref a,u=>u=Value.ref a
  | .ty n,u=>u=Value.type n
abbrev Vals:List V->List Value->Prop:=Paired RelV
theorem Vals.length {xs:List V} {us:List Value} (r:Vals xs us):xs.length=us.length:=Paired.length r
theorem Vals.get:∀ {xs:List V} {us:List Value} {i:Nat} {x:V},Vals xs us->xs[i]?=some x->∃ u,us[i]?=some u/\RelV x u
  | _,_,_,_,.nil,e=>by simp at e
  | _,_,0,_,.cons r _,e=>by simp at e; subst e; exact⟨_,rfl,r⟩
  | _,_,i+1,x,.cons _ t,e=>by
    obtain⟨u,h1,h2⟩:=Vals.get (i:=i) (x:=x) t (by simpa using e)
    exact⟨u,by simpa using h1,h2⟩
theorem Vals.set {x:V} {u:Value} (r:RelV x u):∀ {xs:List V} {us:List Value} (i:Nat),Vals xs us->Vals (xs.set i x) (us.set i u)
  | _,_,_,.nil=>.nil
  | _,_,0,.cons _ t=>.cons r t
  | _,_,i+1,.cons q t=>.cons q (Vals.set r i t)
theorem Vals.append:∀ {xs ys:List V} {us ws:List Value},Vals xs us->Vals ys ws->Vals (xs++ys) (us++ws)
  | _,_,_,_,.nil,s=>s
  | _,_,_,_,.cons r t,s=>.cons r (Vals.append t s)
def RelO:Option V->Option Value->Prop
  | some v,some u=>RelV v u
  | none,none=>True
  | _,_=>False
def KV {κ:Type}:List (κ×V)->List (κ×Value)->Prop:=Paired fun(p:κ×V) (q:κ×Value)=>p.1=q.1/\RelV p.2 q.2
def kV:Key->V
  | .inl i=>.int i
  | .inr x=>.str x
inductive HO where
  | lst (xs:List V)
  | tup (xs:List V)
  | dK (kvs:List (Key×V)) | dT (kvs:List (List Key×V))
  | set (S:Int->Bool) (n:Nat)
  | ins (C dx:Addr) (fs:List (Str×V))
  | own (x:Addr)
  | xd (fs:List (Str×V))
  | met (f x:Addr)
  | rng (lo hi:Int)
  | frz (o:Obj) (u:HO)
  | tbl (ps:Array Value)
  | ext (φ:Heap->Prop)
abbrev Hp:=Addr->Option HO
def upd (H:Hp) (a:Addr) (o:HO):Hp:=fun b=>if b=a then some o else H b
theorem upd_same {H:Hp} {a:Addr} {o:HO}:upd H a o a=some o:=by unfold upd; rw [if_pos rfl]
theorem upd_ne {H:Hp} {a b:Addr} {o:HO} (h:b≠a):upd H a o b=H b:=by unfold upd; rw [if_neg h]
theorem ne_of_none {H:Hp} {a b:Addr} {o:HO} (h:H a=some o) (h':H b=none):a≠b:=by
  intro e; subst e; rw [h] at h'; cases h'
section
variable (P:Program) (w:World)
def ObjOk (H:Hp) (h:Heap) (a:Addr):HO->Prop
  | .lst xs=>xs.length<=sizeLine/\∃ (its:List Value) (n:Nat),Vals xs its/\h.get? a=some {cls:=.type "list",data:=.seq its.toArray n}
  | .tup xs=>xs.length<=sizeLine/\∃ its:List Value,Vals xs its/\IsTup h a its.toArray
  | .dK kvs=>kvs.length<=sizeLine/\(a == sysModules)=false/\∃ vs,KV kvs vs/\h.DictOf (mixKind P w) a vs
  | .dT kvs=>kvs.length<=sizeLine/\(a == sysModules)=false/\∃ xs:List (List Key×Addr×Value),
      Paired (fun (p:List Key×V) (q:List Key×Addr×Value)=>p.1=q.1/\H q.2.1=some (.tup (p.1.map kV))/\RelV p.2 q.2.2) kvs xs/\
      ∃ o es ep,h.get? a=some o/\o.ExactDict/\o.data=.dict es ep/\es.toList=xs.map (entryOfKey (tupleKind (mixKind P w)))/\(xs.map (·.1)).Nodup
  | .set S n=>h.SetOf (intKind P w) a S n
  | .ins C dx fs=>H dx=some (.own a)/\fs.length<=1000/\dx≠a/\h.get? a=some (PySem.W.instObj C dx)/\
      ∃ mA,h.Ns1 dx mA/\(∀ f,RelO (fs.lookup f) (mA f))/\PySem.Within mA (fs.map (·.1))
  | .own _=>∃ o,h.get? a=some o
  | .xd fs=>∃ mA,h.Ns1 a mA/\∀ f,RelO (fs.lookup f) (mA f)
  | .rng lo hi=>∃ t u v,h.get? a=some {cls:=.type "range",data:=.fields #[.int lo t,.int hi u,.int 1 v]}
  | .frz o u=>h.get? a=some o/\ObjOk H h a u
  | .tbl ps=>h.get? a=some {cls:=.none,data:=.fields ps}
  | .met f x=>h.get? a=some (PySem.W.methodObj (.ref f) (.ref x))
  | .ext φ=>φ h/\(∃ o,h.get? a=some o)/\∀ h1 h2:Heap,φ h1->(∀ o,h1.get? a=some o->h2.get? a=some o)->φ h2
def HOk (H:Hp) (h:Heap):Prop:=∀ a o,H a=some o->ObjOk P w H h a o
end
section
variable {P:Program} {w:World} {H H':Hp} {h h':Heap} {a:Addr} {o:HO}
theorem ObjOk.lt (x:ObjOk P w H h a o):a < h.objs.size:=by
  cases o with
  | lst xs=>obtain⟨_,_,_,_,e⟩:=x; exact Heap.lt_size e
  | tup xs=>obtain⟨_,_,_,p⟩:=x; exact p.lt
  | dK kvs=>obtain⟨_,_,_,_,o,_,_,e,_⟩:=x; exact Heap.lt_size e
  | dT kvs=>obtain⟨_,_,_,_,o,_,_,e,_⟩:=x; exact Heap.lt_size e
  | set S n=>obtain⟨o,_,_,_,e,_⟩:=x; exact Heap.lt_size e
  | ins C dx fs=>obtain⟨_,_,_,e,_⟩:=x; exact Heap.lt_size e
  | own y=>obtain⟨_,e⟩:=x; exact Heap.lt_size e
  | xd fs=>obtain⟨_,⟨_,_,_,e,_⟩,_⟩:=x; exact Heap.lt_size e
  | rng lo hi=>obtain⟨_,_,_,e⟩:=x; exact Heap.lt_size e
  | frz ob u=>obtain⟨e,_⟩:=x; exact Heap.lt_size e
  | tbl ps=>exact Heap.lt_size (show h.get? a=some _ from x)
  | met f y=>exact Heap.lt_size (show h.get? a=some _ from x)
  | ext φ=>obtain⟨_,⟨_,e⟩,_⟩:=x; exact Heap.lt_size e
theorem Paired.mapP {α β:Type} {F G:α->β->Prop}:∀ {l₁:List α} {l₂:List β},Paired F l₁ l₂->(∀ a b,F a b->G a b)->Paired G l₁ l₂
  | _,_,.nil,_=>.nil
  | _,_,.cons r t,f=>.cons (f _ _ r) (Paired.mapP t f)
theorem ObjOk.stay (x:ObjOk P w H h a o) (k:∀ b u,(b=a\/H b=some (.own a))->h.get? b=some u->h'.get? b=some u)
    (ho:∀ b,H b=some (.own a)->H' b=some (.own a)) (ht:∀ b xs,H b=some (.tup xs)->H' b=some (.tup xs)):ObjOk P w H' h' a o:=by
  induction o with
  | lst xs=>obtain⟨z,its,n,r,e⟩:=x; exact⟨z,its,n,r,k _ _ (.inl rfl) e⟩
  | tup xs=>obtain⟨z,its,r,ob,e,c⟩:=x; exact⟨z,its,r,ob,k _ _ (.inl rfl) e,c⟩
  | dK kvs=>obtain⟨z,y,vs,r,ob,es,ep,e,c⟩:=x; exact⟨z,y,vs,r,ob,es,ep,k _ _ (.inl rfl) e,c⟩
  | dT kvs=>
    obtain⟨z,y,xs,r,ob,es,ep,e,c⟩:=x
    exact⟨z,y,xs,Paired.mapP r fun p q z=>⟨z.1,ht _ _ z.2.1,z.2.2⟩,ob,es,ep,k _ _ (.inl rfl) e,c⟩
  | set S n=>obtain⟨ob,es,ep,t,e,c⟩:=x; exact⟨ob,es,ep,t,k _ _ (.inl rfl) e,c⟩
  | ins C dx fs=>
    obtain⟨d,z,ne,e,mA,⟨od,es,ep,e2,c⟩,r⟩:=x
    exact⟨ho _ d,z,ne,k _ _ (.inl rfl) e,mA,⟨od,es,ep,k _ _ (.inr d) e2,c⟩,r⟩
  | own y=>obtain⟨ob,e⟩:=x; exact⟨ob,k _ _ (.inl rfl) e⟩
  | xd fs=>obtain⟨mA,⟨od,es,ep,e,c⟩,r⟩:=x; exact⟨mA,⟨od,es,ep,k _ _ (.inl rfl) e,c⟩,r⟩
  | rng lo hi=>obtain⟨t,u,v,e⟩:=x; exact⟨t,u,v,k _ _ (.inl rfl) e⟩
  | frz ob u ih=>obtain⟨e,q⟩:=x; exact⟨k _ _ (.inl rfl) e,ih q⟩
  | tbl ps=>
    have e:h.get? a=some {cls:=.none,data:=.fields ps}:=x
    show h'.get? a=some {cls:=.none,data:=.fields ps}
    exact k a _ (.inl rfl) e
  | met f y=>
    have e:h.get? a=some (PySem.W.methodObj (.ref f) (.ref y)):=x
    show h'.get? a=some (PySem.W.methodObj (.ref f) (.ref y))
    exact k a _ (.inl rfl) e
  | ext φ=>obtain⟨p,⟨o,e⟩,st⟩:=x; exact⟨st _ _ p fun o q=>k _ _ (.inl rfl) q,⟨o,k _ _ (.inl rfl) e⟩,st⟩
theorem HOk.lt (x:HOk P w H h) (e:H a=some o):a < h.objs.size:=(x a o e).lt
theorem HOk.fresh (x:HOk P w H h) (e:h.objs.size<=a):H a=none:=by
  cases q:H a with
  | none=>rfl
  | some u=>exact absurd (Nat.lt_of_lt_of_le (x.lt q) e) (Nat.lt_irrefl _)
theorem HOk.kept (x:HOk P w H h) (k:∀ b u,h.get? b=some u->h'.get? b=some u):HOk P w H h':=fun a o e=>
  (x a o e).stay (fun b u _ q=>k b u q) (fun _ q=>q) fun _ _ q=>q
theorem HOk.laid (x:HOk P w H h) (k:∀ b u,h.get? b=some u->h'.get? b=some u) (hp:h.objs.size<=a) (new:ObjOk P w (upd H a o) h' a o):HOk P w (upd H a o) h':=fun b u e=>by
  have hn:=x.fresh hp
  by_cases hb:b=a
  · subst hb; rw [upd_same] at e; cases e; exact new
  · rw [upd_ne hb] at e
    exact(x b u e).stay (fun c v _ q=>k c v q) (fun c q=>by rw [upd_ne (ne_of_none q hn)]; exact q) fun c xs q=>by rw [upd_ne (ne_of_none q hn)]; exact q
end
def Rd (H:Hp) (a:Addr) (u:HO):Prop:=H a=some u\/∃ o,H a=some (.frz o u)
theorem Rd.ok {P:Program} {w:World} {H:Hp} {h:Heap} {a:Addr} {u:HO} (r:Rd H a u) (x:HOk P w H h):ObjOk P w H h a u:=by
  rcases r with r | ⟨o,r⟩
  · exact x a u r
  · obtain⟨_,q⟩:=x a _ r
    exact q
def Mut:Option HO->Prop
  | some (.lst _)=>True
  | some (.dK _)=>True
  | some (.dT _)=>True
  | some (.set _ _)=>True
  | some (.ins _ _ _)=>True
  | some (.ext _)=>True
  | _=>False
section
variable {P:Program} {w:World} {H:Hp} {h h':Heap} {x e:Addr} {o':HO}
theorem HOk.write (ok:HOk P w H h) (mu:Mut (H x)) (he:e=x\/H e=some (.own x)) (k:∀ b u,b≠e->h.get? b=some u->h'.get? b=some u) (heo:∃ u,h'.get? e=some u)
    (new:ObjOk P w (upd H x o') h' x o'):HOk P w (upd H x o') h':=fun b u q=>by
  have nown:∀ c y,H c=some (.own y)->c≠x:=fun c y r z=>by subst z; rw [r] at mu; exact mu
  have ntup:∀ c xs,H c=some (.tup xs)->c≠x:=fun c xs r z=>by subst z; rw [r] at mu; exact mu
  by_cases hb:b=x
  · subst hb; rw [upd_same] at q; cases q; exact new
  · rw [upd_ne hb] at q
    by_cases hbe:b=e
    · have q':H b=some (.own x):=by
        rcases he with z | z
        · exact absurd (hbe.trans z) hb
        · rw [hbe]; exact z
      rw [q] at q'; cases q'
      obtain⟨v,hv⟩:=heo
      exact⟨v,by rw [hbe]; exact hv⟩
    · refine(ok b u q).stay (fun c v hc r=>k c v ?_ r) (fun c r=>by rw [upd_ne (nown c b r)]; exact r) fun c xs r=>by rw [upd_ne (ntup c xs r)]; exact r
      rcases hc with rfl | hc
      · exact hbe
      · rintro rfl
        rcases he with z | z
        · exact nown c b hc z
        · rw [hc] at z; cases z; exact hb rfl
end
structure Un (fs ex:List Addr) (H H':Hp) (h h':Heap):Prop where
  keep:∀ b o,h.get? b=some o->H b=none->b∉fs->b∉ex->h'.get? b=some o
  slot:∀ b o,h.get? b=some o->H b=none->b∈fs->b∉ex->∃ sl,h'.get? b=some {o with slots:=sl}
  free:∀ b o,h.get? b=some o->H b=none->b∉ex->H' b=none
  there:∀ b o,h.get? b=some o->b∉ex->∃ o',h'.get? b=some o'
  tups:∀ b xs,H b=some (.tup xs)->H' b=some (.tup xs)
  frzs:∀ b o u,H b=some (.frz o u)->H' b=some (.frz o u)
  tbls:∀ b ps,H b=some (.tbl ps)->∃ more,H' b=some (.tbl (ps++more))
section
variable {fs fs' ex ex':List Addr} {H H1 H2:Hp} {h h1 h2 h':Heap} {a x e:Addr} {o:HO}
theorem Un.any (u:Un fs ex H H1 h h1) {b:Addr} {ob:Obj} (q:h.get? b=some ob) (n:H b=none) (hx:b∉ex):∃ sl,h1.get? b=some {ob with slots:=sl}:=by
  by_cases hb:b∈fs
  · exact u.slot b ob q n hb hx
  · exact⟨ob.slots,u.keep b ob q n hb hx⟩
theorem Un.trans (a:Un fs ex H H1 h h1) (b:Un fs ex H1 H2 h1 h2):Un fs ex H H2 h h2 where
  keep:=fun c ob q n hc hx=>b.keep c ob (a.keep c ob q n hc hx) (a.free c ob q n hx) hc hx
  slot:=fun c ob q n hc hx=>by
    obtain⟨sl,e1⟩:=a.slot c ob q n hc hx
    obtain⟨sl',e2⟩:=b.slot c _ e1 (a.free c ob q n hx) hc hx
    exact⟨sl',e2⟩
  free:=fun c ob q n hx=>by
    obtain⟨o',e1⟩:=a.there c ob q hx
    exact b.free c o' e1 (a.free c ob q n hx) hx
  there:=fun c ob q hx=>by
    obtain⟨o',e1⟩:=a.there c ob q hx
    exact b.there c o' e1 hx
  tups:=fun c xs q=>b.tups c xs (a.tups c xs q)
  frzs:=fun c ob xs q=>b.frzs c ob xs (a.frzs c ob xs q)
  tbls:=fun c ps q=>by
    obtain⟨m1,e1⟩:=a.tbls c ps q
    obtain⟨m2,e2⟩:=b.tbls c _ e1
    exact⟨m1++m2,by rw [e2,Array.append_assoc]⟩
theorem Un.kept (k:∀ b u,h.get? b=some u->h'.get? b=some u):Un fs ex H H h h':=
  ⟨fun b ob q _ _ _=>k b ob q,fun b ob q _ _ _=>⟨ob.slots,k b ob q⟩,fun _ _ _ n _=>n,fun b ob q _=>⟨ob,k b ob q⟩,fun _ _ q=>q,fun _ _ _ q=>q,fun _ ps q=>⟨#[],by rw [q]; simp⟩⟩
theorem Un.refl:Un fs ex H H h h:=Un.kept fun _ _ q=>q
theorem Un.laid (k:∀ b u,h.get? b=some u->h'.get? b=some u) (hp:h.objs.size<=a) (hn:H a=none):Un fs ex H (upd H a o) h h' where
  keep:=fun b u q _ _ _=>k b u q
  slot:=fun b u q _ _ _=>⟨u.slots,k b u q⟩
  free:=fun b u q n _=>by rw [upd_ne (Nat.ne_of_lt (Nat.lt_of_lt_of_le (Heap.lt_size q) hp))]; exact n
  there:=fun b u q _=>⟨u,k b u q⟩
  tups:=fun b xs q=>by rw [upd_ne (ne_of_none q hn)]; exact q
  frzs:=fun b u xs q=>by rw [upd_ne (ne_of_none q hn)]; exact q
  tbls:=fun b ps q=>⟨#[],by rw [upd_ne (ne_of_none q hn),q]; simp⟩
theorem Un.write (mu:Mut (H x)) (he:e=x\/H e=some (.own x)) (k:∀ b u,b≠e->h.get? b=some u->h'.get? b=some u) (heo:∃ u,h'.get? e=some u):Un fs ex H (upd H x o) h h':=by
  have hx:∀ b,H b=none->b≠x:=fun b n z=>by subst z; rw [n] at mu; exact mu
  have hb:∀ b,H b=none->b≠e:=fun b n z=>by
    subst z
    rcases he with r | r
    · exact hx b n r
    · rw [n] at r; cases r
  have hm:∀ b u,H b=some u->¬ Mut (some u)->b≠x:=fun b u q nm z=>by subst z; rw [q] at mu; exact nm mu
  refine⟨fun b u q n _ _=>k b u (hb b n) q,fun b u q n _ _=>⟨u.slots,k b u (hb b n) q⟩,fun b u q n _=>by rw [upd_ne (hx b n)]; exact n,fun b u q _=>?_,
    fun b xs q=>by rw [upd_ne (hm b _ q fun z=>z)]; exact q,fun b u xs q=>by rw [upd_ne (hm b _ q fun z=>z)]; exact q,fun b ps q=>⟨#[],by rw [upd_ne (hm b _ q fun z=>z),q]; simp⟩⟩
  by_cases hbe:b=e
  · subst hbe; exact heo
  · exact⟨u,k b u hbe q⟩
end
def trk (h:Heap) (H:Hp):List Addr:=(List.range h.objs.size).filter fun a=>(H a).isSome
def hidT (h:Heap) (H:Hp):Heap:=PySem.W.hideAll h (trk h H)
theorem hidT_size (h:Heap) (H:Hp):(hidT h H).objs.size=h.objs.size:=PySem.W.hideAll_size _ _
theorem hidT_get {h:Heap} {H:Hp} {b:Addr} {o:Obj} (e:h.get? b=some o) (n:H b=none):(hidT h H).get? b=some o:=
  PySem.W.hideAll_get _ e fun hm=>by
    have q:(H b).isSome=true:=(List.mem_filter.mp hm).2
    rw [n] at q; simp at q
theorem of_hidT {h:Heap} {H:Hp} {b:Addr} {o:Obj} (e:(hidT h H).get? b=some o):h.get? b=some o/\H b=none:=by
  have e':h.get? b=some o:=PySem.W.of_hideAll (trk h H) e
  refine⟨e',?_⟩
  cases q:H b with
  | none=>rfl
  | some x=>
    have hm:b∈trk h H:=List.mem_filter.mpr ⟨List.mem_range.mpr (Heap.lt_size e'),by simp [q]⟩
    have z:(hidT h H).get? b=none:=PySem.W.hideAll_none (trk h H) hm
    rw [z] at e; cases e
def allNews (g h:Heap) (L:Addr):List (Addr×Obj):=(List.range h.objs.size).filterMap fun a=>if a=L\/(g.get? a).isSome=true then none else(h.get? a).map fun o=>(a,o)
def rest (g h:Heap) (L d:Addr):List (Addr×Obj):=(allNews g h L).filter fun p=>decide (p.1≠d)
structure Mod (K:PySem.W.Frag) (mg:Str->Option Value) (base:Heap):Prop where
  kin:K.In base
  glob:base.Ns mainGlobals mg
  blt:∃ mb,base.Ns builtinsNs mb/\∀ x:Str,x≠"__name__"->mb x=bootBuiltins x
  nolimit:base.NoLimit
structure Cx where
  prog:Program
  w:World
  K:PySem.W.Frag
  mg:Str->Option Value
  base:Heap
  A:Around
  N:List Str
  s₀:Shared
  H₀:Hp
  env:Env
  outer:List Env
  stack:List Env
  ex:List Addr
  fn:Str->Bool
  calm:Bool
  pn:List (Addr×Obj)
  xe:Value->Shared->Prop
def frs (l:List Env):List Addr:=l.filterMap (·.frame)
abbrev Cx.fs (X:Cx):List Addr:=frs X.outer
def Vis (sc:Scope) (x:Str):Prop:=sc.names.lookup x=some .local\/sc.names.lookup x=some .cell\/sc.names.lookup x=some .free
def Loc (sc:Scope) (x:Str):Prop:=sc.names.lookup x=some .local\/sc.names.lookup x=some .cell
def Look (env:Env) (h:Heap) (m:Str->Option Value) (x:Str) (u:Value):Prop:=
  (env.kindOf x=some .local/\m x=some u)\/((env.kindOf x=some .cell\/env.kindOf x=some .free)/\∃ c,env.cells.lookup x=some c/\h.IsCell c (some u))
structure Cx.Ok (X:Cx):Prop where
  mod:Mod X.K X.mg X.base
  kind:X.env.scope.kind=.function
  glob:X.env.globals=mainGlobals
  blt:X.env.builtins=builtinsNs
  above:X.s₀.heap.objs.size<=X.env.locals
  inj:∀ x y c,X.env.cells.lookup x=some c->X.env.cells.lookup y=some c->x=y
  has:∀ x,(X.env.kindOf x=some .cell\/X.env.kindOf x=some .free)->∃ c,X.env.cells.lookup x=some c
  cab:∀ x c,X.fn x=true->X.env.cells.lookup x=some c->X.s₀.heap.objs.size<=c
  hd:X.calm=true->X.A.handled=none
  frames:X.A.frames=some X.stack
  stk:X.stack=X.outer\/(X.stack=X.env::X.outer/\X.env.frame=some X.env.locals)
  exf:∀ b∈X.ex,b≠X.env.locals/\∀ x c,X.env.cells.lookup x=some c->c≠b
  bs:∀ b o,X.base.get? b=some o->X.s₀.heap.get? b=some o/\X.H₀ b=none
  bsz:X.base.objs.size<=X.s₀.heap.objs.size
  noex:∀ b o,X.base.get? b=some o->b∉X.ex
  exfs:∀ b∈X.ex,b∉X.fs
  funs:X.s₀.heap.FunFrames X.base X.outer
  frf:∀ b∈X.fs,X.H₀ b=none
structure Inv (X:Cx) (pins:List (Addr×Obj)) (σ:List (Option V)) (H:Hp) (s:Shared):Prop where
  ok:X.Ok
  os:s.os=X.s₀.os
  bare:AllBare s.gens
  base:Un X.fs X.ex X.H₀ H X.s₀.heap s.heap
  loc:∃ m,s.heap.Ns X.env.locals m/\∀ (i:Nat) (x:Str) (v:V),X.N[i]?=some x->σ[i]?=some (some v)->Vis X.env.scope x->∃ u,RelV v u/\Look X.env s.heap m x u
  cell:∀ x c,X.env.cells.lookup x=some c->∃ v,s.heap.IsCell c v
  free:H X.env.locals=none
  freeC:∀ x c,X.env.cells.lookup x=some c->H c=none
  pin:∀ p∈X.pn++pins,s.heap.get? p.1=some p.2/\H p.1=none/\p.1≠X.env.locals/\p.1∉X.fs/\∀ v,p.2.data≠.cell v
  hok:HOk X.prog X.w H s.heap
  len:σ.length=X.N.length
section
variable {X:Cx} {pins:List (Addr×Obj)} {σ:List (Option V)} {H H':Hp} {s:Shared} {h':Heap}
theorem Cx.Ok.nofr (ok:X.Ok) {b:Addr} {o:Obj} (e:X.base.get? b=some o):b∉X.fs:=fun hb=>by
  have:=(ok.funs.mem hb).1
  rw [e] at this; cases this
theorem Inv.bs (I:Inv X pins σ H s):∀ b o,X.base.get? b=some o->s.heap.get? b=some o/\H b=none:=fun b o e=>
  ⟨I.base.keep b o (I.ok.bs b o e).1 (I.ok.bs b o e).2 (I.ok.nofr e) (I.ok.noex b o e),I.base.free b o (I.ok.bs b o e).1 (I.ok.bs b o e).2 (I.ok.noex b o e)⟩
theorem Inv.bk (I:Inv X pins σ H s):∀ b o,X.base.get? b=some o->s.heap.get? b=some o:=fun b o e=>(I.bs b o e).1
theorem Inv.mod (I:Inv X pins σ H s):Mod X.K X.mg X.base:=I.ok.mod
theorem Inv.kIn (I:Inv X pins σ H s):X.K.In s.heap:=I.ok.mod.kin.keeps I.bk
theorem Inv.lt (I:Inv X pins σ H s):X.env.locals < s.heap.objs.size:=let ⟨_,hn,_⟩:=I.loc; hn.lt
theorem Inv.sz (I:Inv X pins σ H s):X.s₀.heap.objs.size<=s.heap.objs.size:=Nat.le_trans I.ok.above (Nat.le_of_lt I.lt)
theorem Inv.nofs (I:Inv X pins σ H s) {a:Addr} (h:s.heap.objs.size<=a):a∉X.fs:=fun hb=>by
  obtain⟨_,o,ho,_⟩:=I.ok.funs.mem hb
  exact absurd (Nat.lt_of_lt_of_le (Heap.lt_size ho) (Nat.le_trans I.sz h)) (Nat.lt_irrefl _)
theorem Inv.cne (I:Inv X pins σ H s):∀ x c,X.env.cells.lookup x=some c->c≠X.env.locals:=fun x c e z=>by
  obtain⟨v,o,ho,hd⟩:=I.cell x c e
  obtain⟨m,⟨o',es,ep,ho',hd',_⟩,_⟩:=I.loc
  rw [z,ho'] at ho; cases ho; rw [hd'] at hd; cases hd
theorem Inv.funs (I:Inv X pins σ H s):s.heap.FunFrames X.base X.outer:=by
  have all:∀ (l:List Env),(∀ b∈frs l,b∈X.fs)->X.s₀.heap.FunFrames X.base l->s.heap.FunFrames X.base l:=by
    intro l
    induction l with
    | nil=>intro _ _; trivial
    | cons env r ih=>
      intro hs hl
      obtain⟨hk,⟨L,o,hf,hn,ho,hd⟩,hr⟩:=hl
      have hL:L∈X.fs:=hs L (by unfold frs; rw [List.filterMap_cons,hf]; exact List.mem_cons_self)
      obtain⟨sl,e⟩:=I.base.slot L o ho (I.ok.frf L hL) hL fun z=>I.ok.exfs L z hL
      exact⟨hk,⟨L,_,hf,hn,e,hd⟩,ih (fun b hb=>hs b (by unfold frs; rw [List.filterMap_cons,hf]; exact List.mem_cons_of_mem _ hb)) hr⟩
  exact all X.outer (fun _ hb=>hb) I.ok.funs
theorem Inv.stack (I:Inv X pins σ H s):s.heap.FunFrames X.base X.stack:=by
  rcases I.ok.stk with e | ⟨e,hf⟩
  · rw [e]; exact I.funs
  · rw [e]
    obtain⟨m,hn,_⟩:=I.loc
    refine .cons (by rw [I.ok.kind]; decide) hf hn ?_ I.funs
    exact Heap.get?_none_of_le (Nat.le_trans I.ok.bsz I.ok.above)
theorem Inv.stkSub (I:Inv X pins σ H s):∀ b∈frs X.stack,b∈X.env.locals::X.fs:=fun b hb=>by
  rcases I.ok.stk with e | ⟨e,hf⟩
  · rw [e] at hb; exact List.mem_cons_of_mem _ hb
  · rw [e] at hb
    unfold frs at hb
    rw [List.filterMap_cons,hf] at hb
    exact hb
theorem Inv.stkFree (I:Inv X pins σ H s):∀ b∈frs X.stack,H b=none:=fun b hb=>by
  rcases List.mem_cons.mp (I.stkSub b hb) with e | hb
  · rw [e]; exact I.free
  · obtain⟨_,o,ho,_⟩:=I.ok.funs.mem hb
    exact I.base.free b o ho (I.ok.frf b hb) fun z=>I.ok.exfs b z hb
theorem Inv.step {g':Array GenState} {t':Nat} {d':Drawn} {ch:List Addr} (I:Inv X pins σ H s)
    (hch:∀ b∈ch,(b∈X.ex\/X.s₀.heap.objs.size<=b)/\b≠X.env.locals/\(∀ x c,X.env.cells.lookup x=some c->c≠b)/\∀ p∈X.pn++pins,p.1≠b)
    (keep:∀ b o,b≠X.env.locals->b∉X.fs->b∉ch->s.heap.get? b=some o->H b=none->h'.get? b=some o)
    (slot:∀ b o,b≠X.env.locals->b∈X.fs->b∉ch->s.heap.get? b=some o->H b=none->∃ sl,h'.get? b=some {o with slots:=sl}) (free:∀ b o,b∉ch->s.heap.get? b=some o->H b=none->H' b=none)
    (there:∀ b o,b∉ch->s.heap.get? b=some o->∃ o',h'.get? b=some o')
    (tups:∀ b xs,H b=some (.tup xs)->H' b=some (.tup xs)) (frzs:∀ b o u,H b=some (.frz o u)->H' b=some (.frz o u)) (tbls:∀ b ps,H b=some (.tbl ps)->∃ more,H' b=some (.tbl (ps++more)))
    (ns:∀ m,s.heap.Ns X.env.locals m->h'.Ns X.env.locals m) (hok:HOk X.prog X.w H' h') (hg:AllBare g'):
    Inv X pins σ H' {s with heap:=h',gens:=g',drawn:=d',toks:=t'}:=by
  have neL:∀ b o,X.s₀.heap.get? b=some o->b≠X.env.locals:=fun b o e=>Nat.ne_of_lt (Nat.lt_of_lt_of_le (Heap.lt_size e) I.ok.above)
  have neC:∀ b o,X.s₀.heap.get? b=some o->b∉X.ex->b∉ch:=fun b o e hx hb=>by
    rcases(hch b hb).1 with z | z
    · exact hx z
    · exact absurd (Nat.lt_of_lt_of_le (Heap.lt_size e) z) (Nat.lt_irrefl _)
  have cellK:∀ x c,X.env.cells.lookup x=some c->∀ v,s.heap.IsCell c v->h'.IsCell c v:=fun x c e v ⟨o,ho,hd⟩=>by
    have nch:c∉ch:=fun z=>(hch c z).2.2.1 x c e rfl
    by_cases hc:c∈X.fs
    · obtain⟨sl,q⟩:=slot c o (I.cne x c e) hc nch ho (I.freeC x c e)
      exact⟨_,q,hd⟩
    · exact⟨o,keep c o (I.cne x c e) hc nch ho (I.freeC x c e),hd⟩
  refine⟨I.ok,I.os,hg,⟨fun b o e n hb hx=>?_,fun b o e n hb hx=>?_,fun b o e n hx=>?_,fun b o e hx=>?_,fun b xs e=>tups b xs (I.base.tups b xs e),fun b o xs e=>frzs b o xs (I.base.frzs b o xs e),fun b ps e=>?_⟩,?_,fun x c e=>?_,?_,fun x c e=>?_,fun p hp=>?_,hok,I.len⟩
  · exact keep b o (neL b o e) hb (neC b o e hx) (I.base.keep b o e n hb hx) (I.base.free b o e n hx)
  · obtain⟨sl,e1⟩:=I.base.slot b o e n hb hx
    obtain⟨sl',e2⟩:=slot b _ (neL b o e) hb (neC b o e hx) e1 (I.base.free b o e n hx)
    exact⟨sl',e2⟩
  · obtain⟨o',e1⟩:=I.base.there b o e hx
    exact free b o' (neC b o e hx) e1 (I.base.free b o e n hx)
  · obtain⟨o',e1⟩:=I.base.there b o e hx
    exact there b o' (neC b o e hx) e1
  · obtain⟨m1,e1⟩:=I.base.tbls b ps e
    obtain⟨m2,e2⟩:=tbls b _ e1
    exact⟨m1++m2,by rw [e2,Array.append_assoc]⟩
  · obtain⟨m,hn,hl⟩:=I.loc
    refine⟨m,ns m hn,fun i x v e1 e2 e3=>?_⟩
    obtain⟨u,r,l⟩:=hl i x v e1 e2 e3
    refine⟨u,r,?_⟩
    rcases l with l | ⟨k,c,e,z⟩
    · exact .inl l
    · exact .inr ⟨k,c,e,cellK x c e _ z⟩
  · obtain⟨v,z⟩:=I.cell x c e
    exact⟨v,cellK x c e v z⟩
  · obtain⟨m,⟨o,_,_,ho,_⟩,_⟩:=I.loc
    exact free _ o (fun z=>(hch _ z).2.1 rfl) ho I.free
  · obtain⟨v,o,ho,hd⟩:=I.cell x c e
    exact free c o (fun z=>(hch c z).2.2.1 x c e rfl) ho (I.freeC x c e)
  · obtain⟨e,n,ne,nf,d⟩:=I.pin p hp
    have nch:p.1∉ch:=fun z=>(hch p.1 z).2.2.2 p hp rfl
    exact⟨keep p.1 p.2 ne nf nch e n,free p.1 p.2 nch e n,ne,nf,d⟩
theorem Inv.un {t':Nat} (I:Inv X pins σ H s) (u:Un X.fs [] H H' s.heap h') (hok:HOk X.prog X.w H' h'):Inv X pins σ H' {s with heap:=h',toks:=t'}:=by
  obtain⟨m,⟨o,es,ep,ho,r⟩,_⟩:=id I.loc
  obtain⟨sl,hL⟩:=u.any ho I.free (by simp)
  exact I.step (g':=s.gens) (d':=s.drawn) (ch:=[]) (fun _ z=>nomatch z) (fun b o _ hb _ e n=>u.keep b o e n hb (by simp)) (fun b o _ hb _ e n=>u.slot b o e n hb (by simp)) (fun b o _ e n=>u.free b o e n (by simp)) (fun b o _ e=>u.there b o e (by simp)) u.tups u.frzs u.tbls (fun m' hm=>by
    obtain⟨o',es',ep',ho',r'⟩:=hm
    rw [ho] at ho'; cases ho'
    exact⟨_,es',ep',hL,r'⟩) hok I.bare
theorem Inv.call {g':Array GenState} {t':Nat} {d':Drawn} {ch:List Addr} (I:Inv X pins σ H s) (u:Un (frs X.stack) ch H H' s.heap h') (hok:HOk X.prog X.w H' h') (hg:AllBare g')
    (hch:∀ b∈ch,(b∈X.ex\/X.s₀.heap.objs.size<=b)/\b≠X.env.locals/\(∀ x c,X.env.cells.lookup x=some c->c≠b)/\∀ p∈X.pn++pins,p.1≠b):
    Inv X pins σ H' {s with heap:=h',gens:=g',drawn:=d',toks:=t'}:=by
  obtain⟨m,⟨o,es,ep,ho,r⟩,_⟩:=id I.loc
  obtain⟨sl,hL⟩:=u.any ho I.free fun z=>(hch _ z).2.1 rfl
  exact I.step (ch:=ch) hch (fun b o hL hb hc e n=>u.keep b o e n (fun z=>(List.mem_cons.mp (I.stkSub b z)).elim hL hb) hc) (fun b o _ _ hc e n=>u.any e n hc) (fun b o hc e n=>u.free b o e n hc) (fun b o hc e=>u.there b o e hc) u.tups u.frzs u.tbls (fun m' hm=>by
    obtain⟨o',es',ep',ho',r'⟩:=hm
    rw [ho] at ho'; cases ho'
    exact⟨_,es',ep',hL,r'⟩) hok hg
theorem Inv.turned {t':Nat} {it:Addr} (I:Inv X pins σ H s) (k:∀ b o,b≠it->s.heap.get? b=some o->h'.get? b=some o) (hn:H it=none) (hL:it≠X.env.locals)
    (h1:it∈X.ex\/X.s₀.heap.objs.size<=it) (h2:∀ x c,X.env.cells.lookup x=some c->c≠it) (h3:∀ p∈X.pn++pins,p.1≠it):Inv X pins σ H {s with heap:=h',toks:=t'}:=by
  have nit:∀ b u,H b=some u->b≠it:=fun b u e z=>by rw [z,hn] at e; cases e
  refine I.step (g':=s.gens) (d':=s.drawn) (ch:=[it]) (fun b hb=>?_) (fun b o _ _ hc e _=>k b o (fun z=>hc (by simp [z])) e) (fun b o _ _ hc e _=>⟨o.slots,k b o (fun z=>hc (by simp [z])) e⟩) (fun _ _ _ _ n=>n)
    (fun b o hc e=>⟨o,k b o (fun z=>hc (by simp [z])) e⟩) (fun _ _ e=>e) (fun _ _ _ e=>e) (fun b ps e=>⟨#[],by rw [e]; simp⟩) (fun m hm=>?_) (fun b u e=>?_) I.bare
  · have e:b=it:=by simpa using hb
    subst e
    exact⟨h1,hL,h2,h3⟩
  · obtain⟨o,es,ep,ho,r⟩:=hm
    exact⟨o,es,ep,k _ o (Ne.symm hL) ho,r⟩
  · refine(I.hok b u e).stay (fun c v hc q=>k c v ?_ q) (fun _ q=>q) fun _ _ q=>q
    rcases hc with z | z
    · rw [z]; exact nit b u e
    · exact nit c _ z
theorem Inv.tok (I:Inv X pins σ H s) (t:Nat):Inv X pins σ H {s with toks:=t}:=I.un (h':=s.heap) (t':=t) Un.refl I.hok
theorem Inv.kept {t':Nat} (I:Inv X pins σ H s) (k:∀ b u,s.heap.get? b=some u->h'.get? b=some u):Inv X pins σ H {s with heap:=h',toks:=t'}:=I.un (Un.kept k) (I.hok.kept k)
theorem Inv.laid {a:Addr} {o:HO} {t':Nat} (I:Inv X pins σ H s) (k:∀ b u,s.heap.get? b=some u->h'.get? b=some u) (hp:s.heap.objs.size<=a) (new:ObjOk X.prog X.w (upd H a o) h' a o):
    Inv X pins σ (upd H a o) {s with heap:=h',toks:=t'}:=I.un (Un.laid k hp (I.hok.fresh hp)) (I.hok.laid k hp new)
theorem Inv.write {x e:Addr} {o:HO} {t':Nat} (I:Inv X pins σ H s) (mu:Mut (H x)) (he:e=x\/H e=some (.own x)) (k:∀ b u,b≠e->s.heap.get? b=some u->h'.get? b=some u) (heo:∃ u,h'.get? e=some u)
    (new:ObjOk X.prog X.w (upd H x o) h' x o):Inv X pins σ (upd H x o) {s with heap:=h',toks:=t'}:=I.un (Un.write mu he k heo) (I.hok.write mu he k heo new)
theorem Inv.pins_of {pins':List (Addr×Obj)} (I:Inv X pins σ H s) (h:∀ p∈pins',s.heap.get? p.1=some p.2/\H p.1=none/\p.1≠X.env.locals/\p.1∉X.fs/\∀ v,p.2.data≠.cell v):Inv X pins' σ H s:=
  ⟨I.ok,I.os,I.bare,I.base,I.loc,I.cell,I.free,I.freeC,fun p hp=>(List.mem_append.mp hp).elim (fun z=>I.pin p (List.mem_append_left _ z)) (h p),I.hok,I.len⟩
theorem nodup_ix {N:List Str} (hN:N.Nodup) {i j:Nat} {x:Str} (a:N[i]?=some x) (b:N[j]?=some x):i=j:=by
  obtain⟨h1,e1⟩:=List.getElem?_eq_some_iff.mp a
  obtain⟨h2,e2⟩:=List.getElem?_eq_some_iff.mp b
  exact(List.getElem_inj hN).mp (e1.trans e2.symm)
theorem store_ok2 {M:Model} {A:Around} {E:Value->Shared->Prop} {i:Nat} {x:Str} {v:V} {u:Value} {Q:Unit->Shared->Prop} (I:Inv X pins σ H s) (hN:X.N.Nodup) (hi:X.N[i]?=some x) (hx:Loc X.env.scope x) (r:RelV v u)
    (h:∀ s',Inv X pins (σ.set i (some v)) H s'->(∃ a,Heap.SameBut a s.heap s'.heap/\(a=X.env.locals\/X.env.cells.lookup x=some a))->Q () s') (hf:X.fn x=true\/X.env.scope.names.lookup x=some .local:=by first | exact .inl rfl | exact .inr rfl | assumption):wpAny M A (storeName X.env x u) Q E s:=by
  obtain⟨m,hn,hl⟩:=id I.loc
  have hcls:(X.env.scope.kind == .class || (X.env.scope.kind == .module && X.env.locals != X.env.globals))=false:=by rw [I.ok.kind]; rfl
  have hiσ:i < σ.length:=by rw [I.len]; exact(List.getElem?_eq_some_iff.mp hi).1
  have cne:=I.cne
  have tracked:∀ {a:Addr} {h':Heap},(∃ o,s.heap.get? a=some o/\H a=none)->Heap.SameBut a s.heap h'->HOk X.prog X.w H h':=fun {a h'} ha hs b ob e=>by
    obtain⟨_,_,hfree⟩:=ha
    refine(I.hok b ob e).stay (fun c w' hc q=>(hs.2 c ?_).trans q) (fun _ q=>q) fun _ _ q=>q
    rintro rfl
    rcases hc with rfl | hc
    · rw [hfree] at e; cases e
    · rw [hfree] at hc; cases hc
  rcases hx with hk | hk
  · refine wpAny_storeName_local hk hn (fun h' hn' hs=>?_) hcls
    obtain⟨oL,_,_,hoL,_⟩:=id hn
    refine h _ ⟨I.ok,I.os,I.bare,⟨fun b o e n hb hx=>?_,fun b o e n hb hx=>?_,I.base.free,fun b o e hx=>?_,I.base.tups,I.base.frzs,I.base.tbls⟩,⟨_,hn',fun j y v' e1 e2 e3=>?_⟩,fun y c e=>?_,I.free,I.freeC,fun p hp=>?_,tracked ⟨oL,hoL,I.free⟩ hs,by simpa using I.len⟩ ⟨_,hs,.inl rfl⟩
    · exact(hs.2 b (Nat.ne_of_lt (Nat.lt_of_lt_of_le (Heap.lt_size e) I.ok.above))).trans (I.base.keep b o e n hb hx)
    · obtain⟨sl,e1⟩:=I.base.slot b o e n hb hx
      exact⟨sl,(hs.2 b (Nat.ne_of_lt (Nat.lt_of_lt_of_le (Heap.lt_size e) I.ok.above))).trans e1⟩
    · obtain⟨o',e1⟩:=I.base.there b o e hx
      exact⟨o',(hs.2 b (Nat.ne_of_lt (Nat.lt_of_lt_of_le (Heap.lt_size e) I.ok.above))).trans e1⟩
    · by_cases hj:j=i
      · subst hj
        rw [hi] at e1; cases e1
        rw [List.getElem?_set_self hiσ] at e2
        cases e2
        exact⟨u,r,.inl ⟨hk,by simp⟩⟩
      · rw [List.getElem?_set_ne (Ne.symm hj)] at e2
        obtain⟨u',r',q⟩:=hl j y v' e1 e2 e3
        refine⟨u',r',?_⟩
        rcases q with ⟨k,e⟩ | ⟨k,c,e,z⟩
        · refine .inl ⟨k,?_⟩
          have:y≠x:=fun e=>hj (nodup_ix hN e1 (e▸hi))
          simp [this,e]
        · exact .inr ⟨k,c,e,z.sameBut hs (cne y c e)⟩
    · obtain⟨w',z⟩:=I.cell y c e
      exact⟨w',z.sameBut hs (cne y c e)⟩
    · obtain⟨e,n,ne,nf,d⟩:=I.pin p hp
      exact⟨(hs.2 p.1 ne).trans e,n,ne,nf,d⟩
  · have hfn:X.fn x=true:=by
      rcases hf with z | z
      · exact z
      · rw [z] at hk; cases hk
    obtain⟨c,hc⟩:=I.ok.has x (.inl hk)
    obtain⟨w',z⟩:=I.cell x c hc
    refine wpAny_storeName_cell I.ok.kind hk hc z (fun h' hc' hs=>?_)
    obtain⟨oc,hoc,hocd⟩:=id z
    refine h {s with heap:=h'} ⟨I.ok,I.os,I.bare,⟨fun b o e n hb hx=>?_,fun b o e n hb hx=>?_,I.base.free,fun b o e hx=>?_,I.base.tups,I.base.frzs,I.base.tbls⟩,⟨m,hn.sameBut hs (Ne.symm (cne x c hc)),fun j y v' e1 e2 e3=>?_⟩,fun y c' e=>?_,I.free,I.freeC,fun p hp=>?_,tracked ⟨oc,hoc,I.freeC x c hc⟩ hs,by simpa using I.len⟩ ⟨c,hs,.inr hc⟩
    · exact(hs.2 b (Nat.ne_of_lt (Nat.lt_of_lt_of_le (Heap.lt_size e) (I.ok.cab x c hfn hc)))).trans (I.base.keep b o e n hb hx)
    · obtain⟨sl,e1⟩:=I.base.slot b o e n hb hx
      exact⟨sl,(hs.2 b (Nat.ne_of_lt (Nat.lt_of_lt_of_le (Heap.lt_size e) (I.ok.cab x c hfn hc)))).trans e1⟩
    · obtain⟨o',e1⟩:=I.base.there b o e hx
      exact⟨o',(hs.2 b (Nat.ne_of_lt (Nat.lt_of_lt_of_le (Heap.lt_size e) (I.ok.cab x c hfn hc)))).trans e1⟩
    · by_cases hj:j=i
      · subst hj
        rw [hi] at e1; cases e1
        rw [List.getElem?_set_self hiσ] at e2
        cases e2
        exact⟨u,r,.inr ⟨.inl hk,c,hc,hc'⟩⟩
      · rw [List.getElem?_set_ne (Ne.symm hj)] at e2
        obtain⟨u',r',q⟩:=hl j y v' e1 e2 e3
        refine⟨u',r',?_⟩
        rcases q with q | ⟨k,c',e,z'⟩
        · exact .inl q
        · refine .inr ⟨k,c',e,z'.sameBut hs ?_⟩
          rintro rfl
          exact hj (nodup_ix hN e1 (I.ok.inj _ _ _ e hc▸hi))
    · by_cases hcc:c'=c
      · subst hcc; exact⟨_,hc'⟩
      · obtain⟨w2,z2⟩:=I.cell y c' e
        exact⟨w2,z2.sameBut hs hcc⟩
    · obtain⟨e,n,ne,nf,d⟩:=I.pin p hp
      refine⟨(hs.2 p.1 ?_).trans e,n,ne,nf,d⟩
      intro q
      rw [q,hoc] at e
      have q':oc=p.2:=Option.some.inj e
      exact d w' (by rw [<- q']; exact hocd)
theorem store_ok {M:Model} {A:Around} {E:Value->Shared->Prop} {i:Nat} {x:Str} {v:V} {u:Value} {Q:Unit->Shared->Prop} (I:Inv X pins σ H s) (hN:X.N.Nodup) (hi:X.N[i]?=some x) (hx:Loc X.env.scope x) (r:RelV v u)
    (h:∀ s',Inv X pins (σ.set i (some v)) H s'->Q () s') (hf:X.fn x=true\/X.env.scope.names.lookup x=some .local:=by first | exact .inl rfl | exact .inr rfl | assumption):wpAny M A (storeName X.env x u) Q E s:=
  store_ok2 I hN hi hx r (fun s' I' _=>h s' I') hf
theorem Inv.call' {s':Shared} {ch:List Addr} (I:Inv X pins σ H s) (ho:s'.os=s.os) (u:Un (frs X.stack) ch H H' s.heap s'.heap) (hok:HOk X.prog X.w H' s'.heap) (hg:AllBare s'.gens)
    (hch:∀ b∈ch,(b∈X.ex\/X.s₀.heap.objs.size<=b)/\b≠X.env.locals/\(∀ x c,X.env.cells.lookup x=some c->c≠b)/\∀ p∈X.pn++pins,p.1≠b):Inv X pins σ H' s':=by
  obtain⟨h',g',d',t',o'⟩:=s'
  have e:o'=s.os:=ho
  subst e
  exact I.call (g':=g') (t':=t') (d':=d') u hok hg hch
end
abbrev XK:=Value->Option Addr->Hp->Prop
abbrev St:=List (Option V)
abbrev VK:=V->Hp->Prop
abbrev TE:=St->Hp->VK->Prop
abbrev TT:=St->Hp->(Bool->Hp->Prop)->Prop
abbrev TA:=St->Hp->(List V->Hp->Prop)->Prop
structure Ends where
  nx:St->Hp->Prop
  rt:VK
  bk:St->Hp->Prop:=fun _ _=>False
  ct:St->Hp->Prop:=fun _ _=>False
abbrev TS:=Ends->St->Hp->Prop
def EP (X:Cx) (pins:List (Addr×Obj)) (σ:St) (Q:VK) (u:Value) (s':Shared):Prop:=∃ v H',Inv X pins σ H' s'/\RelV v u/\Q v H'
def TP (X:Cx) (pins:List (Addr×Obj)) (σ:St) (Q:Bool->Hp->Prop) (b:Bool) (s':Shared):Prop:=∃ H',Inv X pins σ H' s'/\Q b H'
def AP (X:Cx) (pins:List (Addr×Obj)) (σ:St) (Q:List V->Hp->Prop) (us:List Value) (s':Shared):Prop:=∃ vs H',Inv X pins σ H' s'/\Vals vs us/\Q vs H'
def SP (X:Cx) (pins:List (Addr×Obj)) (D:Ends) (f:Flow) (s':Shared):Prop:=
  match f with
  | .next=>∃ σ' H',Inv X pins σ' H' s'/\D.nx σ' H'
  | .brk=>∃ σ' H',Inv X pins σ' H' s'/\D.bk σ' H'
  | .cont=>∃ σ' H',Inv X pins σ' H' s'/\D.ct σ' H'
  | .ret u=>∃ v σ' H',Inv X pins σ' H' s'/\RelV v u/\D.rt v H'
def PE (X:Cx) (e:Expr) (t:TE):Prop:=
  ∀ (pins:List (Addr×Obj)) (s:Shared) (σ:St) (H:Hp) (Q:VK),Inv X pins σ H s->t σ H Q->wpAny (model X.prog X.w) X.A (eval e X.env) (EP X pins σ Q) X.xe s
def PT (X:Cx) (e:Expr) (t:TT):Prop:=
  ∀ (pins:List (Addr×Obj)) (s:Shared) (σ:St) (H:Hp) (Q:Bool->Hp->Prop),Inv X pins σ H s->t σ H Q->wpAny (model X.prog X.w) X.A (isTrue e X.env (eval e X.env)) (TP X pins σ Q) X.xe s
def PW (X:Cx) (e:Expr) (t:TT):Prop:=
  ∀ (whole:Sem Value) (pins:List (Addr×Obj)) (s:Shared) (σ:St) (H:Hp) (Q:Bool->Hp->Prop),Inv X pins σ H s->t σ H Q->wpAny (model X.prog X.w) X.A (isTrue e X.env whole) (TP X pins σ Q) X.xe s
theorem PW.pt {X:Cx} {e:Expr} {t:TT} (h:PW X e t):PT X e t:=h _
def PA (X:Cx) (es:List Expr) (t:TA):Prop:=
  ∀ (pos:Pos) (pins:List (Addr×Obj)) (s:Shared) (σ:St) (H:Hp) (Q:List V->Hp->Prop),Inv X pins σ H s->t σ H Q->wpAny (model X.prog X.w) X.A (spliced (backTo pos (starEach es X.env))) (AP X pins σ Q) X.xe s
def PS (X:Cx) (st:Stmt) (t:TS):Prop:=
  ∀ (pins:List (Addr×Obj)) (s:Shared) (σ:St) (H:Hp) (D:Ends),Inv X pins σ H s->t D σ H->wpAny (model X.prog X.w) X.A (exec st X.env) (SP X pins D) X.xe s
def PSs (X:Cx) (st:List Stmt) (t:TS):Prop:=
  ∀ (pins:List (Addr×Obj)) (s:Shared) (σ:St) (H:Hp) (D:Ends),Inv X pins σ H s->t D σ H->wpAny (model X.prog X.w) X.A (execs st X.env) (SP X pins D) X.xe s
theorem thn {α:Type} {t:Sem α} {Q Q':α->Shared->Prop} {M:Model} {A:Around} {E:Value->Shared->Prop} {s:Shared} (h:wpAny M A t Q E s) (hQ:∀ a s,Q a s->Q' a s):wpAny M A t Q' E s:=wpAny_mono h hQ fun _ _ x=>x
section
variable {X:Cx}
def tVar (i:Nat):TE:=fun σ H Q=>∃ v,σ[i]?=some (some v)/\Q v H
def tC (v:V):TE:=fun _ H Q=>Q v H
theorem pe_var {i:Nat} {x:Str} {pos:Pos} (hN:X.N[i]?=some x) (hv:Vis X.env.scope x) (hd:(x == ("__debug__":Str))=false:=by decide) (hcd:(x == ("__classdict__":Str))=false:=by decide):PE X (.Name x pos) (tVar i):=by
  intro pins s σ H Q I h
  obtain⟨v,e,h⟩:=h
  obtain⟨m,hn,hl⟩:=I.loc
  obtain⟨u,r,l⟩:=hl i x v hN e hv
  have fin:EP X pins σ Q u s:=⟨v,H,I,r,h⟩
  rcases l with ⟨hk,hm⟩ | ⟨hk,c,hc,hcell⟩
  · exact wpAny_Name (wpAny_loadName_local I.ok.kind hk hn hm fin) hd
  · rcases hk with hk | hk
    · exact wpAny_Name (wpAny_loadName_cell I.ok.kind hk hc hcell fin) hd
    · exact wpAny_Name (wpAny_loadName_free I.ok.kind hk hc hcell fin hcd) hd
theorem pe_int {i j pos}:PE X (.Constant (.int i) j pos) (tC (.int i)):=fun _ _ _ H _ I h=>wpAny_Constant_int ⟨.int i,H,I.tok _,⟨_,rfl⟩,h⟩
theorem pe_bl {b j pos}:PE X (.Constant (.bool b) j pos) (tC (.bl b)):=fun _ _ _ H _ I h=>Constant_bool ⟨.bl b,H,I,rfl,h⟩
theorem pe_non {j pos}:PE X (.Constant .none j pos) (tC .non):=fun _ _ _ H _ I h=>Constant_none ⟨.non,H,I,rfl,h⟩
def Gl (X:Cx) (x:Str):Prop:=X.env.kindOf x=some .globalImplicit
theorem ld_glob {E:Value->Shared->Prop} {pins:List (Addr×Obj)} {s:Shared} {σ:St} {H:Hp} {x:Str} {u:Value} {pos:Pos} {Q:Value->Shared->Prop} (I:Inv X pins σ H s) (hg:Gl X x) (hm:X.mg x=some u) (h:Q u s)
    (hd:(x == ("__debug__":Str))=false:=by decide):wpAny (model X.prog X.w) X.A (eval (.Name x pos) X.env) Q E s:=
  Calls.Name_function_global I.ok.kind hg (Calls.loadGlobal_global (by rw [I.ok.glob]; exact I.mod.glob.keeps I.bk) hm h) hd
theorem ld_blt {E:Value->Shared->Prop} {pins:List (Addr×Obj)} {s:Shared} {σ:St} {H:Hp} {x:Str} {u:Value} {pos:Pos} {Q:Value->Shared->Prop} (I:Inv X pins σ H s) (hg:Gl X x) (hm:X.mg x=none) (hv:bootBuiltins x=some u) (h:Q u s)
    (hn:x≠"__name__":=by decide) (hd:(x == ("__debug__":Str))=false:=by decide):wpAny (model X.prog X.w) X.A (eval (.Name x pos) X.env) Q E s:=by
  obtain⟨mb,h1,h2⟩:=I.mod.blt
  exact Calls.Name_function_global I.ok.kind hg (Calls.loadGlobal_builtin (by rw [I.ok.glob]; exact I.mod.glob.keeps I.bk) hm (by rw [I.ok.blt]; exact h1.keeps I.bk) ((h2 x hn).trans hv) h) hd
theorem pe_glob {x:Str} {v:V} {u:Value} {pos:Pos} (hg:Gl X x) (hm:X.mg x=some u) (r:RelV v u) (hd:(x == ("__debug__":Str))=false:=by decide):PE X (.Name x pos) (tC v):=
  fun _ _ _ H _ I h=>ld_glob I hg hm ⟨v,H,I,r,h⟩ hd
theorem pe_bltn {x:Str} {v:V} {u:Value} {pos:Pos} (hg:Gl X x) (hm:X.mg x=none) (hv:bootBuiltins x=some u) (r:RelV v u) (hn:x≠"__name__":=by decide) (hd:(x == ("__debug__":Str))=false:=by decide):PE X (.Name x pos) (tC v):=
  fun _ _ _ H _ I h=>ld_blt I hg hm hv ⟨v,H,I,r,h⟩ hn hd
variable {a b:Expr} {ta tb:TE} {pos:Pos}
def tB (t:TE):TT:=fun σ H Q=>t σ H fun x H1=>∃ c,x=.bl c/\Q c H1
theorem pt_val {e:Expr} {t:TE} (h:PE X e t) (he:∀ whole,isTrue e X.env whole=(do let v <- whole; standAt e.pos; holding [v] (truthy v)):=by intro _; rfl):PT X e (tB t):=by
  intro pins s σ H Q I hw
  refine isTrue_plain (thn (h pins s σ H _ I hw) fun v s1 ⟨x,H1,I1,r1,q1⟩=>?_) (he _)
  obtain⟨d,rfl,q⟩:=q1
  cases r1
  exact wpAny_truthy_bool ⟨H1,I1,q⟩
variable {tA tB':TT} {rest:List Expr}
def tOr (t u:TT):TT:=fun σ H Q=>t σ H fun c H1=>if c=true then Q true H1 else u σ H1 Q
def tNot (t:TT):TT:=fun σ H Q=>t σ H fun c H1=>Q (!c) H1
theorem pw_or1 (ha:PT X a tA):PW X (.BoolOp .Or [a] pos) tA:=by
  intro wh pins s σ H Q I h
  refine isTrue_or (thn (ha pins s σ H Q I h) fun c s1 e=>?_)
  cases c with
  | false=>exact isTrue_or_nil e
  | true=>exact e
theorem pw_or (ha:PT X a tA) (hb:PW X (.BoolOp .Or (b::rest) pos) tB'):PW X (.BoolOp .Or (a::b::rest) pos) (tOr tA tB'):=by
  intro wh pins s σ H Q I h
  refine isTrue_or (thn (ha pins s σ H _ I h) fun c s1 ⟨H1,I1,q1⟩=>?_)
  cases c with
  | true=>exact⟨H1,I1,q1⟩
  | false=>exact hb wh pins s1 σ H1 Q I1 q1
theorem pt_not (ha:PT X a tA):PT X (.UnaryOp .Not a pos) (tNot tA):=by
  intro pins s σ H Q I h
  exact isTrue_not (ha pins s σ H (fun c H1=>Q (!c) H1) I h)
def tAndV (ta tb:TE):TE:=fun σ H Q=>ta σ H fun x H1=>∃ c,x=.bl c/\if c=true then tb σ H1 Q else Q (.bl false) H1
theorem pe_one {op} {t:TE} (h:PE X a t):PE X (.BoolOp op [a] pos) t:=fun pins s σ H Q I hw=>BoolOp_one (h pins s σ H Q I hw)
theorem pe_and (ha:PE X a ta) (hb:PE X (.BoolOp .And (b::rest) pos) tb):PE X (.BoolOp .And (a::b::rest) pos) (tAndV ta tb):=by
  intro pins s σ H Q I h
  refine BoolOp_and (thn (ha pins s σ H _ I h) fun v s1 ⟨x,H1,I1,r1,q1⟩=>?_)
  obtain⟨c,rfl,q1⟩:=q1
  cases r1
  refine wpAny_truthy_bool ?_
  cases c with
  | true=>exact hb pins s1 σ H1 Q I1 q1
  | false=>exact⟨.bl false,H1,I1,rfl,q1⟩
end
def SqL (K:PySem.W.Frag) (H:Hp) (a:Addr) (xs:List V):Prop:=
  Rd H a (.lst xs)\/
    ∃ (o:Obj) (its:Array Value) (n:Nat),K.lookup a=some o/\o.cls=.type "list"/\o.dict=none/\o.data=.seq its n/\its.size<=sizeLine/\Vals xs its.toList
def SqT (K:PySem.W.Frag) (H:Hp) (a:Addr) (xs:List V):Prop:=
  Rd H a (.tup xs)\/
    ∃ (o:Obj) (its:Array Value) (n:Nat),K.lookup a=some o/\o.cls=.type "tuple"/\o.data=.seq its n/\its.size<=sizeLine/\Vals xs its.toList
def absV:Value->Option V
  | .none=>some .non
  | .bool b=>some (.bl b)
  | .int i _=>some (.int i)
  | .str x _=>some (.str x)
  | .bytes b _=>some (.byt b)
  | .float b _=>some (.flt b)
  | .ref a=>some (.ref a)
  | .type n=>some (.ty n)
  | _=>none
theorem RelV.abs {x:V} {u:Value} (r:RelV x u):absV u=some x:=by
  cases x with
  | non=>cases r; rfl
  | bl _=>cases r; rfl
  | int _=>obtain⟨t,rfl⟩:=r; rfl
  | str _=>obtain⟨t,rfl⟩:=r; rfl
  | byt _=>obtain⟨t,rfl⟩:=r; rfl
  | flt _=>obtain⟨t,rfl⟩:=r; rfl
  | ref _=>cases r; rfl
  | ty _=>cases r; rfl
theorem RelV.inj {x y:V} {u:Value} (r:RelV x u) (q:RelV y u):x=y:=Option.some.inj (r.abs.symm.trans q.abs)
theorem Vals.inj:∀ {xs ys:List V} {us:List Value},Vals xs us->Vals ys us->xs=ys
  | _,_,_,.nil,.nil=>rfl
  | _,_,_,.cons r t,.cons r' t'=>by rw [r.inj r',Vals.inj t t']
section
variable {X:Cx} {pins:List (Addr×Obj)} {σ:St} {H:Hp} {s:Shared} {a:Addr} {xs ys:List V}
theorem SqL.of {K:PySem.W.Frag} (h:H a=some (.lst xs)):SqL K H a xs:=.inl (.inl h)
theorem SqT.of {K:PySem.W.Frag} (h:H a=some (.tup xs)):SqT K H a xs:=.inl (.inl h)
theorem Inv.list (I:Inv X pins σ H s) (h:SqL X.K H a xs):∃ its:List Value,Vals xs its/\PlainL s.heap a its.toArray/\xs.length<=sizeLine:=by
  rcases h with h | ⟨o,its,n,hk,hc,hd,hs,hz,r⟩
  · obtain⟨z,its,n,r,e⟩:=h.ok I.hok
    exact⟨its,r,⟨_,n,e,rfl,rfl,rfl⟩,z⟩
  · refine⟨its.toList,r,⟨o,n,I.kIn a o hk,hc,hd,by simpa using hs⟩,?_⟩
    have e:=r.length
    simp only [Array.length_toList] at e
    omega
theorem Inv.tuple (I:Inv X pins σ H s) (h:SqT X.K H a xs):∃ its:List Value,Vals xs its/\IsTup s.heap a its.toArray/\xs.length<=sizeLine:=by
  rcases h with h | ⟨o,its,n,hk,hc,hs,hz,r⟩
  · obtain⟨z,its,r,p⟩:=h.ok I.hok
    exact⟨its,r,p,z⟩
  · refine⟨its.toList,r,⟨o,I.kIn a o hk,hc,n,by simpa using hs⟩,?_⟩
    have e:=r.length
    simp only [Array.length_toList] at e
    omega
theorem Inv.list_inj (I:Inv X pins σ H s) (h:SqL X.K H a xs) (h':SqL X.K H a ys):xs=ys:=by
  obtain⟨its,r,⟨o,n,e,_,_,d⟩,_⟩:=I.list h
  obtain⟨its',r',⟨o',n',e',_,_,d'⟩,_⟩:=I.list h'
  rw [e] at e'; cases e'
  rw [d] at d'
  injection d' with d1 _
  have:its=its':=by simpa using congrArg Array.toList d1
  subst this
  exact r.inj r'
theorem Inv.tuple_inj (I:Inv X pins σ H s) (h:SqT X.K H a xs) (h':SqT X.K H a ys):xs=ys:=by
  obtain⟨its,r,⟨o,e,_,n,d⟩,_⟩:=I.tuple h
  obtain⟨its',r',⟨o',e',_,n',d'⟩,_⟩:=I.tuple h'
  rw [e] at e'; cases e'
  rw [d] at d'
  injection d' with d1 _
  have:its=its':=by simpa using congrArg Array.toList d1
  subst this
  exact r.inj r'
end
abbrev Cx.wish (X:Cx) (E:Value->Shared->Prop):Cx:={X with xe:=E}
abbrev Cx.nox (X:Cx):Cx:=X.wish fun _ _=>False
theorem Cx.Ok.wish {X:Cx} (ok:X.Ok) (E:Value->Shared->Prop):(X.wish E).Ok:=
  ⟨ok.mod,ok.kind,ok.glob,ok.blt,ok.above,ok.inj,ok.has,ok.cab,ok.hd,ok.frames,ok.stk,ok.exf,ok.bs,ok.bsz,ok.noex,ok.exfs,ok.funs,ok.frf⟩
theorem Cx.Ok.unwish {X:Cx} {E:Value->Shared->Prop} (ok:(X.wish E).Ok):X.Ok:=
  ⟨ok.mod,ok.kind,ok.glob,ok.blt,ok.above,ok.inj,ok.has,ok.cab,ok.hd,ok.frames,ok.stk,ok.exf,ok.bs,ok.bsz,ok.noex,ok.exfs,ok.funs,ok.frf⟩
section
variable {X:Cx} {pins:List (Addr×Obj)} {σ:St} {H:Hp} {s:Shared} {E:Value->Shared->Prop}
theorem Inv.wish (I:Inv X pins σ H s) (E:Value->Shared->Prop):Inv (X.wish E) pins σ H s:=⟨I.ok.wish E,I.os,I.bare,I.base,I.loc,I.cell,I.free,I.freeC,I.pin,I.hok,I.len⟩
theorem Inv.unwish (I:Inv (X.wish E) pins σ H s):Inv X pins σ H s:=⟨I.ok.unwish,I.os,I.bare,I.base,I.loc,I.cell,I.free,I.freeC,I.pin,I.hok,I.len⟩
theorem SP.unwish {D:Ends} {f:Flow} {s':Shared} (h:SP (X.wish E) pins D f s'):SP X pins D f s':=by
  cases f with
  | next=>obtain⟨σ',H',I,q⟩:=h; exact⟨σ',H',I.unwish,q⟩
  | brk=>obtain⟨σ',H',I,q⟩:=h; exact⟨σ',H',I.unwish,q⟩
  | cont=>obtain⟨σ',H',I,q⟩:=h; exact⟨σ',H',I.unwish,q⟩
  | ret u=>obtain⟨v,σ',H',I,r,q⟩:=h; exact⟨v,σ',H',I.unwish,r,q⟩
theorem PSs.nox {st:List Stmt} {t:TS} (h:PSs X.nox st t):PSs X st t:=fun pins s σ H D I hw=>
  wpAny_mono (h pins s σ H D (I.wish _) hw) (fun _ _ q=>q.unwish) fun _ _ z=>False.elim z
end
section
variable {X:Cx} {st:Stmt} {rest:List Stmt} {t u:TS} {e:Expr} {te:TE} {pos:Pos}
def tNext:TS:=fun D σ H=>D.nx σ H
def tSeq (t u:TS):TS:=fun D σ H=>t {D with nx:=u D} σ H
theorem pss_nil:PSs X [] tNext:=fun _ _ σ H _ I h=>wpAny_execs_nil ⟨σ,H,I,h⟩
theorem pss_cons (h1:PS X st t) (h2:PSs X rest u):PSs X (st::rest) (tSeq t u):=by
  intro pins s σ H D I h
  refine wpAny_execs_cons (thn (h1 pins s σ H {D with nx:=u D} I h) fun f s1 q=>?_)
  cases f with
  | next=>
    obtain⟨σ',H',I',q⟩:=q
    exact h2 pins s1 σ' H' D I' q
  | ret v=>exact q
  | brk=>exact q
  | cont=>exact q
theorem pss_one (h1:PS X st t):PSs X [st] t:=by
  intro pins s σ H D I h
  refine wpAny_execs_cons (thn (h1 pins s σ H D I h) fun f s1 q=>?_)
  cases f with
  | next=>exact wpAny_execs_nil q
  | ret v=>exact q
  | brk=>exact q
  | cont=>exact q
theorem Inv.quiet {pins:List (Addr×Obj)} {σ:St} {H:Hp} {s:Shared} (I:Inv X pins σ H s):interactive X.env=false:=by simp [interactive,I.ok.kind]
def tDrop (te:TE):TS:=fun D σ H=>te σ H fun _ H1=>D.nx σ H1
theorem ps_expr (he:PE X e te) (hs:swapsWith e none pos.line X.env=pure false:=by rfl):PS X (.Expr e pos) (tDrop te):=by
  intro pins s σ H D I h
  exact wpAny_Expr_any (thn (he pins s σ H _ I h) fun v s1 ⟨x,H1,I1,r1,q1⟩=>⟨σ,H1,I1,q1⟩) I.quiet hs
def tRet (te:TE):TS:=fun D σ H=>te σ H D.rt
theorem ps_ret (he:PE X e te):PS X (.Return (some e) pos) (tRet te):=by
  intro pins s σ H D I h
  exact wpAny_Return_some (thn (he pins s σ H _ I h) fun v s1 ⟨x,H1,I1,r1,q1⟩=>⟨x,σ,H1,I1,r1,q1⟩)
def tIfS (c:TT) (t u:TS):TS:=fun D σ H=>c σ H fun b H1=>if b=true then t D σ H1 else u D σ H1
theorem ps_if {c:Expr} {a b:List Stmt} {tc:TT} (hc:PT X c tc) (ha:PSs X a t) (hb:PSs X b u):PS X (.If c a b pos) (tIfS tc t u):=by
  intro pins s σ H D I h
  refine wpAny_If (thn (hc pins s σ H _ I h) fun d s1 ⟨H1,I1,q1⟩=>?_)
  cases d with
  | true=>exact ha pins s1 σ H1 D I1 q1
  | false=>exact hb pins s1 σ H1 D I1 q1
def tNever:TS:=fun _ _ _=>False
theorem ps_never:PS X st tNever:=fun _ _ _ _ _ _ h=>h.elim
end
abbrev TG:=V->St->Hp->(St->Hp->Prop)->Prop
abbrev TGs:=List V->St->Hp->(St->Hp->Prop)->Prop
def PG (X:Cx) (target:Expr) (t:TG):Prop:=
  ∀ (pins:List (Addr×Obj)) (s:Shared) (σ:St) (H:Hp) (v:V) (u:Value) (Q:St->Hp->Prop),Inv X pins σ H s->RelV v u->t v σ H Q->
    wpAny (model X.prog X.w) X.A (assign target X.env u) (fun _ s'=>∃ σ' H',Inv X pins σ' H' s'/\Q σ' H') X.xe s
def PGs (X:Cx) (ts:List Expr) (t:TGs):Prop:=
  ∀ (pins:List (Addr×Obj)) (s:Shared) (σ:St) (H:Hp) (vs:List V) (us:List Value) (Q:St->Hp->Prop),Inv X pins σ H s->Vals vs us->t vs σ H Q->
    wpAny (model X.prog X.w) X.A (assignInOrder ((assignEach ts X.env).map (·.2)) us) (fun _ s'=>∃ σ' H',Inv X pins σ' H' s'/\Q σ' H') X.xe s
abbrev TSet:=V->V->V->Hp->(Hp->Prop)->Prop
def PSet (X:Cx) (t:TSet):Prop:=
  ∀ (pins:List (Addr×Obj)) (s:Shared) (σ:St) (H:Hp) (o i v:V) (ov iv u:Value) (Q:Hp->Prop),Inv X pins σ H s->RelV o ov->RelV i iv->RelV v u->t o i v H Q->
    wpAny (model X.prog X.w) X.A (setItem ov iv u) (fun _ s'=>∃ H',Inv X pins σ H' s'/\Q H') X.xe s
section
variable {X:Cx} {pos:Pos}
def gName (i:Nat):TG:=fun v σ H Q=>Q (σ.set i (some v)) H
theorem pg_name {i:Nat} {x:Str} (hN:X.N.Nodup) (hi:X.N[i]?=some x) (hx:Loc X.env.scope x) (hf:X.fn x=true\/X.env.scope.names.lookup x=some .local:=by first | exact .inl rfl | exact .inr rfl | assumption):PG X (.Name x pos) (gName i):=by
  intro pins s σ H v u Q I r h
  exact wpAny_assign_Name (store_ok I hN hi hx r (fun s' I'=>⟨_,H,I',h⟩) hf)
def gNil:TGs:=fun vs σ H Q=>vs=[]/\Q σ H
def gCons (t:TG) (u:TGs):TGs:=fun vs σ H Q=>∃ v r,vs=v::r/\t v σ H fun σ' H'=>u r σ' H' Q
theorem pgs_nil:PGs X [] gNil:=by
  intro pins s σ H vs us Q I r h
  obtain⟨e,h⟩:=h
  subst e
  cases r
  exact assignInOrder_nil ⟨σ,H,I,h⟩
theorem pgs_cons {e:Expr} {es:List Expr} {t:TG} {u:TGs} (h1:PG X e t) (h2:PGs X es u)
    (hs:(assignEach (e::es) X.env).map (·.2)=assign e X.env::(assignEach es X.env).map (·.2):=by rfl):PGs X (e::es) (gCons t u):=by
  intro pins s σ H vs us Q I r h
  obtain⟨v,vr,e1,h⟩:=h
  subst e1
  cases r with
  | cons r rr=>
    rw [hs]
    refine assignInOrder_cons (thn (h1 pins s σ H _ _ _ I r h) fun _ s1 ⟨σ1,H1,I1,q1⟩=>?_)
    exact h2 pins s1 σ1 H1 _ _ Q I1 rr q1
def gTup (K:PySem.W.Frag) (n:Nat) (t:TGs):TG:=fun v σ H Q=>∃ a xs,v=.ref a/\SqT K H a xs/\xs.length=n/\t xs σ H Q
theorem pg_tup {es:List Expr} {k:Nat} {t:TGs} {n:Nat} (hc:X.calm=true) (h:PGs X es t)
    (hn:(assignEach es X.env).length=n:=by rfl) (hst:(assignEach es X.env).findIdx? (·.1)=none:=by rfl):PG X (.Tuple es k pos) (gTup X.K n t):=by
  intro pins s σ H v u Q I r hw
  obtain⟨a,xs,e1,hq,hl,hw⟩:=hw
  subst e1
  cases r
  obtain⟨its,rv,ht,hz⟩:=I.tuple hq
  refine assign_Tuple_tuple (I.ok.hd hc) ht (by simp [hn,<- hl,rv.length]) hst fun h' hx=>?_
  have I1:Inv X pins σ H {s with heap:=h'}:=I.kept (t':=s.toks) fun b o e=>hx b o (Nat.ne_of_lt (Heap.lt_size e)) e
  exact h pins _ σ H xs _ Q I1 (by simpa using rv) hw
def gSub (to ti:TE) (t:TSet):TG:=fun v σ H Q=>to σ H fun o H1=>ti σ H1 fun i H2=>t o i v H2 fun H3=>Q σ H3
theorem pg_sub {o i:Expr} {to ti:TE} {t:TSet} (ho:PE X o to) (hi:PE X i ti) (hs:PSet X t)
    (ha:∀ v,assign (.Subscript o i pos) X.env v=(do
      let ov <- holding [v] (eval o X.env)
      let iv <- holding [v,ov] (eval i X.env)
      standAt pos
      holding [v,ov,iv] (setItem ov iv v)
      release [v,ov,iv] []):=by intro _; rfl):PG X (.Subscript o i pos) (gSub to ti t):=by
  intro pins s σ H v u Q I r h
  rw [ha]
  refine wpAny_bind (wpAny_holding (thn (ho pins s σ H _ I h) fun ov s1 ⟨x,H1,I1,r1,q1⟩=>?_))
  refine wpAny_bind (wpAny_holding (thn (hi pins s1 σ H1 _ I1 q1) fun iv s2 ⟨y,H2,I2,r2,q2⟩=>?_))
  refine wpAny_bind (wpAny_standAt (wpAny_bind (wpAny_holding (thn (hs pins s2 σ H2 x y v ov iv u _ I2 r1 r2 r q2) fun _ s3 ⟨H3,I3,q3⟩=>?_))))
  exact wpAny_release ⟨σ,H3,I3,q3⟩
def tAsg (te:TE) (g:TG):TS:=fun D σ H=>te σ H fun x H1=>g x σ H1 D.nx
theorem ps_asg {tg e:Expr} {te:TE} {g:TG} (he:PE X e te) (hg:PG X tg g) (hs:swapsWithSole [tg] e pos.line X.env=pure false:=by rfl) (hw:swappedStores [tg] e X.env=pure none:=by rfl)
    (h1:(assignEach [tg] X.env).map (·.2)=[assign tg X.env]:=by rfl):PS X (.Assign [tg] e pos) (tAsg te g):=by
  intro pins s σ H D I h
  refine wpAny_Assign_stores (thn (he pins s σ H _ I h) fun v s1 ⟨x,H1,I1,r1,q1⟩=>?_) hs hw
  rw [h1]
  exact thn (hg pins s1 σ H1 x v _ I1 r1 q1) fun _ s2 q=>q
theorem ps_set {i:Nat} {x:Str} {e:Expr} {te:TE} {pos':Pos} (hN:X.N.Nodup) (hi:X.N[i]?=some x) (hx:Loc X.env.scope x) (he:PE X e te) (hs:swapsWith e (some (.Name x pos')) pos.line X.env=pure false:=by rfl) (hf:X.fn x=true\/X.env.scope.names.lookup x=some .local:=by first | exact .inl rfl | exact .inr rfl | assumption):
    PS X (.Assign [.Name x pos'] e pos) (tAsg te (gName i)):=by
  intro pins s σ H D I h
  refine wpAny_Assign_Name (thn (he pins s σ H _ I h) fun v s1 ⟨y,H1,I1,r1,q1⟩=>?_) hs
  exact store_ok I1 hN hi hx r1 (fun s2 I2=>⟨_,H1,I2,q1⟩) hf
def tPar (i j:Nat) (ta:TA):TS:=fun D σ H=>ta σ H fun vs H1=>∃ v w,vs=[v,w]/\D.nx ((σ.set i (some v)).set j (some w)) H1
theorem ps_par {i j:Nat} {x y:Str} {a b:Expr} {ta:TA} {px py pt:Pos} {kt k2 pt2} (hc:X.calm=true) (hN:X.N.Nodup) (hi:X.N[i]?=some x) (hj:X.N[j]?=some y) (hij:i≠j)
    (hx:X.env.scope.names.lookup x=some .local) (hy:X.env.scope.names.lookup y=some .local) (ha:PA X [a,b] ta)
    (hw:swappedStores [.Tuple [.Name x px,.Name y py] kt pt] (.Tuple [a,b] k2 pt2) X.env=pure (some [x,y]))
    (hs:swapsWithSole [.Tuple [.Name x px,.Name y py] kt pt] (.Tuple [a,b] k2 pt2) pos.line X.env=pure false:=by rfl):
    PS X (.Assign [.Tuple [.Name x px,.Name y py] kt pt] (.Tuple [a,b] k2 pt2) pos) (tPar i j ta):=by
  intro pins s σ H D I h
  rw [exec_Assign_arm]
  refine wpAny_bind (wpAny_standAt ?_)
  rw [hs]
  refine wpAny_bind (wpAny_pure ?_)
  rw [if_neg (by decide)]
  refine wpAny_bind (Tuple_ (thn (ha _ pins s σ H _ I h) fun us s1 ⟨vs,H1,I1,r1,q1⟩=>?_))
  obtain⟨v,w,e1,q1⟩:=q1
  subst e1
  obtain⟨u1,u2,rfl,rv,rw'⟩:∃ u1 u2,us=[u1,u2]/\RelV v u1/\RelV w u2:=by
    cases r1 with
    | cons p q=>
      cases q with
      | cons p' q'=>
        cases q'
        exact⟨_,_,rfl,p,p'⟩
  refine wpAny_newObj_type ?_ (by show 2<=sizeLine; decide)
  have I2:Inv X pins σ H1 {s1 with heap:=s1.heap.push {cls:=.type "tuple",data:=.seq [u1,u2].toArray}}:=I1.kept (t':=s1.toks) fun b o e=>Heap.get?_push_of_some _ e
  rw [hw]
  refine wpAny_bind (wpAny_pure ?_)
  show wpAny (model X.prog X.w) X.A (do rule "assign.swapped-stores"; let items <- unpackItems (.ref s1.heap.objs.size) 2 none; assignInOrder [fun v=>bindName X.env y v,fun v=>bindName X.env x v] items.reverse; pure Flow.next) _ _ _
  refine wpAny_bind (wpAny_rule (wpAny_bind (unpackItems_tuple (items:=#[u1,u2]) (I.ok.hd hc) (IsTup.new s1.heap _) fun h' hx'=>?_)))
  have I3:=I2.kept (h':=h') (t':=s1.toks) fun b o e=>hx' b o (Nat.ne_of_lt (Heap.lt_size e)) e
  show wpAny _ _ (assignInOrder [fun v=>bindName X.env y v,fun v=>bindName X.env x v] [u2,u1] >>= fun _=>pure Flow.next) _ _ _
  refine wpAny_bind (assignInOrder_cons (wpAny_bindName (store_ok I3 hN hj (.inl hy) rw' (fun s2 I4=>?_) (.inr hy))))
  refine assignInOrder_cons (wpAny_bindName (store_ok I4 hN hi (.inl hx) rv (fun s3 I5=>assignInOrder_nil (wpAny_pure ?_)) (.inr hx)))
  rw [List.set_comm _ _ (Ne.symm hij)] at I5
  exact⟨_,H1,I5,q1⟩
end
section
variable {X:Cx} {pos:Pos}
def tWhile (c:TT) (tb:TS):TS:=fun D σ H=>∃ W:Nat->St->Hp->Prop,(∃ m,W m σ H)/\∀ m σ H,W m σ H->
  c σ H fun b H1=>if b=true then ∃ N:St->Hp->Prop,(∀ σ' H',N σ' H'->∃ m',m' < m/\W m' σ' H')/\tb {D with nx:=N,ct:=N,bk:=D.nx} σ H1 else D.nx σ H1
theorem ps_while {c:Expr} {body:List Stmt} {tc:TT} {tb:TS} (hp:PassesOwn (model X.prog X.w) X.A X.env X.xe) (hc:PT X c tc) (hb:PSs X body tb):PS X (.While c body [] pos) (tWhile tc tb):=by
  intro pins s σ H D I h
  obtain⟨W,⟨m0,w0⟩,turn⟩:=h
  refine wpAny_While (codeAny_whileLoop (fun n s'=>∃ σ' H',Inv X pins σ' H' s'/\W n σ' H') ?_ m0 ⟨σ,H,I,w0⟩)
  rintro n s1 ⟨σ1,H1,I1,w1⟩
  refine wpAny_passesOwn hp (thn (hc pins s1 σ1 H1 _ I1 (turn n σ1 H1 w1)) fun b s2 ⟨H2,I2,q2⟩=>?_)
  cases b with
  | true=>
    obtain⟨N,hN,q2⟩:=q2
    rw [if_pos rfl]
    refine wpAny_passesOwn hp (thn (hb pins s2 σ1 H2 _ I2 q2) fun f s3 q3=>?_)
    cases f with
    | next=>
      obtain⟨σ3,H3,I3,n3⟩:=q3
      obtain⟨m',hm,w3⟩:=hN σ3 H3 n3
      exact⟨m',hm,σ3,H3,I3,w3⟩
    | cont=>
      obtain⟨σ3,H3,I3,n3⟩:=q3
      obtain⟨m',hm,w3⟩:=hN σ3 H3 n3
      exact⟨m',hm,σ3,H3,I3,w3⟩
    | brk=>exact q3
    | ret v=>exact q3
  | false=>
    rw [if_neg Bool.false_ne_true]
    exact wpAny_execs_nil ⟨σ1,H2,I2,q2⟩
end
structure It where
  go:Nat->Hp->Prop
  yld:Nat->Hp->V->Hp->Prop
  stop:Nat->Hp->Prop
def FpOk (X:Cx) (pins:List (Addr×Obj)) (H:Hp) (b:Addr):Prop:=
  H b=none/\b≠X.env.locals/\b∉X.fs/\(b∈X.ex\/X.s₀.heap.objs.size<=b)/\(∀ x c,X.env.cells.lookup x=some c->c≠b)/\∀ p∈X.pn++pins,p.1≠b
theorem Inv.fpOk {X:Cx} {pins:List (Addr×Obj)} {σ:St} {H H':Hp} {s:Shared} {b:Addr} (I:Inv X pins σ H s) (hb:s.heap.objs.size<=b) (hn:H' b=none):FpOk X pins H' b:=by
  refine⟨hn,Nat.ne_of_gt (Nat.lt_of_lt_of_le I.lt hb),I.nofs hb,.inr (Nat.le_trans I.sz hb),fun x c e z=>?_,fun p hp z=>?_⟩
  · obtain⟨v,q⟩:=I.cell x c e
    exact absurd (Nat.lt_of_lt_of_le q.lt (by rw [z]; exact hb)) (Nat.lt_irrefl _)
  · exact absurd (Nat.lt_of_lt_of_le (Heap.lt_size (I.pin p hp).1) (by rw [z]; exact hb)) (Nat.lt_irrefl _)
structure Turn (P:Program) (w:World) (K:PySem.W.Frag) (tg:Expr) (J:It) (fp:List Addr) (it:Addr) (tn:Nat->Heap->Prop):Prop where
  mem:it∈fp
  obj:∀ i h,tn i h->∀ b∈fp,∃ o,h.get? b=some o/\∀ v,o.data≠.cell v
  keep:∀ i h h',tn i h->(∀ b∈fp,∀ o,h.get? b=some o->h'.get? b=some o)->tn i h'
  item:∀ (X:Cx),X.prog=P->X.w=w->X.K=K->X.calm=true->∀ (i:Nat) (pins:List (Addr×Obj)) (s:Shared) (σ:St) (H:Hp) (E:Value->Shared->Prop),Inv X pins σ H s->(∀ b∈fp,FpOk X pins H b)->tn i s.heap->J.go i H->
    wpAny (model P w) X.A (pyNext (.ref it)) (fun r s1=>∃ u,r=some u/\
      wpAny (model P w) X.A (letOwnedTupleGo tg (.ref it) u) (fun _ s2=>∃ x H',Inv X pins σ H' s2/\RelV x u/\J.yld i H x H'/\tn (i+1) s2.heap/\∀ b∈fp,H' b=none) E s1) E s
  done:∀ (X:Cx),X.prog=P->X.w=w->X.K=K->X.calm=true->∀ (i:Nat) (pins:List (Addr×Obj)) (s:Shared) (σ:St) (H:Hp) (E:Value->Shared->Prop),Inv X pins σ H s->(∀ b∈fp,FpOk X pins H b)->tn i s.heap->J.stop i H->
    wpAny (model P w) X.A (pyNext (.ref it)) (fun r s1=>r=none/\Inv X pins σ H s1) E s
  self:∀ (A:Around) (i:Nat) (s:Shared) (Q:Value->Shared->Prop) (E:Value->Shared->Prop),tn i s.heap->Q (.ref it) s->wpAny (model P w) A (pyIter (.ref it)) Q E s
abbrev TI:=St->Hp->(It->Hp->Prop)->Prop
def PIE (X:Cx) (pins:List (Addr×Obj)) (σ:St) (tg:Expr) (R:It->Hp->Prop) (itv:Value) (s2:Shared):Prop:=
  ∃ (it:Addr) (fp:List Addr) (tn:Nat->Heap->Prop) (J:It) (H':Hp),itv=.ref it/\Inv X pins σ H' s2/\Turn X.prog X.w X.K tg J fp it tn/\tn 0 s2.heap/\(∀ b∈fp,FpOk X pins H' b)/\R J H'
def PI (X:Cx) (tg iter:Expr) (wi:TI):Prop:=
  ∀ (pins:List (Addr×Obj)) (s:Shared) (σ:St) (H:Hp) (R:It->Hp->Prop),Inv X pins σ H s->wi σ H R->
    wpAny (model X.prog X.w) X.A (eval iter X.env) (fun v s1=>wpAny (model X.prog X.w) X.A (pyIter v) (PIE X pins σ tg R) X.xe s1) X.xe s
theorem go_of {M:Model} {A:Around} {E:Value->Shared->Prop} {s:Shared} {tg:Expr} {it:Addr} {u:Value} {o:Obj} {n:String} {vs:Array Value} {Q:Unit->Shared->Prop} (ho:s.heap.get? it=some o) (hc:o.cls=.type n) (hd:o.data=.fields vs)
    (hn:["enumerate","zip","dict_itemiterator","dict_reverseitemiterator","odict_iterator","itertools.zip_longest","itertools.pairwise"].contains n=false) (hQ:Q () s):wpAny M A (letOwnedTupleGo tg (.ref it) u) Q E s:=by
  unfold letOwnedTupleGo
  cases tg <;> first
    | exact wpAny_pure hQ
    | (cases u <;> first
        | exact wpAny_pure hQ
        | (refine wpAny_bind (wpAny_load ho ?_)
           rw [hc,hd]
           show wpAny M A (if (["enumerate","zip","dict_itemiterator","dict_reverseitemiterator","odict_iterator","itertools.zip_longest","itertools.pairwise"].contains n && vs[0]? == some (rawInt _))=true then _ else _) Q E s
           rw [if_neg (by intro h; rw [hn,Bool.false_and] at h; cases h)]
           exact wpAny_pure hQ))
def Itl (K:PySem.W.Frag) (a:Addr):It:=
  ⟨fun i H=>∃ xs x,SqL K H a xs/\xs[i]?=some x,fun i H x H'=>H'=H/\∀ xs,SqL K H a xs->xs[i]?=some x,fun i H=>∃ xs,SqL K H a xs/\xs.length<=i⟩
def Itt (K:PySem.W.Frag) (a:Addr):It:=
  ⟨fun i H=>∃ xs x,SqT K H a xs/\xs[i]?=some x,fun i H x H'=>H'=H/\∀ xs,SqT K H a xs->xs[i]?=some x,fun i H=>∃ xs,SqT K H a xs/\xs.length<=i⟩
def Itr (lo:Int) (n:Nat):It:=⟨fun i _=>i < n,fun i H x H'=>H'=H/\x=.int (lo+i),fun i _=>n<=i⟩
theorem turn_list {P:Program} {w:World} {K:PySem.W.Frag} {tg:Expr} (a it:Addr):Turn P w K tg (Itl K a) [it] it (fun i h=>h.IsListIter it a i) where
  mem:=by simp
  obj:=fun i h st b hb=>by
    have e:b=it:=by simpa using hb
    subst e
    obtain⟨o,e,c,d⟩:=st
    exact⟨o,e,fun v z=>by rw [d] at z; cases z⟩
  keep:=fun i h h' st k=>st.at fun o e=>k it (by simp) o e
  item:=by
    intro X hP hw hK hc i pins s σ H E I hf st hg
    subst hP hw hK
    obtain⟨xs,x,hq,hx⟩:=hg
    obtain⟨its,rv,p,hz⟩:=I.list hq
    obtain⟨u,hu,ru⟩:=rv.get hx
    obtain⟨f0,f1,f2,f3,f4,f5⟩:=hf it (by simp)
    refine wpAny_pyNext_list_item st p.isList (x:=u) (by simpa using hu) fun h' st' sb=>?_
    have I1:Inv X pins σ H {s with heap:=h'}:=I.turned (t':=s.toks) (fun b o hb e=>(sb.2 b hb).trans e) f0 f1 f3 f4 f5
    obtain⟨o,e,c,d⟩:=id st'
    exact⟨u,rfl,go_of (s:={s with heap:=h'}) e c d (by decide) ⟨x,H,I1,ru,⟨rfl,fun ys hy=>by rw [I.list_inj hy hq]; exact hx⟩,st',fun b hb=>(hf b hb).1⟩⟩
  done:=by
    intro X hP hw hK hc i pins s σ H E I hf st hg
    subst hP hw hK
    obtain⟨xs,hq,hx⟩:=hg
    obtain⟨its,rv,p,hz⟩:=I.list hq
    obtain⟨f0,f1,f2,f3,f4,f5⟩:=hf it (by simp)
    have hl:=rv.length
    exact wpAny_pyNext_list_end (I.ok.hd hc) st p.isList (by simp; omega) fun h' eb=>⟨rfl,I.turned (t':=s.toks) (fun b o hb e=>eb b o hb e) f0 f1 f3 f4 f5⟩
  self:=fun _ _ _ _ _ st h=>wpAny_pyIter_listiter st h
theorem turn_tuple {P:Program} {w:World} {K:PySem.W.Frag} {tg:Expr} (a it:Addr):Turn P w K tg (Itt K a) [it] it (fun i h=>h.IsTupleIter it a i) where
  mem:=by simp
  obj:=fun i h st b hb=>by
    have e:b=it:=by simpa using hb
    subst e
    obtain⟨o,e,c,d⟩:=st
    exact⟨o,e,fun v z=>by rw [d] at z; cases z⟩
  keep:=fun i h h' st k=>st.at fun o e=>k it (by simp) o e
  item:=by
    intro X hP hw hK hc i pins s σ H E I hf st hg
    subst hP hw hK
    obtain⟨xs,x,hq,hx⟩:=hg
    obtain⟨its,rv,p,hz⟩:=I.tuple hq
    obtain⟨u,hu,ru⟩:=rv.get hx
    obtain⟨f0,f1,f2,f3,f4,f5⟩:=hf it (by simp)
    refine wpAny_pyNext_tuple_item st (show s.heap.IsTuple a its.toArray from p) (x:=u) (by simpa using hu) fun h' st' sb=>?_
    have I1:Inv X pins σ H {s with heap:=h'}:=I.turned (t':=s.toks) (fun b o hb e=>(sb.2 b hb).trans e) f0 f1 f3 f4 f5
    obtain⟨o,e,c,d⟩:=id st'
    exact⟨u,rfl,go_of (s:={s with heap:=h'}) e c d (by decide) ⟨x,H,I1,ru,⟨rfl,fun ys hy=>by rw [I.tuple_inj hy hq]; exact hx⟩,st',fun b hb=>(hf b hb).1⟩⟩
  done:=by
    intro X hP hw hK hc i pins s σ H E I hf st hg
    subst hP hw hK
    obtain⟨xs,hq,hx⟩:=hg
    obtain⟨its,rv,p,hz⟩:=I.tuple hq
    obtain⟨f0,f1,f2,f3,f4,f5⟩:=hf it (by simp)
    have hl:=rv.length
    exact wpAny_pyNext_tuple_end (I.ok.hd hc) st (show s.heap.IsTuple a its.toArray from p) (by simp; omega) fun h' eb=>⟨rfl,I.turned (t':=s.toks) (fun b o hb e=>eb b o hb e) f0 f1 f3 f4 f5⟩
  self:=fun _ _ _ _ _ st h=>wpAny_pyIter_tupleiter st h
theorem turn_range {P:Program} {w:World} {K:PySem.W.Frag} {tg:Expr} (it:Addr) (lo:Int) (n:Nat):Turn P w K tg (Itr lo n) [it] it (fun i h=>IsRangeIter h it (lo+(i:Nat)*1) ((n:Int) - (i:Nat)) 1) where
  mem:=by simp
  obj:=fun i h st b hb=>by
    have e:b=it:=by simpa using hb
    subst e
    exact⟨_,st,fun v z=>by
      have z':Data.fields _=Data.cell v:=z
      cases z'⟩
  keep:=fun i h h' st k=>k it (by simp) _ st
  item:=by
    intro X hP hw hK hc i pins s σ H E I hf st hg
    subst hP hw hK
    obtain⟨f0,f1,f2,f3,f4,f5⟩:=hf it (by simp)
    have W:=Walks.range (prog:=X.prog) (w:=X.w) (I.ok.hd hc) it lo 1 n
    refine W.item i s _ _ hg st fun v h' tk hv st' kk=>?_
    obtain⟨t,rfl⟩:=hv
    have I1:Inv X pins σ H {s with heap:=h',toks:=tk}:=I.turned (fun b o hb e=>kk b o (by simpa using hb) e) f0 f1 f3 f4 f5
    refine⟨_,rfl,go_of (s:={s with heap:=h',toks:=tk}) (n:="range_iterator") st' rfl rfl (by decide) ⟨.int (lo+i),H,I1,⟨t,?_⟩,⟨rfl,rfl⟩,st',fun b hb=>(hf b hb).1⟩⟩
    rw [Int.mul_one]
  done:=by
    intro X hP hw hK hc i pins s σ H E I hf st hg
    subst hP hw hK
    obtain⟨f0,f1,f2,f3,f4,f5⟩:=hf it (by simp)
    exact wpAny_pyNext_range_end (I.ok.hd hc) st (by have:n<=i:=hg; omega) fun h' eb=>⟨rfl,I.turned (t':=s.toks) (fun b o hb e=>eb b o hb e) f0 f1 f3 f4 f5⟩
  self:=fun _ _ _ _ _ st h=>wpAny_pyIter_rangeiter st h
section
variable {X:Cx} {tg:Expr}
theorem range_it {pins:List (Addr×Obj)} {σ:St} {H:Hp} {s:Shared} {R:It->Hp->Prop} {E:Value->Shared->Prop} {lo hi:Int} {t u v:Tok} {tk:Nat} (I:Inv X pins σ H s) (h1:-(2 ^ 62)<=lo) (h2:lo < 2 ^ 62) (h3:-(2 ^ 62)<=hi) (h4:hi < 2 ^ 62)
    (q:R (Itr lo (hi - lo).toNat) H):wpAny (model X.prog X.w) X.A (pyIter (.ref s.heap.objs.size)) (PIE X pins σ tg R) E {s with heap:=s.heap.push {cls:=.type "range",data:=.fields #[.int lo t,.int hi u,.int 1 v]},toks:=tk}:=by
  refine wpAny_pyIter_range (IsRange.new ..) (small_one h1 h2 h3 h4) ?_
  have I1:Inv X pins σ H {s with heap:=s.heap.push {cls:=.type "range",data:=.fields #[.int lo t,.int hi u,.int 1 v]},toks:=tk}:=I.kept fun b o e=>Heap.get?_push_of_some _ e
  refine⟨(s.heap.push {cls:=.type "range",data:=.fields #[.int lo t,.int hi u,.int 1 v]}).objs.size,[(s.heap.push {cls:=.type "range",data:=.fields #[.int lo t,.int hi u,.int 1 v]}).objs.size],_,_,H,rfl,
    I1.kept (t':=tk) fun b o e=>Heap.get?_push_of_some _ e,turn_range _ lo (hi - lo).toNat,?_,fun b hb=>?_,q⟩
  · have e1:lo+((0:Nat):Int)*1=lo:=by simp
    have e2:(((hi - lo).toNat:Nat):Int) - ((0:Nat):Int)=Builtin.Range.rangeSize lo hi 1:=by rw [rangeSize_one]; split <;> omega
    show IsRangeIter _ _ (lo+((0:Nat):Int)*1) ((((hi - lo).toNat:Nat):Int) - ((0:Nat):Int)) 1
    rw [e1,e2]
    exact Heap.get?_push_size _ rfl
  · have e:b=(s.heap.push {cls:=.type "range",data:=.fields #[.int lo t,.int hi u,.int 1 v]}).objs.size:=by simpa using hb
    subst e
    exact I1.fpOk (Nat.le_refl _) (I1.hok.fresh (Nat.le_refl _))
def iRng1 (ta:TA):TI:=fun σ H R=>ta σ H fun vs H1=>∃ j:Int,vs=[.int j]/\-(2 ^ 62)<=j/\j < 2 ^ 62/\R (Itr 0 j.toNat) H1
theorem pi_range1 {a:Expr} {ta:TA} {p pos:Pos} (hg:Gl X "range") (hm:X.mg "range"=none) (ha:PA X [a] ta) (hs:starEach [a] X.env=[(false,eval a X.env)]:=by rfl):PI X tg (.Call (.Name "range" p) [a] [] pos) (iRng1 ta):=by
  intro pins s σ H R I h
  refine Call_ (ld_blt I hg hm boot_range (PyProof.Rows.callWith_type1 (thn (ha pos pins s σ H _ I h) fun us s1 ⟨vs,H1,I1,r1,q1⟩=>?_) hs rfl))
  obtain⟨j,e,q1,q2,q⟩:=q1
  subst e
  cases r1 with
  | cons r rr=>
    cases rr
    obtain⟨t,rfl⟩:=r
    exact call_range_1 (range_it I1 (by omega) (by omega) q1 q2 (by simpa using q))
def tFor (wi:TI) (g:TG) (tb:TS):TS:=fun D σ H=>wi σ H fun J H1=>∃ W:Nat->Nat->St->Hp->Prop,(∃ m,W 0 m σ H1)/\∀ i m σ H,W i m σ H->
  (J.stop i H/\D.nx σ H)\/(J.go i H/\∃ N:St->Hp->Prop,(∀ σ' H',N σ' H'->∃ m',m' < m/\W (i+1) m' σ' H')/\∀ x H',J.yld i H x H'->g x σ H' fun σ2 H2=>tb {D with nx:=N,ct:=N,bk:=D.nx} σ2 H2)
def pinsAt (fp:List Addr) (h:Heap):List (Addr×Obj):=fp.filterMap fun b=>(h.get? b).map fun o=>(b,o)
theorem mem_pinsAt {fp:List Addr} {h:Heap} {b:Addr} {o:Obj} (hb:b∈fp) (e:h.get? b=some o):(b,o)∈pinsAt fp h:=List.mem_filterMap.mpr ⟨b,hb,by rw [e]; rfl⟩
theorem of_pinsAt {fp:List Addr} {h:Heap} {p:Addr×Obj} (hp:p∈pinsAt fp h):p.1∈fp/\h.get? p.1=some p.2:=by
  obtain⟨b,hb,e⟩:=List.mem_filterMap.mp hp
  cases q:h.get? b with
  | none=>rw [q] at e; cases e
  | some o=>
    rw [q] at e
    have e':(b,o)=p:=Option.some.inj e
    subst e'
    exact⟨hb,q⟩
theorem Inv.pinned {pins:List (Addr×Obj)} {σ:St} {H:Hp} {s:Shared} {fp:List Addr} (I:Inv X pins σ H s) (hf:∀ b∈fp,FpOk X pins H b) (ho:∀ b∈fp,∃ o,s.heap.get? b=some o/\∀ v,o.data≠.cell v):Inv X (pins++pinsAt fp s.heap) σ H s:=
  I.pins_of fun p hp=>(List.mem_append.mp hp).elim (fun z=>I.pin p (List.mem_append_right _ z)) fun z=>by
    obtain⟨hb,e⟩:=of_pinsAt z
    obtain⟨f0,f1,f2,_⟩:=hf p.1 hb
    obtain⟨o,e',d⟩:=ho p.1 hb
    rw [e] at e'; cases e'
    exact⟨e,f0,f1,f2,d⟩
theorem Inv.unpinned {pins pl:List (Addr×Obj)} {σ:St} {H:Hp} {s:Shared} (I:Inv X (pins++pl) σ H s):Inv X pins σ H s:=I.pins_of fun p hp=>I.pin p (List.mem_append_right _ (List.mem_append_left _ hp))
theorem ps_for {iter:Expr} {body:List Stmt} {wi:TI} {g:TG} {tb:TS} {pos:Pos} (hp:PassesOwn (model X.prog X.w) X.A X.env X.xe) (hc:X.calm=true) (hi:PI X tg iter wi) (hg:PG X tg g) (hb:PSs X body tb)
    (hs:∀ x,foldedSetIterable iter X.env x=pure x:=by intro _; rfl):PS X (.For tg iter body [] pos) (tFor wi g tb):=by
  intro pins s σ H D I h
  refine wpAny_For (thn (hi pins s σ H _ I h) fun v s1 h1=>thn h1 fun itv s2 h2=>?_) hs
  obtain⟨it,fp,tn,J,H2,e,I2,T,st2,f2,W,⟨m0,w0⟩,turn⟩:=h2
  subst e
  have stat:∀ {H':Hp},(∀ b∈fp,H' b=none)->∀ b∈fp,FpOk X pins H' b:=fun hn b hb=>⟨hn b hb,(f2 b hb).2⟩
  refine codeAny_forLoop_any (fun n s'=>∃ i σ' H',Inv X pins σ' H' s'/\tn i s'.heap/\(∀ b∈fp,H' b=none)/\W i n σ' H') ?_ m0 ⟨0,σ,H2,I2,st2,fun b hb=>(f2 b hb).1,w0⟩
  rintro n s3 ⟨i,σ3,H3,I3,st3,fr3,w3⟩
  rcases turn i n σ3 H3 w3 with ⟨stop,qn⟩ | ⟨go,N,hN,step⟩
  · refine wpAny_passesOwn hp (thn (T.done X rfl rfl rfl hc i pins s3 σ3 H3 X.xe I3 (stat fr3) st3 stop) fun r s4 ⟨hr,I4⟩=>?_)
    subst hr
    exact wpAny_execs_nil ⟨σ3,H3,I4,qn⟩
  · refine wpAny_passesOwn hp (thn (T.item X rfl rfl rfl hc i pins s3 σ3 H3 X.xe I3 (stat fr3) st3 go) fun r s4 ⟨u,hr,h4⟩=>?_)
    subst hr
    refine wpAny_passesOwn hp (thn h4 fun _ s5 ⟨x,H5,I5,r5,y5,st5,fr5⟩=>?_)
    have I5':=I5.pinned (stat fr5) (T.obj _ _ st5)
    refine wpAny_passesOwn hp (thn (hg _ s5 σ3 H5 x u _ I5' r5 (step x H5 y5)) fun _ s6 ⟨σ6,H6,I6,q6⟩=>?_)
    refine wpAny_passesOwn hp (thn (hb _ s6 σ6 H6 _ I6 q6) fun f s7 q7=>?_)
    have again:∀ {σ7:St} {H7:Hp},Inv X (pins++pinsAt fp s5.heap) σ7 H7 s7->N σ7 H7->∃ m,m < n/\∃ i σ' H',Inv X pins σ' H' s7/\tn i s7.heap/\(∀ b∈fp,H' b=none)/\W i m σ' H':=fun {σ7 H7} I7 n7=>by
      obtain⟨m',hm,w7⟩:=hN σ7 H7 n7
      refine⟨m',hm,i+1,σ7,H7,I7.unpinned,T.keep _ _ _ st5 fun b hb o e=>(I7.pin (b,o) (List.mem_append_right _ (List.mem_append_right _ (mem_pinsAt hb e)))).1,fun b hb=>?_,w7⟩
      obtain⟨o,e,d⟩:=T.obj _ _ st5 b hb
      exact(I7.pin (b,o) (List.mem_append_right _ (List.mem_append_right _ (mem_pinsAt hb e)))).2.1
    cases f with
    | next=>obtain⟨σ7,H7,I7,n7⟩:=q7; exact again I7 n7
    | cont=>obtain⟨σ7,H7,I7,n7⟩:=q7; exact again I7 n7
    | brk=>obtain⟨σ7,H7,I7,q7⟩:=q7; exact⟨σ7,H7,I7.unpinned,q7⟩
    | ret v=>obtain⟨x7,σ7,H7,I7,r7,q7⟩:=q7; exact⟨x7,σ7,H7,I7.unpinned,r7,q7⟩
end
abbrev R2:=V->V->Hp->VK->Prop
def OpR (X:Cx) (f:Value->Value->Sem Value) (r:R2):Prop:=
  ∀ (pins:List (Addr×Obj)) (s:Shared) (σ:St) (H:Hp) (x y:V) (v u:Value) (Q:VK),Inv X pins σ H s->RelV x v->RelV y u->r x y H Q->
    wpAny (model X.prog X.w) X.A (f v u) (EP X pins σ Q) X.xe s
def UnR (X:Cx) (f:Value->Sem Value) (r:V->Hp->VK->Prop):Prop:=
  ∀ (pins:List (Addr×Obj)) (s:Shared) (σ:St) (H:Hp) (x:V) (v:Value) (Q:VK),Inv X pins σ H s->RelV x v->r x H Q->
    wpAny (model X.prog X.w) X.A (f v) (EP X pins σ Q) X.xe s
def CallR (X:Cx) (f:Value) (r:List V->Hp->VK->Prop):Prop:=
  ∀ (pins:List (Addr×Obj)) (s:Shared) (σ:St) (H:Hp) (xs:List V) (us:List Value) (Q:VK),Inv X pins σ H s->Vals xs us->r xs H Q->
    wpAny (model X.prog X.w) X.A (call f us) (EP X pins σ Q) X.xe s
def tOp (r:R2) (ta tb:TE):TE:=fun σ H Q=>ta σ H fun x H1=>tb σ H1 fun y H2=>r x y H2 Q
def tUn (r:V->Hp->VK->Prop) (ta:TE):TE:=fun σ H Q=>ta σ H fun x H1=>r x H1 Q
def rI (C:Int->Int->Prop) (g:Int->Int->V):R2:=fun x y H Q=>∃ i j,x=.int i/\y=.int j/\C i j/\Q (g i j) H
def rI0 (g:Int->Int->V):R2:=fun x y H Q=>∃ i j,x=.int i/\y=.int j/\Q (g i j) H
def rU (g:Int->V):V->Hp->VK->Prop:=fun x H Q=>∃ i,x=.int i/\Q (g i) H
section
variable {X:Cx} {a b c:Expr} {ta tb tc:TE} {pos:Pos}
theorem binT (ha:PE X a ta) (hb:PE X b tb) {pins:List (Addr×Obj)} {s:Shared} {σ:St} {H:Hp} {R:V->V->Hp->Prop} (I:Inv X pins σ H s)
    (h:ta σ H fun x H1=>tb σ H1 fun y H2=>R x y H2) {Q:Value->Shared->Prop} {f:Value->Value->Sem Value}
    (hf:∀ v u s2 x y H2,Inv X pins σ H2 s2->RelV x v->RelV y u->R x y H2->wpAny (model X.prog X.w) X.A (f v u) Q X.xe s2):
    wpAny (model X.prog X.w) X.A (eval a X.env) (fun v s₁=>wpAny (model X.prog X.w) X.A (eval b X.env) (fun u s₂=>wpAny (model X.prog X.w) X.A (f v u) Q X.xe s₂) X.xe s₁) X.xe s:=by
  refine thn (ha pins s σ H _ I h) fun v s1 ⟨x,H1,I1,r1,q1⟩=>?_
  refine thn (hb pins s1 σ H1 _ I1 q1) fun u s2 ⟨y,H2,I2,r2,q2⟩=>?_
  exact hf v u s2 x y H2 I2 r1 r2 q2
theorem pe_op {op:Operator} {r:R2} (ho:OpR X (binaryOp op) r) (ha:PE X a ta) (hb:PE X b tb):PE X (.BinOp a op b pos) (tOp r ta tb):=by
  intro pins s σ H Q I h
  exact wpAny_BinOp (binT ha hb I h fun v u s2 x y H2 I2 rx ry q=>ho pins s2 σ H2 x y v u Q I2 rx ry q)
theorem pe_un {op:UnaryOp} {r:V->Hp->VK->Prop} (ho:UnR X (unaryOp op) r) (ha:PE X a ta):PE X (.UnaryOp op a pos) (tUn r ta):=by
  intro pins s σ H Q I h
  exact UnaryOp_ (thn (ha pins s σ H _ I h) fun v s1 ⟨x,H1,I1,r1,q1⟩=>ho pins s1 σ H1 x v Q I1 r1 q1)
theorem opI {f:Value->Value->Sem Value} {C:Int->Int->Prop} {g:Int->Int->Int}
    (rule:∀ (i j:Int) (t u:Tok) (s:Shared) (Q:Value->Shared->Prop) (E:Value->Shared->Prop),C i j->Q (.int (g i j) s.toks) {s with toks:=s.toks+1}->wpAny (model X.prog X.w) X.A (f (.int i t) (.int j u)) Q E s):
    OpR X f (rI C fun i j=>.int (g i j)):=by
  intro pins s σ H x y v u Q I rx ry h
  obtain⟨i,j,rfl,rfl,hc,q⟩:=h
  obtain⟨t,rfl⟩:=rx
  obtain⟨t',rfl⟩:=ry
  exact rule i j t t' s _ _ hc ⟨.int (g i j),H,I.tok _,⟨_,rfl⟩,q⟩
theorem opI0 {f:Value->Value->Sem Value} {g:Int->Int->Int}
    (rule:∀ (i j:Int) (t u:Tok) (s:Shared) (Q:Value->Shared->Prop) (E:Value->Shared->Prop),Q (.int (g i j) s.toks) {s with toks:=s.toks+1}->wpAny (model X.prog X.w) X.A (f (.int i t) (.int j u)) Q E s):
    OpR X f (rI0 fun i j=>.int (g i j)):=by
  intro pins s σ H x y v u Q I rx ry h
  obtain⟨i,j,rfl,rfl,q⟩:=h
  obtain⟨t,rfl⟩:=rx
  obtain⟨t',rfl⟩:=ry
  exact rule i j t t' s _ _ ⟨.int (g i j),H,I.tok _,⟨_,rfl⟩,q⟩
theorem opB0 {f:Value->Value->Sem Value} {g:Int->Int->Bool}
    (rule:∀ (i j:Int) (t u:Tok) (s:Shared) (Q:Value->Shared->Prop) (E:Value->Shared->Prop),Q (.bool (g i j)) s->wpAny (model X.prog X.w) X.A (f (.int i t) (.int j u)) Q E s):
    OpR X f (rI0 fun i j=>.bl (g i j)):=by
  intro pins s σ H x y v u Q I rx ry h
  obtain⟨i,j,rfl,rfl,q⟩:=h
  obtain⟨t,rfl⟩:=rx
  obtain⟨t',rfl⟩:=ry
  exact rule i j t t' s _ _ ⟨.bl (g i j),H,I,rfl,q⟩
def CPow (i j:Int):Prop:=0<=j/\j<=1000000/\i.natAbs < 2 ^ 64
theorem op_add:OpR X (binaryOp .Add) (rI0 fun i j=>.int (i+j)):=opI0 fun _ _ _ _ _ _ _ q=>add_int q
theorem op_sub:OpR X (binaryOp .Sub) (rI0 fun i j=>.int (i - j)):=opI0 fun _ _ _ _ _ _ _ q=>sub_int q
theorem op_modN:OpR X (binaryOp .Mod) (rI (fun _ j=>j≠0) fun i j=>.int (i.fmod j)):=opI fun _ _ _ _ _ _ _ hc q=>mod_int' hc q
theorem op_pow:OpR X (binaryOp .Pow) (rI CPow fun i j=>.int (i ^ j.toNat)):=opI fun _ _ _ _ _ _ _ hc q=>pow_int_small hc.1 hc.2.1 hc.2.2 q
theorem unI {f:Value->Sem Value} {g:Int->Int}
    (rule:∀ (i:Int) (t:Tok) (s:Shared) (Q:Value->Shared->Prop) (E:Value->Shared->Prop),Q (.int (g i) s.toks) {s with toks:=s.toks+1}->wpAny (model X.prog X.w) X.A (f (.int i t)) Q E s):
    UnR X f (rU fun i=>.int (g i)):=by
  intro pins s σ H x v Q I rx h
  obtain⟨i,rfl,q⟩:=h
  obtain⟨t,rfl⟩:=rx
  exact rule i t s _ _ ⟨.int (g i),H,I.tok _,⟨_,rfl⟩,q⟩
theorem un_neg:UnR X (unaryOp .USub) (rU fun i=>.int (-i)):=unI fun _ _ _ _ _ q=>neg_int q
end
def scal:V->V->Bool
  | .non,.non=>true | .non,.int _=>true | .int _,.non=>true | .non,.bl _=>true | .bl _,.non=>true | .non,.str _=>true | .str _,.non=>true
  | .int _,.int _=>true | .bl _,.bl _=>true | .str _,.str _=>true | .byt _,.byt _=>true
  | .int _,.str _=>true | .str _,.int _=>true | .bl _,.str _=>true | .str _,.bl _=>true
  | _,_=>false
def rEq:R2:=fun x y H Q=>scal x y=true/\Q (.bl (decide (x=y))) H
def rNe:R2:=fun x y H Q=>scal x y=true/\Q (.bl (!decide (x=y))) H
theorem dec_int {i j:Int}:decide (V.int i=V.int j)=(i == j):=by
  rw [Bool.eq_iff_iff]
  simp
theorem dec_bl {i j:Bool}:decide (V.bl i=V.bl j)=(i == j):=by
  rw [Bool.eq_iff_iff]
  simp
theorem dec_str {i j:Str}:decide (V.str i=V.str j)=(i == j):=by
  rw [Bool.eq_iff_iff]
  simp
theorem dec_byt {i j:Array UInt8}:decide (V.byt i=V.byt j)=(i.toList == j.toList):=by
  rw [Bool.eq_iff_iff]
  cases i
  cases j
  simp
section
variable {X:Cx} {a b c:Expr} {ta tb tc:TE} {pos:Pos}
theorem fin_bl {pins:List (Addr×Obj)} {σ:St} {H:Hp} {s:Shared} {Q:VK} {k k':Bool} (I:Inv X pins σ H s) (q:Q (.bl k) H) (e:k=k'):EP X pins σ Q (.bool k') s:=by
  subst e
  exact⟨.bl k,H,I,rfl,q⟩
theorem op_eq:OpR X (compareOp .Eq) rEq:=by
  intro pins s σ H x y v u Q I rx ry h
  obtain⟨hs,q⟩:=h
  cases x with
  | non=>
    cases rx
    cases y with
    | non=>cases ry; exact PySem.EqNone.eq_none_none (fin_bl I q (by simp))
    | bl j=>cases ry; exact PySem.EqNone.eq_none_bool (fin_bl I q (by simp))
    | int j=>obtain⟨t',rfl⟩:=ry; exact PySem.EqNone.eq_none_int (fin_bl I q (by simp))
    | str j=>obtain⟨t',rfl⟩:=ry; exact PySem.EqNone.eq_none_str (fin_bl I q (by simp))
    | _=>exact absurd (show false=true from hs) Bool.false_ne_true
  | bl i=>
    cases rx
    cases y with
    | non=>cases ry; exact PySem.EqNone.eq_bool_none (fin_bl I q (by simp))
    | bl j=>cases ry; exact eq_bool (fin_bl I q dec_bl)
    | str j=>obtain⟨t',rfl⟩:=ry; exact PySem.EqMixed.eq_bool_str (fin_bl I q (by simp))
    | _=>exact absurd (show false=true from hs) Bool.false_ne_true
  | int i=>
    obtain⟨t,rfl⟩:=rx
    cases y with
    | non=>cases ry; exact PySem.EqNone.eq_int_none (fin_bl I q (by simp))
    | int j=>obtain⟨t',rfl⟩:=ry; exact eq_int (fin_bl I q dec_int)
    | str j=>obtain⟨t',rfl⟩:=ry; exact PySem.EqMixed.eq_int_str (fin_bl I q (by simp))
    | _=>exact absurd (show false=true from hs) Bool.false_ne_true
  | str i=>
    obtain⟨t,rfl⟩:=rx
    cases y with
    | non=>cases ry; exact PySem.EqNone.eq_str_none (fin_bl I q (by simp))
    | bl j=>cases ry; exact PySem.EqMixed.eq_str_bool (fin_bl I q (by simp))
    | int j=>obtain⟨t',rfl⟩:=ry; exact PySem.EqMixed.eq_str_int (fin_bl I q (by simp))
    | str j=>obtain⟨t',rfl⟩:=ry; exact eq_str (fin_bl I q dec_str)
    | _=>exact absurd (show false=true from hs) Bool.false_ne_true
  | byt i=>
    obtain⟨t,rfl⟩:=rx
    cases y with
    | byt j=>obtain⟨t',rfl⟩:=ry; exact PySem.W.eq_bytes (fin_bl I q dec_byt)
    | _=>exact absurd (show false=true from hs) Bool.false_ne_true
  | _=>cases y <;> exact absurd (show false=true from hs) Bool.false_ne_true
theorem op_ne:OpR X (compareOp .NotEq) rNe:=by
  intro pins s σ H x y v u Q I rx ry h
  obtain⟨hs,q⟩:=h
  cases x with
  | non=>
    cases rx
    cases y with
    | non=>cases ry; exact PySem.EqNone.ne_none_none (fin_bl I q (by simp))
    | bl j=>cases ry; exact PySem.EqNone.ne_none_bool (fin_bl I q (by simp))
    | int j=>obtain⟨t',rfl⟩:=ry; exact PySem.EqNone.ne_none_int (fin_bl I q (by simp))
    | str j=>obtain⟨t',rfl⟩:=ry; exact PySem.EqNone.ne_none_str (fin_bl I q (by simp))
    | _=>exact absurd (show false=true from hs) Bool.false_ne_true
  | bl i=>
    cases rx
    cases y with
    | non=>cases ry; exact PySem.EqNone.ne_bool_none (fin_bl I q (by simp))
    | bl j=>cases ry; exact ne_bool (fin_bl I q (congrArg not dec_bl))
    | str j=>obtain⟨t',rfl⟩:=ry; exact PySem.EqMixed.ne_bool_str (fin_bl I q (by simp))
    | _=>exact absurd (show false=true from hs) Bool.false_ne_true
  | int i=>
    obtain⟨t,rfl⟩:=rx
    cases y with
    | non=>cases ry; exact PySem.EqNone.ne_int_none (fin_bl I q (by simp))
    | int j=>obtain⟨t',rfl⟩:=ry; exact ne_int (fin_bl I q (congrArg not dec_int))
    | str j=>obtain⟨t',rfl⟩:=ry; exact PySem.EqMixed.ne_int_str (fin_bl I q (by simp))
    | _=>exact absurd (show false=true from hs) Bool.false_ne_true
  | str i=>
    obtain⟨t,rfl⟩:=rx
    cases y with
    | non=>cases ry; exact PySem.EqNone.ne_str_none (fin_bl I q (by simp))
    | bl j=>cases ry; exact PySem.EqMixed.ne_str_bool (fin_bl I q (by simp))
    | int j=>obtain⟨t',rfl⟩:=ry; exact PySem.EqMixed.ne_str_int (fin_bl I q (by simp))
    | str j=>obtain⟨t',rfl⟩:=ry; exact ne_str (fin_bl I q (congrArg not dec_str))
    | _=>exact absurd (show false=true from hs) Bool.false_ne_true
  | byt i=>
    obtain⟨t,rfl⟩:=rx
    cases y with
    | byt j=>obtain⟨t',rfl⟩:=ry; exact PySem.W.ne_bytes (fin_bl I q (congrArg not dec_byt))
    | _=>exact absurd (show false=true from hs) Bool.false_ne_true
  | _=>cases y <;> exact absurd (show false=true from hs) Bool.false_ne_true
theorem op_lt:OpR X (compareOp .Lt) (rI0 fun i j=>.bl (decide (i < j))):=opB0 fun _ _ _ _ _ _ _ q=>lt_int q
theorem op_gt:OpR X (compareOp .Gt) (rI0 fun i j=>.bl (decide (j < i))):=opB0 fun _ _ _ _ _ _ _ q=>gt_int q
theorem op_ge:OpR X (compareOp .GtE) (rI0 fun i j=>.bl (decide (j<=i))):=opB0 fun _ _ _ _ _ _ _ q=>ge_int q
theorem nomark (b:Expr) {op:CmpOp} (h:op≠.In:=by decide) (h2:op≠.NotIn:=by decide):behindInMarks op b=false:=by
  have e1:(op == CmpOp.In)=false:=by cases op <;> first | rfl | exact absurd rfl h
  have e2:(op == CmpOp.NotIn)=false:=by cases op <;> first | rfl | exact absurd rfl h2
  cases b <;> simp [behindInMarks,e1,e2]
theorem pe_cmpR {op:CmpOp} {r:R2} (ho:OpR X (compareOp op) r) (ha:PE X a ta) (hb:PE X b tb) (hm:behindInMarks op b=false):PE X (.Compare a [op] [b] pos) (tOp r ta tb):=by
  intro pins s σ H Q I h
  exact wpAny_Compare1 (binT ha hb I h fun v u s2 x y H2 I2 rx ry q=>ho pins s2 σ H2 x y v u Q I2 rx ry q) hm
def tTest (t:TE):TT:=fun σ H Q=>t σ H fun x H'=>∃ k,x=.bl k/\Q k H'
theorem pt_cmpR {op:CmpOp} {r:R2} (ho:OpR X (compareOp op) r) (ha:PE X a ta) (hb:PE X b tb) (hm:behindInMarks op b=false):PT X (.Compare a [op] [b] pos) (tTest (tOp r ta tb)):=by
  intro pins s σ H Q I h
  refine wpAny_isTrue_Compare1 (thn (ha pins s σ H _ I h) fun v s1 ⟨x,H1,I1,r1,q1⟩=>thn (hb pins s1 σ H1 _ I1 q1) fun u s2 ⟨y,H2,I2,r2,q2⟩=>
    thn (ho pins s2 σ H2 x y v u _ I2 r1 r2 q2) fun c s3 ⟨z,H3,I3,r3,k,e,q3⟩=>?_) hm
  subst e
  cases r3
  exact wpAny_truthy_bool ⟨H3,I3,q3⟩
theorem line63:(sizeLine:Nat) < 2 ^ 63:=by rw [sizeLine_eq]; decide
theorem op_add_str:OpR X (binaryOp .Add) (fun x y H Q=>∃ i j,x=.str i/\y=.str j/\i.length+j.length<=sizeLine/\Q (.str (i++j)) H):=by
  intro pins s σ H x y v u Q I rx ry h
  obtain⟨i,j,rfl,rfl,hz,q⟩:=h
  obtain⟨t,rfl⟩:=rx
  obtain⟨t',rfl⟩:=ry
  exact add_str (fun t' tk=>⟨.str (i++j),H,I.tok _,⟨_,rfl⟩,q⟩) hz
theorem vals1 {x:V} {us:List Value} (r:Vals [x] us):∃ u,us=[u]/\RelV x u:=by
  cases r with
  | cons r1 r2=>cases r2; exact⟨_,rfl,r1⟩
theorem vals2 {x y:V} {us:List Value} (r:Vals [x,y] us):∃ u w',us=[u,w']/\RelV x u/\RelV y w':=by
  cases r with
  | cons r1 r2=>
    cases r2 with
    | cons r3 r4=>cases r4; exact⟨_,_,rfl,r1,r3⟩
theorem call_abs:CallR X (.builtin "abs") (fun xs H Q=>∃ i,xs=[.int i]/\Q (.int (if i < 0 then -i else i)) H):=by
  intro pins s σ H xs us Q I r h
  obtain⟨i,rfl,q⟩:=h
  obtain⟨u,rfl,t,rfl⟩:=vals1 r
  exact call_abs_int fun u tk=>⟨.int (if i < 0 then -i else i),H,I.tok _,⟨_,rfl⟩,q⟩
theorem call_max2 (hc:X.calm=true):CallR X (.builtin "max") (fun xs H Q=>∃ i j,xs=[.int i,.int j]/\Q (.int (if j > i then j else i)) H):=by
  intro pins s σ H xs us Q I r h
  obtain⟨i,j,rfl,q⟩:=h
  obtain⟨u,w',rfl,⟨t,rfl⟩,⟨t',rfl⟩⟩:=vals2 r
  refine max_two_ints (I.ok.hd hc) fun h' tk k=>⟨_,H,I.kept k,?_,q⟩
  by_cases hj:j > i
  · rw [if_pos hj,if_pos hj]; exact⟨_,rfl⟩
  · rw [if_neg hj,if_neg hj]; exact⟨_,rfl⟩
theorem call_min2 (hc:X.calm=true):CallR X (.builtin "min") (fun xs H Q=>∃ i j,xs=[.int i,.int j]/\Q (.int (if j < i then j else i)) H):=by
  intro pins s σ H xs us Q I r h
  obtain⟨i,j,rfl,q⟩:=h
  obtain⟨u,w',rfl,⟨t,rfl⟩,⟨t',rfl⟩⟩:=vals2 r
  refine min_two_ints (I.ok.hd hc) fun h' tk k=>⟨_,H,I.kept k,?_,q⟩
  by_cases hj:j < i
  · rw [if_pos hj,if_pos hj]; exact⟨_,rfl⟩
  · rw [if_neg hj,if_neg hj]; exact⟨_,rfl⟩
end
structure Room (k:Nat) (A:Around):Prop where
  hd:A.handled=none
  dp:A.depth+3*k+5 < recursionLimit
  un:A.units+16*k+200 < cLine
theorem Room.mono {j k:Nat} {A:Around} (r:Room k A) (h:j<=k):Room j A:=⟨r.hd,by have:=r.dp; omega,by have:=r.un; omega⟩
theorem Room.deeper {k:Nat} {A:Around} (r:Room (k+1) A) (env:Env):Room k (A.deeper env):=
  ⟨r.hd,by have:=r.dp; show A.depth+1+3*k+5 < _; omega,by have:=r.un; show A.units+3+16*k+200 < _; omega⟩
theorem Room.depth {k:Nat} {A:Around} (r:Room k A):A.depth < recursionLimit:=by have:=r.dp; omega
theorem Room.units {k:Nat} {A:Around} (r:Room k A):A.units+64 < cLine:=by have:=r.un; omega
def tNil:TA:=fun _ H Q=>Q [] H
def tCons (ta:TE) (tr:TA):TA:=fun σ H Q=>ta σ H fun x H1=>tr σ H1 fun xs H2=>Q (x::xs) H2
section
variable {X:Cx} {e:Expr} {es:List Expr} {te:TE} {t:TA} {pos:Pos}
theorem pa_nil:PA X [] tNil:=fun _ _ _ _ H Q I h=>Calls.spliced_nil ⟨[],H,I,.nil,h⟩
theorem pa_cons (ha:PE X e te) (hr:PA X es t) (hs:starEach (e::es) X.env=(false,eval e X.env)::starEach es X.env:=by rfl):PA X (e::es) (tCons te t):=by
  intro pos pins s σ H Q I h
  rw [hs]
  show wpAny _ _ (spliced ((false,eval e X.env)::backTo pos (starEach es X.env))) _ _ s
  refine Calls.spliced_cons (thn (ha pins s σ H _ I h) fun u s1 ⟨x,H1,I1,r1,q1⟩=>?_)
  exact thn (hr pos pins s1 σ H1 _ I1 q1) fun us s2 ⟨xs,H2,I2,r2,q2⟩=>⟨x::xs,H2,I2,.cons r1 r2,q2⟩
def tTup (t:TA):TE:=fun σ H Q=>t σ H fun xs H1=>xs.length<=sizeLine/\∀ p,H1 p=none->Q (.ref p) (upd H1 p (.tup xs))
def tLst (t:TA):TE:=fun σ H Q=>t σ H fun xs H1=>xs.length<=sizeLine/\∀ p,H1 p=none->Q (.ref p) (upd H1 p (.lst xs))
theorem pe_tup {x1} (h:PA X es t):PE X (.Tuple es x1 pos) (tTup t):=by
  intro pins s σ H Q I hq
  refine wpAny_Tuple_spliced (thn (h pos pins s σ H _ I hq) fun us s1 ⟨xs,H1,I1,r,z,q⟩=>⟨by rw [<- r.length]; exact z,?_⟩)
  have hf:H1 s1.heap.objs.size=none:=I1.hok.fresh (Nat.le_refl _)
  refine⟨.ref s1.heap.objs.size,upd H1 s1.heap.objs.size (.tup xs),I1.laid (t':=s1.toks) (fun b u e=>Heap.get?_push_of_some _ e) (Nat.le_refl _) ?_,rfl,q _ hf⟩
  exact⟨z,us,r,⟨_,Heap.get?_push_size _ rfl,rfl,_,rfl⟩⟩
theorem pe_lst (h:PA X es t):PE X (.List es pos) (tLst t):=by
  intro pins s σ H Q I hq
  refine wpAny_List_spliced (thn (h pos pins s σ H _ I hq) fun us s1 ⟨xs,H1,I1,r,z,q⟩=>⟨by rw [<- r.length]; exact z,?_⟩)
  have hf:H1 s1.heap.objs.size=none:=I1.hok.fresh (Nat.le_refl _)
  refine⟨.ref s1.heap.objs.size,upd H1 s1.heap.objs.size (.lst xs),I1.laid (t':=s1.toks) (fun b u e=>Heap.get?_push_of_some _ e) (Nat.le_refl _) ?_,rfl,q _ hf⟩
  exact⟨z,us,0,r,Heap.get?_push_size _ rfl⟩
end
abbrev Sp:=List V->Hp->VK->XK->Prop
abbrev CXT:=List Env->Hp->Shared->XK->Value->Shared->Prop
structure Env0 (P:Program) (w:World) (K:PySem.W.Frag) (mg:Str->Option Value) (base:Heap) (A:Around) (outer:List Env) (s:Shared) (H:Hp):Prop where
  frames:A.frames=some outer
  mod:Mod K mg base
  bs:∀ b o,base.get? b=some o->s.heap.get? b=some o/\H b=none
  bsz:base.objs.size<=s.heap.objs.size
  funs:s.heap.FunFrames base outer
  frf:∀ b∈frs outer,H b=none
  hok:HOk P w H s.heap
  bare:AllBare s.gens
def CE (outer:List Env) (P:Program) (w:World) (H:Hp) (s:Shared) (Q:VK) (u:Value) (s':Shared):Prop:=
  ∃ v H',s'.os=s.os/\AllBare s'.gens/\Un (frs outer) [] H H' s.heap s'.heap/\HOk P w H' s'.heap/\RelV v u/\Q v H'
def CR (CX:CXT) (outer:List Env) (P:Program) (w:World) (H:Hp) (s:Shared) (Q:VK) (E:XK) (r:Result) (s':Shared):Prop:=
  match r with
  | .ok (.ret u)=>CE outer P w H s Q u s'
  | .ok _=>False
  | .error e=>CX outer H s E e s'
structure FnOk (P:Program) (w:World) (K:PySem.W.Frag) (mg:Str->Option Value) (base:Heap) (CX:CXT) (k:Nat) (f:Addr) (fd:FuncData) (ps:List Str) (sp:Sp):Prop where
  len:∀ vs H Q E,sp vs H Q E->vs.length=ps.length
  run:∀ (A:Around) (outer:List Env) (s:Shared) (H:Hp) (args:Args) (us:List Value) (vs:List V) (Q:VK) (E:XK),Room k A->Env0 P w K mg base A outer s H->BindsTo s fd args (ps.zip us)->Vals vs us->sp vs H Q E->
    codeAny (model P w) A (.call (.ref f) args) (CR CX outer P w H s Q E) s
section
variable {X:Cx} {pins:List (Addr×Obj)} {σ:St} {H:Hp} {s s':Shared}
theorem Inv.env0 (I:Inv X pins σ H s):Env0 X.prog X.w X.K X.mg X.base X.A X.stack s H:=
  ⟨I.ok.frames,I.ok.mod,I.bs,Nat.le_trans I.ok.bsz I.sz,I.stack,I.stkFree,I.hok,I.bare⟩
theorem Inv.after {Q:VK} {u:Value} (I:Inv X pins σ H s) (h:CE X.stack X.prog X.w H s Q u s'):EP X pins σ Q u s':=by
  obtain⟨v,H',os,bare,un,hok,r,q⟩:=h
  obtain⟨hh,g,d,t,os'⟩:=s'
  obtain rfl:os'=s.os:=os
  exact⟨v,H',I.call (h':=hh) (g':=g) (d':=d) (t':=t) (ch:=[]) un hok bare (fun b z=>absurd z (by simp)),r,q⟩
end
def tCall (sp:Sp) (dvs:List V) (E:XK) (t:TA):TE:=fun σ H Q=>t σ H fun vs H1=>sp (vs++dvs) H1 Q E
def Binds (K:PySem.W.Frag) (fd:FuncData) (ps:List Str) (ds:List Value):Prop:=
  ∀ (s:Shared) (us:List Value),K.In s.heap->(us++ds).length=ps.length->BindsTo s fd ⟨us,[]⟩ (ps.zip (us++ds))
theorem Binds.all {K:PySem.W.Frag} {fd:FuncData} {ps:List Str} (h:∀ us:List Value,us.length=ps.length->bindArgs fd ⟨us,[]⟩=pure (ps.zip us)):Binds K fd ps []:=fun s us _ hl=>by
  rw [List.append_nil] at hl ⊢
  exact .of_eq (h us hl)
def Passes (CX:CXT) (X:Cx) (E:XK):Prop:=∀ (pins:List (Addr×Obj)) (σ:St) (H:Hp) (s:Shared) (e:Value) (s':Shared),Inv X pins σ H s->CX X.stack H s E e s'->X.xe e s'
section
variable {X:Cx} {CX:CXT} {k:Nat} {f C:Addr} {fd:FuncData} {ps:List Str} {sp:Sp} {dvs:List V} {ds:List Value} {E:XK} {x m:Str} {p pos apos:Pos} {e o:Expr} {es:List Expr} {ta:TE} {t:TA}
theorem run_fn {pins:List (Addr×Obj)} {σ:St} {H:Hp} {s:Shared} {Q:VK} {us:List Value} {vs:List V} (F:FnOk X.prog X.w X.K X.mg X.base CX k f fd ps sp) (hr:Room k X.A) (hb:Binds X.K fd ps ds) (hd:Vals dvs ds) (hx:Passes CX X E)
    (I:Inv X pins σ H s) (r:Vals vs us) (h:sp (vs++dvs) H Q E):wpAny (model X.prog X.w) X.A (call (.ref f) us) (EP X pins σ Q) X.xe s:=by
  have r2:Vals (vs++dvs) (us++ds):=r.append hd
  have hl:(us++ds).length=ps.length:=by rw [<- r2.length]; exact F.len _ _ _ _ h
  refine wpAny_call (codeAny_mono (F.run X.A X.stack s H ⟨us,[]⟩ (us++ds) (vs++dvs) Q E hr I.env0 (hb s us I.kIn hl) r2 h) fun r s' hq=>?_)
  cases r with
  | error e=>exact hx pins σ H s e s' I hq
  | ok fl=>
    cases fl with
    | ret u=>exact I.after hq
    | next=>exact False.elim hq
    | brk=>exact False.elim hq
    | cont=>exact False.elim hq
theorem pe_call (F:FnOk X.prog X.w X.K X.mg X.base CX k f fd ps sp) (hr:Room k X.A) (hg:Gl X x) (hm:X.mg x=some (.ref f)) (hk:PySem.W.keepIn X.K (.ref f)=true) (hb:Binds X.K fd ps ds) (hd:Vals dvs ds) (hx:Passes CX X E)
    (ha:PA X (e::es) t) (hdb:(x == ("__debug__":Str))=false:=by decide) (he:starEach (e::es) X.env=(false,eval e X.env)::starEach es X.env:=by rfl) (hpl:(backTo pos (starEach es X.env)).any (·.1)=false:=by rfl):
    PE X (.Call (.Name x p) (e::es) [] pos) (tCall sp dvs E t):=by
  intro pins s σ H Q I h
  refine wpAny_Call_Name_kw (ld_glob I hg hm ?_ hdb)
  refine PySem.W.callWith_K (h₀:=X.base) I.ok.mod.kin hk (thn (ha pos pins s σ H _ I h) fun us s1 ⟨vs,H1,I1,r,q⟩=>⟨I1.kIn,?_⟩) he hpl
  exact run_fn F hr hb hd hx I1 r q
end
structure FnScope (N P:List Str) (sc:Scope):Prop where
  kind:sc.kind=.function
  co:sc.isCoroutine=false
  gen:sc.isGenerator=false
  nd:N.Nodup
  pre:N.take P.length=P
  par:∀ x∈P,sc.names.lookup x=some .local\/sc.names.lookup x=some .cell
  nofree:∀ y∈sc.names,y.2≠.free
theorem bindL_out {kindOf:Str->Option NameKind} {x:Str}:∀ {binds:List (Str×Value)} {m:Str->Option Value},(∀ v,(x,v)∉binds)->bindL kindOf binds m x=m x
  | [],_,_=>rfl
  | (n,v)::r,m,h=>by
    unfold bindL
    rw [bindL_out fun w hw=>h w (List.mem_cons_of_mem _ hw)]
    split
    · have:x≠n:=by rintro rfl; exact h v List.mem_cons_self
      simp [this]
    · rfl
theorem bindC_out {kindOf:Str->Option NameKind} {x:Str}:∀ {binds:List (Str×Value)} {m:Str->Option Value},(∀ v,(x,v)∉binds)->bindC kindOf binds m x=m x
  | [],_,_=>rfl
  | (n,v)::r,m,h=>by
    unfold bindC
    rw [bindC_out fun w hw=>h w (List.mem_cons_of_mem _ hw)]
    split
    · rfl
    · have:x≠n:=by rintro rfl; exact h v List.mem_cons_self
      simp [this]
theorem bindL_get {kindOf:Str->Option NameKind} {x:Str} {v:Value}:∀ {P:List Str} {vs:List Value} {i:Nat} {m:Str->Option Value},P.Nodup->P[i]?=some x->vs[i]?=some v->kindOf x=some .local->
    bindL kindOf (P.zip vs) m x=some v
  | [],_,_,_,_,h,_,_=>by simp at h
  | _::_,[],_,_,_,_,h,_=>by simp at h
  | p::P,w::vs,0,m,nd,h1,h2,hk=>by
    simp at h1 h2; subst h1; subst h2
    show bindL kindOf ((p,w)::P.zip vs) m p=_
    unfold bindL
    rw [bindL_out fun v hv=>(List.nodup_cons.mp nd).1 (List.of_mem_zip hv).1,if_pos hk]
    simp
  | p::P,w::vs,i+1,m,nd,h1,h2,hk=>by
    show bindL kindOf ((p,w)::P.zip vs) m x=_
    unfold bindL
    exact bindL_get (i:=i) (List.nodup_cons.mp nd).2 (by simpa using h1) (by simpa using h2) hk
theorem bindC_get {kindOf:Str->Option NameKind} {x:Str} {v:Value}:∀ {P:List Str} {vs:List Value} {i:Nat} {m:Str->Option Value},P.Nodup->P[i]?=some x->vs[i]?=some v->kindOf x≠some .local->
    bindC kindOf (P.zip vs) m x=some v
  | [],_,_,_,_,h,_,_=>by simp at h
  | _::_,[],_,_,_,_,h,_=>by simp at h
  | p::P,w::vs,0,m,nd,h1,h2,hk=>by
    simp at h1 h2; subst h1; subst h2
    show bindC kindOf ((p,w)::P.zip vs) m p=_
    unfold bindC
    rw [bindC_out fun v hv=>(List.nodup_cons.mp nd).1 (List.of_mem_zip hv).1,if_neg hk]
    simp
  | p::P,w::vs,i+1,m,nd,h1,h2,hk=>by
    show bindC kindOf ((p,w)::P.zip vs) m x=_
    unfold bindC
    exact bindC_get (i:=i) (List.nodup_cons.mp nd).2 (by simpa using h1) (by simpa using h2) hk
def start (N:List Str) (vs:List V):St:=vs.map some++List.replicate (N.length - vs.length) none
def cxOf (CX:CXT) (P:Program) (w:World) (K:PySem.W.Frag) (mg:Str->Option Value) (base:Heap) (N:List Str) (qual:Str) (scope:Scope) (f:Addr) (cd:Value) (A:Around) (outer:List Env) (s:Shared) (H:Hp) (E:XK):Cx where
  prog:=P
  w:=w
  K:=K
  mg:=mg
  base:=base
  A:=A.deeper (envOfC qual scope s.heap.objs.size f cd)
  N:=N
  s₀:=s
  H₀:=H
  env:=envOfC qual scope s.heap.objs.size f cd
  outer:=outer
  stack:=envOfC qual scope s.heap.objs.size f cd::outer
  ex:=[]
  calm:=true
  fn:=fun _=>true
  pn:=[]
  xe:=fun e s'=>wpAny (model P w) (A.deeper (envOfC qual scope s.heap.objs.size f cd)) (leaving (envOfC qual scope s.heap.objs.size f cd) e) (fun _ s''=>CX outer H s E e s'') (fun e' s''=>CX outer H s E e' s'') s'
theorem cell_has {sc:Scope} {n:Nat} {x:Str} (h:sc.names.lookup x=some .cell):∃ c,(cellsFrom n sc.names []).lookup x=some c:=by
  have q:=PySem.W.cellsFrom_some sc.names n [] (.inl h)
  exact Option.isSome_iff_exists.mp q
theorem inv_start {CX:CXT} {P:Program} {w:World} {K:PySem.W.Frag} {mg:Str->Option Value} {base:Heap} {N ps:List Str} {qual:Str} {scope:Scope} {f:Addr} {cd:Value} {A:Around} {outer:List Env} {s s1:Shared} {H:Hp} {E:XK} {us:List Value} {vs:List V}
    (S:FnScope N ps scope) (hd:A.handled=none) (e0:Env0 P w K mg base A outer s H) (hl:vs.length=ps.length) (r:Vals vs us)
    (x:InCallC s s.heap.objs.size (bindL (envOfC qual scope s.heap.objs.size f cd).kindOf (ps.zip us) fun _=>none) (cellsFrom (s.heap.objs.size+1) scope.names []) (bindC (envOfC qual scope s.heap.objs.size f cd).kindOf (ps.zip us) fun _=>none) s1):
    Inv (cxOf CX P w K mg base N qual scope f cd A outer s H E) [] (start N vs) H s1:=by
  have hpl:ps.length<=N.length:=by have:=congrArg List.length S.pre; rw [List.length_take] at this; omega
  obtain⟨h1,tk,rfl,hk⟩:=x.done
  have noA:∀ b:Addr,b∉(cxOf CX P w K mg base N qual scope f cd A outer s H E).ex:=fun b z=>absurd (show b∈([]:List Addr) from z) (by simp)
  refine⟨⟨e0.mod,S.kind,rfl,rfl,Nat.le_refl _,fun y z c h1 h2=>?_,fun y hy=>?_,fun y c _ h=>?_,fun _=>hd,Around.frames_deeper e0.frames,.inr ⟨rfl,rfl⟩,fun b z=>absurd z (noA b),e0.bs,e0.bsz,fun b _ _=>noA b,fun b z=>absurd z (noA b),e0.funs,e0.frf⟩,
    rfl,e0.bare,Un.kept hk,⟨_,x.toInCall.ns,fun i y v h1 h2 h3=>?_⟩,fun y c h=>⟨_,x.cell y c h⟩,e0.hok.fresh (Nat.le_refl _),fun y c h=>?_,fun p hp=>absurd (show p∈([]:List (Addr×Obj)) from hp) (by simp),e0.hok.kept hk,?_⟩
  · exact name_of_addr x.apart (PySem.mem_of_lookup h1) (PySem.mem_of_lookup h2)
  · have hy:scope.names.lookup y=some .cell\/scope.names.lookup y=some .free:=hy
    rcases hy with hy | hy
    · exact cell_has hy
    · exact absurd rfl (S.nofree _ (PySem.mem_of_lookup hy))
  · exact Nat.le_of_lt (x.above y c (PySem.mem_of_lookup h))
  · have hi:i < vs.length:=by
      unfold start at h2
      by_cases hi:i < vs.length
      · exact hi
      · rw [List.getElem?_append_right (by simpa using hi)] at h2
        rw [List.getElem?_replicate] at h2
        split at h2 <;> cases h2
    have ha:vs[i]?=some v:=by
      unfold start at h2
      rw [List.getElem?_append_left (by simpa using hi),List.getElem?_map] at h2
      cases e:vs[i]? with
      | none=>rw [e] at h2; cases h2
      | some a=>rw [e] at h2; cases h2; rfl
    obtain⟨u,hu,rv⟩:=r.get ha
    have hp:ps[i]?=some y:=by
      rw [<- S.pre,List.getElem?_take_of_lt (by omega)]; exact h1
    have ndP:ps.Nodup:=by rw [<- S.pre]; exact S.nd.sublist (List.take_sublist _ _)
    refine⟨u,rv,?_⟩
    rcases S.par y (List.mem_of_getElem? hp) with k | k
    · exact .inl ⟨k,bindL_get ndP hp hu k⟩
    · obtain⟨c,e⟩:=cell_has (n:=s.heap.objs.size+1) k
      refine .inr ⟨.inl k,c,e,?_⟩
      have q:=x.cell y c e
      rw [bindC_get ndP hp hu (by show scope.names.lookup y≠_; rw [k]; decide)] at q
      exact q
  · exact e0.hok.fresh (Nat.le_of_lt (x.above y c (PySem.mem_of_lookup h)))
  · unfold start
    show _=N.length
    rw [List.length_append,List.length_map,List.length_replicate]
    omega
theorem fn_of {CX:CXT} {P:Program} {w:World} {K:PySem.W.Frag} {mg:Str->Option Value} {base:Heap} {k:Nat} {f:Addr} {name qual:Str} {params:Arguments} {body:List Stmt} {scope:Scope} {dV kV doc pm cdv ct oc:Value} {an od:Option Addr}
    {osl:Array (Option Value)} {N ps:List Str} {sp:Sp} (lk:K.lookup f=some ⟨oc,od,.func (PySem.W.fnOf name qual params body scope dV kV doc pm an cdv ct),osl⟩) (hcd:PySem.W.codeIn K cdv qual=true) (S:FnScope N ps scope)
    (len:∀ vs H Q E,sp vs H Q E->vs.length=ps.length)
    (hbody:∀ (A:Around) (outer:List Env) (s:Shared) (H:Hp) (vs:List V) (Q:VK) (E:XK),Room k (A.deeper (envOfC qual scope s.heap.objs.size f cdv))->sp vs H Q E->
      ∃ t,PSs (cxOf CX P w K mg base N qual scope f cdv A outer s H E) body t/\t {nx:=fun _ H'=>Q .non H',rt:=Q} (start N vs) H):
    FnOk P w K mg base CX (k+1) f (PySem.W.fnOf name qual params body scope dV kV doc pm an cdv ct) ps sp:=by
  refine⟨len,fun A outer s H args us vs Q E hr e0 hb r hsp=>?_⟩
  have hl:=len _ _ _ _ hsp
  have KX:K.In s.heap:=e0.mod.kin.keeps fun b o e=>(e0.bs b o e).1
  have lim:s.heap.NoLimit:=e0.mod.nolimit.keeps fun b o e=>(e0.bs b o e).1
  have hkind:∀ y∈ps.zip us,scope.names.lookup y.1=some .local\/(scope.names.lookup y.1=some .cell/\((cellsFrom (s.heap.objs.size+1) scope.names []).lookup y.1).isSome=true):=fun⟨n,v⟩ hy=>by
    rcases S.par n (List.of_mem_zip hy).1 with q | q
    · exact .inl q
    · exact .inr ⟨q,PySem.W.cellsFrom_some _ _ _ (.inl q)⟩
  refine codeAny_call_function hr.depth (KX _ _ lk) rfl S.co S.gen rfl (PySem.W.codeRec_of KX hcd) (hb _ _ _ _ ?_)
  refine wpAny_newFunctionEnv_cells S.kind hkind fun env he s1 x=>?_
  subst he
  refine⟨lim.keeps x.toInCall.keep,codeAny_func ?_⟩
  obtain⟨t,ht,hq⟩:=hbody A outer s H vs Q E (hr.deeper _) hsp
  have I:Inv (cxOf CX P w K mg base N qual scope f cdv A outer s H E) [] (start N vs) H s1:=inv_start S hr.hd e0 hl r x
  refine wpAny_mono (ht [] s1 (start N vs) H _ I hq) (fun fl s' hs=>?_) fun e s' hs=>hs
  have fin:∀ {σ':St} {H':Hp} {v:V} {u:Value},Inv (cxOf CX P w K mg base N qual scope f cdv A outer s H E) [] σ' H' s'->RelV v u->Q v H'->CE outer P w H s Q u s':=
    fun {σ' H' v u} J rv q=>⟨v,H',J.os,J.bare,J.base,J.hok,rv,q⟩
  cases fl with
  | ret u=>
    obtain⟨v,σ',H',J,rv,q⟩:=hs
    exact fin J rv q
  | next=>
    obtain⟨σ',H',J,q⟩:=hs
    exact fin (v:=V.non) (u:=Value.none) J rfl q
  | brk=>
    obtain⟨_,_,_,q⟩:=hs
    exact False.elim q
  | cont=>
    obtain⟨_,_,_,q⟩:=hs
    exact False.elim q
section
variable {X:Cx} {x:Str} {p pos:Pos} {e:Expr} {es:List Expr} {t:TA} {id T:String} {r:List V->Hp->VK->Prop}
def tCB (r:List V->Hp->VK->Prop) (t:TA):TE:=fun σ H Q=>t σ H fun vs H1=>r vs H1 Q
theorem pe_callB (hc:CallR X (.builtin id) r) (hg:Gl X x) (hm:X.mg x=none) (hv:bootBuiltins x=some (.builtin id)) (ha:PA X (e::es) t) (hn:x≠"__name__":=by decide) (hdb:(x == ("__debug__":Str))=false:=by decide)
    (he:starEach (e::es) X.env=(false,eval e X.env)::starEach es X.env:=by rfl) (hpl:(backTo pos (starEach es X.env)).any (·.1)=false:=by rfl):PE X (.Call (.Name x p) (e::es) [] pos) (tCB r t):=by
  intro pins s σ H Q I h
  refine wpAny_Call_Name_kw (ld_blt I hg hm hv ?_ hn hdb)
  exact PyProof.Rows.callWith_builtin1 (thn (ha pos pins s σ H _ I h) fun us s1 ⟨vs,H1,I1,r1,q1⟩=>hc pins s1 σ H1 vs us Q I1 r1 q1) he hpl
theorem pe_callTy (hc:CallR X (.type T) r) (hg:Gl X x) (hm:X.mg x=none) (hv:bootBuiltins x=some (.type T)) (ha:PA X (e::es) t) (hn:x≠"__name__":=by decide) (hdb:(x == ("__debug__":Str))=false:=by decide)
    (he:starEach (e::es) X.env=(false,eval e X.env)::starEach es X.env:=by rfl) (hpl:(backTo pos (starEach es X.env)).any (·.1)=false:=by rfl):PE X (.Call (.Name x p) (e::es) [] pos) (tCB r t):=by
  intro pins s σ H Q I h
  refine wpAny_Call_Name_kw (ld_blt I hg hm hv ?_ hn hdb)
  exact PyProof.Rows.callWith_type1 (thn (ha pos pins s σ H _ I h) fun us s1 ⟨vs,H1,I1,r1,q1⟩=>hc pins s1 σ H1 vs us Q I1 r1 q1) he hpl
end
end L2
namespace HT
open PySem PyProof.Rows
section
variable {prog:Program} {w:World} {A:Around} {E:Value->Shared->Prop} {s:Shared}
theorem cat_tup {t b:Addr} {vs ws:List Value} {Q:Value->Shared->Prop} (ht:IsTup s.heap t vs.toArray) (hb:IsTup s.heap b ws.toArray) (hv:vs≠[])
    (h1:ws=[]->Q (.ref t) s) (h2:ws≠[]->Q (.ref s.heap.objs.size) {s with heap:=s.heap.push {cls:=.type "tuple",data:=.seq (vs++ws).toArray}})
    (hsz:vs.length+ws.length<=sizeLine):wpAny (model prog w) A (binaryOp .Add (.ref t) (.ref b)) Q E s:=by
  obtain⟨⟨cls,dd,data,sl⟩,ho,hc,n,hd⟩:=id ht
  obtain⟨⟨cls2,dd2,data2,sl2⟩,ho2,hc2,n2,hd2⟩:=id hb
  simp only at hc hd hc2 hd2
  subst hc hd hc2 hd2
  have e:vs.toArray++ws.toArray=(vs++ws).toArray:=by simp
  by_cases hw:ws=[]
  · exact concat_meets ⟨_,ho,rfl⟩ ⟨_,ho2,rfl⟩ noFill_tuple_add seq_tuple_add PySem.F.slot_tuple_add PySem.F.entry_tuple_add (PySem.F.args_tuple_add_2 _ _)
      (tuple_addW1 t b vs.toArray ws.toArray n n2 dd dd2 sl sl2 (by simpa using hv) (by simp [hw])) ⟨ho,ho2,h1 hw⟩
  · refine concat_meets ⟨_,ho,rfl⟩ ⟨_,ho2,rfl⟩ noFill_tuple_add seq_tuple_add PySem.F.slot_tuple_add PySem.F.entry_tuple_add (PySem.F.args_tuple_add_2 _ _)
      (tuple_addW2 t b vs.toArray ws.toArray n n2 dd dd2 sl sl2 (by simpa using hv) (by simpa using hw) (by rw [List.size_toArray,List.size_toArray]; exact hsz)) ⟨ho,ho2,?_⟩
    rw [e]
    exact h2 hw
end
end HT
namespace L2
open PySem PySem.Spec PyProof.Rows
abbrev TO:=St->Hp->(Option Int->Hp->Prop)->Prop
section
variable {X:Cx} {e:Expr} {te:TE} {lo hi:Option Expr} {tl th:TO} {pos p2:Pos}
def rCatT (K:PySem.W.Frag):R2:=fun x y H Q=>∃ a b xs ys,x=.ref a/\y=.ref b/\SqT K H a xs/\SqT K H b ys/\xs≠[]/\xs.length+ys.length<=sizeLine/\
  (ys=[]->Q (.ref a) H)/\(ys≠[]->∀ p,H p=none->Q (.ref p) (upd H p (.tup (xs++ys))))
theorem Vals.nil_iff {xs:List V} {us:List Value} (r:Vals xs us):us=[]↔xs=[]:=by
  cases r with
  | nil=>simp
  | cons _ _=>simp
theorem op_catT:OpR X (binaryOp .Add) (rCatT X.K):=by
  intro pins s σ H x y v u Q I rx ry h
  obtain⟨a,b,xs,ys,rfl,rfl,ha,hb,hx,hz,q1,q2⟩:=h
  cases rx
  cases ry
  obtain⟨its,r1,p1,_⟩:=I.tuple ha
  obtain⟨its2,r2,p2,_⟩:=I.tuple hb
  refine HT.cat_tup p1 p2 (fun z=>hx (r1.nil_iff.mp z)) (fun z=>⟨.ref a,H,I,rfl,q1 (r2.nil_iff.mp z)⟩) (fun z=>?_) (by rw [<- r1.length,<- r2.length]; exact hz)
  refine⟨.ref s.heap.objs.size,_,I.laid (t':=s.toks) (o:=.tup (xs++ys)) (fun b ob q=>Heap.get?_push_of_some _ q) (Nat.le_refl _) ?_,rfl,q2 (fun w=>z (r2.nil_iff.mpr w)) _ (I.hok.fresh (Nat.le_refl _))⟩
  exact⟨by rw [List.length_append]; exact hz,_,r1.append r2,IsTup.new _ _⟩
end
def ixN (n:Nat) (i:Int):Option Nat:=if 0<=i then(if i < n then some i.toNat else none) else if -(n:Int)<=i then some (i+n).toNat else none
def atI {α:Type} (xs:List α) (i:Int):Option α:=(ixN xs.length i).bind fun j=>xs[j]?
theorem ixN_seq {n:Nat} {i:Int} {j:Nat} (h:ixN n i=some j):seqIndex? i n=some j/\j < n/\-(n:Int)<=i/\i < n:=by
  unfold ixN at h
  by_cases h0:0<=i
  · rw [if_pos h0] at h
    by_cases h1:i < n
    · rw [if_pos h1] at h
      have e:i.toNat=j:=Option.some.inj h
      exact⟨by rw [seqIndex_of h0 h1,e],by omega,by omega,h1⟩
    · rw [if_neg h1] at h; cases h
  · rw [if_neg h0] at h
    by_cases h1:-(n:Int)<=i
    · rw [if_pos h1] at h
      have e:(i+n).toNat=j:=Option.some.inj h
      exact⟨by rw [seqIndex_neg (by omega) h1,e],by omega,h1,by omega⟩
    · rw [if_neg h1] at h; cases h
theorem atI_get {α:Type} {xs:List α} {i:Int} {v:α} (h:atI xs i=some v):∃ j,seqIndex? i xs.length=some j/\xs[j]?=some v/\j < xs.length/\-(xs.length:Int)<=i/\i < xs.length:=by
  unfold atI at h
  cases e:ixN xs.length i with
  | none=>rw [e] at h; cases h
  | some j=>
    rw [e] at h
    obtain⟨h1,h2,h3,h4⟩:=ixN_seq e
    exact⟨j,h1,h,h2,h3,h4⟩
theorem atI_nat {α:Type} {xs:List α} {j:Nat} {v:α} (h:xs[j]?=some v):atI xs (j:Int)=some v:=by
  have hj:j < xs.length:=(List.getElem?_eq_some_iff.mp h).1
  have e:ixN xs.length (j:Int)=some j:=by
    unfold ixN
    rw [if_pos (by omega),if_pos (by omega)]; simp
  unfold atI; rw [e]; exact h
def PlainIx (b:Expr):Prop:=∀ o i,subscripted b false o i=operate [o,i] (getItem o i)
def IxR (X:Cx) (r:R2):Prop:=
  ∀ (value slice:Expr) (pins:List (Addr×Obj)) (s:Shared) (σ:St) (H:Hp) (x y:V) (v u:Value) (Q:VK),Inv X pins σ H s->RelV x v->RelV y u->r x y H Q->
    subscripted slice false v u=operate [v,u] (getItem v u)->wpAny (model X.prog X.w) X.A (subscriptTail value slice v u) (EP X pins σ Q) X.xe s
def MtR (X:Cx) (id:String) (r:V->List V->Hp->VK->Prop):Prop:=
  ∀ (pins:List (Addr×Obj)) (s:Shared) (σ:St) (H:Hp) (x:V) (xs:List V) (v:Value) (us:List Value) (Q:VK),Inv X pins σ H s->RelV x v->Vals xs us->r x xs H Q->
    wpAny (model X.prog X.w) X.A (call (.builtin id) (v::us)) (EP X pins σ Q) X.xe s
section
variable {X:Cx} {a b:Expr} {ta tb:TE} {pos:Pos}
theorem pe_ix {r:R2} (hr:IxR X r) (ha:PE X a ta) (hb:PE X b tb) (hs:PlainIx b):PE X (.Subscript a b pos) (tOp r ta tb):=by
  intro pins s σ H Q I h
  exact Subscript_ (binT ha hb I h fun v u s2 x y H2 I2 rx ry q=>hr a b pins s2 σ H2 x y v u Q I2 rx ry q (hs _ _))
def rIxL (K:PySem.W.Frag):R2:=fun x y H Q=>∃ p xs i v,x=.ref p/\y=.int i/\SqL K H p xs/\atI xs i=some v/\Q v H
def rIxT (K:PySem.W.Frag):R2:=fun x y H Q=>∃ p xs i v,x=.ref p/\y=.int i/\SqT K H p xs/\atI xs i=some v/\Q v H
theorem ix_list:IxR X (rIxL X.K):=by
  intro value slice pins s σ H x y v u Q I rx ry h hs
  obtain⟨p,xs,i,z,rfl,rfl,hq,he,q⟩:=h
  cases rx
  obtain⟨t,rfl⟩:=ry
  obtain⟨its,r,pl,hz⟩:=I.list hq
  obtain⟨j,h1,h2,h3,h4,h5⟩:=atI_get he
  obtain⟨w,ew,rw'⟩:=r.get h2
  have hl:=r.length
  have hn:=line63
  have fin:EP X pins σ Q w s:=⟨z,H,I,rw',q⟩
  by_cases h0:0<=i
  · have hj:i.toNat=j:=by
      rw [seqIndex_of h0 h5] at h1
      exact Option.some.inj h1
    exact item_listR pl.isList h0 (by omega) (by rw [hj]; simpa using ew) fin hs
  · have hj:(i+(its.toArray.size:Int)).toNat=j:=by
      rw [seqIndex_neg (by omega) h4] at h1
      rw [List.size_toArray,<- hl]
      exact Option.some.inj h1
    exact subscriptTail_builtinR (x:=w) pl.isList.typeIs slot_list_getitem.lookup
      (wpAny_getItem_list_neg (Q:=fun r s'=>r=w/\EP X pins σ Q r s') pl.isList (by omega) (by rw [List.size_toArray] <;> omega) (by omega) (by rw [hj]; simpa using ew) ⟨rfl,fin⟩) hs
theorem ix_tup:IxR X (rIxT X.K):=by
  intro value slice pins s σ H x y v u Q I rx ry h hs
  obtain⟨p,xs,i,z,rfl,rfl,hq,he,q⟩:=h
  cases rx
  obtain⟨t,rfl⟩:=ry
  obtain⟨its,r,pl,hz⟩:=I.tuple hq
  obtain⟨j,h1,h2,h3,h4,h5⟩:=atI_get he
  obtain⟨w,ew,rw'⟩:=r.get h2
  have hl:=r.length
  have hn:=line63
  have fin:EP X pins σ Q w s:=⟨z,H,I,rw',q⟩
  exact subscriptTail_builtinR (x:=w) pl.typeIs slot_tuple_getitem.lookup
    (getItem_tuple (j:=j) (Q:=fun r s'=>r=w/\EP X pins σ Q r s') pl (by omega) (by omega) (by rw [List.size_toArray,<- hl]; exact h1) (by simpa using ew) ⟨rfl,fin⟩) hs
theorem mapSeq_set (its:List Value) (n j:Nat) (u:Value):Obj.mapSeq (·.setIfInBounds j u) {cls:=.type "list",data:=.seq its.toArray n}={cls:=.type "list",data:=.seq (its.set j u).toArray n}:=by
  simp [Obj.mapSeq]
theorem Inv.lst {pins:List (Addr×Obj)} {σ:St} {H:Hp} {s:Shared} {p:Addr} {xs:List V} (I:Inv X pins σ H s) (h:H p=some (.lst xs)):
    ∃ (its:List Value) (n:Nat),Vals xs its/\s.heap.get? p=some {cls:=.type "list",data:=.seq its.toArray n}/\xs.length<=sizeLine:=by
  obtain⟨z,its,n,r,e⟩:=I.hok p _ h
  exact⟨its,n,r,e,z⟩
theorem Inv.lstUpd {pins:List (Addr×Obj)} {σ:St} {H:Hp} {s:Shared} {p:Addr} {xs ys:List V} {its its':List Value} {n n':Nat} {f:Obj->Obj} (I:Inv X pins σ H s) (h:H p=some (.lst xs))
    (ho:s.heap.get? p=some {cls:=.type "list",data:=.seq its.toArray n}) (hf:f {cls:=.type "list",data:=.seq its.toArray n}={cls:=.type "list",data:=.seq its'.toArray n'}) (r:Vals ys its') (hz:ys.length<=sizeLine) (t:Nat):
    Inv X pins σ (upd H p (.lst ys)) {s with heap:=s.heap.update p f,toks:=t}:=by
  have e:(s.heap.update p f).get? p=some {cls:=.type "list",data:=.seq its'.toArray n'}:=by
    rw [Heap.get?_update_self f ho (by rw [hf] <;> rfl),hf]
  refine I.write (x:=p) (e:=p) (by rw [h]; trivial) (.inl rfl) (fun b u hb q=>(Heap.get?_update_other _ _ (Ne.symm hb)).trans q) ⟨_,e⟩ ?_
  exact⟨hz,its',n',r,e⟩
def rSetL:V->V->V->Hp->(Hp->Prop)->Prop:=fun o i v H Q=>∃ p xs k j,o=.ref p/\i=.int k/\H p=some (.lst xs)/\ixN xs.length k=some j/\Q (upd H p (.lst (xs.set j v)))
theorem set_list:PSet X rSetL:=by
  intro pins s σ H o i v ov iv u Q I ro ri rv h
  obtain⟨p,xs,k,j,rfl,rfl,hp,hj,q⟩:=h
  cases ro
  obtain⟨t,rfl⟩:=ri
  obtain⟨its,n,r,ho,hz⟩:=I.lst hp
  obtain⟨h1,h2,h3,h4⟩:=ixN_seq hj
  have hl:=r.length
  have hn:=line63
  have I':Inv X pins σ (upd H p (.lst (xs.set j v))) {s with heap:=s.heap.update p (Obj.mapSeq (·.setIfInBounds j u))}:=
    I.lstUpd hp ho (mapSeq_set its n j u) (r.set rv j) (by rw [List.length_set]; exact hz) s.toks
  by_cases h0:0<=k
  · have hk:k.toNat=j:=by
      rw [seqIndex_of h0 h4] at h1
      exact Option.some.inj h1
    exact PySem.W.ki_setAt ho h0 (by omega) (by rw [List.size_toArray,<- hl]; exact h4) (by rw [hk]; exact⟨_,I',q⟩)
  · have hk:(k+(its.toArray.size:Int)).toNat=j:=by
      rw [seqIndex_neg (by omega) h3] at h1
      rw [List.size_toArray,<- hl]
      exact Option.some.inj h1
    exact PySem.W.ki_setBack ho (by omega) (by rw [List.size_toArray,<- hl]; exact h3) (by omega) (by rw [hk]; exact⟨_,I',q⟩)
theorem call_len_seq:CallR X (.builtin "len") (fun xs H Q=>∃ p ys,xs=[.ref p]/\(SqL X.K H p ys\/SqT X.K H p ys)/\Q (.int ys.length) H):=by
  intro pins s σ H xs us Q I r h
  obtain⟨p,ys,rfl,hq,q⟩:=h
  obtain⟨u,rfl,rx⟩:=vals1 r
  cases rx
  have hn:=line63
  rcases hq with hq | hq
  · obtain⟨its,r',pl,hz⟩:=I.list hq
    have hlen:=r'.length
    exact Calls.call_len_list pl.isList (by simp only [List.size_toArray] <;> omega) ⟨.int ys.length,H,I.tok _,⟨s.toks+1,by rw [List.size_toArray,hlen]⟩,q⟩
  · obtain⟨its,r',pl,hz⟩:=I.tuple hq
    have hlen:=r'.length
    exact len_tuple pl (by simp only [List.size_toArray] <;> omega) ⟨.int ys.length,H,I.tok _,⟨s.toks+1,by rw [List.size_toArray,hlen]⟩,q⟩
def tyV (K:PySem.W.Frag) (T:String) (x:V) (H:Hp):Prop:=match x with
  | .str _=>T="str"
  | .int _=>T="int"
  | .ref p=>(T="list"/\∃ xs,SqL K H p xs)\/(T="tuple"/\∃ o,K.lookup p=some o/\o.cls=.type "tuple"/\o.dict=none)\/
      (T="dict"/\((∃ kvs,H p=some (.dK kvs))\/∃ kvs,H p=some (.dT kvs)))\/(T="set"/\∃ S n,H p=some (.set S n))
  | _=>False
theorem tyV_is {pins:List (Addr×Obj)} {σ:St} {H:Hp} {s:Shared} {T:String} {x:V} {v:Value} (I:Inv X pins σ H s) (r:RelV x v) (ty:tyV X.K T x H):
    s.TypeIs v T/\∀ a,v=.ref a->∃ ob,s.heap.get? a=some ob/\ob.dict=none:=by
  cases x with
  | str z=>
    obtain⟨t,rfl⟩:=r
    cases (show T="str" from ty)
    exact⟨typeIs_str s z t,fun _ e=>nomatch e⟩
  | int i=>
    obtain⟨t,rfl⟩:=r
    cases (show T="int" from ty)
    exact⟨typeIs_int s i t,fun _ e=>nomatch e⟩
  | ref p=>
    cases r
    rcases ty with ⟨rfl,xs,hq⟩ | ⟨rfl,o,hk,hc,hd⟩ | ⟨rfl,hk⟩ | ⟨rfl,S,n,hk⟩
    · obtain⟨its,_,pl,_⟩:=I.list hq
      refine⟨pl.isList.typeIs,fun a e=>?_⟩
      cases e
      obtain⟨o,n,e,c,hd,_⟩:=pl
      exact⟨o,e,hd⟩
    · refine⟨⟨o,I.kIn p o hk,hc⟩,fun a e=>?_⟩
      cases e
      exact⟨o,I.kIn _ o hk,hd⟩
    · have z:∃ o,s.heap.get? p=some o/\o.ExactDict:=by
        rcases hk with ⟨kvs,hk⟩ | ⟨kvs,hk⟩
        · obtain⟨_,_,_,_,o,_,_,e,ex,_⟩:=I.hok p _ hk
          exact⟨o,e,ex⟩
        · obtain⟨_,_,_,_,o,_,_,e,ex,_⟩:=I.hok p _ hk
          exact⟨o,e,ex⟩
      obtain⟨o,e,ex⟩:=z
      refine⟨⟨o,e,ex.1⟩,fun a e2=>?_⟩
      cases e2
      exact⟨o,e,ex.2.1⟩
    · obtain⟨o,_,_,_,e,ex,_⟩:=I.hok p _ hk
      refine⟨⟨o,e,ex.1⟩,fun a e2=>?_⟩
      cases e2
      exact⟨o,e,ex.2.1⟩
  | _=>exact False.elim ty
def tBM (K:PySem.W.Frag) (T:String) (r:V->List V->Hp->VK->Prop) (to:TE) (t:TA):TE:=fun σ H Q=>to σ H fun x H1=>tyV K T x H1/\t σ H1 fun xs H2=>r x xs H2 Q
variable {o e:Expr} {es:List Expr} {to:TE} {t:TA} {name:Str} {apos cpos:Pos} {T id:String} {r:V->List V->Hp->VK->Prop}
theorem pe_bm (pa:PlainAttrs T) (slot:Slot T name id) (hty:typeOf (.builtin id)=pure (.type "method_descriptor")) (hm:MtR X id r) (ho:PE X o to) (ha:PA X (e::es) t)
    (hbase:attributeBase o name X.env (eval o X.env)=eval o X.env:=by rfl)
    (hfew:((backTo cpos (starEach (e::es) X.env)).all (fun x=>!x.1) && (backToKw cpos (keywordEach [] X.env)).all (fun x=>x.1.isSome)
      && decide ((e::es).length+([]:List Keyword).length+(if ([]:List Keyword).isEmpty then 0 else 1) < 30))=true:=by rfl)
    (hline:(apos.endLine == cpos.line)=true:=by rfl) (hs:starEach (e::es) X.env=(false,eval e X.env)::starEach es X.env:=by rfl) (hplain:(backTo cpos (starEach es X.env)).any (·.1)=false:=by rfl):
    PE X (.Call (.Attribute o name apos) (e::es) [] cpos) (tBM X.K T r to t):=by
  intro pins s σ H Q I h
  refine wpAny_Call_method_late hbase hfew hline rfl (thn (ho pins s σ H _ I h) fun v s1 ⟨x,H1,I1,r1,ty,q1⟩=>?_)
  obtain⟨h1,h2⟩:=tyV_is I1 r1 ty
  refine⟨T,id,pa,slot,hty,h1,h2,?_⟩
  have hA:=ha cpos pins s1 σ H1 _ I1 q1
  rw [hs] at hA ⊢
  refine Calls.callWith_builtin (by show(false || (backTo cpos (starEach es X.env)).any (·.1))=false; rw [hplain] <;> rfl) (Calls.evalArgs_plain ?_)
  exact thn hA fun us s2 ⟨vs,H2,I2,r2,q2⟩=>hm pins s2 σ H2 x vs v us Q I2 r1 r2 q2
end
def MtM (X:Cx) (id:String) (r:V->List V->Hp->VK->Prop):Prop:=
  ∀ (pins:List (Addr×Obj)) (s:Shared) (σ:St) (H:Hp) (x:V) (xs:List V) (v:Value) (us:List Value) (Q:VK),Inv X pins σ H s->RelV x v->Vals xs us->r x xs H Q->
    wpAny (model X.prog X.w) X.A (call (.builtin id) (v::us)) (EP X pins σ Q) X.xe s
theorem Vals.one:∀ {x:V} {us:List Value},Vals [x] us->∃ u,us=[u]/\RelV x u
  | _,_,.cons r .nil=>⟨_,rfl,r⟩
section
variable {X:Cx} {pins:List (Addr×Obj)} {σ:St} {H:Hp} {s:Shared} {l b:Addr} {xs ys zs:List V}
theorem Inv.lset {its its':List Value} {n:Nat} {f:Array Value->Array Value} {t':Nat} (I:Inv X pins σ H s) (hH:H l=some (.lst xs))
    (e:s.heap.get? l=some {cls:=.type "list",data:=.seq its.toArray n}) (hf:f its.toArray=its'.toArray) (hv:Vals ys its') (hz:ys.length<=sizeLine):
    Inv X pins σ (upd H l (.lst ys)) {s with heap:=s.heap.update l (Obj.mapSeq f),toks:=t'}:=by
  have q:=PySem.IsL.update e f
  rw [hf] at q
  refine I.write (x:=l) (e:=l) (by rw [hH]; exact trivial) (.inl rfl) (fun b' u hb hu=>(Heap.get?_update_other s.heap (Obj.mapSeq f) (Ne.symm hb)).trans hu) ⟨_,q⟩ ?_
  exact⟨hz,its',_,hv,q⟩
theorem Inv.lnew {its:List Value} {t':Nat} (I:Inv X pins σ H s) (hv:Vals ys its) (hz:ys.length<=sizeLine):
    Inv X pins σ (upd H s.heap.objs.size (.lst ys)) {s with heap:=s.heap.push {cls:=.type "list",data:=.seq its.toArray},toks:=t'}:=
  I.laid (fun _ _ q=>Heap.get?_push_of_some _ q) (Nat.le_refl _) ⟨hz,its,0,hv,Heap.get?_push_size _ rfl⟩
theorem Inv.fresh (I:Inv X pins σ H s):H s.heap.objs.size=none:=I.hok.fresh (Nat.le_refl _)
theorem Inv.lstM (I:Inv X pins σ H s) (hH:H l=some (.lst xs)):xs.length<=sizeLine/\∃ (its:List Value) (n:Nat),Vals xs its/\xs.length=its.length/\s.heap.get? l=some {cls:=.type "list",data:=.seq its.toArray n}:=by
  obtain⟨z,its,n,r,e⟩:=I.hok l _ hH
  exact⟨z,its,n,r,r.length,e⟩
end
section
variable {X:Cx}
def rAppend:V->List V->Hp->VK->Prop:=fun x vs H Q=>∃ l xs y,x=.ref l/\vs=[y]/\H l=some (.lst xs)/\xs.length < sizeLine/\Q .non (upd H l (.lst (xs++[y])))
theorem mt_append:MtM X "list.append" rAppend:=by
  intro pins s σ H x vs v us Q I rx rv h
  obtain⟨l,xs,y,rfl,rfl,hH,hz,q⟩:=h
  cases rx
  obtain⟨u,rfl,ru⟩:=rv.one
  obtain⟨z,its,n,r,hl,e⟩:=I.lstM hH
  refine call_meets F.slot_list_append ⟨_,e,rfl⟩ F.entry_list_append (F.args_list_append_2 _ _) (PySem.list_append l its.toArray n u (by rw [List.size_toArray]; omega)) ⟨e,?_⟩
  refine⟨.non,_,I.lset (its':=its++[u]) hH e (by simp) (r.append (.cons ru .nil)) ?_,rfl,q⟩
  rw [List.length_append,List.length_singleton]
  omega
def rCat:R2:=fun x y H Q=>∃ l b xs zs,x=.ref l/\y=.ref b/\H l=some (.lst xs)/\H b=some (.lst zs)/\xs.length+zs.length<=sizeLine/\∀ p,H p=none->Q (.ref p) (upd H p (.lst (xs++zs)))
theorem op_cat:OpR X (binaryOp .Add) rCat:=by
  intro pins s σ H x y v u Q I rx ry h
  obtain⟨l,b,xs,zs,rfl,rfl,hH,hB,hz,q⟩:=h
  cases rx
  cases ry
  obtain⟨z,its,n,r,hl,e⟩:=I.lstM hH
  obtain⟨z2,its2,n2,r2,hl2,e2⟩:=I.lstM hB
  refine PySem.P.add_list e e2 ?_ (by rw [List.size_toArray,List.size_toArray]; omega)
  have ea:its.toArray++its2.toArray=(its++its2).toArray:=by simp
  rw [ea]
  exact⟨.ref _,_,I.lnew (t':=s.toks) (r.append r2) (by rw [List.length_append]; omega),rfl,q _ I.fresh⟩
end
section
variable {X:Cx} {pins:List (Addr×Obj)} {σ:St} {H:Hp} {s:Shared} {a:Addr} {y v:V} {u r:Value} {o:Option V} {A:Around} {E:Value->Shared->Prop}
theorem Inv.big (I:Inv X pins σ H s):sysModules < s.heap.objs.size:=by
  have h:mainGlobals < s.heap.objs.size:=(I.mod.glob.keeps I.bk).lt
  exact Nat.lt_trans (by decide) h
theorem d_write {h':Heap} {t':Nat} {ob:HO} (I:Inv X pins σ H s) (mu:Mut (H a)) (hs:Heap.SameBut a s.heap h') (he:∃ q,h'.get? a=some q) (new:ObjOk X.prog X.w (upd H a ob) h' a ob):
    Inv X pins σ (upd H a ob) {s with heap:=h',toks:=t'}:=
  I.write (x:=a) (e:=a) mu (.inl rfl) (fun b q hb z=>(hs.2 b hb).trans z) he new
end
def NoSl (i:Expr):Prop:=∀ ov iv,subscripted i false ov iv=operate [ov,iv] (getItem ov iv)
theorem subD_of {prog:Program} {w:World} {A:Around} {E:Value->Shared->Prop} {s:Shared} {env:Env} {value slice:Expr} {pos:Pos} {T id:String} {Q:Value->Shared->Prop}
    (hl:typeLookup (.type T) "__getitem__"=pure (some (.builtin id))) (hs:NoSl slice)
    (h:wpAny (model prog w) A (eval value env) (fun o s₁=>wpAny (model prog w) A (eval slice env) (fun i s₂=>s₂.TypeIs o T/\wpAny (model prog w) A (getItem o i) Q E s₂) E s₁) E s):
    wpAny (model prog w) A (eval (.Subscript value slice pos) env) Q E s:=by
  refine Subscript_ (wpAny_mono h (fun o s₁ h₁=>wpAny_mono h₁ (fun i s₂ h₂=>?_) fun _ _ x=>x) fun _ _ x=>x)
  obtain⟨hT,h₂⟩:=h₂
  unfold subscriptTail
  refine wpAny_bind ?_
  rw [getitemInPython_of_ne hT.not_modules]
  refine wpAny_bind (wpAny_specialOf hT hl ?_)
  have fin:wpAny (model prog w) A (subscripted slice false o i) (fun r s₃=>wpAny (model prog w) A (letTemporaryGo value o r >>= fun _=>pure r) Q E s₃) E s₂:=by
    rw [hs o i]
    exact wpAny_operating (wpAny_mono h₂ (fun r s₃ h₃=>wpAny_bind (wpAny_letTemporaryGo (wpAny_pure h₃))) fun _ _ x=>x)
  first
    | exact wpAny_pure (wpAny_bind fin)
    | exact wpAny_bind (wpAny_pure (wpAny_bind fin))
    | exact wpAny_bind fin
abbrev VV:List (V×V)->List (Value×Value)->Prop:=Paired fun p q=>RelV p.1 q.1/\RelV p.2 q.2
structure M1 (X:Cx) (o:Expr) (m:Str) (apos:Pos) (e:Expr) (cpos:Pos):Prop where
  base:attributeBase o m X.env (eval o X.env)=eval o X.env
  few:((backTo cpos (starEach [e] X.env)).all (fun x=>!x.1) && (backToKw cpos (keywordEach [] X.env)).all (fun x=>x.1.isSome)
    && decide (([e]:List Expr).length+([]:List Keyword).length+(if ([]:List Keyword).isEmpty then 0 else 1) < 30))=true
  line:(apos.endLine == cpos.line)=true
  trees:backTo cpos (starEach [e] X.env)=[(false,eval e X.env)]
structure M2 (X:Cx) (o:Expr) (m:Str) (apos:Pos) (e f:Expr) (cpos:Pos):Prop where
  base:attributeBase o m X.env (eval o X.env)=eval o X.env
  few:((backTo cpos (starEach [e,f] X.env)).all (fun x=>!x.1) && (backToKw cpos (keywordEach [] X.env)).all (fun x=>x.1.isSome)
    && decide (([e,f]:List Expr).length+([]:List Keyword).length+(if ([]:List Keyword).isEmpty then 0 else 1) < 30))=true
  line:(apos.endLine == cpos.line)=true
  trees:backTo cpos (starEach [e,f] X.env)=[(false,eval e X.env),(false,eval f X.env)]
def IsD (H:Hp) (a:Addr):Prop:=(∃ kvs,Rd H a (.dK kvs))\/∃ kvs,Rd H a (.dT kvs)
end L2
namespace Att
open PySem PySem.W PySem.Calls PyProof.Rows
theorem ints_of_wellAll {P:Params} {h:Heap}:∀ (ns:List Int) (vs:List Value),WellAll P h vs (ns.map WData.int)->IntsAre vs ns:=by
  intro ns
  induction ns with
  | nil=>
    intro vs w
    rw [List.map_nil] at w
    cases w
    exact .nil
  | cons n ns ih=>
    intro vs w
    rw [List.map_cons] at w
    cases w with
    | cons a b=>
      cases a
      exact .cons _ _ (ih _ b)
theorem script_of {l:OpenLaw} {n:Nat} (hn:l.most=some n) {P:Params} {h:Heap} {args:List WData} {vals:List Value}
    (hpre:l.row.toRowW.claim.pre args=true) (hwl:WellAll P h vals args):
    ∃ a vs ns,vals=[Value.ref a]/\args=[WData.list (ns.map WData.int)]/\h.get? a=some {cls:=.type "list",data:=.seq vs.toArray}/\IntsAre vs ns/\ns.length<=n:=by
  have hsh:WShape.hasAll [] args [.list .int]=true:=(pre_splitW hpre).1
  have hc:l.pre.holds [] {args:=args}=true:=(pre_splitW hpre).2
  obtain⟨d,r,rfl,h1,h2⟩:=hasAllW_cons hsh
  obtain rfl:=hasAllW_nil h2
  obtain⟨xs,rfl,h3⟩:=hasW_list h1
  obtain⟨ns,rfl⟩:=items_int h3
  have hlen:ns.length<=n:=by
    unfold OpenLaw.pre at hc
    have h4:(WTm.not (.lt (.lit (.int (n:Int))) (.len (.arg 0)))).holds [] {args:=[.list (ns.map .int)]}=true:=by
      have h4:=(holds_andW hc).1
      rw [hn] at h4
      exact h4
    have h5:=condW_of h4 (w_not (w_lt w_lit (w_len_list (w_arg rfl))))
    rw [List.length_map] at h5
    refine Nat.le_of_not_lt fun q=>?_
    have q':(n:Int) < ((ns.length:Nat):Int):=by omega
    first
      | (rw [decide_eq_true q'] at h5; exact absurd h5 (by decide))
      | (simp at h5; omega)
  cases hwl with
  | cons w1 w2=>
    cases w2
    cases w1 with
    | list ho hall=>exact⟨_,_,ns,rfl,rfl,ho,ints_of_wellAll ns _ hall,hlen⟩
theorem post_true (l:OpenLaw) (args:List WData):l.row.toRowW.claim.post args (.bool true) args=true:=
  postW_of (r:=l.row.toRowW) (X:=(true == true))
    (show WShape.has [] (.bool true) .bool=true by first | rfl | decide | simp [WShape.has,WShape.arms,WShape.armsAll])
    (show (WTm.eq .res (.lit (.bool true))).value [] {args:=args,res:=some (.bool true),after:=args}=some (.bool (true == true)) from w_eq_bool (w_res rfl) w_lit) rfl
theorem attach_call {l:OpenLaw} {n:Nat} {q:Program} {loose:List Str} {XP:(Str->Option Value)->Heap->Prop} {YP:World->Heap->Prop} {d:DefRec}
    (hn:l.most=some n) (hdf:d.params.defaults=[])
    (call:∀ (w:World) (s₀ s₁:Shared) (mg mb:Str->Option Value) (fa:Addr) (o:Obj) (pm cd doc:Value) (a:Addr) (vs:List Value) (ns:List Int),
      Ground q loose [] XP w s₀ mg mb s₁.heap->YP w s₁.heap->
      s₁.heap.get? fa=some o->o.data=.func (docDef d.name d.params d.body d.scope pm cd doc)->s₁.heap.CodeRec cd d.name->mg d.name=some (.ref fa)->
      s₁.heap.get? a=some {cls:=.type "list",data:=.seq vs.toArray}->IntsAre vs ns->ns.length<=n->s₁.gens=#[]->
      codeAny (model l.prog w) callerA (.call (.ref fa) ⟨[.ref a],[]⟩) (fun r s'=>r=.ok (.ret (.bool true))/\OldK s₁.heap s'.heap/\s'.os=s₁.os/\AllBare s'.gens) s₁):
    WalkO q loose XP YP l.row.toRowW d [] (fun f vs=>PySem.call f vs):=by
  intro w s₀ s₁ mg mb G Y fa o pm cd doc dV kV ho hd hcd hD hmg hg args vals as hpre hlay hrd hwl hlo
  obtain rfl:dV=.none:=Dflts.none hD hdf
  obtain rfl:kV=.none:=Dflts.noKw hD
  obtain⟨a,vs,ns,rfl,rfl,hobj,hints,hlen⟩:=script_of hn hpre hwl
  refine enter_call (codeAny_mono (call w s₀ s₁ mg mb fa o pm cd doc a vs ns G Y ho (fd_plain hd) hcd hmg hobj hints hlen hg) fun r s' hq=>?_)
  obtain⟨rfl,h2,h3,h4⟩:=hq
  exact⟨.inl ⟨.bool true,.bool true,[],rfl,fun _=>rfl,.bool true,post_true l _,fun _=>⟨List.Pairwise.nil,fun _ hm=>(nomatch hm)⟩⟩,h2,h3,h4⟩
section
variable {prog:Program} {w:World} {A:Around} {E:Value->Shared->Prop} {s:Shared} {K:Frag}
def ledger (h:Heap) (L d:Addr):List (Addr×Obj):=(List.range h.objs.size).filterMap fun a=>if a=L\/a=d then none else(h.get? a).map fun o=>(a,o)
end
end Att
namespace L2
open PySem PySem.Spec PyProof.Rows
theorem vals_ints:∀ {vs:List Value} {ns:List Int},IntsAre vs ns->Vals (ns.map V.int) vs
  | _,_,.nil=>.nil
  | _,_,.cons n t h=>.cons ⟨t,rfl⟩ (vals_ints h)
def Only (H:Hp):Prop:=∀ b,H b=none\/∃ o xs,H b=some (.frz o (.lst xs))
theorem law_call {P:Program} {w:World} {K:PySem.W.Frag} {mg mb:Str->Option Value} {CX:CXT} {k:Nat} {fa a:Addr} {fd:FuncData} {x:Str} {sp:Sp} {s₁:Shared} {vs:List Value} {ns:List Int}
    (KX:K.In s₁.heap) (hns:s₁.heap.Ns mainGlobals mg) (hb:s₁.heap.Ns builtinsNs mb) (hbb:∀ x:Str,x≠"__name__"->mb x=bootBuiltins x) (hlim:s₁.heap.NoLimit) (hg:s₁.gens=#[])
    (ha:s₁.heap.get? a=some {cls:=.type "list",data:=.seq vs.toArray}) (hi:IntsAre vs ns) (hl:ns.length<=sizeLine) (hr:Room k callerA)
    (F:∀ base:Heap,K.In base->base.Ns mainGlobals mg->FnOk P w K mg base CX k fa fd [x] sp) (hbind:∀ (s:Shared) (u:Value),BindsTo s fd ⟨[u],[]⟩ [(x,u)])
    (hsp:∀ H:Hp,Only H->SqL K H a (ns.map V.int)->sp [.ref a] H (fun v _=>v=.bl true) fun _ _ _=>False)
    (hCX:∀ H e s',CX [] H s₁ (fun _ _ _=>False) e s'->False):
    codeAny (model P w) callerA (.call (.ref fa) ⟨[.ref a],[]⟩) (fun r s'=>r=.ok (.ret (.bool true))/\OldK s₁.heap s'.heap/\s'.os=s₁.os/\AllBare s'.gens) s₁:=by
  have rv:=vals_ints hi
  have lenV:=hi.length
  have core:∀ H:Hp,Only H->SqL K H a (ns.map V.int)->HOk P w H s₁.heap->(∀ b,H b≠none->b=a)->(H a≠none->K.lookup a=none)->
      codeAny (model P w) callerA (.call (.ref fa) ⟨[.ref a],[]⟩) (fun r s'=>r=.ok (.ret (.bool true))/\OldK s₁.heap s'.heap/\s'.os=s₁.os/\AllBare s'.gens) s₁:=by
    intro H hO hS hok hA hK
    have base_of:∀ {b:Addr} {o:Obj},s₁.heap.get? b=some o->H b=none->(hidT s₁.heap H).get? b=some o:=fun e n=>hidT_get e n
    have noA:∀ {b:Addr} {o:Obj} {es:Array DictEntry} {ep:Nat},s₁.heap.get? b=some o->o.data=.dict es ep->H b=none:=fun {b o es ep} e d=>by
      cases q:H b with
      | none=>rfl
      | some u=>
        have e':b=a:=hA b (by rw [q]; simp)
        subst e'
        rw [ha] at e; cases e
        have d':Data.seq vs.toArray _=Data.dict es ep:=d
        cases d'
    have nsK:∀ {b:Addr} {m:Str->Option Value},s₁.heap.Ns b m->(hidT s₁.heap H).Ns b m:=fun {b m} ⟨o,es,ep,e,d,r⟩=>⟨o,es,ep,base_of e (noA e d),d,r⟩
    have hKb:K.In (hidT s₁.heap H):=fun b o e=>base_of (KX b o e) (by
      cases q:H b with
      | none=>rfl
      | some u=>
        have e':b=a:=hA b (by rw [q]; simp)
        subst e'
        rw [hK (by rw [q]; simp)] at e; cases e)
    have hM:Mod K mg (hidT s₁.heap H):=⟨hKb,nsK hns,⟨mb,nsK hb,hbb⟩,let ⟨mc,h1,h2⟩:=hlim; ⟨mc,nsK h1,h2⟩⟩
    have e0:Env0 P w K mg (hidT s₁.heap H) callerA [] s₁ H:=⟨rfl,hM,fun b o e=>of_hidT e,Nat.le_of_eq (hidT_size _ _),trivial,fun b hb=>absurd (show b∈([]:List Addr) from hb) (by simp),hok,.of_eq hg⟩
    refine codeAny_mono ((F _ hKb (nsK hns)).run callerA [] s₁ H ⟨[.ref a],[]⟩ [.ref a] [.ref a] _ _ hr e0 (hbind s₁ (.ref a)) (.cons rfl .nil) (hsp H hO hS)) fun r s' h=>?_
    cases r with
    | error e=>exact(hCX H e s' h).elim
    | ok fl=>
      cases fl with
      | next=>exact False.elim h
      | brk=>exact False.elim h
      | cont=>exact False.elim h
      | ret u=>
        obtain⟨v,H',os,bare,un,hok',r',q⟩:=h
        have q':v=.bl true:=q
        subst q'
        obtain rfl:u=Value.bool true:=r'
        refine⟨rfl,OldK.of_keep fun b o e=>?_,os,bare⟩
        cases q:H b with
        | none=>exact un.keep b o e q (by intro z; exact absurd (show b∈([]:List Addr) from z) (by simp)) (by simp)
        | some u=>
          rcases hO b with z | ⟨ob,xs,z⟩
          · rw [q] at z; cases z
          · have z2:=un.frzs b ob _ z
            obtain⟨e1,_⟩:=hok b _ z
            obtain⟨e2,_⟩:=hok' b _ z2
            rw [e] at e1; cases e1
            exact e2
  cases hk:K.lookup a with
  | some o=>
    have e:=KX a o hk
    rw [ha] at e
    cases e
    refine core (fun _=>none) (fun _=>.inl rfl) (.inr ⟨_,vs.toArray,_,hk,rfl,rfl,rfl,by rw [List.size_toArray,lenV]; exact hl,by simpa using rv⟩) (fun b u z=>by have z':(none:Option HO)=some u:=z; cases z') (fun b z=>absurd rfl z) fun z=>absurd rfl z
  | none=>
    refine core (fun b=>if b=a then some (.frz {cls:=.type "list",data:=.seq vs.toArray} (.lst (ns.map V.int))) else none) (fun b=>?_) (.inl (.inr ⟨{cls:=.type "list",data:=.seq vs.toArray},if_pos rfl⟩)) (fun b u z=>?_) (fun b z=>?_) fun _=>hk
    · by_cases hb:b=a
      · exact .inr ⟨_,_,if_pos hb⟩
      · exact .inl (if_neg hb)
    · by_cases hb:b=a
      · have z':=(if_pos hb).symm.trans z
        cases z'
        subst hb
        exact⟨ha,by rw [List.length_map]; exact hl,vs,_,rv,ha⟩
      · have z':=(if_neg hb).symm.trans z
        cases z'
    · by_cases hb:b=a
      · exact hb
      · exact absurd (if_neg hb) z
abbrev KOf {K:PySem.W.Frag} {h:Heap} (_:K.In h):PySem.W.Frag:=K
theorem walk_of {l:PySem.W.OpenLaw} {n k:Nat} {q:Program} {loose:List Str} {XP:(Str->Option Value)->Heap->Prop} {YP:World->Heap->Prop} {d:DefRec} {K:Params->PySem.W.Frag} {CX:World->CXT} {sp:World->Sp} {x:Str}
    (hn:l.most=some n) (hn2:n<=sizeLine) (hdf:d.params.defaults=[]) (hr:Room k callerA)
    (hY:∀ (w:World) (h:Heap),YP w h->(K w.params).In h)
    (F:∀ (w:World) (mg:Str->Option Value) (fa:Addr) (h:Heap),(K w.params).In h->h.Ns mainGlobals mg->mg d.name=some (.ref fa)->
      ∃ fd:FuncData,(∀ (s:Shared) (u:Value),BindsTo s fd ⟨[u],[]⟩ [(x,u)])/\
        ∀ base:Heap,(K w.params).In base->base.Ns mainGlobals mg->FnOk l.prog w (K w.params) mg base (CX w) k fa fd [x] (sp w))
    (hsp:∀ (w:World) (H:Hp) (a:Addr) (ns:List Int),ns.length<=n->Only H->SqL (K w.params) H a (ns.map V.int)->sp w [.ref a] H (fun v _=>v=.bl true) fun _ _ _=>False)
    (hCX:∀ (w:World) (H:Hp) (s:Shared) (e:Value) (s':Shared),CX w [] H s (fun _ _ _=>False) e s'->False):
    PySem.W.WalkO q loose XP YP l.row.toRowW d [] (fun f vs=>PySem.call f vs):=by
  refine Att.attach_call hn hdf fun w s₀ s₁ mg mb fa o pm cd doc a vs ns G Y ho hd hcd hmg hobj hints hlen hg=>?_
  have KX:=hY w _ Y
  obtain⟨fd,hb,hF⟩:=F w mg fa _ KX G.T.g hmg
  exact law_call KX G.T.g G.T.b G.T.builtins G.T.nolimit hg hobj hints (Nat.le_trans hlen hn2) hr hF hb (fun H hO hS=>hsp w H a ns hlen hO hS) fun H e s'=>hCX w H s₁ e s'
def defArgs (s:Stmt):Arguments:=match s with
  | .FunctionDef _ a _ _ _ _ _ _ _ _=>a
  | _=>{posonlyargs:=[],args:=[],vararg:=none,kwonlyargs:=[],kw_defaults:=[],kwarg:=none,defaults:=[]}
def defBody (s:Stmt):List Stmt:=match s with
  | .FunctionDef _ _ b _ _ _ _ _ _ _=>b
  | _=>[]
def defScope (s:Stmt):Scope:=match s with
  | .FunctionDef _ _ _ _ _ _ sc _ _ _=>sc
  | _=>{kind:=.function,names:=[],isGenerator:=false,isCoroutine:=false}
abbrev CX0:CXT:=fun _ _ _ _ _ _=>False
abbrev E0:XK:=fun _ _ _=>False
theorem pass0 {X:Cx}:Passes CX0 X E0:=fun _ _ _ _ _ _ _ h=>h.elim
structure Fun (K:PySem.W.Frag) (x qual:Str) (st:Stmt) (f:Addr) (fd:FuncData):Prop where
  ex:∃ (oc:Value) (od:Option Addr) (kV doc pm:Value) (an:Option Addr) (cdv ct:Value) (osl:Array (Option Value)),
    fd=PySem.W.fnOf x qual (defArgs st) (defBody st) (defScope st) .none kV doc pm an cdv ct/\K.lookup f=some ⟨oc,od,.func fd,osl⟩/\PySem.W.codeIn K cdv qual=true
  kp:PySem.W.keepIn K (.ref f)=true
section
variable {P:Program} {w:World} {K:PySem.W.Frag} {mg:Str->Option Value} {base:Heap}
theorem Fun.ok {x qual:Str} {st:Stmt} {f:Addr} {fd:FuncData} {N ps:List Str} {k:Nat} {sp:Sp} (F:Fun K x qual st f fd) (S:FnScope N ps (defScope st)) (len:∀ vs H Q E,sp vs H Q E->vs.length=ps.length)
    (hbody:∀ (cdv:Value) (A:Around) (outer:List Env) (s:Shared) (H:Hp) (vs:List V) (Q:VK) (E:XK),Room k (A.deeper (envOfC qual (defScope st) s.heap.objs.size f cdv))->sp vs H Q E->
      ∃ t,PSs (cxOf CX0 P w K mg base N qual (defScope st) f cdv A outer s H E).nox (defBody st) t/\t {nx:=fun _ H'=>Q .non H',rt:=Q} (start N vs) H):FnOk P w K mg base CX0 (k+1) f fd ps sp:=by
  obtain⟨oc,od,kV,doc,pm,an,cdv,ct,osl,rfl,lk,hcd⟩:=F.ex
  refine fn_of lk hcd S len fun A outer s H vs Q E hr hsp=>?_
  obtain⟨t,h,q⟩:=hbody cdv A outer s H vs Q E hr hsp
  exact⟨t,h.nox,q⟩
theorem Fun.binds {x qual:Str} {st:Stmt} {f:Addr} {fd:FuncData} {ps:List Str} (F:Fun K x qual st f fd)
    (h:∀ (kV doc pm:Value) (an:Option Addr) (cdv ct:Value) (us:List Value),us.length=ps.length->bindArgs (PySem.W.fnOf x qual (defArgs st) (defBody st) (defScope st) .none kV doc pm an cdv ct) ⟨us,[]⟩=pure (ps.zip us)):Binds K fd ps []:=by
  obtain⟨oc,od,kV,doc,pm,an,cdv,ct,osl,rfl,lk,hcd⟩:=F.ex
  exact .all (h kV doc pm an cdv ct)
theorem fun_mk {x qual:Str} {st:Stmt} {f:Addr} {oc:Value} {od an:Option Addr} {osl:Array (Option Value)} {kV doc pm cdv ct:Value} (l:K.lookup f=some ⟨oc,od,.func (PySem.W.fnOf x qual (defArgs st) (defBody st) (defScope st) .none kV doc pm an cdv ct),osl⟩)
    (c:PySem.W.codeIn K cdv qual=true) (k:PySem.W.keepIn K (.ref f)=true):Fun K x qual st f (PySem.W.fnOf x qual (defArgs st) (defBody st) (defScope st) .none kV doc pm an cdv ct):=⟨⟨oc,od,kV,doc,pm,an,cdv,ct,osl,rfl,l,c⟩,k⟩
end
theorem iteF {A B:Prop} (h:B):if false=true then A else B:=by
  rw [if_neg Bool.false_ne_true]
  exact h
theorem iteT {A B:Prop} (h:A):if true=true then A else B:=by
  rw [if_pos rfl]
  exact h
end L2
set_option linter.all false
namespace HM
theorem gcd_fmod (a b:Int):Int.gcd b (a.fmod b)=Int.gcd a b:=by
  have h:=Int.gcd_sub_mul_right_right b a (a.fdiv b)
  rw [Int.fmod_def,Int.mul_comm b,h,Int.gcd_comm]
theorem fmod_lt (a b:Int) (h:b≠0):(a.fmod b).natAbs < b.natAbs:=by
  rcases Int.lt_or_gt_of_ne h with hb | hb
  · have e:a.fmod b=-((-a).fmod (-b)):=by rw [Int.neg_fmod_neg,Int.neg_neg]
    have h1:=Int.fmod_nonneg_of_pos (-a) (show 0 < -b by omega)
    have h2:=Int.fmod_lt_of_pos (-a) (show 0 < -b by omega)
    omega
  · have h1:=Int.fmod_nonneg_of_pos a hb
    have h2:=Int.fmod_lt_of_pos a hb
    omega
theorem gcd_zero (a:Int):((Int.gcd a 0:Nat):Int)=if a < 0 then -a else a:=by
  rw [Int.gcd_zero_right]
  split <;> omega
def shr (t b:Int):Int:=if b < 0 then -((Int.gcd t b:Nat):Int) else((Int.gcd t b:Nat):Int)
theorem shr_ne {t b:Int} (h:b≠0):shr t b≠0:=by
  have h1:Int.gcd t b≠0:=fun e=>h (Int.gcd_eq_zero_iff.mp e).2
  unfold shr
  split <;> omega
theorem div_num {t b:Int} (h:b≠0):t.fdiv (shr t b)=(Rat.divInt t b).num:=by
  have hg:((Int.gcd t b:Nat):Int) ∣ t:=Int.gcd_dvd_left t b
  rw [Rat.num_divInt,Int.gcd_comm b t]
  unfold shr
  rcases Int.lt_or_gt_of_ne h with hb | hb
  · rw [if_pos hb,Int.sign_eq_neg_one_of_neg hb,Int.fdiv_eq_ediv_of_dvd (Int.neg_dvd.mpr hg),Int.ediv_neg,Int.neg_mul,Int.one_mul,Int.neg_ediv_of_dvd hg]
  · rw [if_neg (by omega),Int.sign_eq_one_of_pos hb,Int.fdiv_eq_ediv_of_dvd hg,Int.one_mul]
theorem div_den {t b:Int} (h:b≠0):b.fdiv (shr t b)=((Rat.divInt t b).den:Int):=by
  have hg:((Int.gcd t b:Nat):Int) ∣ b:=Int.gcd_dvd_right t b
  rw [Rat.den_divInt,Int.gcd_comm b t,if_neg h]
  unfold shr
  rcases Int.lt_or_gt_of_ne h with hb | hb
  · rw [if_pos hb,Int.fdiv_eq_ediv_of_dvd (Int.neg_dvd.mpr hg),Int.ediv_neg,Int.natCast_ediv]
    rw [show ((b.natAbs:Nat):Int)=-b by omega,Int.neg_ediv_of_dvd hg]
  · rw [if_neg (by omega),Int.fdiv_eq_ediv_of_dvd hg,Int.natCast_ediv]
    rw [show ((b.natAbs:Nat):Int)=b by omega]
theorem add_of (a b:Rat):Rat.divInt (a.num*b.den+b.num*a.den) (a.den*b.den)=a+b:=by
  rw [Rat.add_def',Rat.mkRat_eq_div,Rat.divInt_eq_div]; simp [Rat.intCast_natCast]
theorem sub_of (a b:Rat):Rat.divInt (a.num*b.den - b.num*a.den) (a.den*b.den)=a - b:=by
  rw [Rat.sub_def',Rat.mkRat_eq_div,Rat.divInt_eq_div]; simp [Rat.intCast_natCast]
theorem mul_of (a b:Rat):Rat.divInt (a.num*b.num) (a.den*b.den)=a*b:=by
  rw [Rat.mul_def',Rat.mkRat_eq_div,Rat.divInt_eq_div]; simp [Rat.intCast_natCast]
def Bt (n:Nat) (x:Int):Prop:=x.natAbs < 2 ^ n
theorem two_pow_le {m n:Nat} (h:m<=n):2 ^ m<=2 ^ n:=Nat.pow_le_pow_right (by decide) h
theorem Bt.mono {m n:Nat} {x:Int} (h:Bt m x) (hm:m<=n):Bt n x:=Nat.lt_of_lt_of_le h (two_pow_le hm)
theorem Bt.mul {m n:Nat} {x y:Int} (hx:Bt m x) (hy:Bt n y):Bt (m+n) (x*y):=by
  unfold Bt at*
  rw [Int.natAbs_mul,Nat.pow_add]
  exact Nat.mul_lt_mul'' hx hy
theorem Bt.add {m n:Nat} {x y:Int} (hx:Bt m x) (hy:Bt n y):Bt (max m n+1) (x+y):=by
  have h1:=hx.mono (Nat.le_max_left m n)
  have h2:=hy.mono (Nat.le_max_right m n)
  unfold Bt at*
  have:=Int.natAbs_add_le x y
  rw [Nat.pow_succ]
  omega
theorem Bt.neg {m:Nat} {x:Int} (hx:Bt m x):Bt m (-x):=by unfold Bt at *; omega
theorem Bt.sub {m n:Nat} {x y:Int} (hx:Bt m x) (hy:Bt n y):Bt (max m n+1) (x - y):=by
  rw [Int.sub_eq_add_neg]; exact hx.add hy.neg
theorem Bt.le {m:Nat} {x y:Int} (hx:Bt m x) (h:y.natAbs<=x.natAbs):Bt m y:=Nat.lt_of_le_of_lt h hx
structure Sz (n:Nat) (q:Rat):Prop where
  num:Bt n q.num
  den:Bt n q.den
theorem Sz.mono {m n:Nat} {q:Rat} (h:Sz m q) (hm:m<=n):Sz n q:=⟨h.num.mono hm,h.den.mono hm⟩
theorem natAbs_fdiv_le:∀ a b:Int,(a.fdiv b).natAbs<=a.natAbs
  | .ofNat 0,b=>by
    have e:Int.fdiv (.ofNat 0) b=0:=Int.zero_fdiv b
    rw [e]; exact Nat.zero_le _
  | .ofNat (k+1),.ofNat j=>Nat.div_le_self (k+1) j
  | .ofNat (k+1),.negSucc j=>Nat.succ_le_succ (Nat.div_le_self k (j+1))
  | .negSucc _,.ofNat 0=>Nat.zero_le _
  | .negSucc k,.ofNat (j+1)=>Nat.succ_le_succ (Nat.div_le_self k (j+1))
  | .negSucc k,.negSucc j=>Nat.div_le_self (k+1) (j+1)
theorem Sz.divInt {n:Nat} {t b:Int} (ht:Bt n t) (hb:Bt n b) (h:b≠0):Sz n (Rat.divInt t b):=
  ⟨by rw [<- div_num h]; exact ht.le (natAbs_fdiv_le _ _),by rw [<- div_den h]; exact hb.le (natAbs_fdiv_le _ _)⟩
theorem den_ne (q:Rat):(q.den:Int)≠0:=by have:=q.den_nz; omega
theorem den_mul_ne (p q:Rat):(p.den:Int)*q.den≠0:=Int.mul_ne_zero (den_ne p) (den_ne q)
theorem Sz.add {m n:Nat} {a b:Rat} (ha:Sz m a) (hb:Sz n b):Sz (m+n+1) (a+b):=by
  rw [<- add_of]
  refine .divInt ?_ ?_ (den_mul_ne a b)
  · exact((ha.num.mul hb.den).add (hb.num.mul ha.den)).mono (by omega)
  · exact(ha.den.mul hb.den).mono (by omega)
theorem Sz.sub {m n:Nat} {a b:Rat} (ha:Sz m a) (hb:Sz n b):Sz (m+n+1) (a - b):=by
  rw [<- sub_of]
  refine .divInt ?_ ?_ (den_mul_ne a b)
  · exact((ha.num.mul hb.den).sub (hb.num.mul ha.den)).mono (by omega)
  · exact(ha.den.mul hb.den).mono (by omega)
theorem Sz.mul {m n:Nat} {a b:Rat} (ha:Sz m a) (hb:Sz n b):Sz (m+n) (a*b):=by
  rw [<- mul_of]
  exact .divInt (ha.num.mul hb.num) (ha.den.mul hb.den) (den_mul_ne a b)
theorem Sz.neg {m:Nat} {a:Rat} (ha:Sz m a):Sz m (-a):=⟨by rw [Rat.neg_num]; exact ha.num.neg,by rw [Rat.neg_den]; exact ha.den⟩
abbrev absI (a:Int):Int:=if a < 0 then -a else a
theorem absI_nn (a:Int):0<=absI a:=by unfold absI; split <;> omega
def ab (b:Rat):Rat:=if b < 0 then -b else b
def ss (b:Rat):Rat:=b*ab b
def sg (p q:Rat):Rat:=if q < 0 then -p else p
def sgR (q:Rat):Int:=if 0 < q then 1 else if q < 0 then -1 else 0
def sq2 (a b u:Rat):Int:=if 0 < a*a - b*b*u then sgR a else sgR b
def pick (b d:Rat):Rat:=if b=0 then d else b
end HM
namespace L2
open PySem PySem.Spec PyProof.Rows
theorem compTurn_if0 (elt target iter:Expr) (scope:Scope) (pos:Pos) (it acc:Value) (env:Env):
    compTurn (.ListComp elt [⟨target,iter,[],0⟩] scope pos) 0 it acc env=(standAt iter.pos >>= fun _=>pyNext it >>= fun r=>match r with
      | none=>pure (.done .next)
      | some v=>letOwnedTupleGo target it v >>= fun _=>assign target env v >>= fun _=>
        (eval elt env >>= fun x=>call (.builtin "list.append") [acc,x] >>= fun _=>pure ()) >>= fun _=>
          again (.compLoop (.ListComp elt [⟨target,iter,[],0⟩] scope pos) 0 it acc env)):=by rfl
section
variable {prog:Program} {w:World} {A:Around} {R:Result->Shared->Prop} {s:Shared}
abbrev NoE:Value->Shared->Prop:=fun _ _=>False
theorem noE {α:Type} {M:Model} {A:Around} {t:Sem α} {Q:α->Shared->Prop} {E:Value->Shared->Prop} {s:Shared} (h:wpAny M A t Q NoE s):wpAny M A t Q E s:=wpAny_mono h (fun _ _ q=>q) fun _ _ z=>z.elim
theorem compLoop_if0 {elt target iter:Expr} {scope:Scope} {pos:Pos} {it acc:Value} {env:Env} (I:Nat->Shared->Prop)
    (turn:∀ n s,I n s->wpAny (model prog w) A (pyNext it) (fun r s1=>match r with
      | none=>R (.ok .next) s1
      | some v=>wpAny (model prog w) A (letOwnedTupleGo target it v) (fun _ s2=>wpAny (model prog w) A (assign target env v) (fun _ s3=>wpAny (model prog w) A (eval elt env) (fun x s4=>
          wpAny (model prog w) A (call (.builtin "list.append") [acc,x]) (fun _ s5=>∃ m,m < n/\I m s5) NoE s4) NoE s3) NoE s2) NoE s1) NoE s)
    (n:Nat) (h:I n s):codeAny (model prog w) A (.compLoop (.ListComp elt [⟨target,iter,[],0⟩] scope pos) 0 it acc env) R s:=by
  refine codeAny_loop rfl I (fun n s hI=>?_) n h
  show wpAny _ _ ((compTurn (.ListComp elt [⟨target,iter,[],0⟩] scope pos) 0 it acc env).onRaise (fun x=>do noteFrame x env; theTreesLotGoes x)) _ _ s
  refine wpAny_noted ?_
  rw [compTurn_if0]
  refine wpAny_bind (wpAny_standAt (wpAny_bind (noE (wpAny_mono (turn n s hI) (fun r s1 h1=>?_) fun _ _ z=>z))))
  cases r with
  | none=>exact wpAny_pure h1
  | some v=>
    exact wpAny_bind (noE (thn h1 fun _ s2 h2=>wpAny_bind (noE (thn h2 fun _ s3 h3=>wpAny_bind (wpAny_bind (noE (thn h3 fun x s4 h4=>wpAny_bind (noE (thn h4 fun _ s5 h5=>wpAny_pure (wpAny_pure ⟨rfl,h5⟩))))))))))
theorem wpAny_forIn_one {M:Model} {A:Around} {E:Value->Shared->Prop} {c:Expr} {env:Env} {Q:Bool->Shared->Prop} {s:Shared} (h:wpAny M A (PySem.isTrue c env (eval c env)) Q E s):
    wpAny M A (forIn [c] true fun c r=>if r=true then do let ok <- PySem.isTrue c env (eval c env); pure (ForInStep.yield ok) else pure (ForInStep.yield r)) Q E s:=by
  rw [List.forIn_cons]
  refine wpAny_bind ?_
  rw [if_pos rfl]
  refine wpAny_bind (thn h fun ok s1 q=>wpAny_pure ?_)
  show wpAny M A (forIn [] ok _) Q E s1
  rw [List.forIn_nil]
  exact wpAny_pure q
theorem compLoop_if1 {elt target iter c:Expr} {scope:Scope} {pos:Pos} {it acc:Value} {env:Env} (I:Nat->Shared->Prop)
    (turn:∀ n s,I n s->wpAny (model prog w) A (pyNext it) (fun r s1=>match r with
      | none=>R (.ok .next) s1
      | some v=>wpAny (model prog w) A (letOwnedTupleGo target it v) (fun _ s2=>wpAny (model prog w) A (assign target env v) (fun _ s3=>wpAny (model prog w) A (isTrue c env (eval c env)) (fun b s3'=>
          if b=true then wpAny (model prog w) A (eval elt env) (fun x s4=>wpAny (model prog w) A (call (.builtin "list.append") [acc,x]) (fun _ s5=>∃ m,m < n/\I m s5) NoE s4) NoE s3'
          else ∃ m,m < n/\I m s3') NoE s3) NoE s2) NoE s1) NoE s)
    (n:Nat) (h:I n s):codeAny (model prog w) A (.compLoop (.ListComp elt [⟨target,iter,[c],0⟩] scope pos) 0 it acc env) R s:=by
  refine codeAny_loop rfl I (fun n s hI=>?_) n h
  show wpAny _ _ ((compTurn (.ListComp elt [⟨target,iter,[c],0⟩] scope pos) 0 it acc env).onRaise (fun x=>do noteFrame x env; theTreesLotGoes x)) _ _ s
  refine wpAny_noted ?_
  rw [compTurn_list]
  refine wpAny_bind (wpAny_standAt (wpAny_bind (noE (wpAny_mono (turn n s hI) (fun r s1 h1=>?_) fun _ _ z=>z))))
  cases r with
  | none=>exact wpAny_pure h1
  | some v=>
    refine wpAny_bind (noE (thn h1 fun _ s2 h2=>wpAny_bind (noE (thn h2 fun _ s3 h3=>wpAny_bind (wpAny_forIn_one (noE (thn h3 fun b s3' h3'=>?_)))))))
    cases b with
    | true=>
      rw [if_pos rfl] at h3' ⊢
      exact wpAny_bind (wpAny_bind (noE (thn h3' fun x s4 h4=>wpAny_bind (noE (thn h4 fun _ s5 h5=>wpAny_pure (wpAny_pure ⟨rfl,h5⟩))))))
    | false=>
      rw [if_neg Bool.false_ne_true] at h3' ⊢
      exact wpAny_pure ⟨rfl,h3'⟩
end
def cxC (X:Cx) (scope:Scope) (cl:List (Str×Addr)) (N:List Str) (s0:Shared) (H0:Hp) (ex:List Addr) (C:Addr):Cx where
  prog:=X.prog
  w:=X.w
  K:=X.K
  mg:=X.mg
  base:=X.base
  A:=X.A
  N:=N
  s₀:=s0
  H₀:=H0
  env:=compEnvC scope cl C X.env
  outer:=X.stack
  stack:=X.stack
  ex:=ex
  fn:=fun _=>false
  calm:=X.calm
  pn:=[]
  xe:=NoE
structure CompSc (X:Cx) (scope:Scope) (cl:List (Str×Addr)) (N:List Str) (cap:List (Option Nat)):Prop where
  kind:scope.kind=.function
  clos:closureFor scope X.env=pure cl
  nocell:(scope.names.all fun y=>y.2 != NameKind.cell)=true
  names:(scope.names.all fun y=>y.2 != NameKind.local || scope.names.lookup y.1 == some NameKind.local)=true
  sub:∀ p∈cl,X.env.cells.lookup p.1=some p.2
  has:((relabel scope X.env).names.all fun y=>(y.2 != NameKind.cell && y.2 != NameKind.free) || (cl.lookup y.1).isSome)=true
  len:cap.length=N.length
  caps:∀ (i j:Nat) (x:Str),cap[i]?=some (some j)->N[i]?=some x->X.N[j]?=some x/\(X.env.scope.names.lookup x=some .cell\/X.env.scope.names.lookup x=some .free)/\((relabel scope X.env).names.lookup x=some .cell\/(relabel scope X.env).names.lookup x=some .free)
def capSt (cap:List (Option Nat)) (σ:St):St:=cap.map fun o=>match o with
  | some j=>(σ[j]?).join
  | none=>none
theorem capSt_get {cap:List (Option Nat)} {σ:St} {i:Nat} {v:V} (h:(capSt cap σ)[i]?=some (some v)):∃ j,cap[i]?=some (some j)/\σ[j]?=some (some v):=by
  unfold capSt at h
  rw [List.getElem?_map] at h
  cases e:cap[i]? with
  | none=>rw [e] at h; cases h
  | some o=>
    rw [e] at h
    cases o with
    | none=>cases h
    | some j=>
      refine⟨j,rfl,?_⟩
      have h:(σ[j]?).join=some v:=Option.some.inj h
      cases e2:σ[j]? with
      | none=>rw [e2] at h; cases h
      | some q=>rw [e2] at h; exact congrArg some h
theorem lookup_sub {X:Cx} {cl:List (Str×Addr)} (h:∀ p∈cl,X.env.cells.lookup p.1=some p.2) {x:Str} {c:Addr} (e:cl.lookup x=some c):X.env.cells.lookup x=some c:=h (x,c) (PySem.mem_of_lookup e)
theorem inv_comp {X:Cx} {scope:Scope} {cl:List (Str×Addr)} {N:List Str} {cap:List (Option Nat)} (Sc:CompSc X scope cl N cap) {pins:List (Addr×Obj)} {σ:St} {H:Hp} {s:Shared} {fp:List Addr} (I:Inv X pins σ H s)
    (hf:∀ b∈fp,FpOk X pins H b) (ho:∀ b∈fp,∃ o,s.heap.get? b=some o) {h1 h1':Heap} {m:Str->Option Value} {tk:Nat} {ob:Obj}
    (hD:s.heap.push {cls:=.type "list",data:=.seq ([]:List Value).toArray}=h1') (hns:h1.Ns h1'.objs.size m) (hsb:Heap.SameBut h1'.objs.size (h1'.push ob) h1):
    Inv (cxC X scope cl N {s with heap:=h1'} (upd H s.heap.objs.size (.lst [])) fp h1'.objs.size) [] (capSt cap σ) (upd H s.heap.objs.size (.lst [])) {s with heap:=h1,toks:=tk}/\
      Un (frs X.stack) fp H (upd H s.heap.objs.size (.lst [])) s.heap h1':=by
  have hC:h1'.objs.size=s.heap.objs.size+1:=by rw [<- hD,Heap.size_push]
  have k1:∀ b o,s.heap.get? b=some o->h1'.get? b=some o:=fun b o e=>by rw [<- hD]; exact Heap.get?_push_of_some _ e
  have k2:∀ b o,h1'.get? b=some o->h1.get? b=some o:=fun b o e=>(hsb.2 b (Nat.ne_of_lt (Heap.lt_size e))).trans (Heap.get?_push_of_some _ e)
  have hHn:H s.heap.objs.size=none:=I.hok.fresh (Nat.le_refl _)
  have neD:∀ b o,s.heap.get? b=some o->b≠s.heap.objs.size:=fun b o e=>Nat.ne_of_lt (Heap.lt_size e)
  have un1:Un (frs X.stack) fp H (upd H s.heap.objs.size (.lst [])) s.heap h1':=Un.laid k1 (Nat.le_refl _) hHn
  have new:ObjOk X.prog X.w (upd H s.heap.objs.size (.lst [])) h1' s.heap.objs.size (.lst []):=⟨Nat.zero_le _,[],0,.nil,by rw [<- hD]; exact Heap.get?_push_size _ rfl⟩
  have hok1:HOk X.prog X.w (upd H s.heap.objs.size (.lst [])) h1':=I.hok.laid k1 (Nat.le_refl _) new
  have fsub:∀ b∈fp,b∉frs X.stack:=fun b hb z=>by
    obtain⟨_,f1,f2,_⟩:=hf b hb
    rcases List.mem_cons.mp (I.stkSub b z) with e | e
    · exact f1 e
    · exact f2 e
  have cellK:∀ x c,cl.lookup x=some c->∃ v,s.heap.IsCell c v:=fun x c e=>I.cell x c (lookup_sub Sc.sub e)
  refine⟨⟨⟨I.ok.mod,?_,I.ok.glob,I.ok.blt,Nat.le_refl _,fun x y c e1 e2=>I.ok.inj x y c (lookup_sub Sc.sub e1) (lookup_sub Sc.sub e2),fun x hx=>?_,fun x c z=>(by cases z),I.ok.hd,I.ok.frames,.inl rfl,fun b hb=>⟨?_,fun x c e=>?_⟩,fun b o e=>⟨?_,?_⟩,?_,fun b o e hb=>?_,fsub,?_,fun b hb=>?_⟩,
    rfl,I.bare,Un.kept k2,⟨m,hns,fun i x v e1 e2 e3=>?_⟩,fun x c e=>?_,?_,fun x c e=>?_,fun p hp=>absurd hp (by simp [cxC]),hok1.kept k2,?_⟩,un1⟩
  · exact Sc.kind
  · have hx:(relabel scope X.env).names.lookup x=some .cell\/(relabel scope X.env).names.lookup x=some .free:=hx
    have ha:=List.all_eq_true.mp Sc.has
    show ∃ c,cl.lookup x=some c
    rcases hx with hx | hx
    · have:=ha _ (PySem.mem_of_lookup hx)
      exact Option.isSome_iff_exists.mp (by simpa using this)
    · have:=ha _ (PySem.mem_of_lookup hx)
      exact Option.isSome_iff_exists.mp (by simpa using this)
  · obtain⟨o,e⟩:=ho b hb
    have:=Heap.lt_size e
    show b≠h1'.objs.size
    rw [hC]
    exact Nat.ne_of_lt (Nat.lt_succ_of_lt this)
  · exact(hf b hb).2.2.2.2.1 x c (lookup_sub Sc.sub e)
  · exact k1 b o (I.bk b o e)
  · show upd H s.heap.objs.size (.lst []) b=none
    rw [upd_ne (neD b o (I.bk b o e))]
    exact(I.bs b o e).2
  · show X.base.objs.size<=h1'.objs.size
    rw [hC]
    exact Nat.le_succ_of_le (Nat.le_trans I.ok.bsz I.sz)
  · obtain⟨_,_,_,f3,_⟩:=hf b hb
    rcases f3 with f3 | f3
    · exact I.ok.noex b o e f3
    · have q1:=Heap.lt_size e
      have q2:=I.ok.bsz
      exact absurd (Nat.lt_of_lt_of_le q1 (Nat.le_trans q2 f3)) (Nat.lt_irrefl _)
  · exact I.stack.of_keeps fun b o e _=>⟨o,k1 b o e,rfl⟩
  · show upd H s.heap.objs.size (.lst []) b=none
    obtain⟨_,o,e,_⟩:=I.stack.mem hb
    rw [upd_ne (neD b o e)]
    exact I.stkFree b hb
  · obtain⟨j,c1,c2⟩:=capSt_get e2
    obtain⟨d1,d2,d3⟩:=Sc.caps i j x c1 e1
    obtain⟨m0,_,l0⟩:=I.loc
    obtain⟨u,ru,lk⟩:=l0 j x v d1 c2 (d2.elim (fun z=>.inr (.inl z)) fun z=>.inr (.inr z))
    refine⟨u,ru,.inr ⟨d3,?_⟩⟩
    rcases lk with ⟨z,_⟩ | ⟨_,c,z1,z2⟩
    · have z:X.env.scope.names.lookup x=some .local:=z
      rcases d2 with q | q <;> (rw [q] at z; cases z)
    · have ha:=List.all_eq_true.mp Sc.has
      have hs:∃ c',cl.lookup x=some c':=by
        rcases d3 with q | q
        · exact Option.isSome_iff_exists.mp (by simpa using ha _ (PySem.mem_of_lookup q))
        · exact Option.isSome_iff_exists.mp (by simpa using ha _ (PySem.mem_of_lookup q))
      obtain⟨c',q⟩:=hs
      have q2:=lookup_sub Sc.sub q
      rw [z1] at q2
      cases q2
      obtain⟨o,e,d⟩:=z2
      exact⟨c,q,o,k2 _ _ (k1 _ _ e),d⟩
  · obtain⟨v,o,e1,d⟩:=cellK x c e
    exact⟨v,o,k2 _ _ (k1 _ _ e1),d⟩
  · show upd H s.heap.objs.size (.lst []) h1'.objs.size=none
    rw [hC,upd_ne (Nat.succ_ne_self _)]
    exact I.hok.fresh (Nat.le_succ _)
  · obtain⟨v,o,e1,d⟩:=cellK x c e
    show upd H s.heap.objs.size (.lst []) c=none
    rw [upd_ne (neD c o e1)]
    exact I.freeC x c (lookup_sub Sc.sub e)
  · show(capSt cap σ).length=N.length
    unfold capSt
    rw [List.length_map]
    exact Sc.len
def tComp (cap:List (Option Nat)) (wi:TI) (g:TG) (te:TE):TE:=fun σ H Q=>wi σ H fun J H1=>∀ D,H1 D=none->∃ W:Nat->Nat->St->Hp->Prop,(∃ m,W 0 m (capSt cap σ) (upd H1 D (.lst [])))/\∀ i m σ' H',W i m σ' H'->
  (J.stop i H'/\Q (.ref D) H')\/(J.go i H'/\∃ N:St->Hp->Prop,(∀ σ2 H2,N σ2 H2->∃ m',m' < m/\W (i+1) m' σ2 H2)/\∀ x H2,J.yld i H' x H2->g x σ' H2 fun σ3 H3=>te σ3 H3 fun v H4=>∃ ys,H4 D=some (.lst ys)/\ys.length < sizeLine/\N σ3 (upd H4 D (.lst (ys++[v]))))
def tCompIf (cap:List (Option Nat)) (wi:TI) (g:TG) (tc:TT) (te:TE):TE:=fun σ H Q=>wi σ H fun J H1=>∀ D,H1 D=none->∃ W:Nat->Nat->St->Hp->Prop,(∃ m,W 0 m (capSt cap σ) (upd H1 D (.lst [])))/\∀ i m σ' H',W i m σ' H'->
  (J.stop i H'/\Q (.ref D) H')\/(J.go i H'/\∃ N:St->Hp->Prop,(∀ σ2 H2,N σ2 H2->∃ m',m' < m/\W (i+1) m' σ2 H2)/\∀ x H2,J.yld i H' x H2->g x σ' H2 fun σ3 H3=>tc σ3 H3 fun b H3'=>if b=true then te σ3 H3' fun v H4=>∃ ys,H4 D=some (.lst ys)/\ys.length < sizeLine/\N σ3 (upd H4 D (.lst (ys++[v]))) else N σ3 H3')
section
variable {X:Cx} {elt tg iter c:Expr} {scope:Scope} {cl:List (Str×Addr)} {N:List Str} {cap:List (Option Nat)} {pos:Pos} {wi:TI} {g:TG} {te:TE} {tc:TT}
theorem comp_out (Sc:CompSc X scope cl N cap) {pins:List (Addr×Obj)} {σ σ3:St} {H2 H3:Hp} {s2 s4:Shared} {fp:List Addr} {h1':Heap} {C:Addr} (I2:Inv X pins σ H2 s2) (f2:∀ b∈fp,FpOk X pins H2 b) {H1:Hp}
    (un3:Un (frs X.stack) fp H2 H1 s2.heap h1') (I4:Inv (cxC X scope cl N {s2 with heap:=h1'} H1 fp C) [] σ3 H3 s4) {h':Heap} (hC:s2.heap.objs.size<=C) (sb:Heap.SameBut C s4.heap h'):Inv X pins σ H3 {s4 with heap:=h'}:=by
  have u:Un (frs X.stack) fp H2 H3 s2.heap s4.heap:=un3.trans I4.base
  have ne:∀ b o,s2.heap.get? b=some o->b≠C:=fun b o e=>Nat.ne_of_lt (Nat.lt_of_lt_of_le (Heap.lt_size e) hC)
  have u':Un (frs X.stack) fp H2 H3 s2.heap h':=⟨fun b o e n hb hx=>(sb.2 b (ne b o e)).trans (u.keep b o e n hb hx),fun b o e n hb hx=>by
      obtain⟨sl,q⟩:=u.slot b o e n hb hx
      exact⟨sl,(sb.2 b (ne b o e)).trans q⟩,u.free,fun b o e hx=>by
      obtain⟨o',q⟩:=u.there b o e hx
      exact⟨o',(sb.2 b (ne b o e)).trans q⟩,u.tups,u.frzs,u.tbls⟩
  have hok:HOk X.prog X.w H3 h':=fun b ob e=>by
    refine(I4.hok b ob e).stay (fun c w' hc q=>(sb.2 c ?_).trans q) (fun _ q=>q) fun _ _ q=>q
    rintro rfl
    have hfree:H3 c=none:=I4.free
    rcases hc with rfl | hc
    · rw [hfree] at e; cases e
    · rw [hfree] at hc; cases hc
  refine I2.call' (s':={s4 with heap:=h'}) (ch:=fp) I4.os u' hok I4.bare fun b hb=>?_
  obtain⟨_,f1,_,f3,f4,f5⟩:=f2 b hb
  exact⟨f3,f1,f4,f5⟩
theorem comp_fp {s0:Shared} {H0:Hp} {C:Addr} {fp:List Addr} {σ:St} {H:Hp} {s:Shared} (I:Inv (cxC X scope cl N s0 H0 fp C) [] σ H s) (hn:∀ b∈fp,H b=none):∀ b∈fp,FpOk (cxC X scope cl N s0 H0 fp C) [] H b:=fun b hb=>
  ⟨hn b hb,(I.ok.exf b hb).1,I.ok.exfs b hb,.inl hb,(I.ok.exf b hb).2,fun p hp=>absurd hp (by simp [cxC])⟩
theorem pe_comp (hc:X.calm=true) (Sc:CompSc X scope cl N cap) (hi:PI X tg iter wi) (hg:∀ s0 H0 ex C,PG (cxC X scope cl N s0 H0 ex C) tg g) (he:∀ s0 H0 ex C,PE (cxC X scope cl N s0 H0 ex C) elt te)
    (hs:∀ x,foldedSetIterable iter X.env x=pure x:=by intro _; rfl):PE X (.ListComp elt [⟨tg,iter,[],0⟩] scope pos) (tComp cap wi g te):=by
  intro pins s σ H Q I h
  rw [eval_ListComp]
  have hcell:∀ y∈scope.names,y.2≠.cell:=fun y hy=>by simpa using List.all_eq_true.mp Sc.nocell y hy
  have hnames:∀ y∈scope.names,y.2=.local->scope.names.lookup y.1=some .local:=fun y hy e=>by
    have:=List.all_eq_true.mp Sc.names y hy
    rw [e] at this
    simpa using this
  refine wpAny_comprehension_free (use:=none) rfl hs Sc.clos Sc.kind hnames (thn (hi pins s σ H _ I h) fun v s1 h1=>thn h1 fun itv s2 h2=>?_)
  obtain⟨it,fp,tn,J,H2,e,I2,T,st2,f2,hW⟩:=h2
  subst e
  refine wpAny_newObj_type (wpAny_newFunctionEnv hcell (by intro y hy; simp at hy) (fun h1 hns hsb=>?_) Sc.kind)
  obtain⟨W,⟨m0,w0⟩,turn⟩:=hW s2.heap.objs.size I2.fresh
  dsimp only at hns hsb ⊢
  generalize hD:s2.heap.push {cls:=.type "list",dict:=none,data:=.seq ([]:List Value).toArray}=h1' at hns hsb ⊢
  obtain⟨I3,un3⟩:=inv_comp (tk:=s2.toks+([]:List (Str×Value)).length) Sc I2 f2 (fun b hb=>let ⟨o,e,_⟩:=T.obj 0 _ st2 b hb; ⟨o,e⟩) hD hns hsb
  have hC:s2.heap.objs.size<=h1'.objs.size:=by rw [<- hD,Heap.size_push]; exact Nat.le_succ _
  have k1:∀ b o,s2.heap.get? b=some o->h1.get? b=some o:=fun b o e=>by
    have e1:h1'.get? b=some o:=by rw [<- hD]; exact Heap.get?_push_of_some _ e
    exact(hsb.2 b (Nat.ne_of_lt (Heap.lt_size e1))).trans (Heap.get?_push_of_some _ e1)
  have st3:tn 0 h1:=T.keep 0 _ _ st2 fun b _ o e=>k1 b o e
  have fr3:∀ b∈fp,(upd H2 s2.heap.objs.size (.lst [])) b=none:=fun b hb=>by
    obtain⟨o,e,_⟩:=T.obj 0 _ st2 b hb
    rw [upd_ne (Nat.ne_of_lt (Heap.lt_size e))]
    exact(f2 b hb).1
  have loop:∀ s3:Shared,s3={s2 with heap:=h1,toks:=s2.toks+([]:List (Str×Value)).length}->
      codeAny (model X.prog X.w) X.A (.compLoop (.ListComp elt [⟨tg,iter,[],0⟩] scope pos) 0 (.ref it) (.ref s2.heap.objs.size) (compEnvC scope cl h1'.objs.size X.env))
        (compPost (model X.prog X.w) X.A X.xe none (EP X pins σ Q) (.ref s2.heap.objs.size) h1'.objs.size) s3:=by
    rintro s3 rfl
    refine compLoop_if0 (fun n s'=>∃ i σ' H',Inv (cxC X scope cl N {s2 with heap:=h1'} (upd H2 s2.heap.objs.size (.lst [])) fp h1'.objs.size) [] σ' H' s'/\tn i s'.heap/\(∀ b∈fp,H' b=none)/\W i n σ' H') ?_ m0 ⟨0,_,_,I3,st3,fr3,w0⟩
    rintro n s3 ⟨i,σ3,H3,I3,st3,fr3,w3⟩
    rcases turn i n σ3 H3 w3 with ⟨stop,qn⟩ | ⟨go,Nn,hN,step⟩
    · refine thn (T.done (cxC X scope cl N {s2 with heap:=h1'} (upd H2 s2.heap.objs.size (.lst [])) fp h1'.objs.size) rfl rfl rfl hc i [] s3 σ3 H3 NoE I3 (comp_fp I3 fr3) st3 stop) fun r s4 ⟨hr,I4⟩=>?_
      subst hr
      obtain⟨m,hm,_⟩:=I4.loc
      exact⟨m,hm,fun h' sb=>⟨.ref _,H3,comp_out Sc I2 f2 un3 I4 hC sb,rfl,qn⟩⟩
    · refine thn (T.item (cxC X scope cl N {s2 with heap:=h1'} (upd H2 s2.heap.objs.size (.lst [])) fp h1'.objs.size) rfl rfl rfl hc i [] s3 σ3 H3 NoE I3 (comp_fp I3 fr3) st3 go) fun r s4 ⟨u,hr,h4⟩=>?_
      subst hr
      refine thn h4 fun _ s5 ⟨x,H5,I5,r5,y5,st5,fr5⟩=>?_
      have I5':=I5.pinned (comp_fp I5 fr5) (T.obj _ _ st5)
      refine thn (hg _ _ _ _ _ s5 σ3 H5 x u _ I5' r5 (step x H5 y5)) fun _ s6 ⟨σ6,H6,I6,q6⟩=>?_
      refine thn (he _ _ _ _ _ s6 σ6 H6 _ I6 q6) fun uv s7 ⟨v,H7,I7,r7,ys,hy,hl,q7⟩=>?_
      refine thn (mt_append (X:=cxC X scope cl N {s2 with heap:=h1'} (upd H2 s2.heap.objs.size (.lst [])) fp h1'.objs.size) _ s7 σ6 H7 (.ref s2.heap.objs.size) [v] (.ref s2.heap.objs.size) [uv] (fun _ H8=>Nn σ6 H8) I7 rfl (.cons r7 .nil) ⟨_,ys,v,rfl,rfl,hy,hl,q7⟩) fun _ s8 ⟨_,H8,I8,_,n8⟩=>?_
      obtain⟨m',hm,w8⟩:=hN σ6 H8 n8
      refine⟨m',hm,i+1,σ6,H8,I8.unpinned,T.keep _ _ _ st5 fun b hb o e=>(I8.pin (b,o) (List.mem_append_right _ (List.mem_append_right _ (mem_pinsAt hb e)))).1,fun b hb=>?_,w8⟩
      obtain⟨o,e,d⟩:=T.obj _ _ st5 b hb
      exact(I8.pin (b,o) (List.mem_append_right _ (List.mem_append_right _ (mem_pinsAt hb e)))).2.1
  exact codeAny_compStart_list (loop _ rfl) (T.self _ 0 _ _ _ st3 (loop _ rfl))
theorem pe_compIf (hc:X.calm=true) (Sc:CompSc X scope cl N cap) (hi:PI X tg iter wi) (hg:∀ s0 H0 ex C,PG (cxC X scope cl N s0 H0 ex C) tg g) (hcnd:∀ s0 H0 ex C,PT (cxC X scope cl N s0 H0 ex C) c tc) (he:∀ s0 H0 ex C,PE (cxC X scope cl N s0 H0 ex C) elt te)
    (hs:∀ x,foldedSetIterable iter X.env x=pure x:=by intro _; rfl):PE X (.ListComp elt [⟨tg,iter,[c],0⟩] scope pos) (tCompIf cap wi g tc te):=by
  intro pins s σ H Q I h
  rw [eval_ListComp]
  have hcell:∀ y∈scope.names,y.2≠.cell:=fun y hy=>by simpa using List.all_eq_true.mp Sc.nocell y hy
  have hnames:∀ y∈scope.names,y.2=.local->scope.names.lookup y.1=some .local:=fun y hy e=>by
    have:=List.all_eq_true.mp Sc.names y hy
    rw [e] at this
    simpa using this
  refine wpAny_comprehension_free (use:=none) rfl hs Sc.clos Sc.kind hnames (thn (hi pins s σ H _ I h) fun v s1 h1=>thn h1 fun itv s2 h2=>?_)
  obtain⟨it,fp,tn,J,H2,e,I2,T,st2,f2,hW⟩:=h2
  subst e
  refine wpAny_newObj_type (wpAny_newFunctionEnv hcell (by intro y hy; simp at hy) (fun h1 hns hsb=>?_) Sc.kind)
  obtain⟨W,⟨m0,w0⟩,turn⟩:=hW s2.heap.objs.size I2.fresh
  dsimp only at hns hsb ⊢
  generalize hD:s2.heap.push {cls:=.type "list",dict:=none,data:=.seq ([]:List Value).toArray}=h1' at hns hsb ⊢
  obtain⟨I3,un3⟩:=inv_comp (tk:=s2.toks+([]:List (Str×Value)).length) Sc I2 f2 (fun b hb=>let ⟨o,e,_⟩:=T.obj 0 _ st2 b hb; ⟨o,e⟩) hD hns hsb
  have hC:s2.heap.objs.size<=h1'.objs.size:=by rw [<- hD,Heap.size_push]; exact Nat.le_succ _
  have k1:∀ b o,s2.heap.get? b=some o->h1.get? b=some o:=fun b o e=>by
    have e1:h1'.get? b=some o:=by rw [<- hD]; exact Heap.get?_push_of_some _ e
    exact(hsb.2 b (Nat.ne_of_lt (Heap.lt_size e1))).trans (Heap.get?_push_of_some _ e1)
  have st3:tn 0 h1:=T.keep 0 _ _ st2 fun b _ o e=>k1 b o e
  have fr3:∀ b∈fp,(upd H2 s2.heap.objs.size (.lst [])) b=none:=fun b hb=>by
    obtain⟨o,e,_⟩:=T.obj 0 _ st2 b hb
    rw [upd_ne (Nat.ne_of_lt (Heap.lt_size e))]
    exact(f2 b hb).1
  have loop:∀ s3:Shared,s3={s2 with heap:=h1,toks:=s2.toks+([]:List (Str×Value)).length}->
      codeAny (model X.prog X.w) X.A (.compLoop (.ListComp elt [⟨tg,iter,[c],0⟩] scope pos) 0 (.ref it) (.ref s2.heap.objs.size) (compEnvC scope cl h1'.objs.size X.env))
        (compPost (model X.prog X.w) X.A X.xe none (EP X pins σ Q) (.ref s2.heap.objs.size) h1'.objs.size) s3:=by
    rintro s3 rfl
    refine compLoop_if1 (fun n s'=>∃ i σ' H',Inv (cxC X scope cl N {s2 with heap:=h1'} (upd H2 s2.heap.objs.size (.lst [])) fp h1'.objs.size) [] σ' H' s'/\tn i s'.heap/\(∀ b∈fp,H' b=none)/\W i n σ' H') ?_ m0 ⟨0,_,_,I3,st3,fr3,w0⟩
    rintro n s3 ⟨i,σ3,H3,I3,st3,fr3,w3⟩
    rcases turn i n σ3 H3 w3 with ⟨stop,qn⟩ | ⟨go,Nn,hN,step⟩
    · refine thn (T.done (cxC X scope cl N {s2 with heap:=h1'} (upd H2 s2.heap.objs.size (.lst [])) fp h1'.objs.size) rfl rfl rfl hc i [] s3 σ3 H3 NoE I3 (comp_fp I3 fr3) st3 stop) fun r s4 ⟨hr,I4⟩=>?_
      subst hr
      obtain⟨m,hm,_⟩:=I4.loc
      exact⟨m,hm,fun h' sb=>⟨.ref _,H3,comp_out Sc I2 f2 un3 I4 hC sb,rfl,qn⟩⟩
    · refine thn (T.item (cxC X scope cl N {s2 with heap:=h1'} (upd H2 s2.heap.objs.size (.lst [])) fp h1'.objs.size) rfl rfl rfl hc i [] s3 σ3 H3 NoE I3 (comp_fp I3 fr3) st3 go) fun r s4 ⟨u,hr,h4⟩=>?_
      subst hr
      refine thn h4 fun _ s5 ⟨x,H5,I5,r5,y5,st5,fr5⟩=>?_
      have I5':=I5.pinned (comp_fp I5 fr5) (T.obj _ _ st5)
      refine thn (hg _ _ _ _ _ s5 σ3 H5 x u _ I5' r5 (step x H5 y5)) fun _ s6 ⟨σ6,H6,I6,q6⟩=>?_
      have again:∀ {s8:Shared} {H8:Hp},Inv (cxC X scope cl N {s2 with heap:=h1'} (upd H2 s2.heap.objs.size (.lst [])) fp h1'.objs.size) ([]++pinsAt fp s5.heap) σ6 H8 s8->Nn σ6 H8->
          ∃ m,m < n/\∃ i σ' H',Inv (cxC X scope cl N {s2 with heap:=h1'} (upd H2 s2.heap.objs.size (.lst [])) fp h1'.objs.size) [] σ' H' s8/\tn i s8.heap/\(∀ b∈fp,H' b=none)/\W i m σ' H':=fun {s8 H8} I8 n8=>by
        obtain⟨m',hm,w8⟩:=hN σ6 H8 n8
        refine⟨m',hm,i+1,σ6,H8,I8.unpinned,T.keep _ _ _ st5 fun b hb o e=>(I8.pin (b,o) (List.mem_append_right _ (List.mem_append_right _ (mem_pinsAt hb e)))).1,fun b hb=>?_,w8⟩
        obtain⟨o,e,d⟩:=T.obj _ _ st5 b hb
        exact(I8.pin (b,o) (List.mem_append_right _ (List.mem_append_right _ (mem_pinsAt hb e)))).2.1
      refine thn (hcnd _ _ _ _ _ s6 σ6 H6 _ I6 q6) fun b s6' ⟨H6',I6',q6'⟩=>?_
      cases b with
      | true=>
        rw [if_pos rfl] at q6' ⊢
        refine thn (he _ _ _ _ _ s6' σ6 H6' _ I6' q6') fun uv s7 ⟨v,H7,I7,r7,ys,hy,hl,q7⟩=>?_
        refine thn (mt_append (X:=cxC X scope cl N {s2 with heap:=h1'} (upd H2 s2.heap.objs.size (.lst [])) fp h1'.objs.size) _ s7 σ6 H7 (.ref s2.heap.objs.size) [v] (.ref s2.heap.objs.size) [uv] (fun _ H8=>Nn σ6 H8) I7 rfl (.cons r7 .nil) ⟨_,ys,v,rfl,rfl,hy,hl,q7⟩) fun _ s8 ⟨_,H8,I8,_,n8⟩=>?_
        exact again I8 n8
      | false=>
        rw [if_neg Bool.false_ne_true] at q6' ⊢
        exact again I6' q6'
  exact codeAny_compStart_list (loop _ rfl) (T.self _ 0 _ _ _ st3 (loop _ rfl))
end
end L2
namespace DL
open PySem PySem.Spec PyProof.Rows L2
abbrev Fg:=PySem.W.Frag
inductive Ty where
  | non | bool | int | str | tup | lst | dic | verr
def Ty.name:Ty->String
  | .non=>"NoneType" | .bool=>"bool" | .int=>"int" | .str=>"str" | .tup=>"tuple" | .lst=>"list" | .dic=>"dict" | .verr=>"ValueError"
inductive D where
  | non | bl (b:Bool) | int (i:Int) | str (x:Str) | tup (ds:List D) | rl (ds:List D) | ref (a:Addr) | ty (n:Ty)
def SqF (K:Fg) (H:Hp) (a:Addr) (xs:List V):Prop:=
  (∃ o,H a=some (.frz o (.lst xs)))\/∃ (o:Obj) (its:Array Value) (n:Nat),K.lookup a=some o/\o.cls=.type "list"/\o.dict=none/\o.data=.seq its n/\its.size<=sizeLine/\Vals xs its.toList
theorem SqF.sq {K:Fg} {H:Hp} {a:Addr} {xs:List V} (h:SqF K H a xs):SqL K H a xs:=by
  rcases h with h | h
  · exact .inl (.inr h)
  · exact .inr h
mutual
def IsD (K:Fg) (H:Hp):D->V->Prop
  | .non,v=>v=.non
  | .bl b,v=>v=.bl b
  | .int i,v=>v=.int i
  | .str x,v=>v=.str x
  | .tup ds,v=>∃ a xs,v=.ref a/\SqT K H a xs/\IsDs K H ds xs
  | .rl ds,v=>∃ a xs,v=.ref a/\SqF K H a xs/\IsDs K H ds xs
  | .ref a,v=>v=.ref a
  | .ty n,v=>v=.ty n.name
def IsDs (K:Fg) (H:Hp):List D->List V->Prop
  | [],vs=>vs=[]
  | d::ds,vs=>∃ v r,vs=v::r/\IsD K H d v/\IsDs K H ds r
end
def Imm:HO->Prop
  | .tup _=>True
  | .frz _ _=>True
  | _=>False
def Kp (H H':Hp):Prop:=∀ a o,H a=some o->Imm o->H' a=some o
theorem Kp.refl (H:Hp):Kp H H:=fun _ _ h _=>h
theorem Kp.trans {H H1 H2:Hp} (a:Kp H H1) (b:Kp H1 H2):Kp H H2:=fun c o h i=>b c o (a c o h i) i
theorem Kp.tup {K:Fg} {H H':Hp} {a:Addr} {xs:List V} (k:Kp H H') (h:SqT K H a xs):SqT K H' a xs:=by
  rcases h with (h | ⟨o,h⟩) | h
  · exact .inl (.inl (k _ _ h trivial))
  · exact .inl (.inr ⟨o,k _ _ h trivial⟩)
  · exact .inr h
theorem Kp.fro {K:Fg} {H H':Hp} {a:Addr} {xs:List V} (k:Kp H H') (h:SqF K H a xs):SqF K H' a xs:=by
  rcases h with ⟨o,h⟩ | h
  · exact .inl ⟨o,k _ _ h trivial⟩
  · exact .inr h
theorem Kp.new {H:Hp} {p:Addr} {o:HO} (h:H p=none):Kp H (upd H p o):=fun b u e _=>by rw [upd_ne (ne_of_none e h)]; exact e
theorem Kp.mut {H:Hp} {p:Addr} {o u:HO} (h:H p=some u) (n:¬ Imm u):Kp H (upd H p o):=fun b z e i=>by
  rw [upd_ne (fun q=>by subst q; rw [h] at e; cases e; exact n i)]; exact e
mutual
theorem IsD.kp {K:Fg} {H H':Hp} (k:Kp H H'):∀ {d:D} {v:V},IsD K H d v->IsD K H' d v
  | .non,_,h=>by unfold IsD at *; exact h
  | .bl _,_,h=>by unfold IsD at *; exact h
  | .int _,_,h=>by unfold IsD at *; exact h
  | .str _,_,h=>by unfold IsD at *; exact h
  | .ref _,_,h=>by unfold IsD at *; exact h
  | .ty _,_,h=>by unfold IsD at *; exact h
  | .tup ds,_,h=>by
    unfold IsD at*
    obtain⟨a,xs,e,t,r⟩:=h
    exact⟨a,xs,e,k.tup t,IsDs.kp k r⟩
  | .rl ds,_,h=>by
    unfold IsD at*
    obtain⟨a,xs,e,t,r⟩:=h
    exact⟨a,xs,e,k.fro t,IsDs.kp k r⟩
theorem IsDs.kp {K:Fg} {H H':Hp} (k:Kp H H'):∀ {ds:List D} {vs:List V},IsDs K H ds vs->IsDs K H' ds vs
  | [],_,h=>by unfold IsDs at *; exact h
  | d::ds,_,h=>by
    unfold IsDs at*
    obtain⟨v,r,e,h1,h2⟩:=h
    exact⟨v,r,e,IsD.kp k h1,IsDs.kp k h2⟩
end
section
variable {K:Fg} {H:Hp}
theorem isInt {i:Int} {v:V}:IsD K H (.int i) v↔v=.int i:=by unfold IsD; exact Iff.rfl
theorem isBl {b:Bool} {v:V}:IsD K H (.bl b) v↔v=.bl b:=by unfold IsD; exact Iff.rfl
theorem isStr {b:Str} {v:V}:IsD K H (.str b) v↔v=.str b:=by unfold IsD; exact Iff.rfl
theorem isNon {v:V}:IsD K H .non v↔v=.non:=by unfold IsD; exact Iff.rfl
theorem isRef {a:Addr} {v:V}:IsD K H (.ref a) v↔v=.ref a:=by unfold IsD; exact Iff.rfl
theorem isTy {a:Ty} {v:V}:IsD K H (.ty a) v↔v=.ty a.name:=by unfold IsD; exact Iff.rfl
theorem isTup {ds:List D} {v:V}:IsD K H (.tup ds) v↔∃ a xs,v=.ref a/\SqT K H a xs/\IsDs K H ds xs:=by unfold IsD; exact Iff.rfl
theorem isRl {ds:List D} {v:V}:IsD K H (.rl ds) v↔∃ a xs,v=.ref a/\SqF K H a xs/\IsDs K H ds xs:=by unfold IsD; exact Iff.rfl
theorem isNil {vs:List V}:IsDs K H [] vs↔vs=[]:=by unfold IsDs; exact Iff.rfl
theorem isCons {d:D} {ds:List D} {vs:List V}:IsDs K H (d::ds) vs↔∃ v r,vs=v::r/\IsD K H d v/\IsDs K H ds r:=by
  constructor
  · intro h; unfold IsDs at h; exact h
  · intro h; unfold IsDs; exact h
theorem IsDs.nil:IsDs K H [] []:=isNil.mpr rfl
theorem IsDs.cons {d:D} {ds:List D} {v:V} {vs:List V} (h1:IsD K H d v) (h2:IsDs K H ds vs):IsDs K H (d::ds) (v::vs):=isCons.mpr ⟨v,vs,rfl,h1,h2⟩
theorem IsDs.length:∀ {ds:List D} {vs:List V},IsDs K H ds vs->ds.length=vs.length
  | [],_,h=>by rw [isNil.mp h]; rfl
  | d::ds,_,h=>by
    obtain⟨v,r,rfl,_,h2⟩:=isCons.mp h
    rw [List.length_cons,List.length_cons,IsDs.length h2]
theorem IsDs.get:∀ {ds:List D} {vs:List V} {i:Nat} {d:D},IsDs K H ds vs->ds[i]?=some d->∃ v,vs[i]?=some v/\IsD K H d v
  | [],_,_,_,_,e=>by simp at e
  | c::ds,_,0,d,h,e=>by
    obtain⟨v,r,rfl,h1,h2⟩:=isCons.mp h
    simp at e
    subst e
    exact⟨v,rfl,h1⟩
  | c::ds,_,i+1,d,h,e=>by
    obtain⟨v,r,rfl,h1,h2⟩:=isCons.mp h
    obtain⟨u,q1,q2⟩:=IsDs.get (i:=i) (d:=d) h2 (by simpa using e)
    exact⟨u,by simpa using q1,q2⟩
theorem IsDs.set:∀ {ds:List D} {vs:List V} {d:D} {v:V} (i:Nat),IsDs K H ds vs->IsD K H d v->IsDs K H (ds.set i d) (vs.set i v)
  | [],_,_,_,_,h,_=>by rw [isNil.mp h]; exact IsDs.nil
  | c::ds,_,d,v,0,h,hd=>by
    obtain⟨u,r,rfl,h1,h2⟩:=isCons.mp h
    exact IsDs.cons hd h2
  | c::ds,_,d,v,i+1,h,hd=>by
    obtain⟨u,r,rfl,h1,h2⟩:=isCons.mp h
    exact IsDs.cons h1 (IsDs.set i h2 hd)
theorem IsDs.append:∀ {ds es:List D} {vs us:List V},IsDs K H ds vs->IsDs K H es us->IsDs K H (ds++es) (vs++us)
  | [],_,_,_,h,h'=>by rw [isNil.mp h]; exact h'
  | c::ds,_,_,_,h,h'=>by
    obtain⟨u,r,rfl,h1,h2⟩:=isCons.mp h
    exact IsDs.cons h1 (IsDs.append h2 h')
end
def hashT (ks:List Int):Int:=reduceHash (Builtin.Tuple.tupleHashOf (ks.map hashInt))
def eT (x:List Int×Addr×Value):DictEntry:=⟨hashT x.1,.ref x.2.1,x.2.2⟩
def dxO (es:Array DictEntry) (ep:Nat):Obj:={cls:=.type "dict",dict:=none,data:=.dict es ep,slots:=#[]}
def DxP (a:Addr) (xs:List (List Int×Addr×Value)) (ep:Nat):Heap->Prop:=fun h=>(a == sysModules)=false/\xs.length<=sizeLine/\(xs.map (·.1)).Nodup/\h.get? a=some (dxO (xs.map eT).toArray ep)
inductive Gen where
  | dT (kvs:List (List Int×D)) (ep:Nat)
  | dK (kvs:List (Key×D))
abbrev KtR (K:Fg) (H:Hp):List (List Int×D)->List (List Int×Addr×Value)->Prop:=Paired fun p q=>p.1=q.1/\SqT K H q.2.1 (p.1.map V.int)/\∃ v,RelV v q.2.2/\IsD K H p.2 v
def GObj (K:Fg) (H:Hp) (a:Addr):Gen->Prop
  | .dT kvs ep=>∃ xs,H a=some (.ext (DxP a xs ep))/\KtR K H kvs xs
  | .dK kvs=>∃ ys,H a=some (.dK ys)/\Paired (fun (p:Key×D) (q:Key×V)=>p.1=q.1/\IsD K H p.2 q.2) kvs ys
theorem KtR.kp {K:Fg} {H H':Hp} {kvs:List (List Int×D)} {xs:List (List Int×Addr×Value)} (r:KtR K H kvs xs) (k:Kp H H'):KtR K H' kvs xs:=
  Paired.mapP r fun _ _ ⟨a,b,v,c,d⟩=>⟨a,k.tup b,v,c,d.kp k⟩
theorem GObj.there {K:Fg} {H:Hp} {a:Addr} {g:Gen} (h:GObj K H a g):∃ o,H a=some o/\¬ Imm o:=by
  cases g with
  | dT kvs ep=>obtain⟨xs,e,_⟩:=h; exact⟨_,e,fun z=>z⟩
  | dK kvs=>obtain⟨xs,e,_⟩:=h; exact⟨_,e,fun z=>z⟩
theorem GObj.step {K:Fg} {H H':Hp} {a:Addr} {g:Gen} (h:GObj K H a g) (k:Kp H H') (s:H' a=H a):GObj K H' a g:=by
  cases g with
  | dT kvs ep=>obtain⟨xs,e,r⟩:=h; exact⟨xs,s.trans e,r.kp k⟩
  | dK kvs=>obtain⟨xs,e,r⟩:=h; exact⟨xs,s.trans e,Paired.mapP r fun _ _ z=>⟨z.1,z.2.kp k⟩⟩
inductive DO where
  | lst (ds:List D)
  | dic
  | exc (C:Addr)
  | fn (φ:Hp->Prop)
  | tbl (ψ:Hp->Array Value->Prop)
  | gen (g:Gen)
abbrev DH:=Addr->Option DO
def put (S:DH) (a:Addr) (o:DO):DH:=fun b=>if b=a then some o else S b
theorem put_same {S:DH} {a:Addr} {o:DO}:put S a o a=some o:=by unfold put; rw [if_pos rfl]
theorem put_ne {S:DH} {a b:Addr} {o:DO} (h:b≠a):put S a o b=S b:=by unfold put; rw [if_neg h]
theorem ne_put {S:DH} {a p:Addr} {o:DO} (h:S a=some o) (h':S p=none):a≠p:=by intro e; subst e; rw [h] at h'; cases h'
def DObj (K:Fg) (H:Hp) (a:Addr):DO->Prop
  | .lst ds=>∃ xs,H a=some (.lst xs)/\IsDs K H ds xs
  | .dic=>∃ kvs,H a=some (.dK kvs)
  | .exc C=>∃ o u,H a=some (.frz o u)/\o.cls=.ref C
  | .fn φ=>(∃ o u,H a=some (.frz o u))/\∀ H',Kp H H'->φ H'
  | .tbl ψ=>∃ ps,H a=some (.tbl ps)/\∀ H',Kp H H'->ψ H' ps
  | .gen g=>GObj K H a g
def Hs (K:Fg) (H:Hp) (S:DH):Prop:=∀ a o,S a=some o->DObj K H a o
section
variable {K:Fg} {H H':Hp} {S:DH} {p:Addr}
theorem Hs.lst {ds:List D} (h:Hs K H S) (e:S p=some (.lst ds)):∃ xs,H p=some (.lst xs)/\IsDs K H ds xs:=h p _ e
theorem Hs.free (h:Hs K H S) (e:H p=none):S p=none:=by
  cases q:S p with
  | none=>rfl
  | some o=>
    have z:=h p o q
    cases o with
    | lst ds=>obtain⟨xs,z,_⟩:=z; rw [e] at z; cases z
    | dic=>obtain⟨xs,z⟩:=z; rw [e] at z; cases z
    | exc C=>obtain⟨_,_,z,_⟩:=z; rw [e] at z; cases z
    | fn φ=>obtain⟨⟨_,_,z⟩,_⟩:=z; rw [e] at z; cases z
    | tbl ψ=>obtain⟨_,z,_⟩:=z; rw [e] at z; cases z
    | gen g=>obtain⟨_,z,_⟩:=GObj.there z; rw [e] at z; cases z
theorem Hs.step (h:Hs K H S) (k:Kp H H') (s:∀ a o,S a=some o->H' a=H a):Hs K H' S:=fun a o e=>by
  have z:=h a o e
  cases o with
  | lst ds=>obtain⟨xs,z,r⟩:=z; exact⟨xs,by rw [s a _ e]; exact z,r.kp k⟩
  | dic=>obtain⟨xs,z⟩:=z; exact⟨xs,by rw [s a _ e]; exact z⟩
  | exc C=>obtain⟨x,y,z,r⟩:=z; exact⟨x,y,by rw [s a _ e]; exact z,r⟩
  | fn φ=>obtain⟨⟨x,y,z⟩,r⟩:=z; exact⟨⟨x,y,by rw [s a _ e]; exact z⟩,fun H2 k2=>r H2 (k.trans k2)⟩
  | tbl ψ=>obtain⟨ps,z,r⟩:=z; exact⟨ps,by rw [s a _ e]; exact z,fun H2 k2=>r H2 (k.trans k2)⟩
  | gen g=>exact GObj.step z k (s a _ e)
theorem Hs.new {o:HO} (h:Hs K H S) (e:H p=none):Hs K (upd H p o) S:=h.step (Kp.new e) fun a u q=>by
  rw [upd_ne]; intro z; subst z; rw [h.free e] at q; cases q
theorem Hs.newL {xs:List V} {ds:List D} (h:Hs K H S) (e:H p=none) (r:IsDs K H ds xs):Hs K (upd H p (.lst xs)) (put S p (.lst ds)):=fun a o q=>by
  by_cases z:a=p
  · subst z
    rw [put_same] at q
    cases q
    exact⟨xs,upd_same,r.kp (Kp.new e)⟩
  · rw [put_ne z] at q
    exact(h.new e) a o q
theorem Hs.setL {xs ys:List V} {ds:List D} (h:Hs K H S) (e:H p=some (.lst xs)) (r:IsDs K H ds ys):Hs K (upd H p (.lst ys)) (put S p (.lst ds)):=fun a o q=>by
  have k:Kp H (upd H p (.lst ys)):=Kp.mut e (fun z=>z)
  by_cases z:a=p
  · subst z
    rw [put_same] at q
    cases q
    exact⟨ys,upd_same,r.kp k⟩
  · rw [put_ne z] at q
    have w:=h a o q
    cases o with
    | lst ds=>obtain⟨xs,w,r⟩:=w; exact⟨xs,by rw [upd_ne z]; exact w,r.kp k⟩
    | dic=>obtain⟨xs,w⟩:=w; exact⟨xs,by rw [upd_ne z]; exact w⟩
    | exc C=>obtain⟨x,y,w,r⟩:=w; exact⟨x,y,by rw [upd_ne z]; exact w,r⟩
    | fn φ=>obtain⟨⟨x,y,w⟩,r⟩:=w; exact⟨⟨x,y,by rw [upd_ne z]; exact w⟩,fun H2 k2=>r H2 (k.trans k2)⟩
    | tbl ψ=>obtain⟨ps,w,r⟩:=w; exact⟨ps,by rw [upd_ne z]; exact w,fun H2 k2=>r H2 (k.trans k2)⟩
    | gen g=>exact GObj.step w k (upd_ne z)
end
abbrev Lo:=List (Option D)
def Lc (K:Fg) (H:Hp):Lo->L2.St->Prop
  | [],σ=>σ=[]
  | none::L,σ=>∃ x r,σ=x::r/\Lc K H L r
  | some d::L,σ=>∃ v r,σ=some v::r/\IsD K H d v/\Lc K H L r
section
variable {K:Fg} {H H':Hp}
theorem Lc.kp (k:Kp H H'):∀ {L:Lo} {σ:L2.St},Lc K H L σ->Lc K H' L σ
  | [],_,h=>h
  | none::L,_,h=>by
    obtain⟨x,r,e,h⟩:=h
    exact⟨x,r,e,Lc.kp k h⟩
  | some d::L,_,h=>by
    obtain⟨v,r,e,h1,h⟩:=h
    exact⟨v,r,e,h1.kp k,Lc.kp k h⟩
theorem Lc.get:∀ {L:Lo} {σ:L2.St} {i:Nat} {d:D},Lc K H L σ->L[i]?=some (some d)->∃ v,σ[i]?=some (some v)/\IsD K H d v
  | [],_,_,_,_,e=>by simp at e
  | none::L,_,0,_,_,e=>by simp at e
  | some c::L,_,0,d,h,e=>by
    obtain⟨v,r,rfl,h1,h⟩:=h
    simp at e
    subst e
    exact⟨v,rfl,h1⟩
  | none::L,_,i+1,d,h,e=>by
    obtain⟨x,r,rfl,h⟩:=h
    obtain⟨u,q1,q2⟩:=Lc.get (i:=i) (d:=d) h (by simpa using e)
    exact⟨u,by simpa using q1,q2⟩
  | some c::L,_,i+1,d,h,e=>by
    obtain⟨v,r,rfl,_,h⟩:=h
    obtain⟨u,q1,q2⟩:=Lc.get (i:=i) (d:=d) h (by simpa using e)
    exact⟨u,by simpa using q1,q2⟩
theorem Lc.set {d:D} {v:V} (hd:IsD K H d v):∀ {L:Lo} {σ:L2.St} (i:Nat),Lc K H L σ->Lc K H (L.set i (some d)) (σ.set i (some v))
  | [],_,_,h=>by
    have e:_=[]:=h
    subst e
    exact rfl
  | none::L,_,0,h=>by
    obtain⟨x,r,rfl,h⟩:=h
    exact⟨v,r,rfl,hd,h⟩
  | some c::L,_,0,h=>by
    obtain⟨x,r,rfl,_,h⟩:=h
    exact⟨v,r,rfl,hd,h⟩
  | none::L,_,i+1,h=>by
    obtain⟨x,r,rfl,h⟩:=h
    exact⟨x,r.set i (some v),rfl,Lc.set hd i h⟩
  | some c::L,_,i+1,h=>by
    obtain⟨x,r,rfl,h1,h⟩:=h
    exact⟨x,r.set i (some v),rfl,h1,Lc.set hd i h⟩
theorem Lc.none:∀ (n:Nat),Lc K H (List.replicate n .none) (List.replicate n .none)
  | 0=>rfl
  | n+1=>⟨_,_,rfl,Lc.none n⟩
theorem Lc.start:∀ {ds:List D} {vs:List V} (n:Nat),IsDs K H ds vs->Lc K H (ds.map some++List.replicate n .none) (vs.map some++List.replicate n .none)
  | [],_,n,h=>by rw [isNil.mp h]; exact Lc.none n
  | d::ds,_,n,h=>by
    obtain⟨v,r,rfl,h1,h2⟩:=isCons.mp h
    exact⟨v,_,rfl,h1,Lc.start n h2⟩
end
abbrev DK:=D->DH->Prop
abbrev DE:=Lo->DH->DK->Prop
abbrev DT:=Lo->DH->(Bool->DH->Prop)->Prop
abbrev DA:=Lo->DH->(List D->DH->Prop)->Prop
structure DEnds where
  nx:Lo->DH->Prop
  rt:DK
  bk:Lo->DH->Prop:=fun _ _=>False
  ct:Lo->DH->Prop:=fun _ _=>False
abbrev DS:=DEnds->Lo->DH->Prop
def up (K:Fg) (g:DE):TE:=fun σ H Q=>∃ L S k,Lc K H L σ/\Hs K H S/\g L S k/\∀ d S' v H',k d S'->Kp H H'->Hs K H' S'->IsD K H' d v->Q v H'
def upT (K:Fg) (g:DT):TT:=fun σ H Q=>∃ L S k,Lc K H L σ/\Hs K H S/\g L S k/\∀ b S' H',k b S'->Kp H H'->Hs K H' S'->Q b H'
def upA (K:Fg) (g:DA):TA:=fun σ H Q=>∃ L S k,Lc K H L σ/\Hs K H S/\g L S k/\∀ ds S' vs H',k ds S'->Kp H H'->Hs K H' S'->IsDs K H' ds vs->Q vs H'
structure Rch (K:Fg) (H:Hp) (M:DEnds) (N:Ends):Prop where
  nx:∀ L S σ H',M.nx L S->Kp H H'->Lc K H' L σ->Hs K H' S->N.nx σ H'
  rt:∀ d S v H',M.rt d S->Kp H H'->Hs K H' S->IsD K H' d v->N.rt v H'
  bk:∀ L S σ H',M.bk L S->Kp H H'->Lc K H' L σ->Hs K H' S->N.bk σ H'
  ct:∀ L S σ H',M.ct L S->Kp H H'->Lc K H' L σ->Hs K H' S->N.ct σ H'
theorem Rch.kp {K:Fg} {H H1:Hp} {M:DEnds} {N:Ends} (r:Rch K H M N) (k:Kp H H1):Rch K H1 M N:=
  ⟨fun L S σ H' h k'=>r.nx L S σ H' h (k.trans k'),fun d S v H' h k'=>r.rt d S v H' h (k.trans k'),fun L S σ H' h k'=>r.bk L S σ H' h (k.trans k'),fun L S σ H' h k'=>r.ct L S σ H' h (k.trans k')⟩
def upS (K:Fg) (g:DS):TS:=fun N σ H=>∃ L S M,Lc K H L σ/\Hs K H S/\g M L S/\Rch K H M N
theorem PE.imp {X:Cx} {e:Expr} {t t':TE} (h:PE X e t) (i:∀ σ H Q,t' σ H Q->t σ H Q):PE X e t':=fun pins s σ H Q I q=>h pins s σ H Q I (i σ H Q q)
theorem PT.imp {X:Cx} {e:Expr} {t t':TT} (h:PT X e t) (i:∀ σ H Q,t' σ H Q->t σ H Q):PT X e t':=fun pins s σ H Q I q=>h pins s σ H Q I (i σ H Q q)
theorem PW.imp {X:Cx} {e:Expr} {t t':TT} (h:PW X e t) (i:∀ σ H Q,t' σ H Q->t σ H Q):PW X e t':=fun w pins s σ H Q I q=>h w pins s σ H Q I (i σ H Q q)
theorem PA.imp {X:Cx} {e:List Expr} {t t':TA} (h:PA X e t) (i:∀ σ H Q,t' σ H Q->t σ H Q):PA X e t':=fun pos pins s σ H Q I q=>h pos pins s σ H Q I (i σ H Q q)
theorem PS.imp {X:Cx} {e:Stmt} {t t':TS} (h:PS X e t) (i:∀ N σ H,t' N σ H->t N σ H):PS X e t':=fun pins s σ H Q I q=>h pins s σ H Q I (i Q σ H q)
theorem PSs.imp {X:Cx} {e:List Stmt} {t t':TS} (h:PSs X e t) (i:∀ N σ H,t' N σ H->t N σ H):PSs X e t':=fun pins s σ H Q I q=>h pins s σ H Q I (i Q σ H q)
theorem up.go {K:Fg} {g:DE} {σ:L2.St} {H:Hp} {Q:VK} {L:Lo} {S:DH} {k:DK} (hL:Lc K H L σ) (hS:Hs K H S) (h:g L S k)
    (n:∀ d S' v H',k d S'->Kp H H'->Lc K H' L σ->Hs K H' S'->IsD K H' d v->Q v H'):up K g σ H Q:=
  ⟨L,S,k,hL,hS,h,fun d S' v H' a b c e=>n d S' v H' a b (hL.kp b) c e⟩
theorem upT.go {K:Fg} {g:DT} {σ:L2.St} {H:Hp} {Q:Bool->Hp->Prop} {L:Lo} {S:DH} {k:Bool->DH->Prop} (hL:Lc K H L σ) (hS:Hs K H S) (h:g L S k)
    (n:∀ b S' H',k b S'->Kp H H'->Lc K H' L σ->Hs K H' S'->Q b H'):upT K g σ H Q:=
  ⟨L,S,k,hL,hS,h,fun b S' H' a c e=>n b S' H' a c (hL.kp c) e⟩
theorem upA.go {K:Fg} {g:DA} {σ:L2.St} {H:Hp} {Q:List V->Hp->Prop} {L:Lo} {S:DH} {k:List D->DH->Prop} (hL:Lc K H L σ) (hS:Hs K H S) (h:g L S k)
    (n:∀ ds S' vs H',k ds S'->Kp H H'->Lc K H' L σ->Hs K H' S'->IsDs K H' ds vs->Q vs H'):upA K g σ H Q:=
  ⟨L,S,k,hL,hS,h,fun d S' v H' a b c e=>n d S' v H' a b (hL.kp b) c e⟩
section
variable {X:Cx} {a b c:Expr} {ga gb gc:DE} {pos:Pos}
def dVar (i:Nat):DE:=fun L S k=>match L[i]? with
  | some (some d)=>k d S
  | _=>False
def dC (d:D):DE:=fun _ S k=>k d S
theorem d_var (i:Nat) {x:Str} (hN:X.N[i]?=some x:=by rfl) (hv:Vis X.env.scope x:=by first | exact Or.inl rfl | exact Or.inr (Or.inl rfl) | exact Or.inr (Or.inr rfl)) (hd:(x == ("__debug__":Str))=false:=by decide)
    (hcd:(x == ("__classdict__":Str))=false:=by decide):PE X (.Name x pos) (up X.K (dVar i)):=
  PE.imp (pe_var hN hv hd hcd) fun σ H Q ⟨L,S,k,hL,hS,h,n⟩=>by
    unfold dVar at h
    split at h
    · rename_i d e
      obtain⟨v,e1,e2⟩:=hL.get e
      exact⟨v,e1,n d S v H h (Kp.refl H) hS e2⟩
    · exact h.elim
theorem d_c {e:Expr} {d:D} {v:V} (h:PE X e (tC v)) (hd:∀ H,IsD X.K H d v):PE X e (up X.K (dC d)):=
  PE.imp h fun σ H Q ⟨L,S,k,hL,hS,h,n⟩=>n d S v H h (Kp.refl H) hS (hd H)
theorem d_int {i j pos}:PE X (.Constant (.int i) j pos) (up X.K (dC (.int i))):=d_c pe_int fun _=>isInt.mpr rfl
theorem d_bl {i j pos}:PE X (.Constant (.bool i) j pos) (up X.K (dC (.bl i))):=d_c pe_bl fun _=>isBl.mpr rfl
theorem d_non {j pos}:PE X (.Constant .none j pos) (up X.K (dC .non)):=d_c pe_non fun _=>isNon.mpr rfl
theorem d_ty {x:Str} {n:Ty} (hg:Gl X x) (hm:X.mg x=none) (hv:bootBuiltins x=some (.type n.name)) (hn:x≠"__name__":=by decide) (hd:(x == ("__debug__":Str))=false:=by decide):PE X (.Name x pos) (up X.K (dC (.ty n))):=
  d_c (pe_bltn (v:=.ty n.name) hg hm hv rfl hn hd) fun _=>isTy.mpr rfl
def starB:Expr->Bool
  | .Starred _ _=>true
  | _=>false
theorem star_cons {a:Expr} {es:List Expr} {env:Env} (h:starB a=false):starEach (a::es) env=(false,eval a env)::starEach es env:=by
  cases a <;> first | rfl | cases h
theorem star_any {pos:Pos} {env:Env}:∀ {es:List Expr},(es.all fun e=>!starB e)=true->(backTo pos (starEach es env)).any (·.1)=false
  | [],_=>rfl
  | e::es,h=>by
    rw [List.all_cons,Bool.and_eq_true] at h
    rw [star_cons (by simpa using h.1)]
    exact star_any h.2
def dNil:DA:=fun _ S k=>k [] S
def dCons (g:DE) (t:DA):DA:=fun L S k=>g L S fun d S1=>t L S1 fun ds S2=>k (d::ds) S2
theorem da_nil:PA X [] (upA X.K dNil):=PA.imp pa_nil fun σ H Q ⟨L,S,k,hL,hS,h,n⟩=>n [] S [] H h (Kp.refl H) hS IsDs.nil
theorem da_cons {es:List Expr} {t:DA} (ha:PE X a (up X.K ga)) (hr:PA X es (upA X.K t)) (hs:starEach (a::es) X.env=(false,eval a X.env)::starEach es X.env:=by exact star_cons rfl):PA X (a::es) (upA X.K (dCons ga t)):=
  PA.imp (pa_cons ha hr hs) fun σ H Q ⟨L,S,k,hL,hS,h,n⟩=>up.go hL hS h fun d S1 v H1 h1 k1 hL1 hS1 i1=>upA.go hL1 hS1 h1 fun ds S2 vs H2 h2 k2 hL2 hS2 i2=>
    n (d::ds) S2 (v::vs) H2 h2 (k1.trans k2) hS2 (IsDs.cons (i1.kp k2) i2)
def dTup (t:DA):DE:=fun L S k=>t L S fun ds S1=>ds.length<=sizeLine/\k (.tup ds) S1
def dLst (t:DA):DE:=fun L S k=>t L S fun ds S1=>ds.length<=sizeLine/\∀ p,S1 p=none->k (.ref p) (put S1 p (.lst ds))
theorem d_tup {es:List Expr} {x1} {t:DA} (h:PA X es (upA X.K t)):PE X (.Tuple es x1 pos) (up X.K (dTup t)):=
  PE.imp (pe_tup h) fun σ H Q ⟨L,S,k,hL,hS,h,n⟩=>upA.go hL hS h fun ds S1 vs H1 h1 k1 hL1 hS1 i1=>by
    refine⟨by rw [<- i1.length]; exact h1.1,fun p hp=>?_⟩
    have k2:Kp H1 (upd H1 p (.tup vs)):=Kp.new hp
    exact n (.tup ds) S1 _ _ h1.2 (k1.trans k2) (hS1.new hp) (isTup.mpr ⟨p,vs,rfl,SqT.of upd_same,i1.kp k2⟩)
theorem d_lst {es:List Expr} {t:DA} (h:PA X es (upA X.K t)):PE X (.List es pos) (up X.K (dLst t)):=
  PE.imp (pe_lst h) fun σ H Q ⟨L,S,k,hL,hS,h,n⟩=>upA.go hL hS h fun ds S1 vs H1 h1 k1 hL1 hS1 i1=>by
    refine⟨by rw [<- i1.length]; exact h1.1,fun p hp=>?_⟩
    exact n (.ref p) _ _ _ (h1.2 p (hS1.free hp)) (k1.trans (Kp.new hp)) (hS1.newL hp i1) (isRef.mpr rfl)
abbrev D2:=D->D->DH->DK->Prop
def upR (K:Fg) (r:D2):R2:=fun x y H Q=>∃ d e S k,IsD K H d x/\IsD K H e y/\Hs K H S/\r d e S k/\∀ d' S' v H',k d' S'->Kp H H'->Hs K H' S'->IsD K H' d' v->Q v H'
def dOp (r:D2) (ga gb:DE):DE:=fun L S k=>ga L S fun x S1=>gb L S1 fun y S2=>r x y S2 k
theorem dOp_go {K:Fg} {r:D2}:∀ σ H Q,up K (dOp r ga gb) σ H Q->tOp (upR K r) (up K ga) (up K gb) σ H Q:=fun σ H Q ⟨L,S,k,hL,hS,h,n⟩=>
  up.go hL hS h fun d S1 v H1 h1 k1 hL1 hS1 i1=>up.go hL1 hS1 h1 fun e S2 u H2 h2 k2 hL2 hS2 i2=>
    ⟨d,e,S2,k,i1.kp k2,i2,hS2,h2,fun d' S' v H' q k3 z1 z2=>n d' S' v H' q (k1.trans (k2.trans k3)) z1 z2⟩
theorem d_op {op:Operator} {r:D2} (ho:OpR X (binaryOp op) (upR X.K r)) (ha:PE X a (up X.K ga)) (hb:PE X b (up X.K gb)):PE X (.BinOp a op b pos) (up X.K (dOp r ga gb)):=PE.imp (pe_op ho ha hb) dOp_go
theorem d_cmp {op:CmpOp} {r:D2} (ho:OpR X (compareOp op) (upR X.K r)) (ha:PE X a (up X.K ga)) (hb:PE X b (up X.K gb)) (hm:behindInMarks op b=false):PE X (.Compare a [op] [b] pos) (up X.K (dOp r ga gb)):=PE.imp (pe_cmpR ho ha hb hm) dOp_go
theorem d_ix {r:D2} (hr:IxR X (upR X.K r)) (ha:PE X a (up X.K ga)) (hb:PE X b (up X.K gb)) (hs:PlainIx b):PE X (.Subscript a b pos) (up X.K (dOp r ga gb)):=PE.imp (pe_ix hr ha hb hs) dOp_go
abbrev D1:=D->DH->DK->Prop
def upU (K:Fg) (r:D1):V->Hp->VK->Prop:=fun x H Q=>∃ d S k,IsD K H d x/\Hs K H S/\r d S k/\∀ d' S' v H',k d' S'->Kp H H'->Hs K H' S'->IsD K H' d' v->Q v H'
def dUn (r:D1) (ga:DE):DE:=fun L S k=>ga L S fun x S1=>r x S1 k
theorem d_un {op:UnaryOp} {r:D1} (ho:UnR X (unaryOp op) (upU X.K r)) (ha:PE X a (up X.K ga)):PE X (.UnaryOp op a pos) (up X.K (dUn r ga)):=
  PE.imp (pe_un ho ha) fun σ H Q ⟨L,S,k,hL,hS,h,n⟩=>up.go hL hS h fun d S1 v H1 h1 k1 hL1 hS1 i1=>⟨d,S1,k,i1,hS1,h1,fun d' S' v H' q k3 z1 z2=>n d' S' v H' q (k1.trans k3) z1 z2⟩
def dTest (g:DE):DT:=fun L S k=>g L S fun d S1=>match d with
  | .bl c=>k c S1
  | _=>False
theorem dTest_go {K:Fg} {g:DE}:∀ σ H Q,upT K (dTest g) σ H Q->tTest (up K g) σ H Q:=fun σ H Q ⟨L,S,k,hL,hS,h,n⟩=>
  up.go hL hS h fun d S1 v H1 h1 k1 hL1 hS1 i1=>by
    cases d with
    | bl c=>
      have e:=isBl.mp i1
      subst e
      exact⟨c,rfl,n c S1 H1 h1 k1 hS1⟩
    | _=>exact(show False from h1).elim
theorem dt_cmp {op:CmpOp} {r:D2} (ho:OpR X (compareOp op) (upR X.K r)) (ha:PE X a (up X.K ga)) (hb:PE X b (up X.K gb)) (hm:behindInMarks op b=false):PT X (.Compare a [op] [b] pos) (upT X.K (dTest (dOp r ga gb))):=
  PT.imp (PT.imp (pt_cmpR ho ha hb hm) fun σ H Q h=>dOp_go σ H _ h) dTest_go
theorem dt_val {e:Expr} {g:DE} (h:PE X e (up X.K g)) (he:∀ whole,isTrue e X.env whole=(do let v <- whole; standAt e.pos; holding [v] (truthy v)):=by intro _; rfl):PT X e (upT X.K (dTest g)):=
  PT.imp (pt_val h he) dTest_go
variable {tA tB':DT} {rest:List Expr}
def dOrT (t u:DT):DT:=fun L S k=>t L S fun c S1=>if c=true then k true S1 else u L S1 k
def dNotT (t:DT):DT:=fun L S k=>t L S fun c S1=>k (!c) S1
theorem dw_or1 (ha:PT X a (upT X.K tA)):PW X (.BoolOp .Or [a] pos) (upT X.K tA):=pw_or1 ha
theorem dw_or (ha:PT X a (upT X.K tA)) (hb:PW X (.BoolOp .Or (b::rest) pos) (upT X.K tB')):PW X (.BoolOp .Or (a::b::rest) pos) (upT X.K (dOrT tA tB')):=
  PW.imp (pw_or ha hb) fun σ H Q ⟨L,S,k,hL,hS,h,n⟩=>upT.go hL hS h fun c S1 H1 h1 k1 hL1 hS1=>by
    cases c with
    | true=>
      rw [if_pos rfl] at h1 ⊢
      exact n true S1 H1 h1 k1 hS1
    | false=>
      rw [if_neg Bool.false_ne_true] at h1 ⊢
      exact upT.go hL1 hS1 h1 fun c2 S2 H2 h2 k2 _ hS2=>n c2 S2 H2 h2 (k1.trans k2) hS2
theorem dt_not (ha:PT X a (upT X.K tA)):PT X (.UnaryOp .Not a pos) (upT X.K (dNotT tA)):=
  PT.imp (pt_not ha) fun σ H Q ⟨L,S,k,hL,hS,h,n⟩=>upT.go hL hS h fun c S1 H1 h1 k1 hL1 hS1=>n _ S1 H1 h1 k1 hS1
def dAndV (ga gb:DE):DE:=fun L S k=>ga L S fun x S1=>match x with
  | .bl c=>if c=true then gb L S1 k else k (.bl false) S1
  | _=>False
theorem d_one {op} (h:PE X a (up X.K ga)):PE X (.BoolOp op [a] pos) (up X.K ga):=pe_one h
theorem d_and (ha:PE X a (up X.K ga)) (hb:PE X (.BoolOp .And (b::rest) pos) (up X.K gb)):PE X (.BoolOp .And (a::b::rest) pos) (up X.K (dAndV ga gb)):=
  PE.imp (pe_and ha hb) fun σ H Q ⟨L,S,k,hL,hS,h,n⟩=>up.go hL hS h fun d S1 v H1 h1 k1 hL1 hS1 i1=>by
    cases d with
    | bl c=>
      have e:=isBl.mp i1
      subst e
      refine⟨c,rfl,?_⟩
      have h1:if c=true then _ else _:=h1
      cases c with
      | true=>
        rw [if_pos rfl] at h1 ⊢
        exact up.go hL1 hS1 h1 fun d2 S2 v2 H2 h2 k2 _ hS2 i2=>n d2 S2 v2 H2 h2 (k1.trans k2) hS2 i2
      | false=>
        rw [if_neg Bool.false_ne_true] at h1 ⊢
        exact n _ S1 _ H1 h1 k1 hS1 (isBl.mpr rfl)
    | _=>exact(show False from h1).elim
end
section
variable {X:Cx}
theorem up1 {K:Fg} {H:Hp} {S:DH} {k:DK} {Q:VK} {d:D} {v:V} (n:∀ d' S' v H',k d' S'->Kp H H'->Hs K H' S'->IsD K H' d' v->Q v H') (hS:Hs K H S) (h:k d S) (i:IsD K H d v):Q v H:=n d S v H h (Kp.refl H) hS i
def d2I (C:Int->Int->Prop) (g:Int->Int->D):D2:=fun d e S k=>match d,e with
  | .int i,.int j=>C i j/\k (g i j) S
  | _,_=>False
theorem op2I {f:Value->Value->Sem Value} {C:Int->Int->Prop} {g:Int->Int->D} {gV:Int->Int->V} (ho:OpR X f (rI C gV)) (hg:∀ i j H,IsD X.K H (g i j) (gV i j)):OpR X f (upR X.K (d2I C g)):=by
  intro pins s σ H x y v u Q I rx ry h
  obtain⟨d,e,S,k,i1,i2,hS,r,n⟩:=h
  cases d with
  | int i=>
    cases e with
    | int j=>
      have e1:=isInt.mp i1
      have e2:=isInt.mp i2
      subst e1
      subst e2
      exact ho pins s σ H _ _ v u Q I rx ry ⟨i,j,rfl,rfl,r.1,up1 n hS r.2 (hg i j H)⟩
    | _=>exact(show False from r).elim
  | _=>exact(show False from r).elim
def d2I0 (g:Int->Int->D):D2:=fun d e S k=>match d,e with
  | .int i,.int j=>k (g i j) S
  | _,_=>False
theorem op2I0 {f:Value->Value->Sem Value} {g:Int->Int->D} {gV:Int->Int->V} (ho:OpR X f (rI0 gV)) (hg:∀ i j H,IsD X.K H (g i j) (gV i j)):OpR X f (upR X.K (d2I0 g)):=by
  intro pins s σ H x y v u Q I rx ry h
  obtain⟨d,e,S,k,i1,i2,hS,r,n⟩:=h
  cases d with
  | int i=>
    cases e with
    | int j=>
      have e1:=isInt.mp i1
      have e2:=isInt.mp i2
      subst e1
      subst e2
      exact ho pins s σ H _ _ v u Q I rx ry ⟨i,j,rfl,rfl,up1 n hS r (hg i j H)⟩
    | _=>exact(show False from r).elim
  | _=>exact(show False from r).elim
def CDivB (i j:Int):Prop:=j≠0/\j.natAbs.log2 < 9000
abbrev dSub:D2:=d2I0 fun i j=>.int (i - j)
abbrev dMul:D2:=d2I IntMulOk fun i j=>.int (i*j)
abbrev dDiv:D2:=d2I CDivB fun i j=>.int (i.fdiv j)
abbrev dMod:D2:=d2I (fun _ j=>j≠0) fun i j=>.int (i.fmod j)
abbrev dPow:D2:=d2I CPow fun i j=>.int (i ^ j.toNat)
abbrev dLt:D2:=d2I0 fun i j=>.bl (decide (i < j))
abbrev dGt:D2:=d2I0 fun i j=>.bl (decide (j < i))
abbrev dGe:D2:=d2I0 fun i j=>.bl (decide (j<=i))
theorem o_sub:OpR X (binaryOp .Sub) (upR X.K dSub):=op2I0 op_sub fun _ _ _=>isInt.mpr rfl
theorem o_mul:OpR X (binaryOp .Mult) (upR X.K dMul):=op2I (C:=IntMulOk) (gV:=fun i j=>.int (i*j)) (opI fun _ _ _ _ _ _ _ hc q=>mul_int q hc) fun _ _ _=>isInt.mpr rfl
theorem o_div:OpR X (binaryOp .FloorDiv) (upR X.K dDiv):=op2I (C:=CDivB) (gV:=fun i j=>.int (i.fdiv j)) (opI fun _ _ _ _ _ _ _ hc q=>floordiv_int hc.1 q (.inl (PyProof.noPylong_of_log2 hc.2))) fun _ _ _=>isInt.mpr rfl
theorem o_mod:OpR X (binaryOp .Mod) (upR X.K dMod):=op2I op_modN fun _ _ _=>isInt.mpr rfl
theorem o_pow:OpR X (binaryOp .Pow) (upR X.K dPow):=op2I op_pow fun _ _ _=>isInt.mpr rfl
theorem o_lt:OpR X (compareOp .Lt) (upR X.K dLt):=op2I0 op_lt fun _ _ _=>isBl.mpr rfl
theorem o_gt:OpR X (compareOp .Gt) (upR X.K dGt):=op2I0 op_gt fun _ _ _=>isBl.mpr rfl
theorem o_ge:OpR X (compareOp .GtE) (upR X.K dGe):=op2I0 op_ge fun _ _ _=>isBl.mpr rfl
def dAdd:D2:=fun d e S k=>match d,e with
  | .int i,.int j=>k (.int (i+j)) S
  | .str x,.str y=>x.length+y.length<=sizeLine/\k (.str (x++y)) S
  | .tup xs,.tup ys=>xs≠[]/\ys≠[]/\xs.length+ys.length<=sizeLine/\k (.tup (xs++ys)) S
  | .ref a,.ref b=>∃ xs ys,S a=some (.lst xs)/\S b=some (.lst ys)/\xs.length+ys.length<=sizeLine/\∀ p,S p=none->k (.ref p) (put S p (.lst (xs++ys)))
  | _,_=>False
theorem ne_nil_of {K:Fg} {H:Hp} {ds:List D} {vs:List V} (i:IsDs K H ds vs) (h:ds≠[]):vs≠[]:=by
  intro e
  subst e
  have:=i.length
  exact h (List.length_eq_zero_iff.mp this)
theorem o_add:OpR X (binaryOp .Add) (upR X.K dAdd):=by
  intro pins s σ H x y v u Q I rx ry h
  obtain⟨d,e,S,k,i1,i2,hS,r,n⟩:=h
  cases d with
  | int i=>
    cases e with
    | int j=>
      have e1:=isInt.mp i1
      have e2:=isInt.mp i2
      subst e1
      subst e2
      exact op_add pins s σ H _ _ v u Q I rx ry ⟨i,j,rfl,rfl,up1 n hS r (isInt.mpr rfl)⟩
    | _=>exact(show False from r).elim
  | str i=>
    cases e with
    | str j=>
      have e1:=isStr.mp i1
      have e2:=isStr.mp i2
      subst e1
      subst e2
      exact op_add_str pins s σ H _ _ v u Q I rx ry ⟨i,j,rfl,rfl,r.1,up1 n hS r.2 (isStr.mpr rfl)⟩
    | _=>exact(show False from r).elim
  | tup xs=>
    cases e with
    | tup ys=>
      obtain⟨a,vs,rfl,t1,j1⟩:=isTup.mp i1
      obtain⟨b,us,rfl,t2,j2⟩:=isTup.mp i2
      obtain⟨h1,h2,h3,r⟩:=r
      refine op_catT pins s σ H _ _ v u Q I rx ry ⟨a,b,vs,us,rfl,rfl,t1,t2,ne_nil_of j1 h1,by rw [<- j1.length,<- j2.length]; exact h3,fun z=>absurd z (ne_nil_of j2 h2),fun _ p hp=>?_⟩
      have kp:Kp H (upd H p (.tup (vs++us))):=Kp.new hp
      exact n _ S _ _ r kp (hS.new hp) (isTup.mpr ⟨p,_,rfl,SqT.of upd_same,(j1.append j2).kp kp⟩)
    | _=>exact(show False from r).elim
  | ref a=>
    cases e with
    | ref b=>
      have e1:=isRef.mp i1
      have e2:=isRef.mp i2
      subst e1
      subst e2
      obtain⟨xs,ys,h1,h2,h3,r⟩:=r
      obtain⟨vs,q1,j1⟩:=hS.lst h1
      obtain⟨us,q2,j2⟩:=hS.lst h2
      refine op_cat pins s σ H _ _ v u Q I rx ry ⟨a,b,vs,us,rfl,rfl,q1,q2,by rw [<- j1.length,<- j2.length]; exact h3,fun p hp=>?_⟩
      exact n _ _ _ _ (r p (hS.free hp)) (Kp.new hp) (hS.newL hp (j1.append j2)) (isRef.mpr rfl)
    | _=>exact(show False from r).elim
  | _=>exact(show False from r).elim
def eqF:D->D->Option Bool
  | .int i,.int j=>some (decide (i=j))
  | .bl i,.bl j=>some (decide (i=j))
  | .str i,.str j=>some (decide (i=j))
  | _,_=>none
def dEq:D2:=fun d e S k=>match eqF d e with
  | some b=>k (.bl b) S
  | none=>False
def dNe:D2:=fun d e S k=>match eqF d e with
  | some b=>k (.bl (!b)) S
  | none=>False
theorem eqF_V {K:Fg} {H:Hp} {d e:D} {x y:V} {b:Bool} (h:eqF d e=some b) (i1:IsD K H d x) (i2:IsD K H e y):scal x y=true/\decide (x=y)=b:=by
  unfold eqF at h
  split at h
  · have e1:=isInt.mp i1
    have e2:=isInt.mp i2
    subst e1; subst e2
    cases h
    exact⟨rfl,by simp⟩
  · have e1:=isBl.mp i1
    have e2:=isBl.mp i2
    subst e1; subst e2
    cases h
    exact⟨rfl,by simp⟩
  · have e1:=isStr.mp i1
    have e2:=isStr.mp i2
    subst e1; subst e2
    cases h
    exact⟨rfl,by simp⟩
  · cases h
theorem o_eq:OpR X (compareOp .Eq) (upR X.K dEq):=by
  intro pins s σ H x y v u Q I rx ry h
  obtain⟨d,e,S,k,i1,i2,hS,r,n⟩:=h
  unfold dEq at r
  cases q:eqF d e with
  | none=>rw [q] at r; exact r.elim
  | some b=>
    rw [q] at r
    obtain⟨h1,h2⟩:=eqF_V q i1 i2
    exact op_eq pins s σ H _ _ v u Q I rx ry ⟨h1,by rw [h2]; exact up1 n hS r (isBl.mpr rfl)⟩
theorem o_ne:OpR X (compareOp .NotEq) (upR X.K dNe):=by
  intro pins s σ H x y v u Q I rx ry h
  obtain⟨d,e,S,k,i1,i2,hS,r,n⟩:=h
  unfold dNe at r
  cases q:eqF d e with
  | none=>rw [q] at r; exact r.elim
  | some b=>
    rw [q] at r
    obtain⟨h1,h2⟩:=eqF_V q i1 i2
    exact op_ne pins s σ H _ _ v u Q I rx ry ⟨h1,by rw [h2]; exact up1 n hS r (isBl.mpr rfl)⟩
def dNeg:D1:=fun d S k=>match d with
  | .int i=>k (.int (-i)) S
  | _=>False
theorem o_neg:UnR X (unaryOp .USub) (upU X.K dNeg):=by
  intro pins s σ H x v Q I rx h
  obtain⟨d,S,k,i1,hS,r,n⟩:=h
  cases d with
  | int i=>
    have e1:=isInt.mp i1
    subst e1
    exact un_neg pins s σ H _ v Q I rx ⟨i,rfl,up1 n hS r (isInt.mpr rfl)⟩
  | _=>exact(show False from r).elim
def dIx:D2:=fun d e S k=>match d,e with
  | .tup ds,.int i=>(match atI ds i with
    | some c=>k c S
    | none=>False)
  | .rl ds,.int i=>(match atI ds i with
    | some c=>k c S
    | none=>False)
  | .ref a,.int i=>(match S a with
    | some (.lst ds)=>(match atI ds i with
      | some c=>k c S
      | none=>False)
    | _=>False)
  | _,_=>False
theorem IsDs.atI {K:Fg} {H:Hp} {ds:List D} {vs:List V} {i:Int} {d:D} (r:IsDs K H ds vs) (h:atI ds i=some d):∃ v,L2.atI vs i=some v/\IsD K H d v:=by
  unfold L2.atI at h ⊢
  rw [<- r.length]
  cases q:ixN ds.length i with
  | none=>rw [q] at h; cases h
  | some j=>
    rw [q] at h
    exact r.get h
theorem x_ix:IxR X (upR X.K dIx):=by
  intro value slice pins s σ H x y v u Q I rx ry h hs
  obtain⟨d,e,S,k,i1,i2,hS,r,n⟩:=h
  cases e with
  | int i=>
    have e2:=isInt.mp i2
    subst e2
    cases d with
    | tup ds=>
      obtain⟨a,vs,rfl,t,j⟩:=isTup.mp i1
      cases q:atI ds i with
      | none=>simp only [dIx,q] at r
      | some c=>
        simp only [dIx,q] at r
        obtain⟨w,e1,e2⟩:=j.atI q
        exact ix_tup value slice pins s σ H _ _ v u Q I rx ry ⟨a,vs,i,w,rfl,rfl,t,e1,up1 n hS r e2⟩ hs
    | rl ds=>
      obtain⟨a,vs,rfl,t,j⟩:=isRl.mp i1
      cases q:atI ds i with
      | none=>simp only [dIx,q] at r
      | some c=>
        simp only [dIx,q] at r
        obtain⟨w,e1,e2⟩:=j.atI q
        exact ix_list value slice pins s σ H _ _ v u Q I rx ry ⟨a,vs,i,w,rfl,rfl,t.sq,e1,up1 n hS r e2⟩ hs
    | ref a=>
      have e1:=isRef.mp i1
      subst e1
      cases z:S a with
      | none=>simp only [dIx,z] at r
      | some o=>
        cases o with
        | dic=>simp only [dIx,z] at r
        | exc _=>simp only [dIx,z] at r
        | fn _=>simp only [dIx,z] at r
        | tbl _=>simp only [dIx,z] at r
        | gen _=>simp only [dIx,z] at r
        | lst ds=>
          obtain⟨vs,hl,j⟩:=hS.lst z
          cases q:atI ds i with
          | none=>simp only [dIx,z,q] at r
          | some c=>
            simp only [dIx,z,q] at r
            obtain⟨w,e1,e2⟩:=j.atI q
            exact ix_list value slice pins s σ H _ _ v u Q I rx ry ⟨a,vs,i,w,rfl,rfl,SqL.of hl,e1,up1 n hS r e2⟩ hs
    | _=>exact(show False from r).elim
  | _=>
    cases d <;> exact(show False from r).elim
end
abbrev DSp:=List D->DH->DK->Prop
def upC (K:Fg) (r:DSp):List V->Hp->VK->Prop:=fun xs H Q=>∃ ds S k,IsDs K H ds xs/\Hs K H S/\r ds S k/\∀ d' S' v H',k d' S'->Kp H H'->Hs K H' S'->IsD K H' d' v->Q v H'
def dCall (r:DSp) (t:DA):DE:=fun L S k=>t L S fun ds S1=>r ds S1 k
section
variable {X:Cx} {x:Str} {p pos:Pos} {e:Expr} {es:List Expr} {t:DA} {id T:String} {r:DSp}
theorem dCall_go {K:Fg}:∀ σ H Q,up K (dCall r t) σ H Q->tCB (upC K r) (upA K t) σ H Q:=fun σ H Q ⟨L,S,k,hL,hS,h,n⟩=>
  upA.go hL hS h fun ds S1 vs H1 h1 k1 hL1 hS1 i1=>⟨ds,S1,k,i1,hS1,h1,fun d' S' v H' q k3 z1 z2=>n d' S' v H' q (k1.trans k3) z1 z2⟩
theorem d_callB (hc:CallR X (.builtin id) (upC X.K r)) (hg:Gl X x) (hm:X.mg x=none) (hv:bootBuiltins x=some (.builtin id)) (ha:PA X (e::es) (upA X.K t)) (hn:x≠"__name__":=by decide) (hdb:(x == ("__debug__":Str))=false:=by decide)
    (he:starEach (e::es) X.env=(false,eval e X.env)::starEach es X.env:=by exact star_cons rfl) (hpl:(backTo pos (starEach es X.env)).any (·.1)=false:=by exact star_any rfl):PE X (.Call (.Name x p) (e::es) [] pos) (up X.K (dCall r t)):=
  PE.imp (pe_callB hc hg hm hv ha hn hdb he hpl) dCall_go
theorem d_callT (hc:CallR X (.type T) (upC X.K r)) (hg:Gl X x) (hm:X.mg x=none) (hv:bootBuiltins x=some (.type T)) (ha:PA X (e::es) (upA X.K t)) (hn:x≠"__name__":=by decide) (hdb:(x == ("__debug__":Str))=false:=by decide)
    (he:starEach (e::es) X.env=(false,eval e X.env)::starEach es X.env:=by exact star_cons rfl) (hpl:(backTo pos (starEach es X.env)).any (·.1)=false:=by exact star_any rfl):PE X (.Call (.Name x p) (e::es) [] pos) (up X.K (dCall r t)):=
  PE.imp (pe_callTy hc hg hm hv ha hn hdb he hpl) dCall_go
def spU (K:Fg) (F:DSp):Sp:=fun vs H Q _=>upC K F vs H Q
structure Own (P:Program) (w:World) (K:Fg) (mg:Str->Option Value) (base:Heap) (x:Str) (n:Nat) (F:DSp):Prop where
  ex:∃ f fd ps,FnOk P w K mg base CX0 n f fd ps (spU K F)/\mg x=some (.ref f)/\PySem.W.keepIn K (.ref f)=true/\Binds K fd ps []
theorem d_call {n:Nat} {F:DSp} (c:Own X.prog X.w X.K X.mg X.base x n F) (hr:Room n X.A) (hg:Gl X x) (ha:PA X (e::es) (upA X.K t)) (hdb:(x == ("__debug__":Str))=false:=by decide)
    (he:starEach (e::es) X.env=(false,eval e X.env)::starEach es X.env:=by exact star_cons rfl) (hpl:(backTo pos (starEach es X.env)).any (·.1)=false:=by exact star_any rfl):
    PE X (.Call (.Name x p) (e::es) [] pos) (up X.K (dCall F t)):=by
  obtain⟨f,fd,ps,F1,h1,h2,h3⟩:=c.ex
  refine PE.imp (pe_call F1 hr hg h1 h2 h3 .nil pass0 ha hdb he hpl) fun σ H Q ⟨L,S,k,hL,hS,h,n⟩=>?_
  refine upA.go hL hS h fun ds S1 vs H1 h1 k1 hL1 hS1 i1=>?_
  show spU X.K F (vs++[]) H1 Q E0
  rw [List.append_nil]
  exact⟨ds,S1,k,i1,hS1,h1,fun d' S' v H' q k3 z1 z2=>n d' S' v H' q (k1.trans k3) z1 z2⟩
def bAbs:DSp:=fun ds S k=>match ds with
  | [.int i]=>k (.int (if i < 0 then -i else i)) S
  | _=>False
theorem isDs1 {K:Fg} {H:Hp} {d:D} {xs:List V} (h:IsDs K H [d] xs):∃ x,xs=[x]/\IsD K H d x:=by
  obtain⟨v,r,rfl,h1,h2⟩:=isCons.mp h
  rw [isNil.mp h2]
  exact⟨v,rfl,h1⟩
theorem isDs2 {K:Fg} {H:Hp} {d e:D} {xs:List V} (h:IsDs K H [d,e] xs):∃ x y,xs=[x,y]/\IsD K H d x/\IsD K H e y:=by
  obtain⟨v,r,rfl,h1,h2⟩:=isCons.mp h
  obtain⟨y,rfl,h3⟩:=isDs1 h2
  exact⟨v,y,rfl,h1,h3⟩
theorem b_abs:CallR X (.builtin "abs") (upC X.K bAbs):=by
  intro pins s σ H xs us Q I rs h
  obtain⟨ds,S,k,i,hS,r,n⟩:=h
  unfold bAbs at r
  split at r
  · obtain⟨x,rfl,i1⟩:=isDs1 i
    have e1:=isInt.mp i1
    subst e1
    exact call_abs pins s σ H _ us Q I rs ⟨_,rfl,up1 n hS r (isInt.mpr rfl)⟩
  · exact r.elim
def bLen:DSp:=fun ds S k=>match ds with
  | [.tup xs]=>k (.int xs.length) S
  | [.rl xs]=>k (.int xs.length) S
  | [.ref a]=>(match S a with
    | some (.lst xs)=>k (.int xs.length) S
    | _=>False)
  | _=>False
theorem b_len:CallR X (.builtin "len") (upC X.K bLen):=by
  intro pins s σ H xs us Q I rs h
  obtain⟨ds,S,k,i,hS,r,n⟩:=h
  unfold bLen at r
  split at r
  · obtain⟨x,rfl,i1⟩:=isDs1 i
    obtain⟨a,vs,rfl,t,j⟩:=isTup.mp i1
    exact call_len_seq pins s σ H _ us Q I rs ⟨a,vs,rfl,.inr t,by rw [<- j.length]; exact up1 n hS r (isInt.mpr rfl)⟩
  · obtain⟨x,rfl,i1⟩:=isDs1 i
    obtain⟨a,vs,rfl,t,j⟩:=isRl.mp i1
    exact call_len_seq pins s σ H _ us Q I rs ⟨a,vs,rfl,.inl t.sq,by rw [<- j.length]; exact up1 n hS r (isInt.mpr rfl)⟩
  · obtain⟨x,rfl,i1⟩:=isDs1 i
    have e1:=isRef.mp i1
    subst e1
    split at r
    · rename_i z
      obtain⟨vs,hl,j⟩:=hS.lst z
      exact call_len_seq pins s σ H _ us Q I rs ⟨_,vs,rfl,.inl (SqL.of hl),by rw [<- j.length]; exact up1 n hS r (isInt.mpr rfl)⟩
    · exact r.elim
  · exact r.elim
def bMax:DSp:=fun ds S k=>match ds with
  | [.int i,.int j]=>k (.int (if j > i then j else i)) S
  | _=>False
def bMin:DSp:=fun ds S k=>match ds with
  | [.int i,.int j]=>k (.int (if j < i then j else i)) S
  | _=>False
theorem b_max (hc:X.calm=true:=by rfl):CallR X (.builtin "max") (upC X.K bMax):=by
  intro pins s σ H xs us Q I rs h
  obtain⟨ds,S,k,i,hS,r,n⟩:=h
  unfold bMax at r
  split at r
  · obtain⟨x,y,rfl,i1,i2⟩:=isDs2 i
    have e1:=isInt.mp i1
    have e2:=isInt.mp i2
    subst e1; subst e2
    exact call_max2 hc pins s σ H _ us Q I rs ⟨_,_,rfl,up1 n hS r (isInt.mpr rfl)⟩
  · exact r.elim
theorem b_min (hc:X.calm=true:=by rfl):CallR X (.builtin "min") (upC X.K bMin):=by
  intro pins s σ H xs us Q I rs h
  obtain⟨ds,S,k,i,hS,r,n⟩:=h
  unfold bMin at r
  split at r
  · obtain⟨x,y,rfl,i1,i2⟩:=isDs2 i
    have e1:=isInt.mp i1
    have e2:=isInt.mp i2
    subst e1; subst e2
    exact call_min2 hc pins s σ H _ us Q I rs ⟨_,_,rfl,up1 n hS r (isInt.mpr rfl)⟩
  · exact r.elim
def tyR:Option DO->Option Ty
  | some (.lst _)=>some .lst
  | some .dic=>some .dic
  | _=>none
def tyD (S:DH):D->Option Ty
  | .non=>some .non
  | .bl _=>some .bool
  | .int _=>some .int
  | .str _=>some .str
  | .tup _=>some .tup
  | .rl _=>none
  | .ref a=>tyR (S a)
  | .ty _=>none
def subT:Ty->Ty->Bool
  | .non,.non=>true | .bool,.bool=>true | .bool,.int=>true | .int,.int=>true | .str,.str=>true | .tup,.tup=>true | .lst,.lst=>true | .dic,.dic=>true | .verr,.verr=>true
  | _,_=>false
theorem kit_of {K:Fg} (t c:Ty):PySem.W.kitOne K (.type t.name) (.type c.name)=some (subT t c):=by
  cases t <;> cases c <;> rfl
end
section
variable {X:Cx} {st:Stmt} {rest:List Stmt} {g h:DS} {e:Expr} {ge:DE} {pos:Pos}
def dNext:DS:=fun M L S=>M.nx L S
def dSeq (g h:DS):DS:=fun M L S=>g {M with nx:=h M} L S
theorem ds_nil:PSs X [] (upS X.K dNext):=PSs.imp pss_nil fun N σ H ⟨L,S,M,hL,hS,h,r⟩=>r.nx L S σ H h (Kp.refl H) hL hS
theorem dSeq_go {K:Fg}:∀ N σ H,upS K (dSeq g h) N σ H->tSeq (upS K g) (upS K h) N σ H:=fun N σ H ⟨L,S,M,hL,hS,q,r⟩=>
  ⟨L,S,{M with nx:=h M},hL,hS,q,⟨fun L' S' σ' H' q' k' hL' hS'=>⟨L',S',M,hL',hS',q',r.kp k'⟩,r.rt,r.bk,r.ct⟩⟩
theorem ds_cons (h1:PS X st (upS X.K g)) (h2:PSs X rest (upS X.K h)):PSs X (st::rest) (upS X.K (dSeq g h)):=PSs.imp (pss_cons h1 h2) dSeq_go
theorem ds_one (h1:PS X st (upS X.K g)):PSs X [st] (upS X.K g):=pss_one h1
def dDrop (ge:DE):DS:=fun M L S=>ge L S fun _ S1=>M.nx L S1
theorem dst_expr (he:PE X e (up X.K ge)) (hs:swapsWith e none pos.line X.env=pure false:=by rfl):PS X (.Expr e pos) (upS X.K (dDrop ge)):=
  PS.imp (ps_expr he hs) fun N σ H ⟨L,S,M,hL,hS,h,r⟩=>up.go hL hS h fun d S1 v H1 h1 k1 hL1 hS1 _=>r.nx L S1 σ H1 h1 k1 hL1 hS1
def dRet (ge:DE):DS:=fun M L S=>ge L S M.rt
theorem dst_ret (he:PE X e (up X.K ge)):PS X (.Return (some e) pos) (upS X.K (dRet ge)):=
  PS.imp (ps_ret he) fun N σ H ⟨L,S,M,hL,hS,h,r⟩=>up.go hL hS h fun d S1 v H1 h1 k1 _ hS1 i1=>r.rt d S1 v H1 h1 k1 hS1 i1
def dIfS (c:DT) (g h:DS):DS:=fun M L S=>c L S fun b S1=>if b=true then g M L S1 else h M L S1
theorem dst_if {c:Expr} {a b:List Stmt} {gc:DT} (hc:PT X c (upT X.K gc)) (ha:PSs X a (upS X.K g)) (hb:PSs X b (upS X.K h)):PS X (.If c a b pos) (upS X.K (dIfS gc g h)):=
  PS.imp (ps_if hc ha hb) fun N σ H ⟨L,S,M,hL,hS,q,r⟩=>upT.go hL hS q fun t S1 H1 h1 k1 hL1 hS1=>by
    cases t with
    | true=>
      rw [if_pos rfl] at h1 ⊢
      exact⟨L,S1,M,hL1,hS1,h1,r.kp k1⟩
    | false=>
      rw [if_neg Bool.false_ne_true] at h1 ⊢
      exact⟨L,S1,M,hL1,hS1,h1,r.kp k1⟩
def dNever:DS:=fun _ _ _=>False
theorem dst_never:PS X st (upS X.K dNever):=PS.imp ps_never fun N σ H ⟨L,S,M,hL,hS,h,r⟩=>h.elim
def dSet (i:Nat) (ge:DE):DS:=fun M L S=>ge L S fun d S1=>M.nx (L.set i (some d)) S1
theorem dst_set {i:Nat} {x:Str} {pos':Pos} (hN:X.N.Nodup) (he:PE X e (up X.K ge)) (hi:X.N[i]?=some x:=by rfl) (hx:Loc X.env.scope x:=by first | exact Or.inl rfl | exact Or.inr rfl) (hs:swapsWith e (some (.Name x pos')) pos.line X.env=pure false:=by rfl)
    (hf:X.fn x=true\/X.env.scope.names.lookup x=some .local:=by first | exact .inl rfl | exact .inr rfl | assumption):PS X (.Assign [.Name x pos'] e pos) (upS X.K (dSet i ge)):=
  PS.imp (ps_set hN hi hx he hs hf) fun N σ H ⟨L,S,M,hL,hS,h,r⟩=>up.go hL hS h fun d S1 v H1 h1 k1 hL1 hS1 i1=>r.nx _ S1 _ H1 h1 k1 (hL1.set i1 i) hS1
def dPar (i j:Nat) (ta:DA):DS:=fun M L S=>ta L S fun ds S1=>match ds with
  | [d,e]=>M.nx ((L.set i (some d)).set j (some e)) S1
  | _=>False
theorem dst_par {i j:Nat} {x y:Str} {a b:Expr} {ta:DA} {px py pt:Pos} {kt k2 pt2} (hc:X.calm=true) (hN:X.N.Nodup) (hij:i≠j) (ha:PA X [a,b] (upA X.K ta)) (hi:X.N[i]?=some x:=by rfl) (hj:X.N[j]?=some y:=by rfl)
    (hx:X.env.scope.names.lookup x=some .local:=by rfl) (hy:X.env.scope.names.lookup y=some .local:=by rfl)
    (hw:swappedStores [.Tuple [.Name x px,.Name y py] kt pt] (.Tuple [a,b] k2 pt2) X.env=pure (some [x,y]):=by rfl)
    (hs:swapsWithSole [.Tuple [.Name x px,.Name y py] kt pt] (.Tuple [a,b] k2 pt2) pos.line X.env=pure false:=by rfl):
    PS X (.Assign [.Tuple [.Name x px,.Name y py] kt pt] (.Tuple [a,b] k2 pt2) pos) (upS X.K (dPar i j ta)):=
  PS.imp (ps_par hc hN hi hj hij hx hy ha hw hs) fun N σ H ⟨L,S,M,hL,hS,h,r⟩=>upA.go hL hS h fun ds S1 vs H1 h1 k1 hL1 hS1 i1=>by
    split at h1
    · obtain⟨v,u,rfl,j1,j2⟩:=isDs2 i1
      exact⟨v,u,rfl,r.nx _ S1 _ H1 h1 k1 ((hL1.set j1 i).set j2 j) hS1⟩
    · exact h1.elim
abbrev DG:=D->Lo->DH->(Lo->DH->Prop)->Prop
def upG (K:Fg) (g:DG):TG:=fun v σ H Q=>∃ d L S k,IsD K H d v/\Lc K H L σ/\Hs K H S/\g d L S k/\∀ L' S' σ' H',k L' S'->Kp H H'->Lc K H' L' σ'->Hs K H' S'->Q σ' H'
theorem PG.imp {e:Expr} {t t':TG} (h:PG X e t) (i:∀ v σ H Q,t' v σ H Q->t v σ H Q):PG X e t':=fun pins s σ H v u Q I rv q=>h pins s σ H v u Q I rv (i v σ H Q q)
def dgName (i:Nat):DG:=fun d L S k=>k (L.set i (some d)) S
theorem dg_name {i:Nat} {x:Str} (hN:X.N.Nodup) (hi:X.N[i]?=some x:=by rfl) (hx:Loc X.env.scope x:=by first | exact Or.inl rfl | exact Or.inr rfl) (hf:X.fn x=true\/X.env.scope.names.lookup x=some .local:=by first | exact .inl rfl | exact .inr rfl | assumption):PG X (.Name x pos) (upG X.K (dgName i)):=
  PG.imp (pg_name hN hi hx hf) fun v σ H Q ⟨d,L,S,k,i1,hL,hS,h,n⟩=>n _ S _ H h (Kp.refl H) (hL.set i1 i) hS
abbrev DGs:=List D->Lo->DH->(Lo->DH->Prop)->Prop
def upGs (K:Fg) (g:DGs):TGs:=fun v σ H Q=>∃ d L S k,IsDs K H d v/\Lc K H L σ/\Hs K H S/\g d L S k/\∀ L' S' σ' H',k L' S'->Kp H H'->Lc K H' L' σ'->Hs K H' S'->Q σ' H'
theorem PGs.imp {e:List Expr} {t t':TGs} (h:PGs X e t) (i:∀ v σ H Q,t' v σ H Q->t v σ H Q):PGs X e t':=fun pins s σ H v u Q I rv q=>h pins s σ H v u Q I rv (i v σ H Q q)
def dgNil:DGs:=fun ds L S k=>ds=[]/\k L S
def dgCons (t:DG) (u:DGs):DGs:=fun ds L S k=>match ds with
  | d::r=>t d L S fun L1 S1=>u r L1 S1 k
  | []=>False
theorem dgs_nil:PGs X [] (upGs X.K dgNil):=PGs.imp pgs_nil fun v σ H Q ⟨d,L,S,k,i1,hL,hS,h,n⟩=>by
  obtain⟨rfl,h⟩:=h
  exact⟨isNil.mp i1,n L S σ H h (Kp.refl H) hL hS⟩
theorem dgs_cons {es:List Expr} {t:DG} {u:DGs} (h1:PG X e (upG X.K t)) (h2:PGs X es (upGs X.K u)) (hs:(assignEach (e::es) X.env).map (·.2)=assign e X.env::(assignEach es X.env).map (·.2):=by rfl):PGs X (e::es) (upGs X.K (dgCons t u)):=
  PGs.imp (pgs_cons h1 h2 hs) fun vs σ H Q ⟨ds,L,S,k,i1,hL,hS,h,n⟩=>by
    cases ds with
    | nil=>exact(show False from h).elim
    | cons d r=>
      obtain⟨v,vr,rfl,j1,j2⟩:=isCons.mp i1
      exact⟨v,vr,rfl,d,L,S,_,j1,hL,hS,h,fun L1 S1 σ1 H1 q k1 hL1 hS1=>⟨r,L1,S1,k,j2.kp k1,hL1,hS1,q,fun L' S' σ' H' q' k'=>n L' S' σ' H' q' (k1.trans k')⟩⟩
def dAsg (ge:DE) (g:DG):DS:=fun M L S=>ge L S fun d S1=>g d L S1 M.nx
theorem dst_asg {tg e:Expr} {g:DG} (he:PE X e (up X.K ge)) (hg:PG X tg (upG X.K g)) (hs:swapsWithSole [tg] e pos.line X.env=pure false:=by rfl) (hw:swappedStores [tg] e X.env=pure none:=by rfl)
    (h1:(assignEach [tg] X.env).map (·.2)=[assign tg X.env]:=by rfl):PS X (.Assign [tg] e pos) (upS X.K (dAsg ge g)):=
  PS.imp (ps_asg he hg hs hw h1) fun N σ H ⟨L,S,M,hL,hS,h,r⟩=>up.go hL hS h fun d S1 v H1 h1 k1 hL1 hS1 i1=>
    ⟨d,L,S1,M.nx,i1,hL1,hS1,h1,fun L' S' σ' H' q k' hL' hS'=>r.nx L' S' σ' H' q (k1.trans k') hL' hS'⟩
def dWhile (c:DT) (b:DS):DS:=fun M L S=>∃ W:Nat->Lo->DH->Prop,(∃ m,W m L S)/\∀ m L S,W m L S->
  c L S fun t S1=>if t=true then ∃ N:Lo->DH->Prop,(∀ L' S',N L' S'->∃ m',m' < m/\W m' L' S')/\b {M with nx:=N,ct:=N,bk:=M.nx} L S1 else M.nx L S1
theorem dst_while {c:Expr} {body:List Stmt} {gc:DT} (hp:PassesOwn (model X.prog X.w) X.A X.env X.xe) (hc:PT X c (upT X.K gc)) (hb:PSs X body (upS X.K g)):PS X (.While c body [] pos) (upS X.K (dWhile gc g)):=
  PS.imp (ps_while hp hc hb) fun N σ H ⟨L,S,M,hL,hS,⟨W,⟨m0,w0⟩,turn⟩,r⟩=>by
    refine⟨fun m σ H1=>∃ L S,Lc X.K H1 L σ/\Hs X.K H1 S/\W m L S/\Kp H H1,⟨m0,L,S,hL,hS,w0,Kp.refl H⟩,?_⟩
    rintro m σ1 H1 ⟨L1,S1,hL1,hS1,w1,k1⟩
    refine upT.go hL1 hS1 (turn m L1 S1 w1) fun t S2 H2 h2 k2 hL2 hS2=>?_
    cases t with
    | true=>
      rw [if_pos rfl] at h2 ⊢
      obtain⟨N',hN,hb⟩:=h2
      refine⟨fun σ' H'=>∃ L' S',Lc X.K H' L' σ'/\Hs X.K H' S'/\N' L' S'/\Kp H H',?_,L1,S2,_,hL2,hS2,hb,?_⟩
      · rintro σ' H' ⟨L',S',hL',hS',n',k'⟩
        obtain⟨m',hm,w'⟩:=hN L' S' n'
        exact⟨m',hm,L',S',hL',hS',w',k'⟩
      · have r2:=r.kp (k1.trans k2)
        exact⟨fun L' S' σ' H' n' k' hL' hS'=>⟨L',S',hL',hS',n',(k1.trans k2).trans k'⟩,r2.rt,r2.nx,fun L' S' σ' H' n' k' hL' hS'=>⟨L',S',hL',hS',n',(k1.trans k2).trans k'⟩⟩
    | false=>
      rw [if_neg Bool.false_ne_true] at h2 ⊢
      exact(r.kp (k1.trans k2)).nx L1 S2 σ1 H2 h2 (Kp.refl H2) hL2 hS2
def dLoop (ok:DH->Prop) (g:DG) (b:DS) (M:DEnds):List D->Lo->DH->Prop
  | [],L,S=>ok S/\M.nx L S
  | d::r,L,S=>ok S/\g d L S fun L1 S1=>b {M with nx:=fun L2 S2=>dLoop ok g b M r L2 S2,ct:=fun L2 S2=>dLoop ok g b M r L2 S2,bk:=M.nx} L1 S1
theorem for_core {K:Fg} {ok:DH->Prop} {gg:DG} {b:DS} {M:DEnds} {ds:List D} {L:Lo} {S:DH} {N:Ends} {σ:L2.St} {H:Hp} {J:It} (hL:Lc K H L σ) (hS:Hs K H S) (h:dLoop ok gg b M ds L S) (r:Rch K H M N)
    (hgo:∀ i d S1 H1,ds[i]?=some d->Kp H H1->Hs K H1 S1->ok S1->J.go i H1/\∀ x H',J.yld i H1 x H'->H'=H1/\IsD K H1 d x)
    (hst:∀ S1 H1,Kp H H1->Hs K H1 S1->ok S1->J.stop ds.length H1):
    ∃ W:Nat->Nat->L2.St->Hp->Prop,(∃ m,W 0 m σ H)/\∀ i m σ H,W i m σ H->
      (J.stop i H/\N.nx σ H)\/(J.go i H/\∃ N':L2.St->Hp->Prop,(∀ σ' H',N' σ' H'->∃ m',m' < m/\W (i+1) m' σ' H')/\∀ x H',J.yld i H x H'->upG K gg x σ H' fun σ2 H2=>upS K b {N with nx:=N',ct:=N',bk:=N.nx} σ2 H2):=by
  refine⟨fun i m σ1 H1=>m=ds.length - i/\i<=ds.length/\∃ L1 S1,Lc K H1 L1 σ1/\Hs K H1 S1/\Kp H H1/\dLoop ok gg b M (ds.drop i) L1 S1,⟨ds.length,by simp,Nat.zero_le _,L,S,hL,hS,Kp.refl H,h⟩,?_⟩
  rintro i m σ1 H1 ⟨rfl,hi,L1,S1,hL1,hS1,k1,w1⟩
  by_cases hlt:i < ds.length
  · have e:ds.drop i=ds[i]::ds.drop (i+1):=List.drop_eq_getElem_cons hlt
    rw [e] at w1
    obtain⟨o1,w1⟩:=w1
    obtain⟨g1,y1⟩:=hgo i ds[i] S1 H1 (by simp [hlt]) k1 hS1 o1
    refine .inr ⟨g1,fun σ' H'=>i+1<=ds.length/\∃ L' S',Lc K H' L' σ'/\Hs K H' S'/\Kp H H'/\dLoop ok gg b M (ds.drop (i+1)) L' S',fun σ' H' ⟨q1,q2⟩=>⟨ds.length - (i+1),by omega,rfl,q1,q2⟩,fun x H' y=>?_⟩
    obtain⟨rfl,ix⟩:=y1 x H' y
    refine⟨ds[i],L1,S1,_,ix,hL1,hS1,w1,fun L2 S2 σ2 H2 q k2 hL2 hS2=>⟨L2,S2,_,hL2,hS2,q,?_⟩⟩
    have r2:=r.kp (k1.trans k2)
    exact⟨fun L3 S3 σ3 H3 q3 k3 hL3 hS3=>⟨hlt,L3,S3,hL3,hS3,(k1.trans k2).trans k3,q3⟩,r2.rt,r2.nx,fun L3 S3 σ3 H3 q3 k3 hL3 hS3=>⟨hlt,L3,S3,hL3,hS3,(k1.trans k2).trans k3,q3⟩⟩
  · have e:i=ds.length:=by omega
    subst e
    rw [List.drop_length] at w1
    obtain⟨o1,w1⟩:=w1
    exact .inl ⟨hst S1 H1 k1 hS1 o1,r.nx L1 S1 σ1 H1 w1 k1 hL1 hS1⟩
def dItems (S:DH):D->Option (List D×Option Addr)
  | .tup ds=>some (ds,none)
  | .rl ds=>some (ds,none)
  | .ref a=>(match S a with
    | some (.lst ds)=>some (ds,some a)
    | _=>none)
  | _=>none
def okFor:List D×Option Addr->DH->Prop
  | (_,none)=>fun _=>True
  | (ds,some a)=>fun S=>S a=some (.lst ds)
theorem PI.imp {tg e:Expr} {w w':TI} (h:PI X tg e w) (i:∀ σ H R,w' σ H R->w σ H R):PI X tg e w':=fun pins s σ H R I q=>h pins s σ H R I (i σ H R q)
def iSeq (K:Fg) (t:TE):TI:=fun σ H R=>t σ H fun x H1=>∃ a,x=.ref a/\(((∃ xs,SqL K H1 a xs)/\R (Itl K a) H1)\/((∃ xs,SqT K H1 a xs)/\R (Itt K a) H1))
theorem pi_seq {tg l:Expr} {tl:TE} (hl:PE X l tl):PI X tg l (iSeq X.K tl):=by
  intro pins s σ H R I h
  refine thn (hl pins s σ H _ I h) fun v s1 ⟨x,H1,I1,r1,q1⟩=>?_
  obtain⟨a,e,q1⟩:=q1
  subst e
  cases r1
  rcases q1 with ⟨⟨xs,hq⟩,q⟩ | ⟨⟨xs,hq⟩,q⟩
  · obtain⟨its,rv,p,hz⟩:=I1.list hq
    refine wpAny_pyIter_list p.isList ?_
    refine⟨s1.heap.objs.size,[s1.heap.objs.size],_,_,H1,rfl,I1.kept (t':=s1.toks) fun b o e=>Heap.get?_push_of_some _ e,turn_list a _,⟨_,Heap.get?_push_size _ rfl,rfl,rfl⟩,fun b hb=>?_,q⟩
    have e:b=s1.heap.objs.size:=by simpa using hb
    subst e
    exact I1.fpOk (Nat.le_refl _) (I1.hok.fresh (Nat.le_refl _))
  · obtain⟨its,rv,p,hz⟩:=I1.tuple hq
    refine wpAny_pyIter_tuple (show s1.heap.IsTuple a its.toArray from p) ?_
    refine⟨s1.heap.objs.size,[s1.heap.objs.size],_,_,H1,rfl,I1.kept (t':=s1.toks) fun b o e=>Heap.get?_push_of_some _ e,turn_tuple a _,⟨_,Heap.get?_push_size _ rfl,rfl,rfl⟩,fun b hb=>?_,q⟩
    have e:b=s1.heap.objs.size:=by simpa using hb
    subst e
    exact I1.fpOk (Nat.le_refl _) (I1.hok.fresh (Nat.le_refl _))
def dForR (ta:DA) (g:DG) (b:DS):DS:=fun M L S=>ta L S fun ds S1=>match ds with
  | [.int n]=>(-(2 ^ 62)<=n/\n < 2 ^ 62)/\dLoop (fun _=>True) g b M ((List.range n.toNat).map fun i=>D.int (i:Nat)) L S1
  | _=>False
theorem dst_forR {tg a:Expr} {body:List Stmt} {ta:DA} {gg:DG} {p pos':Pos} (hp:PassesOwn (model X.prog X.w) X.A X.env X.xe) (hc:X.calm=true) (hgl:Gl X "range") (hm:X.mg "range"=none) (ha:PA X [a] (upA X.K ta)) (hg:PG X tg (upG X.K gg)) (hb:PSs X body (upS X.K g))
    (hs1:starEach [a] X.env=[(false,eval a X.env)]:=by rfl) (hs:∀ x,foldedSetIterable (.Call (.Name "range" p) [a] [] pos') X.env x=pure x:=by intro _; rfl):PS X (.For tg (.Call (.Name "range" p) [a] [] pos') body [] pos) (upS X.K (dForR ta gg g)):=
  PS.imp (ps_for hp hc (pi_range1 hgl hm ha hs1) hg hb hs) fun N σ H ⟨L,S,M,hL,hS,h,r⟩=>upA.go hL hS h fun ds S1 vs H1 h1 k1 hL1 hS1 i1=>by
    split at h1
    · obtain⟨v,rfl,j⟩:=isDs1 i1
      have e:=isInt.mp j
      subst e
      obtain⟨⟨h2,h3⟩,h1⟩:=h1
      refine⟨_,rfl,h2,h3,for_core hL1 hS1 h1 (r.kp k1) (fun i d S2 H2 e k2 hS2 _=>?_) fun S2 H2 k2 hS2 _=>?_⟩
      · rw [List.getElem?_map] at e
        cases q:(List.range (Int.toNat _))[i]? with
        | none=>rw [q] at e; cases e
        | some z=>
          rw [q] at e
          cases e
          have hz:=List.getElem?_eq_some_iff.mp q
          obtain⟨hz1,hz2⟩:=hz
          rw [List.length_range] at hz1
          rw [List.getElem_range] at hz2
          subst hz2
          exact⟨hz1,fun x H' y=>⟨y.1,by rw [y.2]; exact isInt.mpr (by rw [Int.zero_add])⟩⟩
      · rw [List.length_map,List.length_range]
        exact Nat.le_refl _
    · exact h1.elim
end
section
variable {P:Program} {w:World} {K:Fg} {mg:Str->Option Value} {base:Heap}
theorem _root_.L2.Fun.okD {x qual:Str} {st:Stmt} {f:Addr} {fd:FuncData} {N ps:List Str} {k:Nat} {F:DSp} (Fn:Fun K x qual st f fd) (Sc:FnScope N ps (defScope st)) (len:∀ ds S k,F ds S k->ds.length=ps.length)
    (hbody:∀ (cdv:Value) (A:Around) (outer:List Env) (s:Shared) (H:Hp) (E:XK),Room k (A.deeper (envOfC qual (defScope st) s.heap.objs.size f cdv))->
      ∃ g,PSs (cxOf CX0 P w K mg base N qual (defScope st) f cdv A outer s H E).nox (defBody st) (upS K g)/\
        ∀ ds S k,F ds S k->g {nx:=fun _ S'=>k .non S',rt:=k} (ds.map some++List.replicate (N.length - ps.length) none) S):FnOk P w K mg base CX0 (k+1) f fd ps (spU K F):=by
  refine Fn.ok Sc (fun vs H Q E h=>?_) (fun cdv A outer s H vs Q E hr h=>?_)
  · obtain⟨ds,S,k,i,_,q,_⟩:=h
    rw [<- i.length]
    exact len ds S k q
  · obtain⟨g,hg,q⟩:=hbody cdv A outer s H E hr
    obtain⟨ds,S,k',i,hS,h,n⟩:=h
    refine⟨_,hg,ds.map some++List.replicate (N.length - ps.length) none,S,_,?_,hS,q ds S k' h,?_⟩
    · unfold L2.start
      rw [<- i.length,len ds S k' h]
      exact Lc.start _ i
    · exact⟨fun L S' σ H' h1 k1 _ hS'=>n _ S' _ H' h1 k1 hS' (isNon.mpr rfl),fun d S' v H' h1 k1 hS' i1=>n d S' v H' h1 k1 hS' i1,fun _ _ _ _ h1=>h1.elim,fun _ _ _ _ h1=>h1.elim⟩
theorem Own.mk' {x qual:Str} {st:Stmt} {f:Addr} {fd:FuncData} {ps:List Str} {n:Nat} {F:DSp} (Fn:Fun K x qual st f fd) (h:FnOk P w K mg base CX0 n f fd ps (spU K F)) (hm:mg x=some (.ref f)) (hb:Binds K fd ps []):Own P w K mg base x n F:=
  ⟨f,fd,ps,h,hm,Fn.kp,hb⟩
end
end DL
namespace DL
open PySem PySem.Spec PyProof.Rows L2 HM
theorem law_up {K:Fg} {H:Hp} {a:Addr} {ns:List Int} {F:DSp} {E:XK} (ho:Only H) (hS:SqL K H a (ns.map V.int)) (h:F [.rl (ns.map D.int)] (fun _=>none) (fun d _=>d=.bl true)):spU K F [.ref a] H (fun v _=>v=.bl true) E:=by
  refine⟨[.rl (ns.map D.int)],fun _=>none,fun d _=>d=.bl true,IsDs.cons (isRl.mpr ⟨a,ns.map V.int,rfl,?_,?_⟩) IsDs.nil,fun a o e=>(by cases e),h,fun d' S' v H' e _ _ i=>?_⟩
  · rcases hS with (h1 | h1) | h1
    · rcases ho a with z | ⟨o,xs,z⟩
      · rw [z] at h1; cases h1
      · rw [z] at h1; cases h1
    · exact .inl h1
    · exact .inr h1
  · clear h hS
    induction ns with
    | nil=>exact IsDs.nil
    | cons n ns ih=>exact IsDs.cons (isInt.mpr rfl) ih
  · subst e
    exact isBl.mp i
theorem mok {m n:Nat} {x y:Int} (hx:Bt m x) (hy:Bt n y) (h:m+n<=134217728:=by decide):IntMulOk x y:=IntMulOk.of_le (intBits_le_iff.mpr hx) (intBits_le_iff.mpr hy) h
theorem dok {m:Nat} {y:Int} (h0:y≠0) (hy:Bt m y) (h:m<=9000:=by decide):CDivB x y:=⟨h0,(Nat.log2_lt (by omega)).mpr (hy.mono h)⟩
def pr (a b:Int):D:=.tup [.int a,.int b]
def fr (q:Rat):D:=pr q.num (q.den:Int)
end DL
namespace DL
theorem atI0 {x:D} {r:List D}:L2.atI (x::r) 0=some x:=L2.atI_nat (j:=0) rfl
theorem atI1 {x y:D} {r:List D}:L2.atI (x::y::r) 1=some y:=L2.atI_nat (j:=1) rfl
theorem ixN0 {n:Nat}:L2.ixN (n+1) 0=some 0:=by
  unfold L2.ixN
  rw [if_pos (by decide),if_pos (by omega)]
  rfl
end DL
namespace DL
open PySem PySem.Spec PyProof.Rows L2
def eqS:D->D->Option Bool
  | .int i,.int j=>some (i == j)
  | .bl i,.bl j=>some (i == j)
  | .str i,.str j=>some (i == j)
  | .non,.non=>some true
  | .non,.int _=>some false
  | .int _,.non=>some false
  | .non,.bl _=>some false
  | .bl _,.non=>some false
  | .bl a,.int j=>some ((if a then 1 else 0) == j)
  | .int i,.bl b=>some (i == (if b then 1 else 0))
  | _,_=>none
def eqTs (f:D->D->Option Bool):List D->List D->Option Bool
  | [],[]=>some true
  | [],_::_=>some false
  | _::_,[]=>some false
  | x::xs,y::ys=>match f x y,eqTs f xs ys with
    | some a,some b=>some (a && b)
    | _,_=>none
def eqT:Nat->D->D->Option Bool
  | 0,d,e=>eqS d e
  | n+1,.tup xs,.tup ys=>eqTs (eqT n) xs ys
  | _+1,d,e=>eqS d e
theorem eqT_succ (n:Nat) (d e:D):eqT (n+1) d e=(match d,e with | .tup xs,.tup ys=>eqTs (eqT n) xs ys | d,e=>eqS d e):=by
  cases d <;> cases e <;> rfl
def eqAts (f:D->D->Option Bool):List D->List D->Nat->Bool
  | x::_,y::_,0=>(f x y).getD false
  | _::xs,_::ys,j+1=>eqAts f xs ys j
  | _,_,_=>false
theorem all_succ (e:Nat->Bool) (m:Nat):(List.range (m+1)).all e=(e 0 && (List.range m).all fun j=>e (j+1)):=by
  rw [List.range_succ_eq_map,List.all_cons,List.all_map]
  rfl
theorem eqTs_all {f:D->D->Option Bool}:∀ {xs ys:List D} {b:Bool},eqTs f xs ys=some b->((List.range (min xs.length ys.length)).all (eqAts f xs ys) && xs.length == ys.length)=b
  | [],[],b,h=>by unfold eqTs at h; cases h; rfl
  | [],_::_,b,h=>by unfold eqTs at h; cases h; simp
  | _::_,[],b,h=>by unfold eqTs at h; cases h; simp
  | x::xs,y::ys,b,h=>by
    unfold eqTs at h
    split at h
    · rename_i a c e1 e2
      cases h
      have ih:=eqTs_all e2
      rw [List.length_cons,List.length_cons,Nat.succ_min_succ,all_succ]
      have e3:eqAts f (x::xs) (y::ys) 0=a:=by unfold eqAts; rw [e1]; rfl
      rw [e3,Bool.and_assoc]
      have e4:(fun j=>eqAts f (x::xs) (y::ys) (j+1))=eqAts f xs ys:=by funext j; rfl
      rw [e4]
      have e5:(xs.length+1 == ys.length+1)=(xs.length == ys.length):=by simp
      rw [e5,ih]
    · cases h
theorem eqTs_at {f:D->D->Option Bool}:∀ {xs ys:List D} {b:Bool} {j:Nat} {x y:D},eqTs f xs ys=some b->xs[j]?=some x->ys[j]?=some y->f x y=some (eqAts f xs ys j)
  | [],_,_,_,_,_,_,e,_=>by simp at e
  | _::_,[],_,_,_,_,_,_,e=>by simp at e
  | x::xs,y::ys,b,0,x',y',h,e1,e2=>by
    simp at e1 e2
    subst e1; subst e2
    unfold eqTs at h
    split at h
    · rename_i a c q1 q2
      unfold eqAts
      rw [q1]
      rfl
    · cases h
  | x::xs,y::ys,b,j+1,x',y',h,e1,e2=>by
    unfold eqTs at h
    split at h
    · rename_i a c q1 q2
      unfold eqAts
      exact eqTs_at q2 (by simpa using e1) (by simpa using e2)
    · cases h
section
variable {X:Cx} {pins:List (Addr×Obj)} {σ:L2.St} {H:Hp} {s:Shared}
theorem pair_at {K:Fg} {ds es:List D} {xs ys:List V} {us ws:List Value} {j:Nat} (i1:IsDs K H ds xs) (i2:IsDs K H es ys) (r1:Vals xs us) (r2:Vals ys ws) (h1:j < us.length) (h2:j < ws.length):
    ∃ d e x y,ds[j]?=some d/\es[j]?=some e/\IsD K H d x/\IsD K H e y/\RelV x us[j]/\RelV y ws[j]:=by
  have l1:=i1.length
  have l2:=i2.length
  have l3:=r1.length
  have l4:=r2.length
  have e1:ds[j]?=some ds[j]:=by simp [show j < ds.length by omega]
  have e2:es[j]?=some es[j]:=by simp [show j < es.length by omega]
  obtain⟨x,q1,d1⟩:=i1.get e1
  obtain⟨y,q2,d2⟩:=i2.get e2
  obtain⟨u,q3,rx⟩:=r1.get q1
  obtain⟨w,q4,ry⟩:=r2.get q2
  have f1:us[j]=u:=(List.getElem?_eq_some_iff.mp q3).2
  have f2:ws[j]=w:=(List.getElem?_eq_some_iff.mp q4).2
  exact⟨_,_,x,y,e1,e2,d1,d2,by rw [f1]; exact rx,by rw [f2]; exact ry⟩
theorem eqS_at {K:Fg} {A:Around} {d e:D} {x y:V} {u w:Value} {b:Bool} (h:eqS d e=some b) (i1:IsD K H d x) (i2:IsD K H e y) (rx:RelV x u) (ry:RelV y w):SeqAt.EqAt A s u w b/\SeqAt.RcAt A s u w b:=by
  unfold eqS at h
  split at h
  · cases h; rw [isInt.mp i1] at rx; rw [isInt.mp i2] at ry; obtain⟨t,rfl⟩:=rx; obtain⟨t',rfl⟩:=ry; exact⟨(SeqAt.EqAt.int_int _ _ _ _),(SeqAt.RcAt.int_int _ _ _ _)⟩
  · cases h; rw [isBl.mp i1] at rx; rw [isBl.mp i2] at ry; cases rx; cases ry; exact⟨(SeqAt.EqAt.bool_bool _ _),(SeqAt.RcAt.bool_bool _ _)⟩
  · cases h; rw [isStr.mp i1] at rx; rw [isStr.mp i2] at ry; obtain⟨t,rfl⟩:=rx; obtain⟨t',rfl⟩:=ry; exact⟨(SeqAt.EqAt.str_str _ _ _ _),(SeqAt.RcAt.str_str _ _ _ _)⟩
  · cases h; rw [isNon.mp i1] at rx; rw [isNon.mp i2] at ry; cases rx; cases ry; exact⟨SeqAt.EqAt.same _,SeqAt.RcAt.none_none⟩
  · cases h; rw [isNon.mp i1] at rx; rw [isInt.mp i2] at ry; cases rx; obtain⟨t',rfl⟩:=ry; exact⟨(SeqAt.EqAt.none_int _ _),(SeqAt.RcAt.none_int _ _)⟩
  · cases h; rw [isInt.mp i1] at rx; rw [isNon.mp i2] at ry; obtain⟨t,rfl⟩:=rx; cases ry; exact⟨(SeqAt.EqAt.int_none _ _),(SeqAt.RcAt.int_none _ _)⟩
  · cases h; rw [isNon.mp i1] at rx; rw [isBl.mp i2] at ry; cases rx; cases ry; exact⟨(SeqAt.EqAt.none_bool _),(SeqAt.RcAt.none_bool _)⟩
  · cases h; rw [isBl.mp i1] at rx; rw [isNon.mp i2] at ry; cases rx; cases ry; exact⟨(SeqAt.EqAt.bool_none _),(SeqAt.RcAt.bool_none _)⟩
  · cases h; rw [isBl.mp i1] at rx; rw [isInt.mp i2] at ry; cases rx; obtain⟨t',rfl⟩:=ry; exact⟨(SeqAt.EqAt.bool_int _ _ _),(SeqAt.RcAt.bool_int _ _ _)⟩
  · cases h; rw [isInt.mp i1] at rx; rw [isBl.mp i2] at ry; obtain⟨t,rfl⟩:=rx; cases ry; exact⟨(SeqAt.EqAt.int_bool _ _ _),(SeqAt.RcAt.int_bool _ _ _)⟩
  · cases h
theorem eqS_same {K:Fg} {d e:D} {x:V} {b:Bool} (h:eqS d e=some b) (i1:IsD K H d x) (i2:IsD K H e x):b=true:=by
  unfold eqS at h
  split at h
  · cases h; have e1:=isInt.mp i1; have e2:=isInt.mp i2; rw [e1] at e2; cases e2; simp
  · cases h; have e1:=isBl.mp i1; have e2:=isBl.mp i2; rw [e1] at e2; cases e2; simp
  · cases h; have e1:=isStr.mp i1; have e2:=isStr.mp i2; rw [e1] at e2; cases e2; simp
  · cases h; rfl
  · have e1:=isNon.mp i1; have e2:=isInt.mp i2; rw [e1] at e2; cases e2
  · have e1:=isInt.mp i1; have e2:=isNon.mp i2; rw [e1] at e2; cases e2
  · have e1:=isNon.mp i1; have e2:=isBl.mp i2; rw [e1] at e2; cases e2
  · have e1:=isBl.mp i1; have e2:=isNon.mp i2; rw [e1] at e2; cases e2
  · have e1:=isBl.mp i1; have e2:=isInt.mp i2; rw [e1] at e2; cases e2
  · have e1:=isInt.mp i1; have e2:=isBl.mp i2; rw [e1] at e2; cases e2
  · cases h
theorem eqTs_same {K:Fg} {f:D->D->Option Bool} (hf:∀ d e x b,f d e=some b->IsD K H d x->IsD K H e x->b=true):∀ {ds es:List D} {xs:List V} {b:Bool},eqTs f ds es=some b->IsDs K H ds xs->IsDs K H es xs->b=true
  | [],[],_,_,h,_,_=>by unfold eqTs at h; cases h; rfl
  | [],_::_,_,_,_,i1,i2=>by
    have e1:=isNil.mp i1
    obtain⟨v,r,e2,_⟩:=isCons.mp i2
    rw [e1] at e2; cases e2
  | _::_,[],_,_,_,i1,i2=>by
    have e1:=isNil.mp i2
    obtain⟨v,r,e2,_⟩:=isCons.mp i1
    rw [e1] at e2; cases e2
  | d::ds,e::es,xs,b,h,i1,i2=>by
    obtain⟨v,r,e1,h1,h2⟩:=isCons.mp i1
    obtain⟨v',r',e2,h3,h4⟩:=isCons.mp i2
    rw [e1] at e2
    cases e2
    unfold eqTs at h
    split at h
    · rename_i a c q1 q2
      cases h
      rw [hf _ _ _ _ q1 h1 h3,eqTs_same hf q2 h2 h4]
      rfl
    · cases h
theorem eqT_same (I:Inv X pins σ H s):∀ (n:Nat) (d e:D) (x:V) (b:Bool),eqT n d e=some b->IsD X.K H d x->IsD X.K H e x->b=true
  | 0,d,e,x,b,h,i1,i2=>eqS_same (by unfold eqT at h; exact h) i1 i2
  | n+1,d,e,x,b,h,i1,i2=>by
    rw [eqT_succ] at h
    split at h
    · rename_i xs ys
      obtain⟨a,vs,e1,t1,j1⟩:=isTup.mp i1
      obtain⟨a',vs',e2,t2,j2⟩:=isTup.mp i2
      rw [e1] at e2
      cases e2
      have q:=I.tuple_inj t1 t2
      subst q
      exact eqTs_same (fun d e x b=>eqT_same I n d e x b) h j1 j2
    · exact eqS_same h i1 i2
theorem eqT_at (I:Inv X pins σ H s):∀ (n:Nat) (A:Around) (d e:D) (x y:V) (u w:Value) (b:Bool),A.units+n < cLine->eqT n d e=some b->IsD X.K H d x->IsD X.K H e y->RelV x u->RelV y w->SeqAt.EqAt A s u w b/\SeqAt.RcAt A s u w b
  | 0,A,d,e,x,y,u,w,b,hu,h,i1,i2,rx,ry=>eqS_at (by unfold eqT at h; exact h) i1 i2 rx ry
  | n+1,A,d,e,x,y,u,w,b,hu,h,i1,i2,rx,ry=>by
    have h0:=h
    rw [eqT_succ] at h
    split at h
    · rename_i xs ys
      obtain⟨p,vs,rfl,t1,j1⟩:=isTup.mp i1
      obtain⟨q,vs',rfl,t2,j2⟩:=isTup.mp i2
      cases rx
      cases ry
      obtain⟨us,r1,p1,_⟩:=I.tuple t1
      obtain⟨ws,r2,p2,_⟩:=I.tuple t2
      have l1:=j1.length
      have l2:=j2.length
      have l3:=r1.length
      have l4:=r2.length
      have rc:SeqAt.RcAt A s (.ref p) (.ref q) b:=by
        have e:=eqTs_all h
        have z:=SeqAt.RcAt.tuples (A:=A) (s:=s) (items:=us.toArray) (items2:=ws.toArray) (e:=eqAts (eqT n) xs ys) (show s.heap.IsTuple p us.toArray from p1) (show s.heap.IsTuple q ws.toArray from p2) (by omega) (fun j h1 h2=>by
          simp only [List.size_toArray] at h1 h2
          obtain⟨d,e,x,y,q1,q2,d1,d2,rx,ry⟩:=pair_at j1 j2 r1 r2 h1 h2
          have:=(eqT_at I n A.in1 d e x y us[j] ws[j] _ (by show A.units+1+n < cLine; omega) (eqTs_at h q1 q2) d1 d2 rx ry).1
          simpa using this)
        simp only [List.size_toArray] at z
        rw [<- l3,<- l4,<- l1,<- l2,e] at z
        exact z
      refine⟨?_,rc⟩
      by_cases hpq:p=q
      · subst hpq
        have:=eqT_same I (n+1) _ _ _ _ h0 i1 i2
        subst this
        exact SeqAt.EqAt.same _
      · exact SeqAt.EqAt.of_refs hpq rc
    · exact eqS_at h i1 i2 rx ry
theorem eqS_ne {K:Fg} {A:Around} {d e:D} {x y:V} {u w:Value} {b:Bool} (h:eqS d e=some b) (i1:IsD K H d x) (i2:IsD K H e y) (rx:RelV x u) (ry:RelV y w):SeqAt.RcNeAt A s u w (!b):=by
  unfold eqS at h
  split at h
  · cases h; rw [isInt.mp i1] at rx; rw [isInt.mp i2] at ry; obtain⟨t,rfl⟩:=rx; obtain⟨t',rfl⟩:=ry; exact(SeqAt.RcNeAt.int_int _ _ _ _)
  · cases h; rw [isBl.mp i1] at rx; rw [isBl.mp i2] at ry; cases rx; cases ry; exact(SeqAt.RcNeAt.bool_bool _ _)
  · cases h; rw [isStr.mp i1] at rx; rw [isStr.mp i2] at ry; obtain⟨t,rfl⟩:=rx; obtain⟨t',rfl⟩:=ry; exact(SeqAt.RcNeAt.str_str _ _ _ _)
  · cases h; rw [isNon.mp i1] at rx; rw [isNon.mp i2] at ry; cases rx; cases ry; exact SeqAt.RcNeAt.none_none
  · cases h; rw [isNon.mp i1] at rx; rw [isInt.mp i2] at ry; cases rx; obtain⟨t',rfl⟩:=ry; exact(SeqAt.RcNeAt.none_int _ _)
  · cases h; rw [isInt.mp i1] at rx; rw [isNon.mp i2] at ry; obtain⟨t,rfl⟩:=rx; cases ry; exact(SeqAt.RcNeAt.int_none _ _)
  · cases h; rw [isNon.mp i1] at rx; rw [isBl.mp i2] at ry; cases rx; cases ry; exact(SeqAt.RcNeAt.none_bool _)
  · cases h; rw [isBl.mp i1] at rx; rw [isNon.mp i2] at ry; cases rx; cases ry; exact(SeqAt.RcNeAt.bool_none _)
  · cases h; rw [isBl.mp i1] at rx; rw [isInt.mp i2] at ry; cases rx; obtain⟨t',rfl⟩:=ry; exact(SeqAt.RcNeAt.bool_int _ _ _)
  · cases h; rw [isInt.mp i1] at rx; rw [isBl.mp i2] at ry; obtain⟨t,rfl⟩:=rx; cases ry; exact(SeqAt.RcNeAt.int_bool _ _ _)
  · cases h
theorem eqT_ne (I:Inv X pins σ H s) (n:Nat) (A:Around) (d e:D) (x y:V) (u w:Value) (b:Bool) (hu:A.units+n < cLine) (h:eqT n d e=some b) (i1:IsD X.K H d x) (i2:IsD X.K H e y) (rx:RelV x u) (ry:RelV y w):SeqAt.RcNeAt A s u w (!b):=by
  cases n with
  | zero=>exact eqS_ne (by unfold eqT at h; exact h) i1 i2 rx ry
  | succ n=>
    rw [eqT_succ] at h
    split at h
    · rename_i xs ys
      obtain⟨p,vs,rfl,t1,j1⟩:=isTup.mp i1
      obtain⟨q,vs',rfl,t2,j2⟩:=isTup.mp i2
      cases rx
      cases ry
      obtain⟨us,r1,p1,_⟩:=I.tuple t1
      obtain⟨ws,r2,p2,_⟩:=I.tuple t2
      have l1:=j1.length
      have l2:=j2.length
      have l3:=r1.length
      have l4:=r2.length
      have e:=eqTs_all h
      have z:=SeqAt.RcNeAt.tuples (A:=A) (s:=s) (items:=us.toArray) (items2:=ws.toArray) (e:=eqAts (eqT n) xs ys) (show s.heap.IsTuple p us.toArray from p1) (show s.heap.IsTuple q ws.toArray from p2) (by omega) (fun j h1 h2=>by
        simp only [List.size_toArray] at h1 h2
        obtain⟨d,e,x,y,q1,q2,d1,d2,rx,ry⟩:=pair_at j1 j2 r1 r2 h1 h2
        have:=(eqT_at I n A.in1 d e x y us[j] ws[j] _ (by show A.units+1+n < cLine; omega) (eqTs_at h q1 q2) d1 d2 rx ry).1
        simpa using this)
      simp only [List.size_toArray] at z
      rw [<- l3,<- l4,<- l1,<- l2,e] at z
      exact z
    · exact eqS_ne h i1 i2 rx ry
def dEqT:D2:=fun d e S k=>match eqT 8 d e with
  | some b=>k (.bl b) S
  | none=>False
def dNeT:D2:=fun d e S k=>match eqT 8 d e with
  | some b=>k (.bl (!b)) S
  | none=>False
theorem o_eqT {n:Nat} (hr:Room n X.A):OpR X (compareOp .Eq) (upR X.K dEqT):=by
  intro pins s σ H x y v u Q I rx ry h
  obtain⟨d,e,S,k,i1,i2,hS,r,m⟩:=h
  unfold dEqT at r
  cases q:eqT 8 d e with
  | none=>rw [q] at r; exact r.elim
  | some b=>
    rw [q] at r
    have hu:=hr.units
    exact(eqT_at I 8 X.A d e x y v u b (by omega) q i1 i2 rx ry).2 X.prog X.w X.xe _ ⟨.bl b,H,I,rfl,up1 m hS r (isBl.mpr rfl)⟩
theorem o_neT {n:Nat} (hr:Room n X.A):OpR X (compareOp .NotEq) (upR X.K dNeT):=by
  intro pins s σ H x y v u Q I rx ry h
  obtain⟨d,e,S,k,i1,i2,hS,r,m⟩:=h
  unfold dNeT at r
  cases q:eqT 8 d e with
  | none=>rw [q] at r; exact r.elim
  | some b=>
    rw [q] at r
    have hu:=hr.units
    exact eqT_ne I 8 X.A d e x y v u b (by omega) q i1 i2 rx ry X.prog X.w X.xe _ ⟨.bl (!b),H,I,rfl,up1 m hS r (isBl.mpr rfl)⟩
end
structure EJ (X:Cx) (e:Expr) (g:DE):Prop where
  h:PE X e (up X.K g)
structure TJ (X:Cx) (e:Expr) (g:DT):Prop where
  h:PT X e (upT X.K g)
structure WJ (X:Cx) (e:Expr) (g:DT):Prop where
  h:PW X e (upT X.K g)
structure AJ (X:Cx) (e:List Expr) (g:DA):Prop where
  h:PA X e (upA X.K g)
structure SJ (X:Cx) (e:Stmt) (g:DS):Prop where
  h:PS X e (upS X.K g)
structure SsJ (X:Cx) (e:List Stmt) (g:DS):Prop where
  h:PSs X e (upS X.K g)
structure GJ (X:Cx) (e:Expr) (g:DG):Prop where
  h:PG X e (upG X.K g)
structure GsJ (X:Cx) (e:List Expr) (g:DGs):Prop where
  h:PGs X e (upGs X.K g)
theorem WJ.pt {X:Cx} {e:Expr} {g:DT} (h:WJ X e g):TJ X e g:=⟨PW.pt h.h⟩
section
variable {X:Cx} {a b c:Expr} {ga gb gc:DE} {pos:Pos}
theorem d_varj (i:Nat) {x:Str} (hN:X.N[i]?=some x:=by rfl) (hv:Vis X.env.scope x:=by first | exact Or.inl rfl | exact Or.inr (Or.inl rfl) | exact Or.inr (Or.inr rfl)) (hd:(x == ("__debug__":Str))=false:=by decide) (hcd:(x == ("__classdict__":Str))=false:=by decide):EJ X (.Name x pos) (dVar i):=⟨d_var (i:=i) (hN:=hN) (hv:=hv) (hd:=hd) (hcd:=hcd)⟩
end
section
variable {X:Cx} {a b c:Expr} {ga gb gc:DE} {pos:Pos}
theorem d_intj {i j pos}:EJ X (.Constant (.int i) j pos) (dC (.int i)):=⟨d_int⟩
end
section
variable {X:Cx} {a b c:Expr} {ga gb gc:DE} {pos:Pos}
theorem d_blj {i j pos}:EJ X (.Constant (.bool i) j pos) (dC (.bl i)):=⟨d_bl⟩
end
section
variable {X:Cx} {a b c:Expr} {ga gb gc:DE} {pos:Pos}
theorem d_nonj {j pos}:EJ X (.Constant .none j pos) (dC .non):=⟨d_non⟩
end
section
variable {X:Cx} {a b c:Expr} {ga gb gc:DE} {pos:Pos}
theorem d_tyj {x:Str} {n:Ty} (hg:Gl X x) (hm:X.mg x=none) (hv:bootBuiltins x=some (.type n.name)) (hn:x≠"__name__":=by decide) (hd:(x == ("__debug__":Str))=false:=by decide):EJ X (.Name x pos) (dC (.ty n)):=⟨d_ty (hg:=hg) (hm:=hm) (hv:=hv) (hn:=hn) (hd:=hd)⟩
end
section
variable {X:Cx} {a b c:Expr} {ga gb gc:DE} {pos:Pos}
theorem da_nilj:AJ X [] dNil:=⟨da_nil⟩
end
section
variable {X:Cx} {a b c:Expr} {ga gb gc:DE} {pos:Pos}
theorem da_consj {es:List Expr} {t:DA} (ha:EJ X a ga) (hr:AJ X es t) (hs:starEach (a::es) X.env=(false,eval a X.env)::starEach es X.env:=by exact star_cons rfl):AJ X (a::es) (dCons ga t):=⟨da_cons (ha:=ha.h) (hr:=hr.h) (hs:=hs)⟩
end
section
variable {X:Cx} {a b c:Expr} {ga gb gc:DE} {pos:Pos}
theorem d_tupj {es:List Expr} {x1} {t:DA} (h:AJ X es t):EJ X (.Tuple es x1 pos) (dTup t):=⟨d_tup (h:=h.h)⟩
end
section
variable {X:Cx} {a b c:Expr} {ga gb gc:DE} {pos:Pos}
theorem d_lstj {es:List Expr} {t:DA} (h:AJ X es t):EJ X (.List es pos) (dLst t):=⟨d_lst (h:=h.h)⟩
end
section
variable {X:Cx} {a b c:Expr} {ga gb gc:DE} {pos:Pos}
theorem d_opj {op:Operator} {r:D2} (ho:OpR X (binaryOp op) (upR X.K r)) (ha:EJ X a ga) (hb:EJ X b gb):EJ X (.BinOp a op b pos) (dOp r ga gb):=⟨d_op (ho:=ho) (ha:=ha.h) (hb:=hb.h)⟩
end
section
variable {X:Cx} {a b c:Expr} {ga gb gc:DE} {pos:Pos}
theorem d_cmpj {op:CmpOp} {r:D2} (ho:OpR X (compareOp op) (upR X.K r)) (ha:EJ X a ga) (hb:EJ X b gb) (hm:behindInMarks op b=false):EJ X (.Compare a [op] [b] pos) (dOp r ga gb):=⟨d_cmp (ho:=ho) (ha:=ha.h) (hb:=hb.h) (hm:=hm)⟩
end
section
variable {X:Cx} {a b c:Expr} {ga gb gc:DE} {pos:Pos}
theorem d_ixj {r:D2} (hr:IxR X (upR X.K r)) (ha:EJ X a ga) (hb:EJ X b gb) (hs:PlainIx b):EJ X (.Subscript a b pos) (dOp r ga gb):=⟨d_ix (hr:=hr) (ha:=ha.h) (hb:=hb.h) (hs:=hs)⟩
end
section
variable {X:Cx} {a b c:Expr} {ga gb gc:DE} {pos:Pos}
theorem d_unj {op:UnaryOp} {r:D1} (ho:UnR X (unaryOp op) (upU X.K r)) (ha:EJ X a ga):EJ X (.UnaryOp op a pos) (dUn r ga):=⟨d_un (ho:=ho) (ha:=ha.h)⟩
end
section
variable {X:Cx} {a b c:Expr} {ga gb gc:DE} {pos:Pos}
theorem dt_cmpj {op:CmpOp} {r:D2} (ho:OpR X (compareOp op) (upR X.K r)) (ha:EJ X a ga) (hb:EJ X b gb) (hm:behindInMarks op b=false):TJ X (.Compare a [op] [b] pos) (dTest (dOp r ga gb)):=⟨dt_cmp (ho:=ho) (ha:=ha.h) (hb:=hb.h) (hm:=hm)⟩
end
section
variable {X:Cx} {a b c:Expr} {ga gb gc:DE} {pos:Pos}
theorem dt_valj {e:Expr} {g:DE} (h:EJ X e g) (he:∀ whole,isTrue e X.env whole=(do let v <- whole; standAt e.pos; holding [v] (truthy v)):=by intro _; rfl):TJ X e (dTest g):=⟨dt_val (h:=h.h) (he:=he)⟩
end
section
variable {X:Cx} {a b c:Expr} {ga gb gc:DE} {pos:Pos}
variable {tA tB':DT} {rest:List Expr}
theorem dw_or1j (ha:TJ X a tA):WJ X (.BoolOp .Or [a] pos) tA:=⟨dw_or1 (ha:=ha.h)⟩
end
section
variable {X:Cx} {a b c:Expr} {ga gb gc:DE} {pos:Pos}
variable {tA tB':DT} {rest:List Expr}
theorem dw_orj (ha:TJ X a tA) (hb:WJ X (.BoolOp .Or (b::rest) pos) tB'):WJ X (.BoolOp .Or (a::b::rest) pos) (dOrT tA tB'):=⟨dw_or (ha:=ha.h) (hb:=hb.h)⟩
end
section
variable {X:Cx} {a b c:Expr} {ga gb gc:DE} {pos:Pos}
variable {tA tB':DT} {rest:List Expr}
theorem dt_notj (ha:TJ X a tA):TJ X (.UnaryOp .Not a pos) (dNotT tA):=⟨dt_not (ha:=ha.h)⟩
end
section
variable {X:Cx} {a b c:Expr} {ga gb gc:DE} {pos:Pos}
variable {tA tB':DT} {rest:List Expr}
theorem d_onej {op} (h:EJ X a ga):EJ X (.BoolOp op [a] pos) ga:=⟨d_one (h:=h.h)⟩
end
section
variable {X:Cx} {a b c:Expr} {ga gb gc:DE} {pos:Pos}
variable {tA tB':DT} {rest:List Expr}
theorem d_andj (ha:EJ X a ga) (hb:EJ X (.BoolOp .And (b::rest) pos) gb):EJ X (.BoolOp .And (a::b::rest) pos) (dAndV ga gb):=⟨d_and (ha:=ha.h) (hb:=hb.h)⟩
end
section
variable {X:Cx} {x:Str} {p pos:Pos} {e:Expr} {es:List Expr} {t:DA} {id T:String} {r:DSp}
theorem d_callBj (hc:CallR X (.builtin id) (upC X.K r)) (hg:Gl X x) (hm:X.mg x=none) (hv:bootBuiltins x=some (.builtin id)) (ha:AJ X (e::es) t) (hn:x≠"__name__":=by decide) (hdb:(x == ("__debug__":Str))=false:=by decide) (he:starEach (e::es) X.env=(false,eval e X.env)::starEach es X.env:=by exact star_cons rfl) (hpl:(backTo pos (starEach es X.env)).any (·.1)=false:=by exact star_any rfl):EJ X (.Call (.Name x p) (e::es) [] pos) (dCall r t):=⟨d_callB (hc:=hc) (hg:=hg) (hm:=hm) (hv:=hv) (ha:=ha.h) (hn:=hn) (hdb:=hdb) (he:=he) (hpl:=hpl)⟩
end
section
variable {X:Cx} {x:Str} {p pos:Pos} {e:Expr} {es:List Expr} {t:DA} {id T:String} {r:DSp}
theorem d_callTj (hc:CallR X (.type T) (upC X.K r)) (hg:Gl X x) (hm:X.mg x=none) (hv:bootBuiltins x=some (.type T)) (ha:AJ X (e::es) t) (hn:x≠"__name__":=by decide) (hdb:(x == ("__debug__":Str))=false:=by decide) (he:starEach (e::es) X.env=(false,eval e X.env)::starEach es X.env:=by exact star_cons rfl) (hpl:(backTo pos (starEach es X.env)).any (·.1)=false:=by exact star_any rfl):EJ X (.Call (.Name x p) (e::es) [] pos) (dCall r t):=⟨d_callT (hc:=hc) (hg:=hg) (hm:=hm) (hv:=hv) (ha:=ha.h) (hn:=hn) (hdb:=hdb) (he:=he) (hpl:=hpl)⟩
end
section
variable {X:Cx} {x:Str} {p pos:Pos} {e:Expr} {es:List Expr} {t:DA} {id T:String} {r:DSp}
theorem d_callj {n:Nat} {F:DSp} (c:Own X.prog X.w X.K X.mg X.base x n F) (hr:Room n X.A) (hg:Gl X x) (ha:AJ X (e::es) t) (hdb:(x == ("__debug__":Str))=false:=by decide) (he:starEach (e::es) X.env=(false,eval e X.env)::starEach es X.env:=by exact star_cons rfl) (hpl:(backTo pos (starEach es X.env)).any (·.1)=false:=by exact star_any rfl):EJ X (.Call (.Name x p) (e::es) [] pos) (dCall F t):=⟨d_call (c:=c) (hr:=hr) (hg:=hg) (ha:=ha.h) (hdb:=hdb) (he:=he) (hpl:=hpl)⟩
end
section
variable {X:Cx} {st:Stmt} {rest:List Stmt} {g h:DS} {e:Expr} {ge:DE} {pos:Pos}
theorem ds_nilj:SsJ X [] dNext:=⟨ds_nil⟩
end
section
variable {X:Cx} {st:Stmt} {rest:List Stmt} {g h:DS} {e:Expr} {ge:DE} {pos:Pos}
theorem ds_consj (h1:SJ X st g) (h2:SsJ X rest h):SsJ X (st::rest) (dSeq g h):=⟨ds_cons (h1:=h1.h) (h2:=h2.h)⟩
end
section
variable {X:Cx} {st:Stmt} {rest:List Stmt} {g h:DS} {e:Expr} {ge:DE} {pos:Pos}
theorem ds_onej (h1:SJ X st g):SsJ X [st] g:=⟨ds_one (h1:=h1.h)⟩
end
section
variable {X:Cx} {st:Stmt} {rest:List Stmt} {g h:DS} {e:Expr} {ge:DE} {pos:Pos}
theorem dst_exprj (he:EJ X e ge) (hs:swapsWith e none pos.line X.env=pure false:=by rfl):SJ X (.Expr e pos) (dDrop ge):=⟨dst_expr (he:=he.h) (hs:=hs)⟩
end
section
variable {X:Cx} {st:Stmt} {rest:List Stmt} {g h:DS} {e:Expr} {ge:DE} {pos:Pos}
theorem dst_retj (he:EJ X e ge):SJ X (.Return (some e) pos) (dRet ge):=⟨dst_ret (he:=he.h)⟩
end
section
variable {X:Cx} {st:Stmt} {rest:List Stmt} {g h:DS} {e:Expr} {ge:DE} {pos:Pos}
theorem dst_ifj {c:Expr} {a b:List Stmt} {gc:DT} (hc:TJ X c gc) (ha:SsJ X a g) (hb:SsJ X b h):SJ X (.If c a b pos) (dIfS gc g h):=⟨dst_if (hc:=hc.h) (ha:=ha.h) (hb:=hb.h)⟩
end
section
variable {X:Cx} {st:Stmt} {rest:List Stmt} {g h:DS} {e:Expr} {ge:DE} {pos:Pos}
theorem dst_neverj:SJ X st dNever:=⟨dst_never⟩
end
section
variable {X:Cx} {st:Stmt} {rest:List Stmt} {g h:DS} {e:Expr} {ge:DE} {pos:Pos}
theorem dst_setj {i:Nat} {x:Str} {pos':Pos} (hN:X.N.Nodup) (he:EJ X e ge) (hi:X.N[i]?=some x:=by rfl) (hx:Loc X.env.scope x:=by first | exact Or.inl rfl | exact Or.inr rfl) (hs:swapsWith e (some (.Name x pos')) pos.line X.env=pure false:=by rfl) (hf:X.fn x=true\/X.env.scope.names.lookup x=some .local:=by first | exact .inl rfl | exact .inr rfl | assumption):SJ X (.Assign [.Name x pos'] e pos) (dSet i ge):=⟨dst_set (hN:=hN) (he:=he.h) (hi:=hi) (hx:=hx) (hs:=hs) (hf:=hf)⟩
end
section
variable {X:Cx} {st:Stmt} {rest:List Stmt} {g h:DS} {e:Expr} {ge:DE} {pos:Pos}
theorem dst_parj {i j:Nat} {x y:Str} {a b:Expr} {ta:DA} {px py pt:Pos} {kt k2 pt2} (hc:X.calm=true) (hN:X.N.Nodup) (hij:i≠j) (ha:AJ X [a,b] ta) (hi:X.N[i]?=some x:=by rfl) (hj:X.N[j]?=some y:=by rfl) (hx:X.env.scope.names.lookup x=some .local:=by rfl) (hy:X.env.scope.names.lookup y=some .local:=by rfl) (hw:swappedStores [.Tuple [.Name x px,.Name y py] kt pt] (.Tuple [a,b] k2 pt2) X.env=pure (some [x,y]):=by rfl) (hs:swapsWithSole [.Tuple [.Name x px,.Name y py] kt pt] (.Tuple [a,b] k2 pt2) pos.line X.env=pure false:=by rfl):SJ X (.Assign [.Tuple [.Name x px,.Name y py] kt pt] (.Tuple [a,b] k2 pt2) pos) (dPar i j ta):=⟨dst_par (hc:=hc) (hN:=hN) (hij:=hij) (ha:=ha.h) (hi:=hi) (hj:=hj) (hx:=hx) (hy:=hy) (hw:=hw) (hs:=hs)⟩
end
section
variable {X:Cx} {st:Stmt} {rest:List Stmt} {g h:DS} {e:Expr} {ge:DE} {pos:Pos}
theorem dg_namej {i:Nat} {x:Str} (hN:X.N.Nodup) (hi:X.N[i]?=some x:=by rfl) (hx:Loc X.env.scope x:=by first | exact Or.inl rfl | exact Or.inr rfl) (hf:X.fn x=true\/X.env.scope.names.lookup x=some .local:=by first | exact .inl rfl | exact .inr rfl | assumption):GJ X (.Name x pos) (dgName i):=⟨dg_name (hN:=hN) (hi:=hi) (hx:=hx) (hf:=hf)⟩
end
section
variable {X:Cx} {st:Stmt} {rest:List Stmt} {g h:DS} {e:Expr} {ge:DE} {pos:Pos}
theorem dgs_nilj:GsJ X [] dgNil:=⟨dgs_nil⟩
end
section
variable {X:Cx} {st:Stmt} {rest:List Stmt} {g h:DS} {e:Expr} {ge:DE} {pos:Pos}
theorem dgs_consj {es:List Expr} {t:DG} {u:DGs} (h1:GJ X e t) (h2:GsJ X es u) (hs:(assignEach (e::es) X.env).map (·.2)=assign e X.env::(assignEach es X.env).map (·.2):=by rfl):GsJ X (e::es) (dgCons t u):=⟨dgs_cons (h1:=h1.h) (h2:=h2.h) (hs:=hs)⟩
end
section
variable {X:Cx} {st:Stmt} {rest:List Stmt} {g h:DS} {e:Expr} {ge:DE} {pos:Pos}
theorem dst_asgj {tg e:Expr} {g:DG} (he:EJ X e ge) (hg:GJ X tg g) (hs:swapsWithSole [tg] e pos.line X.env=pure false:=by rfl) (hw:swappedStores [tg] e X.env=pure none:=by rfl) (h1:(assignEach [tg] X.env).map (·.2)=[assign tg X.env]:=by rfl):SJ X (.Assign [tg] e pos) (dAsg ge g):=⟨dst_asg (he:=he.h) (hg:=hg.h) (hs:=hs) (hw:=hw) (h1:=h1)⟩
end
section
variable {X:Cx} {st:Stmt} {rest:List Stmt} {g h:DS} {e:Expr} {ge:DE} {pos:Pos}
theorem dst_whilej {c:Expr} {body:List Stmt} {gc:DT} (hp:PassesOwn (model X.prog X.w) X.A X.env X.xe) (hc:TJ X c gc) (hb:SsJ X body g):SJ X (.While c body [] pos) (dWhile gc g):=⟨dst_while (hp:=hp) (hc:=hc.h) (hb:=hb.h)⟩
end
section
variable {X:Cx} {st:Stmt} {rest:List Stmt} {g h:DS} {e:Expr} {ge:DE} {pos:Pos}
theorem dst_forRj {tg a:Expr} {body:List Stmt} {ta:DA} {gg:DG} {p pos':Pos} (hp:PassesOwn (model X.prog X.w) X.A X.env X.xe) (hc:X.calm=true) (hgl:Gl X "range") (hm:X.mg "range"=none) (ha:AJ X [a] ta) (hg:GJ X tg gg) (hb:SsJ X body g) (hs1:starEach [a] X.env=[(false,eval a X.env)]:=by rfl) (hs:∀ x,foldedSetIterable (.Call (.Name "range" p) [a] [] pos') X.env x=pure x:=by intro _; rfl):SJ X (.For tg (.Call (.Name "range" p) [a] [] pos') body [] pos) (dForR ta gg g):=⟨dst_forR (hp:=hp) (hc:=hc) (hgl:=hgl) (hm:=hm) (ha:=ha.h) (hg:=hg.h) (hb:=hb.h) (hs1:=hs1) (hs:=hs)⟩
end
section
variable {P:Program} {w:World} {K:Fg} {mg:Str->Option Value} {base:Heap}
theorem _root_.L2.Fun.okJ {x qual:Str} {st:Stmt} {f:Addr} {fd:FuncData} {N ps:List Str} {k:Nat} {F:DSp} (Fn:Fun K x qual st f fd) (Sc:FnScope N ps (defScope st)) (len:∀ ds S k,F ds S k->ds.length=ps.length)
    (hbody:∀ (cdv:Value) (A:Around) (outer:List Env) (s:Shared) (H:Hp) (E:XK),Room k (A.deeper (envOfC qual (defScope st) s.heap.objs.size f cdv))->
      ∃ g,SsJ (cxOf CX0 P w K mg base N qual (defScope st) f cdv A outer s H E).nox (defBody st) g/\
        ∀ ds S k,F ds S k->g {nx:=fun _ S'=>k .non S',rt:=k} (ds.map some++List.replicate (N.length - ps.length) none) S):FnOk P w K mg base CX0 (k+1) f fd ps (spU K F):=
  Fn.okD Sc len fun cdv A outer s H E hr=>let ⟨g,h,q⟩:=hbody cdv A outer s H E hr; ⟨g,h.h,q⟩
end
end DL
namespace L2
open PySem PySem.Spec PyProof.Rows
section
variable {X:Cx} {pos:Pos}
def gLst (K:PySem.W.Frag) (n:Nat) (t:TGs):TG:=fun v σ H Q=>∃ a xs,v=.ref a/\SqL K H a xs/\xs.length=n/\t xs σ H Q
theorem pg_lst {es:List Expr} {k:Nat} {t:TGs} {n:Nat} (hc:X.calm=true) (h:PGs X es t)
    (hn:(assignEach es X.env).length=n:=by rfl) (hst:(assignEach es X.env).findIdx? (·.1)=none:=by rfl):PG X (.Tuple es k pos) (gLst X.K n t):=by
  intro pins s σ H v u Q I r hw
  obtain⟨a,xs,e1,hq,hl,hw⟩:=hw
  subst e1
  cases r
  obtain⟨its,rv,ht,hz⟩:=I.list hq
  have e2:(assignEach es X.env).length=its.toArray.size:=by simp [hn,<- hl,rv.length]
  rw [arm_assign_Tuple]
  refine wpAny_bind (wpAny_standAt ?_)
  unfold unpack
  rw [e2,hst]
  refine wpAny_bind (wpAny_holding (PySem.W.kun_itemsOf (I.ok.hd hc) ht.isList fun h' hx=>?_))
  have I1:Inv X pins σ H {s with heap:=h'}:=I.kept (t':=s.toks) fun b o e=>hx b o (Nat.ne_of_lt (Heap.lt_size e)) e
  exact h pins _ σ H xs _ Q I1 (by simpa using rv) hw
theorem PG.or {e:Expr} {t t':TG} (h:PG X e t) (h':PG X e t'):PG X e (fun v σ H Q=>t v σ H Q\/t' v σ H Q):=by
  intro pins s σ H v u Q I r q
  rcases q with q | q
  · exact h pins s σ H v u Q I r q
  · exact h' pins s σ H v u Q I r q
end
def CapOk (X:Cx) (scope:Scope):List (Option Nat)->List Str->Prop
  | some j::r,x::xs=>(X.N[j]?=some x/\(X.env.scope.names.lookup x=some .cell\/X.env.scope.names.lookup x=some .free)/\((relabel scope X.env).names.lookup x=some .cell\/(relabel scope X.env).names.lookup x=some .free))/\CapOk X scope r xs
  | none::r,_::xs=>CapOk X scope r xs
  | _,_=>True
theorem CapOk.get {X:Cx} {scope:Scope}:∀ {cap:List (Option Nat)} {N:List Str},CapOk X scope cap N->∀ (i j:Nat) (x:Str),cap[i]?=some (some j)->N[i]?=some x->
    X.N[j]?=some x/\(X.env.scope.names.lookup x=some .cell\/X.env.scope.names.lookup x=some .free)/\((relabel scope X.env).names.lookup x=some .cell\/(relabel scope X.env).names.lookup x=some .free)
  | [],_,_,_,_,_,h,_=>by simp at h
  | _::_,[],_,_,_,_,_,h=>by simp at h
  | some _::_,_::_,h,0,j,x,h1,h2=>by
    simp at h1 h2
    subst h1 h2
    exact h.1
  | none::_,_::_,_,0,j,x,h1,_=>by simp at h1
  | some _::_,_::_,h,i+1,j,x,h1,h2=>CapOk.get h.2 i j x (by simpa using h1) (by simpa using h2)
  | none::r,_::xs,h,i+1,j,x,h1,h2=>CapOk.get (show CapOk X scope r xs from h) i j x (by simpa using h1) (by simpa using h2)
def SubOk (X:Cx):List (Str×Addr)->Prop
  | []=>True
  | p::r=>X.env.cells.lookup p.1=some p.2/\SubOk X r
theorem SubOk.mem {X:Cx}:∀ {cl:List (Str×Addr)},SubOk X cl->∀ p∈cl,X.env.cells.lookup p.1=some p.2
  | [],_,p,hp=>by simp at hp
  | q::r,h,p,hp=>by
    rcases List.mem_cons.mp hp with e | e
    · subst e; exact h.1
    · exact SubOk.mem h.2 p e
theorem compSc {X:Cx} {scope:Scope} {cl:List (Str×Addr)} {N:List Str} {cap:List (Option Nat)} (h1:scope.kind=.function) (h2:closureFor scope X.env=pure cl) (h3:(scope.names.all fun y=>y.2 != NameKind.cell)=true)
    (h4:(scope.names.all fun y=>y.2 != NameKind.local || scope.names.lookup y.1 == some NameKind.local)=true) (h5:SubOk X cl)
    (h6:((relabel scope X.env).names.all fun y=>(y.2 != NameKind.cell && y.2 != NameKind.free) || (cl.lookup y.1).isSome)=true) (h7:cap.length=N.length) (h8:CapOk X scope cap N):CompSc X scope cl N cap:=⟨h1,h2,h3,h4,h5.mem,h6,h7,h8.get⟩
end L2
namespace DL
open PySem PySem.Spec PyProof.Rows L2
section
variable {X:Cx} {pos:Pos}
def dgSeq (n:Nat) (t:DGs):DG:=fun d L S k=>match dItems S d with
  | some p=>p.1.length=n/\t p.1 L S k
  | none=>False
theorem dg_seq {es:List Expr} {k:Nat} {t:DGs} {n:Nat} (hc:X.calm=true) (h:GsJ X es t) (hn:(assignEach es X.env).length=n:=by rfl) (hst:(assignEach es X.env).findIdx? (·.1)=none:=by rfl):GJ X (.Tuple es k pos) (dgSeq n t):=
  ⟨PG.imp (PG.or (pg_tup hc h.h hn hst) (pg_lst hc h.h hn hst)) fun v σ H Q ⟨d,L,S,k,i1,hL,hS,h,m⟩=>by
    cases d with
    | tup ds=>
      obtain⟨a,xs,rfl,t1,j⟩:=isTup.mp i1
      exact .inl ⟨a,xs,rfl,t1,by rw [<- j.length]; exact h.1,ds,L,S,k,j,hL,hS,h.2,m⟩
    | rl ds=>
      obtain⟨a,xs,rfl,t1,j⟩:=isRl.mp i1
      exact .inr ⟨a,xs,rfl,t1.sq,by rw [<- j.length]; exact h.1,ds,L,S,k,j,hL,hS,h.2,m⟩
    | ref a=>
      have e1:=isRef.mp i1
      subst e1
      cases z:S a with
      | none=>simp only [dgSeq,dItems,z] at h
      | some o=>
        cases o with
        | dic=>simp only [dgSeq,dItems,z] at h
        | exc _=>simp only [dgSeq,dItems,z] at h
        | fn _=>simp only [dgSeq,dItems,z] at h
        | tbl _=>simp only [dgSeq,dItems,z] at h
        | gen _=>simp only [dgSeq,dItems,z] at h
        | lst ds=>
          simp only [dgSeq,dItems,z] at h
          obtain⟨xs,hl,j⟩:=hS.lst z
          exact .inr ⟨a,xs,rfl,SqL.of hl,by rw [<- j.length]; exact h.1,ds,L,S,k,j,hL,hS,h.2,m⟩
    | _=>exact(show False from h).elim⟩
end
def capL (cap:List (Option Nat)) (L:Lo):Lo:=cap.map fun o=>match o with
  | some j=>(L[j]?).join
  | none=>none
theorem Lc.cap {K:Fg} {H:Hp} {L:Lo} {σ:L2.St} (hL:Lc K H L σ):∀ cap:List (Option Nat),Lc K H (capL cap L) (capSt cap σ)
  | []=>rfl
  | Option.none::r=>⟨_,_,rfl,Lc.cap hL r⟩
  | Option.some j::r=>by
    show Lc K H ((L[j]?).join::capL r L) ((σ[j]?).join::capSt r σ)
    cases e:L[j]? with
    | none=>exact⟨_,_,rfl,Lc.cap hL r⟩
    | some o=>
      cases o with
      | none=>exact⟨_,_,rfl,Lc.cap hL r⟩
      | some d=>
        obtain⟨v,e1,e2⟩:=hL.get e
        rw [e1]
        exact⟨v,_,rfl,e2,Lc.cap hL r⟩
abbrev DB:=Lo->DH->(Option D->DH->Prop)->Prop
def bdAll (ge:DE):DB:=fun L S k=>ge L S fun v S1=>k (some v) S1
def bdIf (c:DT) (ge:DE):DB:=fun L S k=>c L S fun b S1=>if b=true then ge L S1 fun v S2=>k (some v) S2 else k none S1
def dCLoop (ok:DH->Prop) (p:Addr) (g:DG) (bd:DB) (k:DK):List D->List D->Lo->DH->Prop
  | [],_,_,S=>ok S/\k (.ref p) S
  | d::r,acc,L,S=>ok S/\g d L S fun L1 S1=>bd L1 S1 fun o S2=>match o with
    | some v=>S2 p=some (.lst acc)/\acc.length < sizeLine/\dCLoop ok p g bd k r (acc++[v]) L1 (put S2 p (.lst (acc++[v])))
    | none=>dCLoop ok p g bd k r acc L1 S2
def GTup (K:Fg) (mg:Str->Option Value) (x:Str) (ns:List Int):Prop:=∃ p o its n,mg x=some (.ref p)/\K.lookup p=some o/\o.cls=.type "tuple"/\o.data=.seq its n/\its.size<=sizeLine/\Vals (ns.map V.int) its.toList
theorem isDs_ints {K:Fg} {H:Hp}:∀ ns:List Int,IsDs K H (ns.map D.int) (ns.map V.int)
  | []=>IsDs.nil
  | _::ns=>IsDs.cons (isInt.mpr rfl) (isDs_ints ns)
theorem d_gtup {X:Cx} {x:Str} {ns:List Int} {pos:Pos} (g:GTup X.K X.mg x ns) (hg:Gl X x) (hd:(x == ("__debug__":Str))=false:=by decide):EJ X (.Name x pos) (dC (.tup (ns.map D.int))):=by
  obtain⟨p,o,its,n,hm,h1,h2,h3,h4,h5⟩:=g
  exact⟨d_c (pe_glob (v:=.ref p) hg hm rfl hd) fun H=>isTup.mpr ⟨p,_,rfl,.inr ⟨o,its,n,h1,h2,h3,h4,h5⟩,isDs_ints ns⟩⟩
theorem upR.imp {K:Fg} {r r':D2} (i:∀ d e S k,r' d e S k->r d e S k):∀ x y H Q,upR K r' x y H Q->upR K r x y H Q:=fun x y H Q ⟨d,e,S,k,a,b,c,h,n⟩=>⟨d,e,S,k,a,b,c,i d e S k h,n⟩
theorem upC.imp {K:Fg} {r r':DSp} (i:∀ ds S k,r' ds S k->r ds S k):∀ xs H Q,upC K r' xs H Q->upC K r xs H Q:=fun xs H Q ⟨ds,S,k,a,b,h,n⟩=>⟨ds,S,k,a,b,i ds S k h,n⟩
theorem OpR.imp {X:Cx} {f:Value->Value->Sem Value} {r r':R2} (h:OpR X f r) (i:∀ x y H Q,r' x y H Q->r x y H Q):OpR X f r':=fun pins s σ H x y v u Q I rx ry q=>h pins s σ H x y v u Q I rx ry (i x y H Q q)
theorem IxR.imp {X:Cx} {r r':R2} (h:IxR X r) (i:∀ x y H Q,r' x y H Q->r x y H Q):IxR X r':=fun value slice pins s σ H x y v u Q I rx ry q=>h value slice pins s σ H x y v u Q I rx ry (i x y H Q q)
theorem CallR.imp {X:Cx} {f:Value} {r r':List V->Hp->VK->Prop} (h:CallR X f r) (i:∀ xs H Q,r' xs H Q->r xs H Q):CallR X f r':=fun pins s σ H xs us Q I rs q=>h pins s σ H xs us Q I rs (i xs H Q q)
def dIxE:D2:=fun d e S k=>match d,e with
  | .tup ds,.int i=>(match L2.atI ds i with
    | some c=>k c S
    | none=>False)
  | .rl ds,.int i=>∃ c,L2.atI ds i=some c/\k c S
  | .ref a,.int i=>∃ ds c,S a=some (.lst ds)/\L2.atI ds i=some c/\k c S
  | _,_=>False
theorem x_ixE {X:Cx}:IxR X (upR X.K dIxE):=IxR.imp x_ix (upR.imp fun d e S k h=>by
  unfold dIxE at h
  split at h
  · exact h
  · obtain⟨c,h1,h2⟩:=h
    simp only [dIx,h1]
    exact h2
  · obtain⟨ds,c,h0,h1,h2⟩:=h
    simp only [dIx,h0,h1]
    exact h2
  · exact h.elim)
def bLenE:DSp:=fun ds S k=>match ds with
  | [.tup xs]=>k (.int xs.length) S
  | [.rl xs]=>k (.int xs.length) S
  | [.ref a]=>∃ xs,S a=some (.lst xs)/\k (.int xs.length) S
  | _=>False
theorem b_lenE {X:Cx}:CallR X (.builtin "len") (upC X.K bLenE):=CallR.imp b_len (upC.imp fun ds S k h=>by
  unfold bLenE at h
  split at h
  · exact h
  · exact h
  · obtain⟨xs,h1,h2⟩:=h
    simp only [bLen,h1]
    exact h2
  · exact h.elim)
def dEqE:D2:=fun d e S k=>∃ b,eqT 8 d e=some b/\k (.bl b) S
def dNeE:D2:=fun d e S k=>∃ b,eqT 8 d e=some b/\k (.bl (!b)) S
theorem o_eqE {X:Cx} {n:Nat} (hr:Room n X.A):OpR X (compareOp .Eq) (upR X.K dEqE):=OpR.imp (o_eqT hr) (upR.imp fun d e S k ⟨b,h1,h2⟩=>by
  simp only [dEqT,h1]
  exact h2)
theorem o_neE {X:Cx} {n:Nat} (hr:Room n X.A):OpR X (compareOp .NotEq) (upR X.K dNeE):=OpR.imp (o_neT hr) (upR.imp fun d e S k ⟨b,h1,h2⟩=>by
  simp only [dNeT,h1]
  exact h2)
def dForE (gi:DE) (g:DG) (b:DS):DS:=fun M L S=>gi L S fun d S1=>∃ p,dItems S1 d=some p/\dLoop (okFor p) g b M p.1 L S1
def dgSeqE (n:Nat) (t:DGs):DG:=fun d L S k=>∃ p,dItems S d=some p/\p.1.length=n/\t p.1 L S k
theorem GJ.imp {X:Cx} {e:Expr} {g g':DG} (h:GJ X e g) (i:∀ d L S k,g' d L S k->g d L S k):GJ X e g':=⟨PG.imp h.h fun v σ H Q ⟨d,L,S,k,a,hL,hS,q,n⟩=>⟨d,L,S,k,a,hL,hS,i d L S k q,n⟩⟩
theorem dg_seqE {X:Cx} {pos:Pos} {es:List Expr} {k:Nat} {t:DGs} {n:Nat} (hc:X.calm=true) (h:GsJ X es t) (hn:(assignEach es X.env).length=n:=by rfl) (hst:(assignEach es X.env).findIdx? (·.1)=none:=by rfl):GJ X (.Tuple es k pos) (dgSeqE n t):=
  GJ.imp (dg_seq hc h hn hst) fun d L S k ⟨p,h1,h2⟩=>by
    simp only [dgSeq,h1]
    exact h2
section
variable {X:Cx} {pos:Pos}
def dgSubE (go gi:DE):DG:=fun d L S k=>go L S fun o S1=>gi L S1 fun i S2=>match o,i with
  | .ref a,.int j=>∃ ds n,S2 a=some (.lst ds)/\ixN ds.length j=some n/\k L (put S2 a (.lst (ds.set n d)))
  | _,_=>False
theorem dg_subE {o i:Expr} {go gi:DE} (ho:EJ X o go) (hi:EJ X i gi)
    (ha:∀ v,assign (.Subscript o i pos) X.env v=(do
      let ov <- holding [v] (eval o X.env)
      let iv <- holding [v,ov] (eval i X.env)
      standAt pos
      holding [v,ov,iv] (setItem ov iv v)
      release [v,ov,iv] []):=by intro _; rfl):GJ X (.Subscript o i pos) (dgSubE go gi):=
  ⟨PG.imp (pg_sub ho.h hi.h set_list ha) fun v σ H Q ⟨d,L,S,k,i1,hL,hS,h,n⟩=>up.go hL hS h fun c S1 u H1 h1 k1 hL1 hS1 j1=>up.go hL1 hS1 h1 fun c2 S2 u2 H2 h2 k2 hL2 hS2 j2=>by
    cases c with
    | ref a=>
      cases c2 with
      | int z=>
        have e1:=isRef.mp j1
        have e2:=isInt.mp j2
        subst e1
        subst e2
        obtain⟨ds,m,w,q,h2⟩:=h2
        obtain⟨vs,hl,j⟩:=hS2.lst w
        refine⟨a,vs,z,m,rfl,rfl,hl,by rw [<- j.length]; exact q,?_⟩
        have k3:Kp H2 (upd H2 a (.lst (vs.set m v))):=Kp.mut hl (fun z=>z)
        exact n L _ σ _ h2 (k1.trans (k2.trans k3)) (hL2.kp k3) (hS2.setL hl (j.set m (i1.kp (k1.trans k2))))
      | _=>exact(show False from h2).elim
    | _=>exact(show False from h2).elim⟩
theorem seq_go {K:Fg} {S1:DH} {H1:Hp} {d:D} {v:V} {p:List D×Option Addr} (hS1:Hs K H1 S1) (i1:IsD K H1 d v) (hp:dItems S1 d=some p):∃ a,v=.ref a/\
    (((∃ xs, SqL K H1 a xs) ∧ (∀ i c S2 H2, p.1[i]? = some c → Kp H1 H2 → Hs K H2 S2 → okFor p S2 → (Itl K a).go i H2 ∧ ∀ x H', (Itl K a).yld i H2 x H' → H' = H2 ∧ IsD K H2 c x) ∧ ∀ S2 H2, Kp H1 H2 → Hs K H2 S2 → okFor p S2 → (Itl K a).stop p.1.length H2) ∨
     ((∃ xs,SqT K H1 a xs)/\(∀ i c S2 H2,p.1[i]?=some c->Kp H1 H2->Hs K H2 S2->okFor p S2->(Itt K a).go i H2/\∀ x H',(Itt K a).yld i H2 x H'->H'=H2/\IsD K H2 c x)/\∀ S2 H2,Kp H1 H2->Hs K H2 S2->okFor p S2->(Itt K a).stop p.1.length H2)):=by
  cases d with
  | tup ds=>
    cases hp
    obtain⟨a,xs,rfl,t,j⟩:=isTup.mp i1
    refine⟨a,rfl,.inr ⟨⟨xs,t⟩,fun i d S2 H2 e k2 hS2 _=>?_,fun S2 H2 k2 hS2 _=>⟨xs,k2.tup t,by rw [<- j.length]; exact Nat.le_refl _⟩⟩⟩
    obtain⟨w,e1,e2⟩:=j.get e
    refine⟨⟨xs,w,k2.tup t,e1⟩,fun x H' y=>⟨y.1,?_⟩⟩
    have z:=y.2 xs (k2.tup t)
    rw [e1] at z
    cases z
    exact e2.kp k2
  | rl ds=>
    cases hp
    obtain⟨a,xs,rfl,t,j⟩:=isRl.mp i1
    refine⟨a,rfl,.inl ⟨⟨xs,t.sq⟩,fun i d S2 H2 e k2 hS2 _=>?_,fun S2 H2 k2 hS2 _=>⟨xs,(k2.fro t).sq,by rw [<- j.length]; exact Nat.le_refl _⟩⟩⟩
    obtain⟨w,e1,e2⟩:=j.get e
    refine⟨⟨xs,w,(k2.fro t).sq,e1⟩,fun x H' y=>⟨y.1,?_⟩⟩
    have z:=y.2 xs (k2.fro t).sq
    rw [e1] at z
    cases z
    exact e2.kp k2
  | ref a=>
    have e1:=isRef.mp i1
    subst e1
    cases z:S1 a with
    | none=>simp only [dItems,z] at hp; cases hp
    | some o=>
      cases o with
      | dic=>simp only [dItems,z] at hp; cases hp
      | exc _=>simp only [dItems,z] at hp; cases hp
      | fn _=>simp only [dItems,z] at hp; cases hp
      | tbl _=>simp only [dItems,z] at hp; cases hp
      | gen _=>simp only [dItems,z] at hp; cases hp
      | lst ds=>
        simp only [dItems,z] at hp
        cases hp
        obtain⟨xs,hl,j⟩:=hS1.lst z
        refine⟨a,rfl,.inl ⟨⟨xs,SqL.of hl⟩,fun i d S2 H2 e k2 hS2 o2=>?_,fun S2 H2 k2 hS2 o2=>?_⟩⟩
        · obtain⟨ys,hl2,j2⟩:=hS2.lst o2
          obtain⟨w,e1,e2⟩:=j2.get e
          refine⟨⟨ys,w,SqL.of hl2,e1⟩,fun x H' y=>⟨y.1,?_⟩⟩
          have q:=y.2 ys (SqL.of hl2)
          rw [e1] at q
          cases q
          exact e2
        · obtain⟨ys,hl2,j2⟩:=hS2.lst o2
          exact⟨ys,SqL.of hl2,by rw [<- j2.length]; exact Nat.le_refl _⟩
  | _=>cases hp
theorem dst_forEj {tg iter:Expr} {body:List Stmt} {gi:DE} {gg:DG} {g:DS} (hp:PassesOwn (model X.prog X.w) X.A X.env X.xe) (hc:X.calm=true) (hi:EJ X iter gi) (hg:GJ X tg gg) (hb:SsJ X body g)
    (hs:∀ x,foldedSetIterable iter X.env x=pure x:=by intro _; rfl):SJ X (.For tg iter body [] pos) (dForE gi gg g):=
  ⟨PS.imp (ps_for hp hc (pi_seq hi.h) hg.h hb.h hs) fun N σ H ⟨L,S,M,hL,hS,h,r⟩=>up.go hL hS h fun d S1 v H1 h1 k1 hL1 hS1 i1=>by
    obtain⟨p,hp,h1⟩:=h1
    obtain⟨a,e,q⟩:=seq_go hS1 i1 hp
    refine⟨a,e,?_⟩
    rcases q with ⟨q1,q2,q3⟩ | ⟨q1,q2,q3⟩
    · exact .inl ⟨q1,for_core hL1 hS1 h1 (r.kp k1) q2 q3⟩
    · exact .inr ⟨q1,for_core hL1 hS1 h1 (r.kp k1) q2 q3⟩⟩
end
end DL
namespace L2
open PySem PySem.Spec PyProof.Rows
structure Hands (P:Program) (w:World) (it l:Addr) (st:Nat->Heap->Prop) (sq:Array Value->Heap->Prop):Prop where
  at_:∀ k h h',st k h->(∀ o,h.get? it=some o->h'.get? it=some o)->st k h'
  sqAt:∀ xs h h',sq xs h->(∀ o,h.get? l=some o->h'.get? l=some o)->sq xs h'
  obj:∀ k h,st k h->∃ o,h.get? it=some o/\∀ v,o.data≠.cell v
  item:∀ (A:Around) (k:Nat) (s:Shared) (xs:Array Value) (x:Value) (Q:Value->Shared->Prop) (E:Value->Shared->Prop),st k s.heap->sq xs s.heap->xs[k]?=some x->
    (∀ h',st (k+1) h'->Heap.SameBut it s.heap h'->Q x {s with heap:=h'})->wpAny (model P w) A (Builtin.SmallTypes.nextOf (.ref it)) Q E s
  fin:∀ (A:Around) (k:Nat) (s:Shared) (xs:Array Value) (Q:Value->Shared->Prop) (E:Value->Shared->Prop),A.handled=none->st k s.heap->sq xs s.heap->xs[k]?=none->
    (∀ h' e,Heap.ExtBut it s.heap h'->(∃ o,h'.get? e=some o/\o.cls=.type "StopIteration")->E (.ref e) {s with heap:=h'})->wpAny (model P w) A (Builtin.SmallTypes.nextOf (.ref it)) Q E s
theorem Hands.list {P:Program} {w:World} (it l:Addr):Hands P w it l (fun k h=>h.IsListIter it l k) (fun xs h=>h.IsList l xs) where
  at_:=fun _ _ _ x y=>x.at y
  sqAt:=fun _ _ _ x y=>x.at y
  obj:=fun _ _ ⟨o,e,_,d⟩=>⟨o,e,fun v z=>by rw [d] at z; cases z⟩
  item:=fun _ _ _ _ _ _ _ a b c d=>wpAny_nextOf_list_item a b c d
  fin:=fun _ _ _ _ _ _ hh a b c d=>wpAny_nextOf_list_end hh a b c d
section
variable {prog:Program} {w:World} {A:Around} {E:Value->Shared->Prop} {s:Shared}
theorem nextOf_tuple_item {it t:Addr} {i:Nat} {items} {x:Value} {Q:Value->Shared->Prop} (hit:s.heap.IsTupleIter it t i) (ht:s.heap.IsTuple t items) (hx:items[i]?=some x)
    (hQ:∀ h',h'.IsTupleIter it t (i+1)->Heap.SameBut it s.heap h'->Q x {s with heap:=h'}):wpAny (model prog w) A (Builtin.SmallTypes.nextOf (.ref it)) Q E s:=by
  obtain⟨o,ho,hc,hd⟩:=id hit
  obtain⟨ol,hol,_,nl,hdl⟩:=ht
  unfold Builtin.SmallTypes.nextOf
  refine wpAny_bind (wpAny_callSpecial?_slot (name:=Str.ofString "__next__") hit.typeIs F.slot_tuple_iterator_next (wpAny_call_entry F.slot_tuple_iterator_next hit.typeIs F.entry_tuple_iterator_next ?_ (F.args_tuple_iterator_next_1 _)))
  refine wpAny_bind (m:=field (.ref it) 0) (wpAny_field ho hd (x:=.ref t) rfl ?_)
  show wpAny _ _ (if (Value.ref t == Value.none)=true then _ else _) _ _ s
  rw [if_neg (show ¬ ((Value.ref t == Value.none)=true) from Bool.false_ne_true)]
  refine wpAny_bind (m:=field (.ref it) 1) (wpAny_field ho hd (x:=.int i 0) rfl ?_)
  refine wpAny_bind (m:=seqItems? (.ref t)) (wpAny_seqItems hol hdl ?_)
  simp only [Int.toNat_natCast,hx]
  refine wpAny_bind (wpAny_setField ho hd (by simp) (wpAny_pure ⟨x,rfl,wpAny_pure (hQ _ ⟨_,Heap.get?_update_self _ ho (Obj.isFreed_of_fields (Obj.data_mapFields hd _)),(Obj.cls_mapFields ..).trans hc,?_⟩ (Heap.SameBut.update ..))⟩))
  rw [Obj.data_mapFields hd]
  simp [rawInt]
theorem nextOf_tuple_end {it t:Addr} {i:Nat} {items} {Q:Value->Shared->Prop} (hh:A.handled=none) (hit:s.heap.IsTupleIter it t i) (ht:s.heap.IsTuple t items) (hx:items[i]?=none)
    (hE:∀ h' e,Heap.ExtBut it s.heap h'->(∃ o,h'.get? e=some o/\o.cls=.type "StopIteration")->E (.ref e) {s with heap:=h'}):wpAny (model prog w) A (Builtin.SmallTypes.nextOf (.ref it)) Q E s:=by
  obtain⟨o,ho,hc,hd⟩:=id hit
  obtain⟨ol,hol,_,nl,hdl⟩:=ht
  unfold Builtin.SmallTypes.nextOf
  refine wpAny_bind (wpAny_callSpecial?_slot (name:=Str.ofString "__next__") hit.typeIs F.slot_tuple_iterator_next (wpAny_call_entry F.slot_tuple_iterator_next hit.typeIs F.entry_tuple_iterator_next ?_ (F.args_tuple_iterator_next_1 _)))
  refine wpAny_bind (m:=field (.ref it) 0) (wpAny_field ho hd (x:=.ref t) rfl ?_)
  show wpAny _ _ (if (Value.ref t == Value.none)=true then _ else _) _ _ s
  rw [if_neg (show ¬ ((Value.ref t == Value.none)=true) from Bool.false_ne_true)]
  refine wpAny_bind (m:=field (.ref it) 1) (wpAny_field ho hd (x:=.int i 0) rfl ?_)
  refine wpAny_bind (m:=seqItems? (.ref t)) (wpAny_seqItems hol hdl ?_)
  simp only [Int.toNat_natCast,hx]
  refine wpAny_bind (wpAny_rule (wpAny_bind (wpAny_setField ho hd (by simp) ?_)))
  refine wpAny_bind (m:=newExc (.type "StopIteration") []) ?_
  simp only [newExc,newTuple]
  refine wpAny_bind (wpAny_newObj_type ?_ (by size_fits))
  refine wpAny_bind (m:=firstArgMember _ _) (wpAny_of_eq (a:=Value.none) (by first | rfl | (simp only [firstArgMember]; rfl)) ?_)
  refine wpAny_newObj_type ?_ (by size_fits)
  simp only [raiseNew]
  refine wpAny_bind (wpAny_handled ?_)
  first | rw [show A.in1.handled=none from hh] | rw [hh]
  exact wpAny_bind (wpAny_pure (wpAny_throw (hE _ _ (((Heap.SameBut.update ..).extBut.push _).push _) ⟨_,Heap.get?_push_size _ rfl,rfl⟩)))
end
theorem Hands.tuple {P:Program} {w:World} (it l:Addr):Hands P w it l (fun k h=>h.IsTupleIter it l k) (fun xs h=>h.IsTuple l xs) where
  at_:=fun _ _ _ x y=>x.at y
  sqAt:=fun _ _ _ x y=>x.at y
  obj:=fun _ _ ⟨o,e,_,d⟩=>⟨o,e,fun v z=>by rw [d] at z; cases z⟩
  item:=fun _ _ _ _ _ _ _ a b c d=>nextOf_tuple_item a b c d
  fin:=fun _ _ _ _ _ _ hh a b c d=>nextOf_tuple_end hh a b c d
section
variable {prog:Program} {w:World} {A:Around} {E:Value->Shared->Prop} {s:Shared} {z TI TO i1 i2 l1 l2:Addr} {st1 st2:Nat->Heap->Prop} {sq1 sq2:Array Value->Heap->Prop} {k1 k2:Nat} {xs ys:Array Value} {x y a b:Value}
theorem zip_item {Q:Value->Shared->Prop} (G1:Hands prog w i1 l1 st1 sq1) (G2:Hands prog w i2 l2 st2 sq2) (D:ZipApart z TI TO i1 i2 l1 l2) (hz:IsZip s.heap z TI TO .none) (hTI:IsPair s.heap TI (.ref i1) (.ref i2)) (hTO:IsPair s.heap TO a b)
    (h1:st1 k1 s.heap) (h2:st2 k2 s.heap) (hl1:sq1 xs s.heap) (hl2:sq2 ys s.heap) (hx:xs[k1]?=some x) (hy:ys[k2]?=some y)
    (hQ:∀ h',IsZip h' z TI TO (rawInt s.heap.objs.size)->IsPair h' TO x y->st1 (k1+1) h'->st2 (k2+1) h'->IsPair h' s.heap.objs.size x y->h'.objs.size=s.heap.objs.size+1->
      (∀ c o,c≠z->c≠TO->c≠i1->c≠i2->s.heap.get? c=some o->h'.get? c=some o)->Q (.ref s.heap.objs.size) {s with heap:=h'}):
    wpAny (model prog w) A (Builtin.«zip.__next__» ⟨[.ref z],[]⟩) (fun fin s'=>∃ v,fin=.done (.ret v)/\Q v s') E s:=by
  refine wpAny_bind (m:=field (.ref z) 2) (wpAny_field hz rfl (x:=.bool false) rfl ?_)
  refine wpAny_bind (m:=field (.ref z) 3) (wpAny_field hz rfl (x:=.ref TI) rfl ?_)
  refine wpAny_bind (wpAny_seqItems hTI rfl ?_)
  refine wpAny_bind (m:=Builtin.SmallTypes.ownedTupleIsFree (.ref z)) ?_
  unfold Builtin.SmallTypes.ownedTupleIsFree
  refine wpAny_bind (wpAny_field hz rfl (x:=.none) rfl (wpAny_pure ?_))
  simp only [if_true]
  refine wpAny_bind (wpAny_rule ?_)
  refine wpAny_bind (wpAny_field hz rfl (x:=.ref TO) rfl ?_)
  refine wpAny_bind (wpAny_setField_rec hz (by simp) fun g1 z1 e1=>?_)
  replace z1:IsZip g1 z TI TO .ellipsis:=z1
  refine wpAny_bind ?_
  simp only [List.zipIdx_cons,List.zipIdx_nil,List.forIn_cons,List.forIn_nil]
  refine wpAny_bind (wpAny_bind (wpAny_onRaise ?_))
  refine wpAny_bind (m:=Builtin.SmallTypes.nextOf (.ref i1)) (G1.item _ _ _ _ _ _ _ (G1.at_ _ _ _ h1 fun o q=>e1.extBut _ _ D.i1z q) (G1.sqAt _ _ _ hl1 fun o q=>e1.extBut _ _ D.l1z q) hx fun g2 t1 e2=>wpAny_pure ?_)
  have o2:IsPair g2 TO a b:=e2.extBut _ _ D.TOi1 (e1.extBut _ _ D.TOz hTO)
  refine wpAny_bind (wpAny_seqItems o2 rfl ?_)
  refine wpAny_bind (wpAny_updateSeq_pair o2 fun g3 o3 e3=>?_)
  replace o3:IsPair g3 TO x b:=o3
  refine wpAny_bind (wpAny_letGo (wpAny_pure ?_))
  refine wpAny_bind (wpAny_bind (wpAny_onRaise ?_))
  refine wpAny_bind (m:=Builtin.SmallTypes.nextOf (.ref i2)) (G2.item _ _ _ _ _ _ _ (G2.at_ _ _ _ h2 fun o q=>e3.extBut _ _ D.TOi2.symm (e2.extBut _ _ D.i12.symm (e1.extBut _ _ D.i2z q)))
    (G2.sqAt _ _ _ hl2 fun o q=>e3.extBut _ _ D.l2TO (e2.extBut _ _ D.l2i1 (e1.extBut _ _ D.l2z q))) hy fun g4 t2 e4=>wpAny_pure ?_)
  have o4:IsPair g4 TO x b:=e4.extBut _ _ D.TOi2 o3
  refine wpAny_bind (wpAny_seqItems o4 rfl ?_)
  refine wpAny_bind (wpAny_updateSeq_pair o4 fun g5 o5 e5=>?_)
  replace o5:IsPair g5 TO x y:=o5
  refine wpAny_bind (wpAny_letGo (wpAny_pure (wpAny_pure ?_)))
  refine wpAny_bind (wpAny_seqItems o5 rfl ?_)
  refine wpAny_bind (wpAny_newTuple ?_)
  have hsz:g5.objs.size=s.heap.objs.size:=by rw [e5.1,e4.1,e3.1,e2.1,e1.1]
  have z5:IsZip g5 z TI TO .ellipsis:=e5.extBut _ _ D.TOz.symm (e4.extBut _ _ D.i2z.symm (e3.extBut _ _ D.TOz.symm (e2.extBut _ _ D.i1z.symm z1)))
  have kk:∀ c o,c≠z->c≠TO->c≠i1->c≠i2->s.heap.get? c=some o->g5.get? c=some o:=fun c o c1 c2 c3 c4 e=>
    e5.extBut _ _ c2 (e4.extBut _ _ c4 (e3.extBut _ _ c2 (e2.extBut _ _ c3 (e1.extBut _ _ c1 e))))
  have t15:st1 (k1+1) g5:=G1.at_ _ _ _ t1 fun o q=>e5.extBut _ _ D.TOi1.symm (e4.extBut _ _ D.i12 (e3.extBut _ _ D.TOi1.symm q))
  have t25:st2 (k2+1) g5:=G2.at_ _ _ _ t2 fun o q=>e5.extBut _ _ D.TOi2.symm q
  have hzlt:z < g5.objs.size:=Heap.lt_size z5
  refine wpAny_bind (m:=Builtin.SmallTypes.ownedTupleHandOut (.ref z) (.ref g5.objs.size)) ?_
  unfold Builtin.SmallTypes.ownedTupleHandOut
  have z6:IsZip (g5.push {cls:=.type "tuple",data:=.seq #[x,y]}) z TI TO .ellipsis:=Heap.get?_push_of_some _ z5
  refine wpAny_bind (wpAny_setField_rec z6 (by simp) fun g7 z7 e7=>?_)
  replace z7:IsZip g7 z TI TO (rawInt g5.objs.size):=z7
  refine wpAny_setField_rec z7 (by simp) fun g8 z8 e8=>?_
  replace z8:IsZip g8 z TI TO (rawInt g5.objs.size):=z8
  have up:∀ c o,c≠z->g5.get? c=some o->g8.get? c=some o:=fun c o c1 e=>e8.extBut _ _ c1 (e7.extBut _ _ c1 (Heap.get?_push_of_some _ e))
  have t8:IsPair g8 g5.objs.size x y:=e8.extBut _ _ (Nat.ne_of_gt hzlt) (e7.extBut _ _ (Nat.ne_of_gt hzlt) (Heap.get?_push_size _ rfl))
  have n8:g8.objs.size=g5.objs.size+1:=by rw [e8.1,e7.1,Heap.size_push]
  rw [hsz] at z8 t8 n8
  refine wpAny_pure ⟨_,rfl,?_⟩
  show Q (.ref g5.objs.size) _
  rw [hsz]
  exact hQ g8 z8 (up _ _ D.TOz o5) (G1.at_ _ _ _ t15 fun o e=>up _ o D.i1z e) (G2.at_ _ _ _ t25 fun o e=>up _ o D.i2z e) t8 n8 fun c o c1 c2 c3 c4 e=>up c o c1 (kk c o c1 c2 c3 c4 e)
theorem zip_end {Q:Fin->Shared->Prop} (G1:Hands prog w i1 l1 st1 sq1) (G2:Hands prog w i2 l2 st2 sq2) (hh:A.handled=none) (D:ZipApart z TI TO i1 i2 l1 l2) (hz:IsZip s.heap z TI TO .none) (hTI:IsPair s.heap TI (.ref i1) (.ref i2)) (hTO:IsPair s.heap TO a b)
    (h1:st1 k1 s.heap) (h2:st2 k2 s.heap) (hl1:sq1 xs s.heap) (hl2:sq2 ys s.heap) (hend:xs[k1]?=none\/ys[k2]?=none)
    (hE:∀ h' e,(∀ c o,c≠z->c≠TO->c≠i1->c≠i2->s.heap.get? c=some o->h'.get? c=some o)->(∃ o,h'.get? e=some o/\o.cls=.type "StopIteration")->E (.ref e) {s with heap:=h'}):
    wpAny (model prog w) A (Builtin.«zip.__next__» ⟨[.ref z],[]⟩) Q E s:=by
  refine wpAny_bind (m:=field (.ref z) 2) (wpAny_field hz rfl (x:=.bool false) rfl ?_)
  refine wpAny_bind (m:=field (.ref z) 3) (wpAny_field hz rfl (x:=.ref TI) rfl ?_)
  refine wpAny_bind (wpAny_seqItems hTI rfl ?_)
  refine wpAny_bind (m:=Builtin.SmallTypes.ownedTupleIsFree (.ref z)) ?_
  unfold Builtin.SmallTypes.ownedTupleIsFree
  refine wpAny_bind (wpAny_field hz rfl (x:=.none) rfl (wpAny_pure ?_))
  simp only [if_true]
  refine wpAny_bind (wpAny_rule ?_)
  refine wpAny_bind (wpAny_field hz rfl (x:=.ref TO) rfl ?_)
  refine wpAny_bind (wpAny_setField_rec hz (by simp) fun g1 z1 e1=>?_)
  replace z1:IsZip g1 z TI TO .ellipsis:=z1
  refine wpAny_bind ?_
  simp only [List.zipIdx_cons,List.zipIdx_nil,List.forIn_cons,List.forIn_nil]
  refine wpAny_bind (wpAny_bind (wpAny_onRaise ?_))
  have a1:=G1.at_ _ _ g1 h1 fun o q=>e1.extBut _ _ D.i1z q
  have b1:=G1.sqAt _ _ g1 hl1 fun o q=>e1.extBut _ _ D.l1z q
  cases hx:xs[k1]? with
  | none=>
    refine wpAny_bind (m:=Builtin.SmallTypes.nextOf (.ref i1)) (G1.fin _ _ _ _ _ _ hh a1 b1 hx fun g2 e e2 he=>?_)
    obtain⟨oe,hoe,hce⟩:=he
    have z2:IsZip g2 z TI TO .ellipsis:=e2 _ _ D.i1z.symm z1
    have hez:e≠z:=fun x=>by subst x; rw [z2] at hoe; cases hoe; simp at hce
    exact wpAny_setField_rec z2 (by simp) fun g3 _ e3=>hE g3 e (fun c o c1 _ c3 _ x=>e3.extBut _ _ c1 (e2 _ _ c3 (e1.extBut _ _ c1 x))) ⟨oe,e3.extBut _ _ hez hoe,hce⟩
  | some x=>
    have hy:ys[k2]?=none:=by rcases hend with h | h; rw [hx] at h; cases h; exact h
    refine wpAny_bind (m:=Builtin.SmallTypes.nextOf (.ref i1)) (G1.item _ _ _ _ _ _ _ a1 b1 hx fun g2 t1 e2=>wpAny_pure ?_)
    have o2:IsPair g2 TO a b:=e2.extBut _ _ D.TOi1 (e1.extBut _ _ D.TOz hTO)
    refine wpAny_bind (wpAny_seqItems o2 rfl ?_)
    refine wpAny_bind (wpAny_updateSeq_pair o2 fun g3 o3 e3=>?_)
    refine wpAny_bind (wpAny_letGo (wpAny_pure ?_))
    refine wpAny_bind (wpAny_bind (wpAny_onRaise ?_))
    refine wpAny_bind (m:=Builtin.SmallTypes.nextOf (.ref i2)) (G2.fin _ _ _ _ _ _ hh (G2.at_ _ _ _ h2 fun o q=>e3.extBut _ _ D.TOi2.symm (e2.extBut _ _ D.i12.symm (e1.extBut _ _ D.i2z q)))
      (G2.sqAt _ _ _ hl2 fun o q=>e3.extBut _ _ D.l2TO (e2.extBut _ _ D.l2i1 (e1.extBut _ _ D.l2z q))) hy fun g4 e e4 he=>?_)
    obtain⟨oe,hoe,hce⟩:=he
    have z4:IsZip g4 z TI TO .ellipsis:=e4 _ _ D.i2z.symm (e3.extBut _ _ D.TOz.symm (e2.extBut _ _ D.i1z.symm z1))
    have hez:e≠z:=fun x=>by subst x; rw [z4] at hoe; cases hoe; simp at hce
    exact wpAny_setField_rec z4 (by simp) fun g5 _ e5=>hE g5 e (fun c o c1 c2 c3 c4 x=>e5.extBut _ _ c1 (e4 _ _ c4 (e3.extBut _ _ c2 (e2.extBut _ _ c3 (e1.extBut _ _ c1 x))))) ⟨oe,e5.extBut _ _ hez hoe,hce⟩
theorem pyNext_zip_item {Q:Option Value->Shared->Prop} (G1:Hands prog w i1 l1 st1 sq1) (G2:Hands prog w i2 l2 st2 sq2) (D:ZipApart z TI TO i1 i2 l1 l2) (hz:IsZip s.heap z TI TO .none) (hTI:IsPair s.heap TI (.ref i1) (.ref i2)) (hTO:IsPair s.heap TO a b)
    (h1:st1 k1 s.heap) (h2:st2 k2 s.heap) (hl1:sq1 xs s.heap) (hl2:sq2 ys s.heap) (hx:xs[k1]?=some x) (hy:ys[k2]?=some y)
    (hQ:∀ h',IsZip h' z TI TO (rawInt s.heap.objs.size)->IsPair h' TO x y->st1 (k1+1) h'->st2 (k2+1) h'->IsPair h' s.heap.objs.size x y->h'.objs.size=s.heap.objs.size+1->
      (∀ c o,c≠z->c≠TO->c≠i1->c≠i2->s.heap.get? c=some o->h'.get? c=some o)->Q (some (.ref s.heap.objs.size)) {s with heap:=h'}):wpAny (model prog w) A (pyNext (.ref z)) Q E s:=by
  have hT:s.TypeIs (.ref z) "zip":=⟨_,hz,rfl⟩
  unfold pyNext
  exact wpAny_bind (wpAny_attempt (wpAny_callSpecial?_slot (name:=Str.ofString "__next__") hT F.slot_zip_next
    (wpAny_call_entry F.slot_zip_next hT F.entry_zip_next (zip_item G1 G2 D hz hTI hTO h1 h2 hl1 hl2 hx hy fun h' a1 a2 a3 a4 a5 a6 a7=>wpAny_pure (hQ h' a1 a2 a3 a4 a5 a6 a7)) (F.args_zip_next_1 _))))
theorem pyNext_zip_end {Q:Option Value->Shared->Prop} (G1:Hands prog w i1 l1 st1 sq1) (G2:Hands prog w i2 l2 st2 sq2) (hh:A.handled=none) (D:ZipApart z TI TO i1 i2 l1 l2) (hz:IsZip s.heap z TI TO .none) (hTI:IsPair s.heap TI (.ref i1) (.ref i2)) (hTO:IsPair s.heap TO a b)
    (h1:st1 k1 s.heap) (h2:st2 k2 s.heap) (hl1:sq1 xs s.heap) (hl2:sq2 ys s.heap) (hend:xs[k1]?=none\/ys[k2]?=none)
    (hQ:∀ h',(∀ c o,c≠z->c≠TO->c≠i1->c≠i2->s.heap.get? c=some o->h'.get? c=some o)->Q none {s with heap:=h'}):wpAny (model prog w) A (pyNext (.ref z)) Q E s:=by
  have hT:s.TypeIs (.ref z) "zip":=⟨_,hz,rfl⟩
  unfold pyNext
  refine wpAny_bind (wpAny_attempt (wpAny_callSpecial?_slot (name:=Str.ofString "__next__") hT F.slot_zip_next
    (wpAny_call_entry F.slot_zip_next hT F.entry_zip_next (zip_end G1 G2 hh D hz hTI hTO h1 h2 hl1 hl2 hend fun h' e hk he=>?_) (F.args_zip_next_1 _))))
  obtain⟨o,ho,hc⟩:=he
  exact wpAny_bind (wpAny_isInstance (T:="StopIteration") (b:=true) ⟨o,ho,hc⟩ isSubtype_stop (wpAny_pure (hQ _ hk)))
end
structure Begins (l:Addr) (nm:String) (sq:Array Value->Heap->Prop):Prop where
  iter:∀ (P:Program) (w:World) (A:Around) (s:Shared) (xs:Array Value) (Q:Value->Shared->Prop) (E:Value->Shared->Prop),sq xs s.heap->
    Q (.ref s.heap.objs.size) {s with heap:=s.heap.push {cls:=.type nm,data:=.fields #[.ref l,.int 0 0]}}->wpAny (model P w) A (pyIter (.ref l)) Q E s
  sqAt:∀ xs h h',sq xs h->(∀ o,h.get? l=some o->h'.get? l=some o)->sq xs h'
theorem Begins.list (l:Addr):Begins l "list_iterator" (fun xs h=>h.IsList l xs):=⟨fun _ _ _ _ _ _ _ a b=>wpAny_pyIter_list a b,fun _ _ _ x y=>x.at y⟩
theorem Begins.tuple (l:Addr):Begins l "tuple_iterator" (fun xs h=>h.IsTuple l xs):=⟨fun _ _ _ _ _ _ _ a b=>wpAny_pyIter_tuple a b,fun _ _ _ x y=>x.at y⟩
section
variable {l1 l2:Addr} {n1 n2:String} {sq1 sq2:Array Value->Heap->Prop}
abbrev zh1 (h:Heap) (n1:String) (l1:Addr):Heap:=h.push {cls:=.type n1,data:=.fields #[.ref l1,.int 0 0]}
abbrev zh2 (h:Heap) (n1 n2:String) (l1 l2:Addr):Heap:=(zh1 h n1 l1).push {cls:=.type n2,data:=.fields #[.ref l2,.int 0 0]}
abbrev zh3 (h:Heap) (n1 n2:String) (l1 l2:Addr):Heap:=(zh2 h n1 n2 l1 l2).push {cls:=.type "tuple",data:=.seq #[.ref h.objs.size,.ref (zh1 h n1 l1).objs.size]}
abbrev zh4 (h:Heap) (n1 n2:String) (l1 l2:Addr):Heap:=(zh3 h n1 n2 l1 l2).push {cls:=.type "tuple",data:=.seq #[.none,.none]}
abbrev zh5 (h:Heap) (n1 n2:String) (l1 l2:Addr):Heap:=(zh4 h n1 n2 l1 l2).push {cls:=.type "zip",data:=.fields #[.none,.bool false,.bool false,.ref (zh2 h n1 n2 l1 l2).objs.size,.ref (zh3 h n1 n2 l1 l2).objs.size]}
theorem meets_zip (B1:Begins l1 n1 sq1) (B2:Begins l2 n2 sq2) (xs ys:Array Value):
    Meets (Builtin.«zip.__new__» ⟨[.type "zip",.ref l1,.ref l2],[]⟩) (fun _ R s=>sq1 xs s.heap/\sq2 ys s.heap/\
      R (.ok (.ret (.ref (zh4 s.heap n1 n2 l1 l2).objs.size))) {s with heap:=zh5 s.heap n1 n2 l1 l2}):=
  .of_wp fun prog w A R s h=>by
    obtain⟨hp,g,d,tk,os⟩:=s
    obtain⟨a,b,h⟩:=h
    have hsub:=sub_zip
    have b':sq2 ys (Shared.heap ⟨hp.push {cls:=.type n1,data:=.fields #[.ref l1,.int 0 0]},g,d,tk,os⟩):=B2.sqAt _ _ _ b fun o q=>Heap.get?_push_of_some _ q
    have a':sq1 xs (Shared.heap ⟨hp,g,d,tk,os⟩):=a
    wp_walk using B1.iter _ _ _ _ _ _ _ a',B2.iter _ _ _ _ _ _ _ b'
    exact⟨_,rfl,h⟩
variable {prog:Program} {w:World} {A:Around} {E:Value->Shared->Prop} {s:Shared}
theorem call_zip (B1:Begins l1 n1 sq1) (B2:Begins l2 n2 sq2) {xs ys:Array Value} {Q:Value->Shared->Prop} (hl1:sq1 xs s.heap) (hl2:sq2 ys s.heap)
    (h:∀ h',IsZip h' (s.heap.objs.size+4) (s.heap.objs.size+2) (s.heap.objs.size+3) .none->IsPair h' (s.heap.objs.size+2) (.ref s.heap.objs.size) (.ref (s.heap.objs.size+1))->
      IsPair h' (s.heap.objs.size+3) .none .none->h'.get? s.heap.objs.size=some {cls:=.type n1,data:=.fields #[.ref l1,.int 0 0]}->h'.get? (s.heap.objs.size+1)=some {cls:=.type n2,data:=.fields #[.ref l2,.int 0 0]}->
      (∀ c o,s.heap.get? c=some o->h'.get? c=some o)->Q (.ref (s.heap.objs.size+4)) {s with heap:=h'}):
    wpAny (model prog w) A (call (.type "zip") [.ref l1,.ref l2]) Q E s:=by
  refine callType_new F.called_zip (by decide) (F.typeCall_zip_2 _ _) (F.newCall_zip_2 _ _) (fun obj=>F.args_object_init_3 obj _ _) F.entry_zip_new (meets_zip B1 B2 xs ys) ⟨hl1,hl2,?_⟩
  have z1:(zh1 s.heap n1 l1).objs.size=s.heap.objs.size+1:=Heap.size_push ..
  have z2:(zh2 s.heap n1 n2 l1 l2).objs.size=s.heap.objs.size+2:=by rw [Heap.size_push,z1]
  have z3:(zh3 s.heap n1 n2 l1 l2).objs.size=s.heap.objs.size+3:=by rw [Heap.size_push,z2]
  have z4:(zh4 s.heap n1 n2 l1 l2).objs.size=s.heap.objs.size+4:=by rw [Heap.size_push,z3]
  have g5:(zh5 s.heap n1 n2 l1 l2).get? (zh4 s.heap n1 n2 l1 l2).objs.size=some _:=Heap.get?_push_size _ rfl
  have g4:(zh5 s.heap n1 n2 l1 l2).get? (zh3 s.heap n1 n2 l1 l2).objs.size=some _:=Heap.get?_push_of_some _ (Heap.get?_push_size _ rfl)
  have g3:(zh5 s.heap n1 n2 l1 l2).get? (zh2 s.heap n1 n2 l1 l2).objs.size=some _:=Heap.get?_push_of_some _ (Heap.get?_push_of_some _ (Heap.get?_push_size _ rfl))
  have g2:(zh5 s.heap n1 n2 l1 l2).get? (zh1 s.heap n1 l1).objs.size=some _:=Heap.get?_push_of_some _ (Heap.get?_push_of_some _ (Heap.get?_push_of_some _ (Heap.get?_push_size _ rfl)))
  have g1:(zh5 s.heap n1 n2 l1 l2).get? s.heap.objs.size=some _:=Heap.get?_push_of_some _ (Heap.get?_push_of_some _ (Heap.get?_push_of_some _ (Heap.get?_push_of_some _ (Heap.get?_push_size _ rfl))))
  show _/\_
  rw [z2,z3,z4] at g5
  rw [z1,z2] at g3
  rw [z3] at g4
  rw [z1] at g2
  rw [z4]
  exact⟨⟨_,g5,rfl⟩,h _ g5 g3 g4 g1 g2 fun c o x=>Heap.get?_push_of_some _ (Heap.get?_push_of_some _ (Heap.get?_push_of_some _ (Heap.get?_push_of_some _ (Heap.get?_push_of_some _ x))))⟩
end
section
variable {X:Cx} {pins:List (Addr×Obj)} {σ:St} {H:Hp} {s:Shared} {h':Heap}
theorem Inv.turnedL {t':Nat} (ch:List Addr) (I:Inv X pins σ H s) (k:∀ b o,b∉ch->s.heap.get? b=some o->h'.get? b=some o) (hf:∀ b∈ch,FpOk X pins H b):Inv X pins σ H {s with heap:=h',toks:=t'}:=by
  have nit:∀ b u,H b=some u->b∉ch:=fun b u e z=>by rw [(hf b z).1] at e; cases e
  refine I.step (g':=s.gens) (d':=s.drawn) (ch:=ch) (fun b hb=>⟨(hf b hb).2.2.2.1,(hf b hb).2.1,(hf b hb).2.2.2.2.1,(hf b hb).2.2.2.2.2⟩) (fun b o _ _ hc e _=>k b o hc e) (fun b o _ _ hc e _=>⟨o.slots,k b o hc e⟩) (fun _ _ _ _ n=>n)
    (fun b o hc e=>⟨o,k b o hc e⟩) (fun _ _ e=>e) (fun _ _ _ e=>e) (fun b ps e=>⟨#[],by rw [e]; simp⟩) (fun m hm=>?_) (fun b u e=>?_) I.bare
  · obtain⟨o,es,ep,ho,r⟩:=hm
    exact⟨o,es,ep,k _ o (fun z=>(hf _ z).2.1 rfl) ho,r⟩
  · refine(I.hok b u e).stay (fun c v hc q=>k c v ?_ q) (fun _ q=>q) fun _ _ q=>q
    rcases hc with z | z
    · rw [z]; exact nit b u e
    · exact nit c _ z
theorem Inv.turnedNew {t':Nat} {T:Addr} {xs:List V} (ch:List Addr) (I:Inv X pins σ H s) (k:∀ b o,b∉ch->s.heap.get? b=some o->h'.get? b=some o) (hf:∀ b∈ch,FpOk X pins H b) (hT:s.heap.objs.size<=T)
    (new:ObjOk X.prog X.w (upd H T (.tup xs)) h' T (.tup xs)):Inv X pins σ (upd H T (.tup xs)) {s with heap:=h',toks:=t'}:=by
  have hn:H T=none:=I.hok.fresh hT
  have nit:∀ b u,H b=some u->b∉ch:=fun b u e z=>by rw [(hf b z).1] at e; cases e
  have neT:∀ b o,s.heap.get? b=some o->b≠T:=fun b o e z=>by subst z; exact absurd (Nat.lt_of_lt_of_le (Heap.lt_size e) hT) (Nat.lt_irrefl _)
  refine I.step (g':=s.gens) (d':=s.drawn) (ch:=ch) (fun b hb=>⟨(hf b hb).2.2.2.1,(hf b hb).2.1,(hf b hb).2.2.2.2.1,(hf b hb).2.2.2.2.2⟩) (fun b o _ _ hc e _=>k b o hc e) (fun b o _ _ hc e _=>⟨o.slots,k b o hc e⟩) (fun b o _ e n=>by rw [upd_ne (neT b o e)]; exact n)
    (fun b o hc e=>⟨o,k b o hc e⟩) (fun b _ e=>by rw [upd_ne (ne_of_none e hn)]; exact e) (fun b _ _ e=>by rw [upd_ne (ne_of_none e hn)]; exact e) (fun b ps e=>⟨#[],by rw [upd_ne (ne_of_none e hn),e]; simp⟩) (fun m hm=>?_) (fun b u e=>?_) I.bare
  · obtain⟨o,es,ep,ho,r⟩:=hm
    exact⟨o,es,ep,k _ o (fun z=>(hf _ z).2.1 rfl) ho,r⟩
  · by_cases hb:b=T
    · subst hb
      rw [upd_same] at e
      cases e
      exact new
    · rw [upd_ne hb] at e
      refine(I.hok b u e).stay (fun c v hc q=>k c v ?_ q) (fun c q=>by rw [upd_ne (ne_of_none q hn)]; exact q) fun c _ q=>by rw [upd_ne (ne_of_none q hn)]; exact q
      rcases hc with z | z
      · rw [z]; exact nit b u e
      · exact nit c _ z
end
def SqB (b:Bool) (K:PySem.W.Frag) (H:Hp) (a:Addr) (xs:List V):Prop:=match b with | true=>SqL K H a xs | false=>SqT K H a xs
def itB (b:Bool) (it l:Addr) (k:Nat) (h:Heap):Prop:=match b with | true=>h.IsListIter it l k | false=>h.IsTupleIter it l k
def sqB (b:Bool) (l:Addr) (xs:Array Value) (h:Heap):Prop:=match b with | true=>h.IsList l xs | false=>h.IsTuple l xs
def nmB (b:Bool):String:=match b with | true=>"list_iterator" | false=>"tuple_iterator"
theorem handsB {P:Program} {w:World} (b:Bool) (it l:Addr):Hands P w it l (itB b it l) (sqB b l):=match b with | true=>Hands.list it l | false=>Hands.tuple it l
theorem beginsB (b:Bool) (l:Addr):Begins l (nmB b) (sqB b l):=match b with | true=>Begins.list l | false=>Begins.tuple l
theorem itB_new {b:Bool} {it l:Addr} {h:Heap} (e:h.get? it=some {cls:=.type (nmB b),data:=.fields #[.ref l,.int 0 0]}):itB b it l 0 h:=match b,e with | true,e=>⟨_,e,rfl,rfl⟩ | false,e=>⟨_,e,rfl,rfl⟩
section
variable {X:Cx} {pins:List (Addr×Obj)} {σ:St} {H:Hp} {s:Shared} {a:Addr} {xs ys:List V} {b:Bool}
theorem Inv.sqB (I:Inv X pins σ H s) (h:SqB b X.K H a xs):∃ its:List Value,Vals xs its/\L2.sqB b a its.toArray s.heap:=by
  cases b with
  | true=>obtain⟨its,r,p,_⟩:=I.list h; exact⟨its,r,p.isList⟩
  | false=>obtain⟨its,r,p,_⟩:=I.tuple h; exact⟨its,r,p⟩
theorem Inv.sqB_inj (I:Inv X pins σ H s) (h:SqB b X.K H a xs) (h':SqB b X.K H a ys):xs=ys:=by
  cases b with
  | true=>exact I.list_inj h h'
  | false=>exact I.tuple_inj h h'
theorem sqB_lt {its:Array Value} {h:Heap} (e:L2.sqB b a its h):a < h.objs.size:=by
  cases b with
  | true=>obtain⟨o,e,_⟩:=e; exact Heap.lt_size e
  | false=>obtain⟨o,e,_⟩:=e; exact Heap.lt_size e
end
def Itz (K:PySem.W.Frag) (b1 b2:Bool) (a1 a2:Addr):It:=
  ⟨fun i H => ∃ xs ys x y, SqB b1 K H a1 xs ∧ SqB b2 K H a2 ys ∧ xs[i]? = some x ∧ ys[i]? = some y,
   fun i H v H'=>∃ T x y,v=.ref T/\H T=none/\H'=upd H T (.tup [x,y])/\∀ xs ys,SqB b1 K H a1 xs->SqB b2 K H a2 ys->xs[i]?=some x/\ys[i]?=some y,
   fun i H=>∃ xs ys,SqB b1 K H a1 xs/\SqB b2 K H a2 ys/\(xs.length<=i\/ys.length<=i)⟩
def tnZ (b1 b2:Bool) (z TI TO i1 i2 a1 a2:Addr) (i:Nat) (h:Heap):Prop:=
  IsZip h z TI TO .none/\IsPair h TI (.ref i1) (.ref i2)/\(∃ a b,IsPair h TO a b)/\itB b1 i1 a1 i h/\itB b2 i2 a2 i h
theorem turn_zip {P:Program} {w:World} {K:PySem.W.Frag} {es:List Expr} {k:Nat} {pos:Pos} (b1 b2:Bool) {z TI TO i1 i2 a1 a2:Addr} (D:ZipApart z TI TO i1 i2 a1 a2):
    Turn P w K (.Tuple es k pos) (Itz K b1 b2 a1 a2) [z,TI,TO,i1,i2] z (tnZ b1 b2 z TI TO i1 i2 a1 a2) where
  mem:=by simp
  obj:=fun i h st b hb=>by
    obtain⟨hz,hTI,⟨x,y,hTO⟩,h1,h2⟩:=st
    have hb':b=z\/b=TI\/b=TO\/b=i1\/b=i2:=by simpa using hb
    rcases hb' with rfl | rfl | rfl | rfl | rfl
    · exact⟨_,hz,fun v q=>by cases q⟩
    · exact⟨_,hTI,fun v q=>by cases q⟩
    · exact⟨_,hTO,fun v q=>by cases q⟩
    · exact(handsB (P:=P) (w:=w) b1 b a1).obj _ _ h1
    · exact(handsB (P:=P) (w:=w) b2 b a2).obj _ _ h2
  keep:=fun i h h' st q=>by
    obtain⟨hz,hTI,⟨x,y,hTO⟩,h1,h2⟩:=st
    exact⟨q z (by simp) _ hz,q TI (by simp) _ hTI,⟨x,y,q TO (by simp) _ hTO⟩,(handsB (P:=P) (w:=w) b1 i1 a1).at_ _ _ _ h1 fun o e=>q i1 (by simp) o e,(handsB (P:=P) (w:=w) b2 i2 a2).at_ _ _ _ h2 fun o e=>q i2 (by simp) o e⟩
  item:=by
    intro X hP hw hK hc i pins s σ H E I hf st hg
    subst hP hw hK
    obtain⟨xs,ys,x,y,q1,q2,hx,hy⟩:=hg
    obtain⟨its,rv,p⟩:=I.sqB q1
    obtain⟨jts,rw',p'⟩:=I.sqB q2
    obtain⟨u,hu,ru⟩:=rv.get hx
    obtain⟨u',hu',ru'⟩:=rw'.get hy
    obtain⟨hz,hTI,⟨c,d,hTO⟩,h1,h2⟩:=st
    have hn:H s.heap.objs.size=none:=I.hok.fresh (Nat.le_refl _)
    have old:∀ b∈[z,TI,TO,i1,i2],b≠s.heap.objs.size:=fun b hb e=>by
      have:∃ o,s.heap.get? b=some o:=by
        have hb':b=z\/b=TI\/b=TO\/b=i1\/b=i2:=by simpa using hb
        rcases hb' with rfl | rfl | rfl | rfl | rfl
        · exact⟨_,hz⟩
        · exact⟨_,hTI⟩
        · exact⟨_,hTO⟩
        · obtain⟨o,e,_⟩:=(handsB (P:=X.prog) (w:=X.w) b1 b a1).obj _ _ h1; exact⟨o,e⟩
        · obtain⟨o,e,_⟩:=(handsB (P:=X.prog) (w:=X.w) b2 b a2).obj _ _ h2; exact⟨o,e⟩
      obtain⟨o,eo⟩:=this
      exact absurd (Heap.lt_size eo) (by rw [e]; exact Nat.lt_irrefl _)
    refine pyNext_zip_item (handsB b1 i1 a1) (handsB b2 i2 a2) D hz hTI hTO h1 h2 p p' (x:=u) (y:=u') (by simpa using hu) (by simpa using hu') fun h' c1 c2 c3 c4 c5 c6 c7=>?_
    have I1:Inv X pins σ (upd H s.heap.objs.size (.tup [x,y])) {s with heap:=h'}:=I.turnedNew (t':=s.toks) [z,TO,i1,i2] (fun b o hb e=>c7 b o (fun q=>hb (by simp [q])) (fun q=>hb (by simp [q])) (fun q=>hb (by simp [q])) (fun q=>hb (by simp [q])) e)
      (fun b hb => hf b (by have hb' : b = z ∨ b = TO ∨ b = i1 ∨ b = i2 := by simpa using hb
                            rcases hb' with rfl | rfl | rfl | rfl <;> simp)) (Nat.le_refl _) ⟨Nat.le_of_ble_eq_true rfl,[u,u'],.cons ru (.cons ru' .nil),⟨_,c5,rfl,_,rfl⟩⟩
    refine⟨_,rfl,wpAny_letOwnedTupleGo_zip (s:={s with heap:=h'}) c1 fun h2' g1 g2=>?_⟩
    refine⟨.ref s.heap.objs.size,upd H s.heap.objs.size (.tup [x,y]),?_,rfl,⟨_,x,y,rfl,hn,rfl,fun xs' ys' e1 e2=>by rw [I.sqB_inj e1 q1,I.sqB_inj e2 q2]; exact⟨hx,hy⟩⟩,?_,fun b hb=>?_⟩
    · refine I1.turnedL (t':=s.toks) [z] (fun b o hb e=>g2.extBut _ _ (fun q=>hb (by simp [q])) e) fun b hb=>?_
      have e:b=z:=by simpa using hb
      subst e
      obtain⟨f0,f1,f2,f3,f4,f5⟩:=hf b (by simp)
      exact⟨by rw [upd_ne (old b (by simp))]; exact f0,f1,f2,f3,f4,f5⟩
    · exact⟨g1,g2.extBut _ _ D.TIz (c7 _ _ D.TIz D.TITO D.TIi1 D.TIi2 hTI),⟨_,_,g2.extBut _ _ D.TOz c2⟩,(handsB (P:=X.prog) (w:=X.w) b1 i1 a1).at_ _ _ _ c3 fun o e=>g2.extBut _ _ D.i1z e,(handsB (P:=X.prog) (w:=X.w) b2 i2 a2).at_ _ _ _ c4 fun o e=>g2.extBut _ _ D.i2z e⟩
    · rw [upd_ne (old b hb)]
      exact(hf b hb).1
  done:=by
    intro X hP hw hK hc i pins s σ H E I hf st hg
    subst hP hw hK
    obtain⟨xs,ys,q1,q2,hx⟩:=hg
    obtain⟨its,rv,p⟩:=I.sqB q1
    obtain⟨jts,rw',p'⟩:=I.sqB q2
    obtain⟨hz,hTI,⟨c,d,hTO⟩,h1,h2⟩:=st
    have l1:=rv.length
    have l2:=rw'.length
    refine pyNext_zip_end (handsB b1 i1 a1) (handsB b2 i2 a2) (I.ok.hd hc) D hz hTI hTO h1 h2 p p' (by rcases hx with hx | hx; · left; simp; omega
                                                                                                       · right; simp; omega) fun h' kk=>⟨rfl,I.turnedL (t':=s.toks) [z,TO,i1,i2] (fun b o hb e=>kk b o (fun q=>hb (by simp [q])) (fun q=>hb (by simp [q])) (fun q=>hb (by simp [q])) (fun q=>hb (by simp [q])) e) fun b hb=>hf b ?_⟩
    have hb':b=z\/b=TO\/b=i1\/b=i2:=by simpa using hb
    rcases hb' with rfl | rfl | rfl | rfl <;> simp
  self:=fun _ _ _ _ _ st h=>wpAny_pyIter_zip st.1 h
theorem zapart (n l1 l2:Nat) (h1:l1 < n) (h2:l2 < n):ZipApart (n+4) (n+2) (n+3) n (n+1) l1 l2:=by
  constructor <;> (intro e; simp only [Addr] at e; omega)
def iZip (K:PySem.W.Frag) (ta:TA):TI:=fun σ H R=>ta σ H fun vs H1=>∃ a1 a2 b1 b2,vs=[.ref a1,.ref a2]/\(∃ xs,SqB b1 K H1 a1 xs)/\(∃ ys,SqB b2 K H1 a2 ys)/\R (Itz K b1 b2 a1 a2) H1
theorem pi_zip {X:Cx} {a b:Expr} {ta:TA} {p pos tp:Pos} {es:List Expr} {k:Nat} (hg:Gl X "zip") (hm:X.mg "zip"=none) (ha:PA X [a,b] ta) (hs:starEach [a,b] X.env=[(false,eval a X.env),(false,eval b X.env)]:=by rfl) (hs2:starEach [b] X.env=[(false,eval b X.env)]:=by rfl):
    PI X (.Tuple es k tp) (.Call (.Name "zip" p) [a,b] [] pos) (iZip X.K ta):=by
  intro pins s σ H R I h
  refine Call_ (ld_blt I hg hm boot_zip (PyProof.Rows.callWith_type1 (thn (ha pos pins s σ H _ I h) fun us s1 ⟨vs,H1,I1,r1,q1⟩=>?_) (by rw [hs,hs2]) (by rw [hs2]; rfl)))
  obtain⟨a1,a2,b1,b2,e,⟨xs,e1⟩,⟨ys,e2⟩,q⟩:=q1
  subst e
  cases r1 with
  | cons r rr=>
    cases rr with
    | cons r' rr=>
      cases rr
      cases r
      cases r'
      obtain⟨its,rv,p1⟩:=I1.sqB e1
      obtain⟨jts,rw',p2⟩:=I1.sqB e2
      refine call_zip (beginsB b1 a1) (beginsB b2 a2) p1 p2 fun h' c1 c2 c3 c4 c5 c6=>?_
      refine wpAny_pyIter_zip (s:={s1 with heap:=h'}) c1 ?_
      have fr:∀ j,H1 (s1.heap.objs.size+j)=none:=fun j=>I1.hok.fresh (Nat.le_add_right _ _)
      refine⟨_,[s1.heap.objs.size+4,s1.heap.objs.size+2,s1.heap.objs.size+3,s1.heap.objs.size,s1.heap.objs.size+1],_,_,H1,rfl,I1.kept (t':=s1.toks) c6,turn_zip b1 b2 (zapart _ _ _ (sqB_lt p1) (sqB_lt p2)),⟨c1,c2,⟨_,_,c3⟩,itB_new c4,itB_new c5⟩,fun b hb=>?_,q⟩
      have hb':b=s1.heap.objs.size+4\/b=s1.heap.objs.size+2\/b=s1.heap.objs.size+3\/b=s1.heap.objs.size\/b=s1.heap.objs.size+1:=by simpa using hb
      rcases hb' with rfl | rfl | rfl | rfl | rfl
      · exact I1.fpOk (Nat.le_add_right _ _) (fr 4)
      · exact I1.fpOk (Nat.le_add_right _ _) (fr 2)
      · exact I1.fpOk (Nat.le_add_right _ _) (fr 3)
      · exact I1.fpOk (Nat.le_refl _) (fr 0)
      · exact I1.fpOk (Nat.le_add_right _ _) (fr 1)
end L2
namespace DL
open PySem PySem.Spec PyProof.Rows L2
section
variable {K:Fg} {ok:DH->Prop} {gg:DG} {ge:DE} {k:DK} {ds:List D} {L:Lo} {S:DH} {σ:L2.St} {H:Hp} {J:It} {p:Addr} {Q:V->Hp->Prop}
theorem comp_coreG (hL:Lc K H L σ) (hS:Hs K H S) (hp:H p=none) (h:dCLoop ok p gg (bdAll ge) k ds [] L (put S p (.lst [])))
    (n:∀ d S' v H',k d S'->Kp H H'->Hs K H' S'->IsD K H' d v->Q v H')
    (hgo:∀ i d S1 H1,ds[i]?=some d->Kp H H1->Hs K H1 S1->ok S1->J.go i H1/\∀ x H',J.yld i H1 x H'->Kp H1 H'/\Hs K H' S1/\IsD K H' d x)
    (hst:∀ S1 H1,Kp H H1->Hs K H1 S1->ok S1->J.stop ds.length H1):
    ∃ W:Nat->Nat->L2.St->Hp->Prop,(∃ m,W 0 m σ (upd H p (.lst [])))/\∀ i m σ' H',W i m σ' H'->
      (J.stop i H'/\Q (.ref p) H')\/(J.go i H'/\∃ N:L2.St->Hp->Prop,(∀ σ2 H2,N σ2 H2->∃ m',m' < m/\W (i+1) m' σ2 H2)/\∀ x H2,J.yld i H' x H2->upG K gg x σ' H2 fun σ3 H3=>up K ge σ3 H3 fun v H4=>∃ ys,H4 p=some (.lst ys)/\ys.length < sizeLine/\N σ3 (upd H4 p (.lst (ys++[v])))):=by
  refine⟨fun i m σ1 H1=>m=ds.length - i/\i<=ds.length/\∃ acc L1 S1,Lc K H1 L1 σ1/\Hs K H1 S1/\Kp H H1/\dCLoop ok p gg (bdAll ge) k (ds.drop i) acc L1 S1,⟨ds.length,by simp,Nat.zero_le _,[],L,_,hL.kp (Kp.new hp),hS.newL hp IsDs.nil,Kp.new hp,h⟩,?_⟩
  rintro i m σ1 H1 ⟨rfl,hi,acc,L1,S1,hL1,hS1,k1,w1⟩
  by_cases hlt:i < ds.length
  · have e:ds.drop i=ds[i]::ds.drop (i+1):=List.drop_eq_getElem_cons hlt
    rw [e] at w1
    obtain⟨o1,w1⟩:=w1
    obtain⟨g1,y1⟩:=hgo i ds[i] S1 H1 (by simp [hlt]) k1 hS1 o1
    refine .inr ⟨g1,fun σ' H'=>i+1<=ds.length/\∃ acc L' S',Lc K H' L' σ'/\Hs K H' S'/\Kp H H'/\dCLoop ok p gg (bdAll ge) k (ds.drop (i+1)) acc L' S',fun σ' H' ⟨q1,q2⟩=>⟨ds.length - (i+1),by omega,rfl,q1,q2⟩,fun x H' y=>?_⟩
    obtain⟨k0,hS0,ix⟩:=y1 x H' y
    refine⟨ds[i],L1,S1,_,ix,hL1.kp k0,hS0,w1,fun L2 S2 σ2 H2 q k2 hL2 hS2=>up.go hL2 hS2 q fun d S3 v H3 h3 k3 hL3 hS3 i3=>?_⟩
    obtain⟨z1,z2,z3⟩:=h3
    obtain⟨xs,hl,j⟩:=hS3.lst z1
    have k4:Kp H3 (upd H3 p (.lst (xs++[v]))):=Kp.mut hl (fun z=>z)
    exact⟨xs,hl,by rw [<- j.length]; exact z2,hlt,_,L2,_,hL3.kp k4,hS3.setL hl (j.append (IsDs.cons i3 IsDs.nil)),(((k1.trans k0).trans k2).trans k3).trans k4,z3⟩
  · have e:i=ds.length:=by omega
    subst e
    rw [List.drop_length] at w1
    obtain⟨o1,w1⟩:=w1
    exact .inl ⟨hst S1 H1 k1 hS1 o1,n _ S1 _ H1 w1 k1 hS1 (isRef.mpr rfl)⟩
end
theorem seq_kd {K:Fg} {S1:DH} {H1:Hp} {d:D} {v:V} {p:List D×Option Addr} (hS1:Hs K H1 S1) (i1:IsD K H1 d v) (hp:dItems S1 d=some p):∃ a b,v=.ref a/\
    (∃ xs,SqB b K H1 a xs)/\∀ S2 H2,Kp H1 H2->Hs K H2 S2->okFor p S2->∃ xs,SqB b K H2 a xs/\IsDs K H2 p.1 xs:=by
  cases d with
  | tup ds=>
    cases hp
    obtain⟨a,xs,rfl,t,j⟩:=isTup.mp i1
    exact⟨a,false,rfl,⟨xs,t⟩,fun S2 H2 k2 _ _=>⟨xs,k2.tup t,j.kp k2⟩⟩
  | rl ds=>
    cases hp
    obtain⟨a,xs,rfl,t,j⟩:=isRl.mp i1
    exact⟨a,true,rfl,⟨xs,t.sq⟩,fun S2 H2 k2 _ _=>⟨xs,(k2.fro t).sq,j.kp k2⟩⟩
  | ref a=>
    have e1:=isRef.mp i1
    subst e1
    cases z:S1 a with
    | none=>simp only [dItems,z] at hp; cases hp
    | some o=>
      cases o with
      | dic=>simp only [dItems,z] at hp; cases hp
      | exc _=>simp only [dItems,z] at hp; cases hp
      | fn _=>simp only [dItems,z] at hp; cases hp
      | tbl _=>simp only [dItems,z] at hp; cases hp
      | gen _=>simp only [dItems,z] at hp; cases hp
      | lst ds=>
        simp only [dItems,z] at hp
        cases hp
        obtain⟨xs,hl,j⟩:=hS1.lst z
        refine⟨a,true,rfl,⟨xs,SqL.of hl⟩,fun S2 H2 k2 hS2 o2=>?_⟩
        obtain⟨ys,hl2,j2⟩:=hS2.lst o2
        exact⟨ys,SqL.of hl2,j2⟩
  | _=>cases hp
def zipD (xs ys:List D):List D:=List.zipWith (fun a b=>D.tup [a,b]) xs ys
def dCompZ (cap:List (Option Nat)) (ta:DA) (g:DG) (bd:DB):DE:=fun L S k=>ta L S fun ds S1=>match ds with
  | [d1,d2]=>∃ q1 q2,dItems S1 d1=some q1/\dItems S1 d2=some q2/\∀ p,S1 p=none->dCLoop (fun S=>okFor q1 S/\okFor q2 S) p g bd k (zipD q1.1 q2.1) [] (capL cap L) (put S1 p (.lst []))
  | _=>False
section
variable {X:Cx} {elt a b:Expr} {es:List Expr} {kt:Nat} {tp:Pos} {scope:Scope} {cl:List (Str×Addr)} {N:List Str} {cap:List (Option Nat)} {pos p pos':Pos} {gg:DG} {ge:DE} {ta:DA}
theorem d_compZj (hc:X.calm=true) (Sc:CompSc X scope cl N cap) (hgl:Gl X "zip") (hm:X.mg "zip"=none) (ha:AJ X [a,b] ta) (hg:∀ s0 H0 ex C,GJ (cxC X scope cl N s0 H0 ex C) (.Tuple es kt tp) gg) (he:∀ s0 H0 ex C,EJ (cxC X scope cl N s0 H0 ex C) elt ge)
    (hs1:starEach [a,b] X.env=[(false,eval a X.env),(false,eval b X.env)]:=by rfl) (hs2:starEach [b] X.env=[(false,eval b X.env)]:=by rfl) (hs:∀ x,foldedSetIterable (.Call (.Name "zip" p) [a,b] [] pos') X.env x=pure x:=by intro _; rfl):
    EJ X (.ListComp elt [⟨.Tuple es kt tp,.Call (.Name "zip" p) [a,b] [] pos',[],0⟩] scope pos) (dCompZ cap ta gg (bdAll ge)):=
  ⟨PE.imp (pe_comp hc Sc (pi_zip hgl hm ha.h hs1 hs2) (fun s0 H0 ex C=>(hg s0 H0 ex C).h) (fun s0 H0 ex C=>(he s0 H0 ex C).h) hs) fun σ H Q ⟨L,S,k,hL,hS,h,n⟩=>upA.go hL hS h fun ds S1 vs H1 h1 k1 hL1 hS1 i1=>by
    split at h1
    · rename_i d1 d2
      obtain⟨v1,v2,rfl,j1,j2⟩:∃ v1 v2,vs=[v1,v2]/\IsD X.K H1 d1 v1/\IsD X.K H1 d2 v2:=isDs2 i1
      obtain⟨q1,q2,e1,e2,h1⟩:=h1
      obtain⟨a1,b1,rfl,x1,y1⟩:=seq_kd hS1 j1 e1
      obtain⟨a2,b2,rfl,x2,y2⟩:=seq_kd hS1 j2 e2
      refine⟨a1,a2,b1,b2,rfl,x1,x2,fun pa hD=>comp_coreG (hL1.cap cap) hS1 hD (h1 pa (hS1.free hD)) (fun d S' v H' q k3=>n d S' v H' q (k1.trans k3)) (fun i c S2 H2 e k2 hS2 o2=>?_) fun S2 H2 k2 hS2 o2=>?_⟩
      · obtain⟨xs,w1,u1⟩:=y1 S2 H2 k2 hS2 o2.1
        obtain⟨ys,w2,u2⟩:=y2 S2 H2 k2 hS2 o2.2
        obtain⟨c1,c2,f1,f2,rfl⟩:∃ c1 c2,q1.1[i]?=some c1/\q2.1[i]?=some c2/\D.tup [c1,c2]=c:=by
          unfold zipD at e
          rw [List.getElem?_zipWith] at e
          cases z1:q1.1[i]? with
          | none=>rw [z1] at e; cases e
          | some c1=>
            cases z2:q2.1[i]? with
            | none=>rw [z1,z2] at e; cases e
            | some c2=>rw [z1,z2] at e; exact⟨c1,c2,rfl,rfl,Option.some.inj e⟩
        obtain⟨v1,g1,r1⟩:=u1.get f1
        obtain⟨v2,g2,r2⟩:=u2.get f2
        refine⟨⟨xs,ys,v1,v2,w1,w2,g1,g2⟩,?_⟩
        rintro x H' ⟨T,x',y',rfl,hT,rfl,al⟩
        obtain⟨l1,l2⟩:=al xs ys w1 w2
        rw [g1] at l1
        rw [g2] at l2
        cases l1
        cases l2
        have kn:Kp H2 (upd H2 T (.tup [v1,v2])):=Kp.new hT
        exact⟨kn,hS2.new hT,isTup.mpr ⟨T,[v1,v2],rfl,SqT.of upd_same,IsDs.cons (r1.kp kn) (IsDs.cons (r2.kp kn) IsDs.nil)⟩⟩
      · obtain⟨xs,w1,u1⟩:=y1 S2 H2 k2 hS2 o2.1
        obtain⟨ys,w2,u2⟩:=y2 S2 H2 k2 hS2 o2.2
        refine⟨xs,ys,w1,w2,?_⟩
        rw [<- u1.length,<- u2.length]
        unfold zipD
        rw [List.length_zipWith]
        omega
    · exact h1.elim⟩
end
theorem isDs_bls {K:Fg} {H:Hp}:∀ {bs:List Bool} {xs:List V},IsDs K H (bs.map D.bl) xs->xs=bs.map V.bl
  | [],_,h=>isNil.mp h
  | b::bs,_,h=>by
    obtain⟨v,r,rfl,h1,h2⟩:=isCons.mp h
    rw [isBl.mp h1,isDs_bls h2]
    rfl
theorem vals_bls:∀ {bs:List Bool} {us:List Value},Vals (bs.map V.bl) us->us=bs.map Value.bool
  | [],_,.nil=>rfl
  | b::bs,_,.cons r t=>by
    cases r
    rw [vals_bls t]
    rfl
theorem all_range:∀ (bs:List Bool),(List.range bs.length).all (fun i=>bs.getD i true)=bs.all id
  | []=>rfl
  | b::bs=>by
    rw [List.length_cons,List.range_succ_eq_map,List.all_cons,List.all_map,List.all_cons]
    exact congrArg (b && ·) (all_range bs)
theorem ok_self {S:DH} {d:D} {q:List D×Option Addr} (h:dItems S d=some q):okFor q S:=by
  cases d with
  | tup ds=>cases h; trivial
  | rl ds=>cases h; trivial
  | ref a=>
    simp only [dItems] at h
    split at h
    · rename_i z; cases h; exact z
    · cases h
  | _=>cases h
def bAllE:DSp:=fun ds S k=>match ds with
  | [d]=>∃ (q:List D×Option Addr) (bs:List Bool),dItems S d=some q/\q.1=bs.map D.bl/\k (.bl (bs.all id)) S
  | _=>False
theorem b_allE {X:Cx} (hc:X.calm=true:=by rfl):CallR X (.builtin "all") (upC X.K bAllE):=by
  intro pins s σ H xs us Q I rs h
  obtain⟨ds,S,k,i,hS,r,n⟩:=h
  unfold bAllE at r
  split at r
  · obtain⟨x,rfl,i1⟩:=isDs1 i
    obtain⟨q,bs,e1,e2,r⟩:=r
    obtain⟨a,b,rfl,_,y⟩:=seq_kd hS i1 e1
    obtain⟨vs,w1,w2⟩:=y S H (Kp.refl H) hS (ok_self e1)
    rw [e2] at w2
    have ev:=isDs_bls w2
    subst ev
    obtain⟨its,rv,p⟩:=I.sqB w1
    have ei:=vals_bls rv
    subst ei
    cases rs with
    | cons r0 rr=>
      cases rr
      cases r0
      have hh:X.A.in1.handled=none:=I.ok.hd hc
      have hlt:=sqB_lt p
      have fin:∀ (nm:String) (h':Heap) (tk:Nat),(∀ c o,c∉[s.heap.objs.size]->(s.heap.push {cls:=.type nm,data:=.fields #[.ref a,.int 0 0]}).get? c=some o->h'.get? c=some o)->
          EP X pins σ Q (.bool (bs.all id)) {s with heap:=h',toks:=tk}:=fun nm h' tk kk=>by
        have I1:Inv X pins σ H {s with heap:=s.heap.push {cls:=.type nm,data:=.fields #[.ref a,.int 0 0]}}:=I.kept (t':=s.toks) fun c o e=>Heap.get?_push_of_some _ e
        refine⟨.bl (bs.all id),H,Inv.turnedL (s:={s with heap:=s.heap.push {cls:=.type nm,data:=.fields #[.ref a,.int 0 0]}}) (t':=tk) [s.heap.objs.size] I1 kk (fun c hc=>?_),rfl,n _ _ _ _ r (Kp.refl H) hS (isBl.mpr rfl)⟩
        have e:c=s.heap.objs.size:=by simpa using hc
        subst e
        exact I.fpOk (Nat.le_refl _) (I.hok.fresh (Nat.le_refl _))
      have len:(bs.map Value.bool).toArray.size=bs.length:=by simp
      have tr:∀ A',TruthOf X.prog X.w A' (fun i v=>(bs.map Value.bool).toArray[i]?=some v) (fun i=>bs.getD i true):=fun A' i v s' Q' E' hP hQ=>by
        have hP':(bs[i]?).map Value.bool=some v:=by simpa using hP
        cases z:bs[i]? with
        | none=>rw [z] at hP'; cases hP'
        | some c=>
          rw [z] at hP'
          cases hP'
          refine wpAny_truthy_bool ?_
          simpa [List.getD,z] using hQ
      refine call_all_walk ?_
      cases b with
      | true=>
        refine wpAny_pyIter_list (show s.heap.IsList a _ from p) ?_
        refine⟨s.heap.objs.size,_,_,_,_,_,_,rfl,Walks.list hh s.heap.objs.size a (Nat.ne_of_lt hlt) (bs.map Value.bool).toArray,⟨⟨_,Heap.get?_push_size _ rfl,rfl,rfl⟩,Heap.IsList.at p fun o e=>Heap.get?_push_of_some _ e⟩,tr _,fun h' tk kk=>?_⟩
        rw [len,all_range]
        exact fin _ h' tk kk
      | false=>
        refine wpAny_pyIter_tuple (show s.heap.IsTuple a _ from p) ?_
        refine⟨s.heap.objs.size,_,_,_,_,_,_,rfl,Walks.tuple hh s.heap.objs.size a (Nat.ne_of_lt hlt) (bs.map Value.bool).toArray,⟨⟨_,Heap.get?_push_size _ rfl,rfl,rfl⟩,Heap.IsTuple.at p fun o e=>Heap.get?_push_of_some _ e⟩,tr _,fun h' tk kk=>?_⟩
        rw [len,all_range]
        exact fin _ h' tk kk
  · exact r.elim
theorem kitx_D {X:Cx} {pins:List (Addr×Obj)} {σ:L2.St} {H:Hp} {s:Shared} {S:DH} {d:D} {x:V} {u:Value} {t:Ty} (I:Inv X pins σ H s) (hS:Hs X.K H S) (i:IsD X.K H d x) (r:RelV x u) (h:tyD S d=some t):
    ∃ Hh:Heap->Prop,PySem.W.KitX X.K u (.type t.name) Hh/\Hh s.heap/\u≠.builtin "__main__.__loader__#opaque":=by
  cases d with
  | non=>cases h; rw [isNon.mp i] at r; cases (show u=Value.none from r); exact⟨_,PySem.W.kitx_none,True.intro,fun z=>nomatch z⟩
  | bl b=>cases h; rw [isBl.mp i] at r; cases (show u=Value.bool b from r); exact⟨_,PySem.W.kitx_bool,True.intro,fun z=>nomatch z⟩
  | int b=>cases h; rw [isInt.mp i] at r; obtain⟨tk,q⟩:=(show ∃ t,u=Value.int b t from r); cases q; exact⟨_,PySem.W.kitx_int,True.intro,fun z=>nomatch z⟩
  | str b=>cases h; rw [isStr.mp i] at r; obtain⟨tk,q⟩:=(show ∃ t,u=Value.str b t from r); cases q; exact⟨_,PySem.W.kitx_str,True.intro,fun z=>nomatch z⟩
  | tup ds=>
    cases h
    obtain⟨a,vs,rfl,q,_⟩:=isTup.mp i
    cases (show u=Value.ref a from r)
    obtain⟨its,_,⟨o,h1,h2,_⟩,_⟩:=I.tuple q
    exact⟨_,PySem.W.kitx_tuple,⟨o,h1,h2⟩,fun z=>nomatch z⟩
  | rl ds=>cases h
  | ty n=>cases h
  | ref a=>
    rw [isRef.mp i] at r
    cases (show u=Value.ref a from r)
    have h:tyR (S a)=some t:=h
    cases z:S a with
    | none=>rw [z] at h; cases h
    | some o=>
      rw [z] at h
      cases o with
      | lst ds=>
        cases h
        obtain⟨vs,e,_⟩:=hS.lst z
        obtain⟨its,_,⟨o,n,h1,h2,_⟩,_⟩:=I.list (SqL.of e)
        exact⟨_,PySem.W.kitx_list,⟨o,h1,h2⟩,fun z=>nomatch z⟩
      | dic=>
        cases h
        obtain⟨vs,e⟩:=hS _ _ z
        obtain⟨_,_,vs',_,p⟩:=(show ObjOk X.prog X.w H s.heap a (.dK vs) from I.hok a _ e)
        obtain⟨o,es,ep,h1,h2,_⟩:=p
        exact⟨_,PySem.W.kitx_dict,⟨o,h1,h2.1⟩,fun z=>nomatch z⟩
      | exc _=>cases h
      | fn _=>cases h
      | tbl _=>cases h
      | gen _=>cases h
theorem kitAny_of {K:Fg} (t:Ty):∀ cs:List Ty,PySem.W.kitAny K (.type t.name) (cs.map fun c=>.type c.name)=some (cs.any (subT t))
  | []=>rfl
  | c::r=>by
    have ih:=kitAny_of (K:=K) t r
    rw [List.map_cons,PySem.W.kitAny,kit_of]
    cases z:subT t c with
    | true=>simp [z]
    | false=>simp only [List.any_cons,z,Bool.false_or]; exact ih
theorem isDs_tys {K:Fg} {H:Hp}:∀ {cs:List Ty} {xs:List V},IsDs K H (cs.map D.ty) xs->xs=cs.map fun c=>V.ty c.name
  | [],_,h=>isNil.mp h
  | b::bs,_,h=>by
    obtain⟨v,r,rfl,h1,h2⟩:=isCons.mp h
    rw [isTy.mp h1,isDs_tys h2]
    rfl
theorem vals_tys:∀ {cs:List Ty} {us:List Value},Vals (cs.map fun c=>V.ty c.name) us->us=cs.map fun c=>Value.type c.name
  | [],_,.nil=>rfl
  | b::bs,_,.cons r t=>by
    cases r
    rw [vals_tys t]
    rfl
def bIsiX:DSp:=fun ds S k=>match ds with
  | [d,.ty c]=>∃ t,tyD S d=some t/\k (.bl (subT t c)) S
  | [d,.tup cs]=>∃ (t:Ty) (ts:List Ty),tyD S d=some t/\cs=ts.map D.ty/\k (.bl (ts.any (subT t))) S
  | _=>False
theorem b_isiX {X:Cx}:CallR X (.builtin "isinstance") (upC X.K bIsiX):=by
  intro pins s σ H xs us Q I rs h
  obtain⟨ds,S,k,i,hS,r,n⟩:=h
  unfold bIsiX at r
  split at r
  · rename_i d c
    obtain⟨t,ht,r⟩:=r
    obtain⟨x,y,rfl,i1,i2⟩:=isDs2 i
    have e2:=isTy.mp i2
    subst e2
    obtain⟨u,w',rfl,r1,r2⟩:=vals2 rs
    cases (show w'=Value.type c.name from r2)
    obtain⟨Hh,kx,p,nb⟩:=kitx_D I hS i1 r1 ht
    exact PySem.W.kia_one kx I.kIn p (kit_of t c) nb fun tk=>⟨.bl (subT t c),H,I.tok tk,rfl,n _ _ _ _ r (Kp.refl H) hS (isBl.mpr rfl)⟩
  · rename_i d cs
    obtain⟨t,ts,ht,rfl,r⟩:=r
    obtain⟨x,y,rfl,i1,i2⟩:=isDs2 i
    obtain⟨a,vs,rfl,q,j⟩:=isTup.mp i2
    have ev:=isDs_tys j
    subst ev
    obtain⟨u,w',rfl,r1,r2⟩:=vals2 rs
    cases (show w'=Value.ref a from r2)
    obtain⟨Hh,kx,p,nb⟩:=kitx_D I hS i1 r1 ht
    obtain⟨its,rv,⟨o,h1,h2,m,h3⟩,_⟩:=I.tuple q
    have ei:=vals_tys rv
    subst ei
    obtain⟨oc,od,odt,os⟩:=o
    cases h2
    cases h3
    exact PySem.W.kia_tup kx I.kIn p h1 (kitAny_of t ts) nb fun tk=>⟨.bl (ts.any (subT t)),H,I.tok tk,rfl,n _ _ _ _ r (Kp.refl H) hS (isBl.mpr rfl)⟩
  · exact r.elim
section
variable {X:Cx} {o e a b c:Expr} {go ge ga gb gc:DE} {apos cpos pos:Pos}
def dApp (go ge:DE):DE:=fun L S k=>go L S fun d S1=>match d with
  | .ref a=>(∃ ds,S1 a=some (.lst ds))/\ge L S1 fun e S2=>∃ ds,S2 a=some (.lst ds)/\ds.length < sizeLine/\k .non (put S2 a (.lst (ds++[e])))
  | _=>False
theorem d_appj (ho:EJ X o go) (he:EJ X e ge) (hbase:attributeBase o "append" X.env (eval o X.env)=eval o X.env:=by rfl)
    (hfew:((backTo cpos (starEach [e] X.env)).all (fun x=>!x.1) && (backToKw cpos (keywordEach [] X.env)).all (fun x=>x.1.isSome) && decide ([e].length+([]:List Keyword).length+(if ([]:List Keyword).isEmpty then 0 else 1) < 30))=true:=by rfl)
    (hline:(apos.endLine == cpos.line)=true:=by rfl) (hs:starEach [e] X.env=(false,eval e X.env)::starEach [] X.env:=by rfl) (hpl:(backTo cpos (starEach [] X.env)).any (·.1)=false:=by rfl):
    EJ X (.Call (.Attribute o "append" apos) [e] [] cpos) (dApp go ge):=
  ⟨PE.imp (pe_bm PySem.F.plainAttrs_list PySem.F.slot_list_append PySem.F.type_list_append mt_append ho.h (pa_cons he.h pa_nil hs) hbase hfew hline hs hpl) fun σ H Q ⟨L,S,k,hL,hS,h,n⟩=>up.go hL hS h fun d S1 v H1 h1 k1 hL1 hS1 i1=>by
    cases d with
    | ref a=>
      have e1:=isRef.mp i1
      subst e1
      obtain⟨⟨ds1,z1⟩,h1⟩:=h1
      obtain⟨xs1,hl1,_⟩:=hS1.lst z1
      refine⟨.inl ⟨rfl,xs1,SqL.of hl1⟩,up.go hL1 hS1 h1 fun d2 S2 v2 H2 h2 k2 hL2 hS2 i2=>?_⟩
      obtain⟨ds,z,hz,w⟩:=h2
      obtain⟨xs,hl,j⟩:=hS2.lst z
      have k3:Kp H2 (upd H2 a (.lst (xs++[v2]))):=Kp.mut hl (fun z=>z)
      exact⟨a,xs,v2,rfl,rfl,hl,by rw [<- j.length]; exact hz,n _ _ _ _ w (k1.trans (k2.trans k3)) (hS2.setL hl (j.append (IsDs.cons i2 IsDs.nil))) (isNon.mpr rfl)⟩
    | _=>exact(show False from h1).elim⟩
end
theorem for_coreG {K:Fg} {ok:DH->Prop} {gg:DG} {b:DS} {M:DEnds} {ds:List D} {L:Lo} {S:DH} {N:Ends} {σ:L2.St} {H:Hp} {J:It} (hL:Lc K H L σ) (hS:Hs K H S) (h:dLoop ok gg b M ds L S) (r:Rch K H M N)
    (hgo:∀ i d S1 H1,ds[i]?=some d->Kp H H1->Hs K H1 S1->ok S1->J.go i H1/\∀ x H',J.yld i H1 x H'->Kp H1 H'/\Hs K H' S1/\IsD K H' d x)
    (hst:∀ S1 H1,Kp H H1->Hs K H1 S1->ok S1->J.stop ds.length H1):
    ∃ W:Nat->Nat->L2.St->Hp->Prop,(∃ m,W 0 m σ H)/\∀ i m σ H,W i m σ H->
      (J.stop i H/\N.nx σ H)\/(J.go i H/\∃ N':L2.St->Hp->Prop,(∀ σ' H',N' σ' H'->∃ m',m' < m/\W (i+1) m' σ' H')/\∀ x H',J.yld i H x H'->upG K gg x σ H' fun σ2 H2=>upS K b {N with nx:=N',ct:=N',bk:=N.nx} σ2 H2):=by
  refine⟨fun i m σ1 H1=>m=ds.length - i/\i<=ds.length/\∃ L1 S1,Lc K H1 L1 σ1/\Hs K H1 S1/\Kp H H1/\dLoop ok gg b M (ds.drop i) L1 S1,⟨ds.length,by simp,Nat.zero_le _,L,S,hL,hS,Kp.refl H,h⟩,?_⟩
  rintro i m σ1 H1 ⟨rfl,hi,L1,S1,hL1,hS1,k1,w1⟩
  by_cases hlt:i < ds.length
  · have e:ds.drop i=ds[i]::ds.drop (i+1):=List.drop_eq_getElem_cons hlt
    rw [e] at w1
    obtain⟨o1,w1⟩:=w1
    obtain⟨g1,y1⟩:=hgo i ds[i] S1 H1 (by simp [hlt]) k1 hS1 o1
    refine .inr ⟨g1,fun σ' H'=>i+1<=ds.length/\∃ L' S',Lc K H' L' σ'/\Hs K H' S'/\Kp H H'/\dLoop ok gg b M (ds.drop (i+1)) L' S',fun σ' H' ⟨q1,q2⟩=>⟨ds.length - (i+1),by omega,rfl,q1,q2⟩,fun x H' y=>?_⟩
    obtain⟨k0,hS0,ix⟩:=y1 x H' y
    have k10:=k1.trans k0
    refine⟨ds[i],L1,S1,_,ix,hL1.kp k0,hS0,w1,fun L2 S2 σ2 H2 q k2 hL2 hS2=>⟨L2,S2,_,hL2,hS2,q,?_⟩⟩
    have r2:=r.kp (k10.trans k2)
    exact⟨fun L3 S3 σ3 H3 q3 k3 hL3 hS3=>⟨hlt,L3,S3,hL3,hS3,(k10.trans k2).trans k3,q3⟩,r2.rt,r2.nx,fun L3 S3 σ3 H3 q3 k3 hL3 hS3=>⟨hlt,L3,S3,hL3,hS3,(k10.trans k2).trans k3,q3⟩⟩
  · have e:i=ds.length:=by omega
    subst e
    rw [List.drop_length] at w1
    obtain⟨o1,w1⟩:=w1
    exact .inl ⟨hst S1 H1 k1 hS1 o1,r.nx L1 S1 σ1 H1 w1 k1 hL1 hS1⟩
section
variable {X:Cx} {pos:Pos}
theorem loop_ix {ok:DH->Prop} {g:DG} {b:DS} {M:DEnds} (Iv:List D->Lo->DH->Prop) (hok:∀ r L S,Iv r L S->ok S)
    (hs:∀ d r L S N,Iv (d::r) L S->(∀ L' S',Iv r L' S'->N L' S')->g d L S fun L1 S1=>b {M with nx:=N,ct:=N,bk:=M.nx} L1 S1) (hd:∀ L S,Iv [] L S->M.nx L S):∀ r L S,Iv r L S->dLoop ok g b M r L S
  | [],L,S,i=>⟨hok [] L S i,hd L S i⟩
  | d::r,L,S,i=>⟨hok _ L S i,hs d r L S _ i fun L' S' i'=>loop_ix Iv hok hs hd r L' S' i'⟩
end
section
variable {X:Cx} {pins:List (Addr×Obj)} {σ:L2.St} {H:Hp} {s:Shared}
theorem eqL_at (I:Inv X pins σ H s) {S:DH} {a c:Addr} {ds es:List D} {b:Bool} (hS:Hs X.K H S) (h1:S a=some (.lst ds)) (h2:S c=some (.lst es)) (hl:ds.length=es.length) (A:Around) (hu:A.units+8 < cLine) (h:eqTs (eqT 7) ds es=some b):
    SeqAt.RcAt A s (.ref a) (.ref c) b/\SeqAt.RcNeAt A s (.ref a) (.ref c) (!b):=by
  obtain⟨xs,q1,j1⟩:=hS.lst h1
  obtain⟨ys,q2,j2⟩:=hS.lst h2
  obtain⟨us,r1,p1,_⟩:=I.list (SqL.of q1)
  obtain⟨ws,r2,p2,_⟩:=I.list (SqL.of q2)
  have l1:=j1.length
  have l2:=j2.length
  have l3:=r1.length
  have l4:=r2.length
  have hsz:us.toArray.size=ws.toArray.size:=by simp only [List.size_toArray]; omega
  have he:∀ j (h1:j < us.toArray.size) (h2:j < ws.toArray.size),SeqAt.EqAt A.in1 s us.toArray[j] ws.toArray[j] (eqAts (eqT 7) ds es j):=fun j h1 h2=>by
    simp only [List.size_toArray] at h1 h2
    obtain⟨d,e,x,y,q1,q2,d1,d2,rx,ry⟩:=pair_at j1 j2 r1 r2 h1 h2
    have:=(eqT_at I 7 A.in1 d e x y us[j] ws[j] _ (by show A.units+1+7 < cLine; omega) (eqTs_at h q1 q2) d1 d2 rx ry).1
    simpa using this
  have e:=eqTs_all h
  rw [hl,Nat.min_self] at e
  have e:(List.range us.toArray.size).all (eqAts (eqT 7) ds es)=b:=by
    simp only [List.size_toArray]
    rw [<- l3,<- l1,hl]
    simpa using e
  refine⟨?_,?_⟩
  · have z:=SeqAt.RcAt.lists p1.isList p2.isList hsz (by omega) he
    rw [e] at z
    exact z
  · have z:=SeqAt.RcNeAt.lists p1.isList p2.isList hsz (by omega) he
    rw [e] at z
    exact z
end
def dEqX:D2:=fun d e S k=>match d,e with
  | .ref a,.ref c=>∃ xs ys b,S a=some (.lst xs)/\S c=some (.lst ys)/\xs.length=ys.length/\eqTs (eqT 7) xs ys=some b/\k (.bl b) S
  | d,e=>∃ b,eqT 8 d e=some b/\k (.bl b) S
theorem o_eqX {X:Cx} {n:Nat} (hr:Room n X.A):OpR X (compareOp .Eq) (upR X.K dEqX):=by
  intro pins s σ H x y v u Q I rx ry h
  obtain⟨d,e,S,k,i1,i2,hS,r,m⟩:=h
  have hu:=hr.units
  unfold dEqX at r
  split at r
  · obtain⟨xs,ys,b,h1,h2,h3,h4,w⟩:=r
    have e1:=isRef.mp i1
    have e2:=isRef.mp i2
    subst e1 e2
    cases rx
    cases ry
    exact(eqL_at I hS h1 h2 h3 X.A (by omega) h4).1 X.prog X.w X.xe _ ⟨.bl b,H,I,rfl,up1 m hS w (isBl.mpr rfl)⟩
  · obtain⟨b,h1,w⟩:=r
    exact(eqT_at I 8 X.A d e x y v u b (by omega) h1 i1 i2 rx ry).2 X.prog X.w X.xe _ ⟨.bl b,H,I,rfl,up1 m hS w (isBl.mpr rfl)⟩
theorem neLen_at {X:Cx} {pins:List (Addr×Obj)} {σ:L2.St} {H:Hp} {s:Shared} (I:Inv X pins σ H s) {S:DH} {a c:Addr} {ds es:List D} (hS:Hs X.K H S) (h1:S a=some (.lst ds)) (h2:S c=some (.lst es)) (hl:ds.length≠es.length) (A:Around) (hu:A.units+8 < cLine):
    SeqAt.RcNeAt A s (.ref a) (.ref c) true:=by
  obtain⟨xs,q1,j1⟩:=hS.lst h1
  obtain⟨ys,q2,j2⟩:=hS.lst h2
  obtain⟨us,r1,p1,_⟩:=I.list (SqL.of q1)
  obtain⟨ws,r2,p2,_⟩:=I.list (SqL.of q2)
  have l1:=j1.length
  have l2:=j2.length
  have l3:=r1.length
  have l4:=r2.length
  exact SeqAt.RcNeAt.lists_lengths p1.isList p2.isList (by simp only [List.size_toArray,bne_iff_ne]; omega) (by omega)
def dNeL:D2:=fun d e S k=>match d,e with
  | .ref a,.ref c=>∃ xs ys b,S a=some (.lst xs)/\S c=some (.lst ys)/\((xs.length=ys.length/\eqTs (eqT 7) xs ys=some b)\/(xs.length≠ys.length/\b=false))/\k (.bl (!b)) S
  | d,e=>∃ b,eqT 8 d e=some b/\k (.bl (!b)) S
theorem o_neL {X:Cx} {n:Nat} (hr:Room n X.A):OpR X (compareOp .NotEq) (upR X.K dNeL):=by
  intro pins s σ H x y v u Q I rx ry h
  obtain⟨d,e,S,k,i1,i2,hS,r,m⟩:=h
  have hu:=hr.units
  unfold dNeL at r
  split at r
  · obtain⟨xs,ys,b,h1,h2,h3,w⟩:=r
    have e1:=isRef.mp i1
    have e2:=isRef.mp i2
    subst e1 e2
    cases rx
    cases ry
    rcases h3 with ⟨h3,h4⟩ | ⟨h3,rfl⟩
    · exact(eqL_at I hS h1 h2 h3 X.A (by omega) h4).2 X.prog X.w X.xe _ ⟨.bl (!b),H,I,rfl,up1 m hS w (isBl.mpr rfl)⟩
    · exact(neLen_at I hS h1 h2 h3 X.A (by omega)) X.prog X.w X.xe _ ⟨.bl true,H,I,rfl,up1 m hS w (isBl.mpr rfl)⟩
  · obtain⟨b,h1,w⟩:=r
    exact eqT_ne I 8 X.A d e x y v u b (by omega) h1 i1 i2 rx ry X.prog X.w X.xe _ ⟨.bl (!b),H,I,rfl,up1 m hS w (isBl.mpr rfl)⟩
def dIxF:D2:=fun d e S k=>match d,e with
  | .tup ds,.int i=>∃ c,L2.atI ds i=some c/\k c S
  | .rl ds,.int i=>∃ c,L2.atI ds i=some c/\k c S
  | .ref a,.int i=>∃ ds c,S a=some (.lst ds)/\L2.atI ds i=some c/\k c S
  | _,_=>False
theorem x_ixF {X:Cx}:IxR X (upR X.K dIxF):=IxR.imp x_ix (upR.imp fun d e S k h=>by
  unfold dIxF at h
  split at h
  · obtain⟨c,h1,h2⟩:=h
    simp only [dIx,h1]
    exact h2
  · obtain⟨c,h1,h2⟩:=h
    simp only [dIx,h1]
    exact h2
  · obtain⟨ds,c,h0,h1,h2⟩:=h
    simp only [dIx,h0,h1]
    exact h2
  · exact h.elim)
end DL
set_option linter.all false
namespace DT
abbrev Mx:=Nat->Nat->Rat
def sm:Nat->(Nat->Rat)->Rat
  | 0,_=>0
  | n+1,f=>sm n f+f n
def sg (n:Nat):Rat:=if n % 2=0 then 1 else -1
def cl (M:Mx) (a:Nat) (u:Nat->Rat):Mx:=fun r c=>if c=a then u r else M r c
end DT
namespace L2
open PySem PySem.Spec PyProof.Rows
section
variable {X:Cx}
theorem fp_lt {s:Shared} {a:Addr} {o:Obj} (hlt:a < s.heap.objs.size) (ho:o.isFreed=false:=by rfl):∀ b∈[s.heap.objs.size,a],b < (s.heap.push o).objs.size:=fun b hb=>by
  have hz:s.heap.objs.size < (s.heap.push o).objs.size:=Heap.lt_size (Heap.get?_push_size _ ho)
  simp only [List.mem_cons,List.not_mem_nil,or_false] at hb
  rcases hb with e | e
  · rw [e]; exact hz
  · rw [e]; exact Nat.lt_trans hlt hz
end
end L2
namespace PySem
open Sem (wp)
open Builtin DL
section
variable {prog:Program} {w:World}
def kiO (c:String) (d:Addr) (i n ep:Nat):Obj:={cls:=.type c,dict:=none,data:=.fields #[.ref d,.int i 0,.int n 0,.int ep 0],slots:=#[]}
theorem kiN (it d:Addr) (es:Array DictEntry) (i ep:Nat) (e:DictEntry) (hx:es[i]?=some e):
    MeetsIn prog w (Builtin.«dict_keyiterator.__next__» ⟨[.ref it],[]⟩) (fun _ R s=>s.heap.get? it=some (kiO "dict_keyiterator" d i es.size ep)/\s.heap.get? d=some (dxO es ep)/\
      R (.ok (.ret e.key)) {s with heap:=s.heap.update it (Obj.mapFields (·.setIfInBounds 1 (rawInt ((i:Int)+1))))}):=
  .of_wp fun A R s h=>by
    obtain⟨hp,g,dr,tk,os⟩:=s
    obtain⟨h1,h2,h⟩:=h
    wp_walk
    have z:(if (i:Int) < 0 then none else es[(i:Int).toNat]?)=some e:=by
      rw [if_neg (by omega),Int.toNat_natCast]; exact hx
    rw [z]
    wp_walk
    exact⟨_,rfl,h⟩
theorem ext_ub {h:Heap} {it:Addr} (f:Obj->Obj) (o o':Obj):Heap.ExtBut it h (((h.update it f).push o).push o'):=fun b u nb e=>
  Heap.get?_push_of_some _ (Heap.get?_push_of_some _ ((Heap.get?_update_other _ _ (Ne.symm nb)).trans e))
theorem kiE (it d:Addr) (es:Array DictEntry) (i ep:Nat) (hx:es[i]?=none):
    MeetsIn prog w (Builtin.«dict_keyiterator.__next__» ⟨[.ref it],[]⟩) (fun A R s=>A.handled=none/\s.heap.get? it=some (kiO "dict_keyiterator" d i es.size ep)/\s.heap.get? d=some (dxO es ep)/\
      (∀ h' e,Heap.ExtBut it s.heap h'->(∃ o,h'.get? e=some o/\o.cls=.type "StopIteration")->R (.error (.ref e)) {s with heap:=h'})):=
  .of_wp fun A R s h=>by
    obtain⟨hp,g,dr,tk,os⟩:=s
    obtain⟨h0,h1,h2,h⟩:=h
    wp_walk
    have z:(if (i:Int) < 0 then none else es[(i:Int).toNat]?)=none:=by
      rw [if_neg (by omega),Int.toNat_natCast]; exact hx
    rw [z]
    wp_walk
    unfold raiseNew
    refine wpAny_bind (wpAny_handled ?_)
    rw [show A.in1.handled=none from h0]
    exact wpAny_bind (wpAny_pure (wpAny_throw (h _ _ (ext_ub _ _ _) ⟨_,Heap.get?_push_size _ rfl,rfl⟩)))
theorem iiI (v d:Addr) (es:Array DictEntry) (ep:Nat):
    MeetsIn prog w (Builtin.«dict_items.__iter__» ⟨[.ref v],[]⟩) (fun _ R s=>s.heap.get? v=some {cls:=.type "dict_items",data:=.fields #[.ref d]}/\s.heap.get? d=some (dxO es ep)/\
      R (.ok (.ret (.ref s.heap.objs.size))) {s with heap:=s.heap.push {cls:=.type "dict_itemiterator",data:=.fields #[.none,.bool false,.ref d,.int 0 0,.int es.size 0,.int ep 0,.none,.none]}}):=
  .of_wp fun A R s h=>by
    obtain⟨hp,g,dr,tk,os⟩:=s
    obtain⟨h1,h2,h⟩:=h
    wp_walk
    exact⟨_,rfl,h⟩
def iiO (x d:Value) (i n ep:Nat) (ok ov:Value):Obj:={cls:=.type "dict_itemiterator",dict:=none,data:=.fields #[x,.bool false,d,.int i 0,.int n 0,.int ep 0,ok,ov],slots:=#[]}
theorem iiN (it d:Addr) (es:Array DictEntry) (i ep:Nat) (e:DictEntry) (ok ov:Value) (hx:es[i]?=some e):
    MeetsIn prog w (Builtin.«dict_itemiterator.__next__» ⟨[.ref it],[]⟩) (fun _ R s=>s.heap.get? it=some (iiO .none (.ref d) i es.size ep ok ov)/\s.heap.get? d=some (dxO es ep)/\
      ∀ h',h'.get? it=some (iiO (rawInt s.heap.objs.size) (.ref d) (i+1) es.size ep e.key e.val)->h'.get? s.heap.objs.size=some {cls:=.type "tuple",data:=.seq #[e.key,e.val]}->
        (∀ b o,b≠it->s.heap.get? b=some o->h'.get? b=some o)->R (.ok (.ret (.ref s.heap.objs.size))) {s with heap:=h'}):=
  .of_wp fun A R s h=>by
    obtain⟨hp,g,dr,tk,os⟩:=s
    obtain⟨h1,h2,h⟩:=h
    have lt:it < hp.objs.size:=Heap.lt_size h1
    wp_walk
    have z:(if (i:Int) < 0 then none else es[(i:Int).toNat]?)=some e:=by
      rw [if_neg (by omega),Int.toNat_natCast]; exact hx
    rw [z]
    have T0:Shared.TypeIs ⟨hp,g,dr,tk,os⟩ (.ref it) "dict_itemiterator":=⟨_,h1,rfl⟩
    refine wpAny_bind (wpAny_bind (wpAny_typeNameOfWhole_itemiter T0 (wpAny_pure (wpAny_bind (wpAny_isOneOf_itemiter T0 ?_)))))
    refine wpAny_bind (m:=setField (.ref it) 3 (rawInt ((i:Int)+1))) (wpAny_setField_rec h1 (by simp) fun k1 a1 b1=>?_)
    have a2:k1.get? it=some (iiO .none (.ref d) (i+1) es.size ep ok ov):=a1
    have T1:Shared.TypeIs ⟨k1,g,dr,tk,os⟩ (.ref it) "dict_itemiterator":=⟨_,a2,rfl⟩
    refine wpAny_bind (wpAny_holding (wpAny_bind (wpAny_isOneOf_itemiter T1 (wpAny_bind (wpAny_isOneOf_itemiter T1 ?_)))))
    refine wpAny_bind (m:=newTuple [e.key,e.val]) (wpAny_newTuple ?_)
    have sz:k1.objs.size=hp.objs.size:=b1.1
    generalize q2:k1.push {cls:=.type "tuple",data:=.seq #[e.key,e.val]}=k2
    have a3:k2.get? it=some (iiO .none (.ref d) (i+1) es.size ep ok ov):=by rw [<- q2]; exact Heap.get?_push_of_some _ a2
    have t3:k2.get? hp.objs.size=some {cls:=.type "tuple",data:=.seq #[e.key,e.val]}:=by rw [<- q2,<- sz]; exact Heap.get?_push_size _ rfl
    have o3:∀ b o,b≠it->hp.get? b=some o->k2.get? b=some o:=fun b o nb x=>by rw [<- q2]; exact Heap.get?_push_of_some _ (b1.extBut b o nb x)
    rw [sz]
    refine wpAny_bind (wpAny_bind (wpAny_field a3 rfl (x:=.none) rfl (wpAny_pure ?_)))
    refine wpAny_bind (wpAny_field a3 rfl (x:=ok) rfl (wpAny_bind (wpAny_field a3 rfl (x:=ov) rfl ?_)))
    refine wpAny_bind (wpAny_setField_rec a3 (by simp) fun k3 a4 b4=>wpAny_bind (wpAny_setField_rec a4 (by simp) fun k4 a5 b5=>wpAny_bind (wpAny_setField_rec a5 (by simp) fun k5 a6 b6=>wpAny_bind (wpAny_setField_rec a6 (by simp) fun k6 a7 b7=>?_))))
    have far:∀ b o,b≠it->k2.get? b=some o->k6.get? b=some o:=fun b o nb x=>b7.extBut b o nb (b6.extBut b o nb (b5.extBut b o nb (b4.extBut b o nb x)))
    exact wpAny_bind (wpAny_letGo (wpAny_pure (wpAny_pure ⟨_,rfl,h k6 a7 (far _ _ (Nat.ne_of_gt lt) t3) fun b o nb x=>far b o nb (o3 b o nb x)⟩)))
theorem viN (it d:Addr) (es:Array DictEntry) (i ep:Nat) (e:DictEntry) (hx:es[i]?=some e):
    MeetsIn prog w (Builtin.«dict_valueiterator.__next__» ⟨[.ref it],[]⟩) (fun _ R s=>s.heap.get? it=some (kiO "dict_valueiterator" d i es.size ep)/\s.heap.get? d=some (dxO es ep)/\
      R (.ok (.ret e.val)) {s with heap:=s.heap.update it (Obj.mapFields (·.setIfInBounds 1 (rawInt ((i:Int)+1))))}):=
  .of_wp fun A R s h=>by
    obtain⟨hp,g,dr,tk,os⟩:=s
    obtain⟨h1,h2,h⟩:=h
    wp_walk
    have z:(if (i:Int) < 0 then none else es[(i:Int).toNat]?)=some e:=by
      rw [if_neg (by omega),Int.toNat_natCast]; exact hx
    rw [z]
    wp_walk
    exact⟨_,rfl,h⟩
theorem viE (it d:Addr) (es:Array DictEntry) (i ep:Nat) (hx:es[i]?=none):
    MeetsIn prog w (Builtin.«dict_valueiterator.__next__» ⟨[.ref it],[]⟩) (fun A R s=>A.handled=none/\s.heap.get? it=some (kiO "dict_valueiterator" d i es.size ep)/\s.heap.get? d=some (dxO es ep)/\
      (∀ h' e,Heap.ExtBut it s.heap h'->(∃ o,h'.get? e=some o/\o.cls=.type "StopIteration")->R (.error (.ref e)) {s with heap:=h'})):=
  .of_wp fun A R s h=>by
    obtain⟨hp,g,dr,tk,os⟩:=s
    obtain⟨h0,h1,h2,h⟩:=h
    wp_walk
    have z:(if (i:Int) < 0 then none else es[(i:Int).toNat]?)=none:=by
      rw [if_neg (by omega),Int.toNat_natCast]; exact hx
    rw [z]
    wp_walk
    unfold raiseNew
    refine wpAny_bind (wpAny_handled ?_)
    rw [show A.in1.handled=none from h0]
    exact wpAny_bind (wpAny_pure (wpAny_throw (h _ _ (ext_ub _ _ _) ⟨_,Heap.get?_push_size _ rfl,rfl⟩)))
theorem iiE (it d:Addr) (es:Array DictEntry) (i ep:Nat) (ok ov:Value) (hx:es[i]?=none):
    MeetsIn prog w (Builtin.«dict_itemiterator.__next__» ⟨[.ref it],[]⟩) (fun A R s=>A.handled=none/\s.heap.get? it=some (iiO .none (.ref d) i es.size ep ok ov)/\s.heap.get? d=some (dxO es ep)/\
      (∀ h' e,Heap.ExtBut it s.heap h'->(∃ o,h'.get? e=some o/\o.cls=.type "StopIteration")->R (.error (.ref e)) {s with heap:=h'})):=
  .of_wp fun A R s h=>by
    obtain⟨hp,g,dr,tk,os⟩:=s
    obtain⟨h0,h1,h2,h⟩:=h
    wp_walk
    have z:(if (i:Int) < 0 then none else es[(i:Int).toNat]?)=none:=by
      rw [if_neg (by omega),Int.toNat_natCast]; exact hx
    rw [z]
    wp_walk
    unfold raiseNew
    refine wpAny_bind (wpAny_handled ?_)
    rw [show A.in1.handled=none from h0]
    exact wpAny_bind (wpAny_pure (wpAny_throw (h _ _ (ext_ub _ _ _) ⟨_,Heap.get?_push_size _ rfl,rfl⟩)))
theorem diI (d:Addr) (es:Array DictEntry) (ep:Nat) (hd:(d == sysModules)=false):
    MeetsIn prog w (Builtin.«dict.__iter__» ⟨[.ref d],[]⟩) (fun _ R s=>s.heap.get? d=some (dxO es ep)/\R (.ok (.ret (.ref s.heap.objs.size))) {s with heap:=s.heap.push (kiO "dict_keyiterator" d 0 es.size ep)}):=
  .of_wp fun A R s h=>by
    obtain⟨hp,g,dr,tk,os⟩:=s
    obtain⟨h2,h⟩:=h
    wp_walk
    exact⟨_,rfl,h⟩
theorem diV (d:Addr) (es:Array DictEntry) (ep:Nat) (hd:(d == sysModules)=false):
    MeetsIn prog w (Builtin.«dict.values» ⟨[.ref d],[]⟩) (fun _ R s=>s.heap.get? d=some (dxO es ep)/\R (.ok (.ret (.ref s.heap.objs.size))) {s with heap:=s.heap.push {cls:=.type "dict_values",data:=.fields #[.ref d]}}):=
  .of_wp fun A R s h=>by
    obtain⟨hp,g,dr,tk,os⟩:=s
    obtain⟨h2,h⟩:=h
    wp_walk
    exact⟨_,rfl,h⟩
theorem diT (d:Addr) (es:Array DictEntry) (ep:Nat) (hd:(d == sysModules)=false):
    MeetsIn prog w (Builtin.«dict.items» ⟨[.ref d],[]⟩) (fun _ R s=>s.heap.get? d=some (dxO es ep)/\R (.ok (.ret (.ref s.heap.objs.size))) {s with heap:=s.heap.push {cls:=.type "dict_items",data:=.fields #[.ref d]}}):=
  .of_wp fun A R s h=>by
    obtain⟨hp,g,dr,tk,os⟩:=s
    obtain⟨h2,h⟩:=h
    wp_walk
    exact⟨_,rfl,h⟩
theorem viI (v d:Addr) (es:Array DictEntry) (ep:Nat):
    MeetsIn prog w (Builtin.«dict_values.__iter__» ⟨[.ref v],[]⟩) (fun _ R s=>s.heap.get? v=some {cls:=.type "dict_values",data:=.fields #[.ref d]}/\s.heap.get? d=some (dxO es ep)/\
      R (.ok (.ret (.ref s.heap.objs.size))) {s with heap:=s.heap.push (kiO "dict_valueiterator" d 0 es.size ep)}):=
  .of_wp fun A R s h=>by
    obtain⟨hp,g,dr,tk,os⟩:=s
    obtain⟨h1,h2,h⟩:=h
    wp_walk
    exact⟨_,rfl,h⟩
theorem dLn (d:Addr) (es:Array DictEntry) (ep:Nat) (hd:(d == sysModules)=false):
    MeetsIn prog w (Builtin.«dict.__len__» ⟨[.ref d],[]⟩) (fun _ R s=>s.heap.get? d=some (dxO es ep)/\R (.ok (.ret (.int es.size s.toks))) {s with toks:=s.toks+1}):=
  .of_wp fun A R s h=>by
    obtain⟨hp,g,dr,tk,os⟩:=s
    obtain⟨h2,h⟩:=h
    wp_walk
    refine⟨_,rfl,?_⟩
    rw [show ((es.size:Int)+((0:Nat):Int))=es.size from Int.add_zero _]
    exact h
section
variable {A:Around} {E:Value->Shared->Prop} {s:Shared} {it d v:Addr} {es:Array DictEntry} {i ep:Nat} {e:DictEntry} {ok ov:Value}
theorem pyIter_dk {Q:Value->Shared->Prop} (hd:(d == sysModules)=false) (h2:s.heap.get? d=some (dxO es ep)) (h:Q (.ref s.heap.objs.size) {s with heap:=s.heap.push (kiO "dict_keyiterator" d 0 es.size ep)}):
    wpAny (model prog w) A (pyIter (.ref d)) Q E s:=
  have T:s.TypeIs (.ref d) "dict":=⟨_,h2,rfl⟩
  wpAny_pyIter_slot T F.slot_dict_iter (call_meetsIn F.slot_dict_iter T F.entry_dict_iter (F.args_dict_iter_1 _) (diI d es ep hd) ⟨h2,"dict_keyiterator",_,⟨_,Heap.get?_push_size _ rfl,rfl⟩,F.slot_dict_keyiterator_next.lookup,h⟩)
theorem pyIter_dv {Q:Value->Shared->Prop} (h1:s.heap.get? v=some {cls:=.type "dict_values",data:=.fields #[.ref d]}) (h2:s.heap.get? d=some (dxO es ep)) (h:Q (.ref s.heap.objs.size) {s with heap:=s.heap.push (kiO "dict_valueiterator" d 0 es.size ep)}):
    wpAny (model prog w) A (pyIter (.ref v)) Q E s:=
  have T:s.TypeIs (.ref v) "dict_values":=⟨_,h1,rfl⟩
  wpAny_pyIter_slot T F.slot_dict_values_iter (call_meetsIn F.slot_dict_values_iter T F.entry_dict_values_iter (F.args_dict_values_iter_1 _) (viI v d es ep) ⟨h1,h2,"dict_valueiterator",_,⟨_,Heap.get?_push_size _ rfl,rfl⟩,F.slot_dict_valueiterator_next.lookup,h⟩)
theorem pyIter_di {Q:Value->Shared->Prop} (h1:s.heap.get? v=some {cls:=.type "dict_items",data:=.fields #[.ref d]}) (h2:s.heap.get? d=some (dxO es ep)) (h:Q (.ref s.heap.objs.size) {s with heap:=s.heap.push (iiO .none (.ref d) 0 es.size ep .none .none)}):
    wpAny (model prog w) A (pyIter (.ref v)) Q E s:=
  have T:s.TypeIs (.ref v) "dict_items":=⟨_,h1,rfl⟩
  wpAny_pyIter_slot T F.slot_dict_items_iter (call_meetsIn F.slot_dict_items_iter T F.entry_dict_items_iter (F.args_dict_items_iter_1 _) (iiI v d es ep) ⟨h1,h2,"dict_itemiterator",_,⟨_,Heap.get?_push_size _ rfl,rfl⟩,F.slot_dict_itemiterator_next.lookup,h⟩)
theorem next_of {T id:String} {f:Builtin} {φ} {Q:Option Value->Shared->Prop} (hs:Slot T "__next__" id) (hT:s.TypeIs (.ref it) T) (he:entryFor table id=some f) (ha:argsOk id ⟨[.ref it],[]⟩) (hm:MeetsIn prog w (f ⟨[.ref it],[]⟩) φ)
    (h:φ A (wants (fun u s'=>Q (some u) s') fun e s'=>(∃ a o,e=.ref a/\s'.heap.get? a=some o/\o.cls=.type "StopIteration")/\Q none s') s):wpAny (model prog w) A (pyNext (.ref it)) Q E s:=by
  unfold pyNext
  refine wpAny_bind (wpAny_attempt (wpAny_callSpecial?_slot (name:=Str.ofString "__next__") hT hs (wpAny_mono (call_meetsIn hs hT he ha hm h) (fun u s' q=>wpAny_pure q) fun e s' q=>?_)))
  obtain⟨⟨a,o,rfl,g,c⟩,q⟩:=q
  exact wpAny_bind (wpAny_isInstance (T:="StopIteration") (b:=true) ⟨_,g,c⟩ isSubtype_stop (wpAny_pure q))
inductive DIt where
  | k | v
def DIt.nm:DIt->String
  | .k=>"dict_keyiterator"
  | .v=>"dict_valueiterator"
def DIt.of (e:DictEntry):DIt->Value
  | .k=>e.key
  | .v=>e.val
theorem upd_ki (c:DIt) {h:Heap} {it d:Addr} {i n ep:Nat} (h1:h.get? it=some (kiO c.nm d i n ep)):(h.update it (Obj.mapFields (·.setIfInBounds 1 (rawInt ((i:Int)+1))))).get? it=some (kiO c.nm d (i+1) n ep):=
  Heap.get?_update_self _ h1 rfl
theorem next_dx (c:DIt) {Q:Option Value->Shared->Prop} (h1:s.heap.get? it=some (kiO c.nm d i es.size ep)) (h2:s.heap.get? d=some (dxO es ep)) (hx:es[i]?=some e)
    (h:∀ h',h'.get? it=some (kiO c.nm d (i+1) es.size ep)->(∀ b o,b≠it->s.heap.get? b=some o->h'.get? b=some o)->Q (some (DIt.of e c)) {s with heap:=h'}):wpAny (model prog w) A (pyNext (.ref it)) Q E s:=by
  have far:∀ b o,b≠it->s.heap.get? b=some o->(s.heap.update it (Obj.mapFields (·.setIfInBounds 1 (rawInt ((i:Int)+1))))).get? b=some o:=fun b o nb x=>(Heap.get?_update_other _ _ (Ne.symm nb)).trans x
  have z:=h _ (upd_ki c h1) far
  cases c with
  | k=>exact next_of F.slot_dict_keyiterator_next ⟨_,h1,rfl⟩ F.entry_dict_keyiterator_next (F.args_dict_keyiterator_next_1 _) (kiN it d es i ep e hx) ⟨h1,h2,z⟩
  | v=>exact next_of F.slot_dict_valueiterator_next ⟨_,h1,rfl⟩ F.entry_dict_valueiterator_next (F.args_dict_valueiterator_next_1 _) (viN it d es i ep e hx) ⟨h1,h2,z⟩
theorem next_dxE (c:DIt) {Q:Option Value->Shared->Prop} (hh:A.handled=none) (h1:s.heap.get? it=some (kiO c.nm d i es.size ep)) (h2:s.heap.get? d=some (dxO es ep)) (hx:es[i]?=none)
    (h:∀ h',(∀ b o,b≠it->s.heap.get? b=some o->h'.get? b=some o)->Q none {s with heap:=h'}):wpAny (model prog w) A (pyNext (.ref it)) Q E s:=by
  cases c with
  | k=>exact next_of F.slot_dict_keyiterator_next ⟨_,h1,rfl⟩ F.entry_dict_keyiterator_next (F.args_dict_keyiterator_next_1 _) (kiE it d es i ep hx) ⟨hh,h1,h2,fun h' e x ⟨o,y1,y2⟩=>⟨⟨e,o,rfl,y1,y2⟩,h h' x⟩⟩
  | v=>exact next_of F.slot_dict_valueiterator_next ⟨_,h1,rfl⟩ F.entry_dict_valueiterator_next (F.args_dict_valueiterator_next_1 _) (viE it d es i ep hx) ⟨hh,h1,h2,fun h' e x ⟨o,y1,y2⟩=>⟨⟨e,o,rfl,y1,y2⟩,h h' x⟩⟩
theorem next_di {Q:Option Value->Shared->Prop} (h1:s.heap.get? it=some (iiO .none (.ref d) i es.size ep ok ov)) (h2:s.heap.get? d=some (dxO es ep)) (hx:es[i]?=some e)
    (h:∀ h',h'.get? it=some (iiO (rawInt s.heap.objs.size) (.ref d) (i+1) es.size ep e.key e.val)->h'.get? s.heap.objs.size=some {cls:=.type "tuple",data:=.seq #[e.key,e.val]}->(∀ b o,b≠it->s.heap.get? b=some o->h'.get? b=some o)->
      Q (some (.ref s.heap.objs.size)) {s with heap:=h'}):wpAny (model prog w) A (pyNext (.ref it)) Q E s:=
  next_of F.slot_dict_itemiterator_next ⟨_,h1,rfl⟩ F.entry_dict_itemiterator_next (F.args_dict_itemiterator_next_1 _) (iiN it d es i ep e ok ov hx) ⟨h1,h2,fun h' a b c=>h h' a b c⟩
theorem next_diE {Q:Option Value->Shared->Prop} (hh:A.handled=none) (h1:s.heap.get? it=some (iiO .none (.ref d) i es.size ep ok ov)) (h2:s.heap.get? d=some (dxO es ep)) (hx:es[i]?=none)
    (h:∀ h',(∀ b o,b≠it->s.heap.get? b=some o->h'.get? b=some o)->Q none {s with heap:=h'}):wpAny (model prog w) A (pyNext (.ref it)) Q E s:=
  next_of F.slot_dict_itemiterator_next ⟨_,h1,rfl⟩ F.entry_dict_itemiterator_next (F.args_dict_itemiterator_next_1 _) (iiE it d es i ep ok ov hx) ⟨hh,h1,h2,fun h' e x ⟨o,y1,y2⟩=>⟨⟨e,o,rfl,y1,y2⟩,h h' x⟩⟩
theorem go_di {elts:List Expr} {x1} {pos:Pos} {T:Addr} {Q:Unit->Shared->Prop} (h1:s.heap.get? it=some (iiO (rawInt T) (.ref d) i es.size ep ok ov))
    (h:∀ h',h'.get? it=some (iiO .none (.ref d) i es.size ep ok ov)->(∀ b o,b≠it->s.heap.get? b=some o->h'.get? b=some o)->Q () {s with heap:=h'}):wpAny (model prog w) A (letOwnedTupleGo (.Tuple elts x1 pos) (.ref it) (.ref T)) Q E s:=
  wpAny_letOwnedTupleGo_items h1 fun h' a b=>h h' a fun c o n x=>b.extBut c o n x
theorem self_ki (c:DIt) {n:Nat} {Q:Value->Shared->Prop} (h1:s.heap.get? it=some (kiO c.nm d i n ep)) (h:Q (.ref it) s):wpAny (model prog w) A (pyIter (.ref it)) Q E s:=by
  cases c with
  | k=>exact wpAny_pyIter_keyiter ⟨_,h1,rfl,rfl⟩ h
  | v=>exact wpAny_pyIter_valiter ⟨_,h1,rfl,rfl⟩ h
theorem self_ii {n:Nat} {x:Value} {Q:Value->Shared->Prop} (h1:s.heap.get? it=some (iiO x (.ref d) i n ep ok ov)) (h:Q (.ref it) s):wpAny (model prog w) A (pyIter (.ref it)) Q E s:=by
  have T:s.TypeIs (.ref it) "dict_itemiterator":=⟨_,h1,rfl⟩
  have en:entryFor table "dict_itemiterator.__iter__"=some Builtin.«dict_keyiterator.__iter__»:=PySem.W.kcp_entry
  refine wpAny_pyIter_slot T F.slot_dict_itemiterator_iter (wpAny_call_entry F.slot_dict_itemiterator_iter T en ?_ (F.args_dict_itemiterator_iter_1 _))
  exact wpAny_pure ⟨_,rfl,"dict_itemiterator",_,T,F.slot_dict_itemiterator_next.lookup,h⟩
end
end
end PySem
namespace DL
open PySem PySem.Spec PyProof.Rows L2
def keyD (k:List Int):D:=.tup (k.map .int)
def getT (kvs:List (List Int×D)) (k:List Int):Option D:=(kvs.find? fun p=>decide (p.1=k)).map (·.2)
def putT (kvs:List (List Int×D)) (k:List Int) (d:D):List (List Int×D):=if (getT kvs k).isSome then kvs.map (fun p=>if p.1=k then(p.1,d) else p) else kvs++[(k,d)]
section
variable {K:Fg} {H H':Hp} {S:DH} {p:Addr}
theorem DObj.step' {a:Addr} {o:DO} (z:DObj K H a o) (k:Kp H H') (s:H' a=H a):DObj K H' a o:=
  Hs.step (S:=fun b=>if b=a then some o else none) (fun b u e=>by
    by_cases q:b=a
    · subst q; cases (if_pos rfl).symm.trans e; exact z
    · cases (if_neg q).symm.trans e) k (fun b u e=>by
    by_cases q:b=a
    · subst q; exact s
    · cases (if_neg q).symm.trans e) a o (if_pos rfl)
theorem Hs.setG {o u:HO} {g:Gen} (h:Hs K H S) (e:H p=some u) (n:¬ Imm u) (r:GObj K (upd H p o) p g):Hs K (upd H p o) (put S p (.gen g)):=fun a ob q=>by
  by_cases z:a=p
  · subst z
    rw [put_same] at q
    cases q
    exact r
  · rw [put_ne z] at q
    exact DObj.step' (h a ob q) (Kp.mut e n) (upd_ne z)
theorem Hs.newG {o:HO} {g:Gen} (h:Hs K H S) (e:H p=none) (r:GObj K (upd H p o) p g):Hs K (upd H p o) (put S p (.gen g)):=fun a ob q=>by
  by_cases z:a=p
  · subst z
    rw [put_same] at q
    cases q
    exact r
  · rw [put_ne z] at q
    exact DObj.step' (h a ob q) (Kp.new e) (upd_ne z)
theorem Hs.dT {kvs:List (List Int×D)} {ep:Nat} (h:Hs K H S) (e:S p=some (.gen (.dT kvs ep))):∃ xs,H p=some (.ext (DxP p xs ep))/\KtR K H kvs xs:=h p _ e
theorem isDs_intsK:∀ {k:List Int} {xs:List V},IsDs K H (k.map D.int) xs↔xs=k.map V.int
  | [],xs=>isNil
  | i::k,xs=>by
    rw [List.map_cons,List.map_cons,isCons]
    constructor
    · rintro⟨v,r,rfl,h1,h2⟩
      rw [isInt.mp h1,isDs_intsK.mp h2]
    · rintro rfl
      exact⟨_,_,rfl,isInt.mpr rfl,isDs_intsK.mpr rfl⟩
theorem isKey {k:List Int} {v:V}:IsD K H (keyD k) v↔∃ b,v=.ref b/\SqT K H b (k.map V.int):=by
  unfold keyD
  rw [isTup]
  constructor
  · rintro⟨a,xs,e,t,j⟩
    rw [isDs_intsK.mp j] at t
    exact⟨a,e,t⟩
  · rintro⟨b,e,t⟩
    exact⟨b,_,e,t,isDs_intsK.mpr rfl⟩
variable {kvs:List (List Int×D)} {xs:List (List Int×Addr×Value)}
theorem KtR.get (r:KtR K H kvs xs) (k:List Int):(getT kvs k=none/\atKey xs k=none)\/∃ d b u v,getT kvs k=some d/\atKey xs k=some (b,u)/\RelV v u/\IsD K H d v:=by
  induction r with
  | nil=>exact .inl ⟨rfl,rfl⟩
  | @cons p q ps qs h t ih=>
    obtain⟨h1,h2,v,h3,h4⟩:=h
    by_cases e:p.1=k
    · exact .inr ⟨p.2,q.2.1,q.2.2,v,by simp [getT,List.find?_cons,e],by simp [atKey,List.find?_cons,h1.symm.trans e],h3,h4⟩
    · have e':¬ q.1=k:=fun z=>e (h1.trans z)
      have a1:getT (p::ps) k=getT ps k:=by simp [getT,List.find?_cons,e]
      have a2:atKey (q::qs) k=atKey qs k:=by simp [atKey,List.find?_cons,e']
      rw [a1,a2]
      exact ih
theorem KtR.isSome (r:KtR K H kvs xs) (k:List Int):(getT kvs k).isSome=(atKey xs k).isSome:=by
  rcases r.get k with ⟨a,b⟩ | ⟨d,b,u,v,a,c,_⟩
  · rw [a,b]; rfl
  · rw [a,c]; rfl
theorem KtR.put (r:KtR K H kvs xs) {k:List Int} {b:Addr} {d:D} {v:V} {u:Value} (hb:SqT K H b (k.map V.int)) (rv:RelV v u) (hd:IsD K H d v):KtR K H (putT kvs k d) (storedH xs k b u):=by
  unfold putT storedH
  rw [r.isSome k]
  by_cases q:(atKey xs k).isSome=true
  · rw [if_pos q,if_pos q]
    clear q
    induction r with
    | nil=>exact .nil
    | @cons p q ps qs h t ih=>
      rw [List.map_cons,List.map_cons]
      refine .cons ?_ ih
      obtain⟨h1,h2,v',h3,h4⟩:=h
      unfold putAt
      by_cases e:p.1=k
      · rw [if_pos e,if_pos (h1.symm.trans e)]; exact⟨h1,h2,v,rv,hd⟩
      · rw [if_neg e,if_neg (fun z=>e (h1.trans z))]; exact⟨h1,h2,v',h3,h4⟩
  · rw [if_neg q,if_neg q]
    exact Paired.snoc r ⟨rfl,hb,v,rv,hd⟩
theorem KtR.length (r:KtR K H kvs xs):kvs.length=xs.length:=Paired.length r
theorem KtR.at_:∀ {kvs:List (List Int×D)} {xs:List (List Int×Addr×Value)} {i:Nat} {p:List Int×D},KtR K H kvs xs->kvs[i]?=some p->∃ q,xs[i]?=some q/\p.1=q.1/\SqT K H q.2.1 (p.1.map V.int)/\∃ v,RelV v q.2.2/\IsD K H p.2 v
  | _,_,0,_,.cons h _,e=>by cases e; exact⟨_,rfl,h⟩
  | _,_,i+1,_,.cons _ t,e=>KtR.at_ (i:=i) t e
end
section
variable {X:Cx} {pins:List (Addr×Obj)} {σ:L2.St} {H:Hp} {s:Shared} {a b:Addr} {kvs:List (List Int×D)} {xs:List (List Int×Addr×Value)} {ep:Nat} {k:List Int}
theorem items_int {P:Program} {w:World}:∀ {ks:List Int} {us:List Value},Vals (ks.map V.int) us->PySem.ItemsAre (intKind P w) ks us
  | [],_,r=>by rw [List.map_nil] at r; cases r; exact .nil
  | k::ks,_,r=>by
    rw [List.map_cons] at r
    cases r with
    | cons h t=>
      obtain⟨tk,rfl⟩:=h
      exact .cons (by simp [intKind,Value.isInt]) (items_int t)
theorem key_int (I:Inv X pins σ H s) (h:SqT X.K H b (k.map V.int)):(tupleKind (intKind X.prog X.w)).is s.heap k b:=by
  obtain⟨its,r,⟨o,h1,h2,n,h3⟩,_⟩:=I.tuple h
  exact⟨o,its.toArray,n,h1,h2,h3,by simpa using items_int r⟩
theorem dxp_at (I:Inv X pins σ H s) (e:H a=some (.ext (DxP a xs ep))):(a == sysModules)=false/\xs.length<=sizeLine/\(xs.map (·.1)).Nodup/\s.heap.get? a=some (dxO (xs.map eT).toArray ep):=(I.hok a _ e).1
theorem dx_of (I:Inv X pins σ H s) (e:H a=some (.ext (DxP a xs ep))) (r:KtR X.K H kvs xs):s.heap.DictOfH (tupleKind (intKind X.prog X.w)) a xs:=by
  obtain⟨_,z,nd,g⟩:=dxp_at I e
  refine⟨_,_,ep,g,⟨rfl,rfl,rfl⟩,rfl,rfl,?_,nd⟩
  clear z nd g e
  induction r with
  | nil=>intro x hx; exact nomatch hx
  | @cons p q ps qs h t ih=>
    intro x hx
    rcases List.mem_cons.mp hx with e | hx
    · subst e
      rw [<- h.1]
      exact key_int I h.2.1
    · exact ih x hx
theorem dxp_of {P:Program} {w:World} {h:Heap} (hd:(a == sysModules)=false) (z:xs.length<=sizeLine) (m:h.DictOfH (tupleKind (intKind P w)) a xs):∃ ep,DxP a xs ep h:=by
  obtain⟨⟨c,d,dt,sl⟩,es,ep,g,⟨c1,c2,c3⟩,c4,c5,_,nd⟩:=m
  have q:es=(xs.map eT).toArray:=by
    have:es.toList=xs.map eT:=c5
    rw [<- this]
  refine⟨ep,hd,z,nd,?_⟩
  rw [g]
  cases c1; cases c2; cases c3; cases c4
  rw [q]
  rfl
theorem ext_ok {P:Program} {w:World} {h:Heap} (m:DxP a xs ep h):ObjOk P w H h a (.ext (DxP a xs ep)):=
  ⟨m,⟨_,m.2.2.2⟩,fun h1 h2 p q=>⟨p.1,p.2.1,p.2.2.1,q _ p.2.2.2⟩⟩
theorem storedH_len (xs:List (List Int×Addr×Value)) (k:List Int) (b:Addr) (u:Value):(storedH xs k b u).length<=xs.length+1:=by
  unfold storedH
  split
  · rw [List.length_map]; omega
  · rw [List.length_append]; exact Nat.le_refl _
theorem un1 {n:Nat} {A:Around} (hr:Room n A):A.units+1 < cLine:=by have:=hr.un; omega
def dDGet (go gi:DE):DE:=fun L S k=>go L S fun d S1=>gi L S1 fun e S2=>match d with
  | .ref a=>∃ kvs ep ks c,S2 a=some (.gen (.dT kvs ep))/\e=keyD ks/\getT kvs ks=some c/\k c S2
  | _=>False
def tDGetX (K:Fg) (to ti:TE):TE:=fun σ H Q=>to σ H fun x H1=>ti σ H1 fun y H2=>∃ a b kvs xs ep ks p v,x=.ref a/\y=.ref b/\H2 a=some (.ext (DxP a xs ep))/\KtR K H2 kvs xs/\SqT K H2 b (ks.map V.int)/\atKey xs ks=some p/\RelV v p.2/\Q v H2
theorem pe_dgetX {o i:Expr} {to ti:TE} {pos:Pos} {n:Nat} (hr:Room n X.A) (ho:PE X o to) (hi:PE X i ti) (hs:NoSl i):PE X (.Subscript o i pos) (tDGetX X.K to ti):=by
  intro pins s σ H Q I h
  refine subD_of PySem.F.slot_dict_getitem.lookup hs (thn (ho pins s σ H _ I h) fun u s1 ⟨x,H1,I1,rx,h1⟩=>thn (hi pins s1 σ H1 _ I1 h1) fun iv s2 ⟨y,H2,I2,ry,a,b,kvs,xs,ep,ks,p,v,ex,ey,e1,r1,t1,z2,z3,q⟩=>?_)
  subst ex ey
  obtain rfl:u=Value.ref a:=rx
  cases (show iv=Value.ref b from ry)
  have dd:=dx_of I2 e1 r1
  exact⟨dd.typeIs,wpAny_getItem_heap (tupleKind_room_in1 (un1 hr)) (key_int I2 t1) dd z2 ⟨v,H2,I2.tok _,z3,q⟩⟩
theorem d_dgetj {o i:Expr} {go gi:DE} {pos:Pos} {n:Nat} (hr:Room n X.A) (ho:EJ X o go) (hi:EJ X i gi) (hs:NoSl i):EJ X (.Subscript o i pos) (dDGet go gi):=
  ⟨PE.imp (pe_dgetX hr ho.h hi.h hs) fun σ H Q ⟨L,S,k,hL,hS,h,m⟩=>up.go hL hS h fun d S1 x H1 h1 k1 hL1 hS1 i1=>up.go hL1 hS1 h1 fun e S2 y H2 h2 k2 hL2 hS2 i2=>by
    cases d with
    | ref a=>
      obtain⟨kvs,ep,ks,c,g1,rfl,g3,h2⟩:=h2
      obtain⟨xs,e1,r1⟩:=hS2.dT g1
      obtain⟨b,rfl,t1⟩:=isKey.mp i2
      have ex:=isRef.mp i1
      subst ex
      rcases r1.get ks with ⟨z,_⟩ | ⟨d,b',w,v,z1,z2,z3,z4⟩
      · rw [g3] at z; cases z
      · rw [g3] at z1
        cases z1
        exact⟨a,b,kvs,xs,ep,ks,_,v,rfl,rfl,e1,r1,t1,z2,z3,m c S2 v H2 h2 (k1.trans k2) hS2 z4⟩
    | _=>exact(show False from h2).elim⟩
def dInD (neg:Bool):D2:=fun e d S k=>match d with
  | .ref a=>∃ kvs ep ks,S a=some (.gen (.dT kvs ep))/\e=keyD ks/\k (.bl (if neg then !(getT kvs ks).isSome else(getT kvs ks).isSome)) S
  | _=>False
theorem o_notInD {n:Nat} (hr:Room n X.A):OpR X (compareOp .NotIn) (upR X.K (dInD true)):=by
  intro pins s σ H x y v u Q I rx ry h
  obtain⟨e,d,S,k,i1,i2,hS,r,m⟩:=h
  cases d with
  | ref a=>
    obtain⟨kvs,ep,ks,g1,rfl,r⟩:=r
    obtain⟨xs,e1,r1⟩:=hS.dT g1
    obtain⟨b,rfl,t1⟩:=isKey.mp i1
    have ex:=isRef.mp i2
    subst ex
    cases (show u=Value.ref a from ry)
    cases (show v=Value.ref b from rx)
    refine wpAny_notIn_heap (tupleKind_room_in1 (un1 hr)) (key_int I t1) (dxp_at I e1).1 (dx_of I e1 r1) ?_
    rw [<- r1.isSome ks]
    exact⟨.bl _,H,I.tok _,rfl,up1 m hS r (isBl.mpr rfl)⟩
  | _=>exact(show False from r).elim
def rSetD (K:Fg):TSet:=fun x y v H Q=>∃ a b kvs xs ep ks,x=.ref a/\y=.ref b/\H a=some (.ext (DxP a xs ep))/\KtR K H kvs xs/\SqT K H b (ks.map V.int)/\xs.length < sizeLine/\∀ u ep',RelV v u->Q (upd H a (.ext (DxP a (storedH xs ks b u) ep')))
theorem set_dict {n:Nat} (hr:Room n X.A):PSet X (rSetD X.K):=by
  intro pins s σ H o i v ov iv u Q I ro ri rv h
  obtain⟨a,b,kvs,xs,ep,ks,rfl,rfl,e1,r1,t1,z,q⟩:=h
  cases (show ov=Value.ref a from ro)
  cases (show iv=Value.ref b from ri)
  have hd:=(dxp_at I e1).1
  refine wpAny_setItem_heap (hsz:=Nat.le_of_lt z) (tupleKind_room_in1 (un1 hr)) (key_int I t1) (dx_of I e1 r1) fun h' dd' hs=>?_
  have z':(storedH xs ks b u).length<=sizeLine:=by have:=storedH_len xs ks b u; omega
  obtain⟨ep',m⟩:=dxp_of hd z' dd'
  exact⟨_,d_write I (by rw [e1]; exact True.intro) hs ⟨_,m.2.2.2⟩ (ext_ok m),q u ep' rv⟩
def dgSubD (go gi:DE):DG:=fun d L S k=>go L S fun o S1=>gi L S1 fun i S2=>match o with
  | .ref a=>∃ kvs ep ks,S2 a=some (.gen (.dT kvs ep))/\i=keyD ks/\kvs.length < sizeLine/\∀ ep',k L (put S2 a (.gen (.dT (putT kvs ks d) ep')))
  | _=>False
theorem dg_subD {o i:Expr} {go gi:DE} {pos:Pos} {n:Nat} (hr:Room n X.A) (ho:EJ X o go) (hi:EJ X i gi)
    (ha:∀ v,assign (.Subscript o i pos) X.env v=(do
      let ov <- holding [v] (eval o X.env)
      let iv <- holding [v,ov] (eval i X.env)
      standAt pos
      holding [v,ov,iv] (setItem ov iv v)
      release [v,ov,iv] []):=by intro _; rfl):GJ X (.Subscript o i pos) (dgSubD go gi):=
  ⟨PG.imp (pg_sub ho.h hi.h (set_dict hr) ha) fun v σ H Q ⟨d,L,S,k,i1,hL,hS,h,m⟩=>up.go hL hS h fun c S1 u H1 h1 k1 hL1 hS1 j1=>up.go hL1 hS1 h1 fun c2 S2 u2 H2 h2 k2 hL2 hS2 j2=>by
    cases c with
    | ref a=>
      obtain⟨kvs,ep,ks,g1,rfl,z,h2⟩:=h2
      obtain⟨xs,e1,r1⟩:=hS2.dT g1
      obtain⟨b,rfl,t1⟩:=isKey.mp j2
      have ex:=isRef.mp j1
      subst ex
      refine⟨a,b,kvs,xs,ep,ks,rfl,rfl,e1,r1,t1,by rw [<- r1.length]; exact z,fun w ep' rw'=>?_⟩
      have k3:Kp H2 (upd H2 a (.ext (DxP a (storedH xs ks b w) ep'))):=Kp.mut e1 (fun z=>z)
      exact m L _ σ _ (h2 ep') (k1.trans (k2.trans k3)) (hL2.kp k3) (hS2.setG e1 (fun z=>z) ⟨_,upd_same,(r1.put t1 rw' (i1.kp (k1.trans k2))).kp k3⟩)
    | _=>exact(show False from h2).elim⟩
def dDNew:DE:=fun _ S k=>∀ p,S p=none->∀ ep,k (.ref p) (put S p (.gen (.dT [] ep)))
theorem dxp_empty (h:Heap) (hb:sysModules < h.objs.size):DxP h.objs.size [] 0 (h.push {cls:=.type "dict",data:=.dict #[]}):=
  ⟨beq_eq_false_iff_ne.mpr (Ne.symm (Nat.ne_of_lt hb)),Nat.zero_le _,List.nodup_nil,Heap.get?_push_size _ rfl⟩
theorem d_dnewj {pos:Pos}:EJ X (.Dict [] [] pos) dDNew:=⟨fun pins s σ H Q I ⟨L,S,k,hL,hS,h,m⟩=>by
  have hn:=I.hok.fresh (Nat.le_refl s.heap.objs.size)
  refine wpAny_Dict_empty ⟨.ref s.heap.objs.size,_,I.laid (a:=s.heap.objs.size) (o:=.ext (DxP s.heap.objs.size [] 0)) (t':=s.toks) (fun _ _ q=>Heap.get?_push_of_some _ q) (Nat.le_refl _) (ext_ok (dxp_empty s.heap I.big)),rfl,?_⟩
  exact m _ _ _ _ (h _ (hS.free hn) 0) (Kp.new hn) (hS.newG hn ⟨[],upd_same,.nil⟩) (isRef.mpr rfl)⟩
end
end DL
namespace L2
open PySem PySem.Spec PyProof.Rows
theorem dx_same {X:Cx} {pins:List (Addr×Obj)} {σ:St} {H:Hp} {s:Shared} {a:Addr} {xs ys:List (List Int×Addr×Value)} {ep ep' i:Nat} {x:List Int×Addr×Value} (I:Inv X pins σ H s) (e1:H a=some (.ext (DL.DxP a xs ep))) (e2:H a=some (.ext (DL.DxP a ys ep')))
    (hx:xs[i]?=some x):∃ y,ys[i]?=some y/\DL.eT y=DL.eT x:=by
  have g1:=(DL.dxp_at I e1).2.2.2
  have g2:=(DL.dxp_at I e2).2.2.2
  have z:=Option.some.inj (g1.symm.trans g2)
  have q:xs.map DL.eT=ys.map DL.eT:=by
    unfold DL.dxO at z
    injection z with _ _ z _
    injection z with z _
    exact congrArg Array.toList z
  have w:(ys.map DL.eT)[i]?=some (DL.eT x):=by rw [<- q,List.getElem?_map,hx]; rfl
  rw [List.getElem?_map] at w
  exact Option.map_eq_some_iff.mp w
def Itd (c:DIt) (a:Addr) (ep n:Nat):It:=
  ⟨fun i H => ∃ xs x v, H a = some (.ext (DL.DxP a xs ep)) ∧ xs[i]? = some x ∧ xs.length = n ∧ RelV v (DIt.of (DL.eT x) c),
   fun i H v H'=>H'=H/\∀ xs,H a=some (.ext (DL.DxP a xs ep))->∃ x,xs[i]?=some x/\RelV v (DIt.of (DL.eT x) c),
   fun i H=>∃ xs,H a=some (.ext (DL.DxP a xs ep))/\xs.length=n/\n<=i⟩
theorem turn_dict {P:Program} {w:World} {K:PySem.W.Frag} {tg:Expr} (c:DIt) (a it:Addr) (ep n:Nat):Turn P w K tg (Itd c a ep n) [it] it (fun i h=>h.get? it=some (kiO c.nm a i n ep)) where
  mem:=by simp
  obj:=fun i h st b hb=>by
    have e:b=it:=by simpa using hb
    subst e
    exact⟨_,st,fun v z=>by cases z⟩
  keep:=fun i h h' st k=>k it (by simp) _ st
  item:=by
    intro X hP hw hK hc i pins s σ H E I hf st hg
    subst hP hw hK
    obtain⟨xs,x,v,e1,hx,hn,rv⟩:=hg
    have g:=(DL.dxp_at I e1).2.2.2
    have sz:(xs.map DL.eT).toArray.size=n:=by simp [hn]
    obtain⟨f0,f1,f2,f3,f4,f5⟩:=hf it (by simp)
    refine next_dx c (e:=DL.eT x) (by rw [sz]; exact st) g (by simp [hx]) fun h' st' kk=>?_
    have I1:Inv X pins σ H {s with heap:=h'}:=I.turned (t':=s.toks) kk f0 f1 f3 f4 f5
    rw [sz] at st'
    refine⟨_,rfl,go_of (s:={s with heap:=h'}) (n:=c.nm) st' rfl rfl (by cases c <;> decide) ⟨v,H,I1,rv,⟨rfl,fun ys ey=>?_⟩,st',fun b hb=>(hf b hb).1⟩⟩
    obtain⟨y,y1,y2⟩:=dx_same I e1 ey hx
    exact⟨y,y1,by rw [y2]; exact rv⟩
  done:=by
    intro X hP hw hK hc i pins s σ H E I hf st hg
    subst hP hw hK
    obtain⟨xs,e1,hn,hi⟩:=hg
    have g:=(DL.dxp_at I e1).2.2.2
    have sz:(xs.map DL.eT).toArray.size=n:=by simp [hn]
    obtain⟨f0,f1,f2,f3,f4,f5⟩:=hf it (by simp)
    exact next_dxE c (I.ok.hd hc) (by rw [sz]; exact st) g (by simp; omega) fun h' kk=>⟨rfl,I.turned (t':=s.toks) kk f0 f1 f3 f4 f5⟩
  self:=fun _ _ _ _ _ st h=>self_ki c st h
def Iti (a:Addr) (ep n:Nat):It:=
  ⟨fun i H => ∃ xs x v, H a = some (.ext (DL.DxP a xs ep)) ∧ xs[i]? = some x ∧ xs.length = n ∧ RelV v x.2.2,
   fun i H u H'=>∃ T b v,u=.ref T/\H T=none/\H'=upd H T (.tup [.ref b,v])/\∀ xs,H a=some (.ext (DL.DxP a xs ep))->∃ x,xs[i]?=some x/\b=x.2.1/\RelV v x.2.2,
   fun i H=>∃ xs,H a=some (.ext (DL.DxP a xs ep))/\xs.length=n/\n<=i⟩
theorem turn_items {P:Program} {w:World} {K:PySem.W.Frag} {es:List Expr} {k:Nat} {pos:Pos} (a it:Addr) (ep n:Nat) (ne:it≠a):Turn P w K (.Tuple es k pos) (Iti a ep n) [it] it (fun i h=>∃ ok ov,h.get? it=some (iiO .none (.ref a) i n ep ok ov)) where
  mem:=by simp
  obj:=fun i h st b hb=>by
    have e:b=it:=by simpa using hb
    subst e
    obtain⟨ok,ov,st⟩:=st
    exact⟨_,st,fun v z=>by cases z⟩
  keep:=fun i h h' ⟨ok,ov,st⟩ k=>⟨ok,ov,k it (by simp) _ st⟩
  item:=by
    intro X hP hw hK hc i pins s σ H E I hf st hg
    subst hP hw hK
    obtain⟨ok,ov,st⟩:=st
    obtain⟨xs,x,v,e1,hx,hn,rv⟩:=hg
    have g:=(DL.dxp_at I e1).2.2.2
    have sz:(xs.map DL.eT).toArray.size=n:=by simp [hn]
    have hT:H s.heap.objs.size=none:=I.hok.fresh (Nat.le_refl _)
    have old:it≠s.heap.objs.size:=Nat.ne_of_lt (Heap.lt_size st)
    refine next_di (e:=DL.eT x) (es:=(xs.map DL.eT).toArray) (by rw [sz]; exact st) g (by simp [hx]) fun h' st' tp kk=>?_
    rw [sz] at st'
    have hfi:∀ b∈[it],FpOk X pins H b:=fun b hb=>by
      have e:b=it:=by simpa using hb
      subst e
      exact hf b (by simp)
    have I1:Inv X pins σ (upd H s.heap.objs.size (.tup [.ref x.2.1,v])) {s with heap:=h'}:=I.turnedNew (t':=s.toks) [it] (fun b o hb e=>kk b o (fun q=>hb (by simp [q])) e) hfi (Nat.le_refl _)
      ⟨Nat.le_of_ble_eq_true rfl,[_,_],.cons rfl (.cons rv .nil),⟨_,tp,rfl,_,rfl⟩⟩
    refine⟨_,rfl,go_di (s:={s with heap:=h'}) (es:=(xs.map DL.eT).toArray) (by rw [sz]; exact st') fun h2 st2 kk2=>?_⟩
    rw [sz] at st2
    refine⟨.ref s.heap.objs.size,_,I1.turnedL (t':=s.toks) [it] (fun b o hb e=>kk2 b o (fun q=>hb (by simp [q])) e) (fun b hb=>?_),rfl,⟨_,_,v,rfl,hT,rfl,fun ys ey=>?_⟩,⟨_,_,st2⟩,fun b hb=>?_⟩
    · have e:b=it:=by simpa using hb
      subst e
      obtain⟨f0,f1,f2,f3,f4,f5⟩:=hf b (by simp)
      exact⟨by rw [upd_ne old]; exact f0,f1,f2,f3,f4,f5⟩
    · obtain⟨y,y1,y2⟩:=dx_same I e1 ey hx
      have q1:y.2.1=x.2.1:=Value.ref.inj (congrArg DictEntry.key y2)
      have q2:y.2.2=x.2.2:=congrArg DictEntry.val y2
      exact⟨y,y1,q1.symm,by rw [q2]; exact rv⟩
    · have e:b=it:=by simpa using hb
      subst e
      rw [upd_ne old]
      exact(hf b (by simp)).1
  done:=by
    intro X hP hw hK hc i pins s σ H E I hf st hg
    subst hP hw hK
    obtain⟨ok,ov,st⟩:=st
    obtain⟨xs,e1,hn,hi⟩:=hg
    have g:=(DL.dxp_at I e1).2.2.2
    have sz:(xs.map DL.eT).toArray.size=n:=by simp [hn]
    obtain⟨f0,f1,f2,f3,f4,f5⟩:=hf it (by simp)
    exact next_diE (I.ok.hd hc) (by rw [sz]; exact st) g (by simp; omega) fun h' kk=>⟨rfl,I.turned (t':=s.toks) kk f0 f1 f3 f4 f5⟩
  self:=fun _ _ _ _ _ ⟨_,_,st⟩ h=>self_ii st h
section
variable {X:Cx} {tg l o:Expr} {tl to:TE} {apos cpos:Pos}
def iDict (tl:TE):TI:=fun σ H R=>tl σ H fun x H1=>∃ a ep xs,x=.ref a/\H1 a=some (.ext (DL.DxP a xs ep))/\R (Itd .k a ep xs.length) H1
theorem pi_dict (hl:PE X l tl):PI X tg l (iDict tl):=by
  intro pins s σ H R I h
  refine thn (hl pins s σ H _ I h) fun v s1 ⟨x,H1,I1,r1,a,ep,xs,ex,e1,q⟩=>?_
  subst ex
  cases (show v=Value.ref a from r1)
  obtain⟨hd,_,_,g⟩:=DL.dxp_at I1 e1
  refine pyIter_dk hd g ⟨s1.heap.objs.size,[s1.heap.objs.size],_,_,H1,rfl,I1.kept (t':=s1.toks) fun b o e=>Heap.get?_push_of_some _ e,turn_dict .k a _ ep xs.length,?_,fun b hb=>?_,q⟩
  · show(s1.heap.push _).get? _=_
    rw [Heap.get?_push_size _ rfl]
    simp [DIt.nm]
  · have e:b=s1.heap.objs.size:=by simpa using hb
    subst e
    exact I1.fpOk (Nat.le_refl _) (I1.hok.fresh (Nat.le_refl _))
def iVals (to:TE):TI:=fun σ H R=>to σ H fun x H1=>∃ a ep xs,x=.ref a/\H1 a=some (.ext (DL.DxP a xs ep))/\R (Itd .v a ep xs.length) H1
theorem pi_vals (ho:PE X o to) (hbase:attributeBase o "values" X.env (eval o X.env)=eval o X.env:=by rfl) (hline:(apos.endLine == cpos.line)=true:=by rfl):PI X tg (.Call (.Attribute o "values" apos) [] [] cpos) (iVals to):=by
  intro pins s σ H R I h
  refine wpAny_Call_method0_late hbase hline (thn (ho pins s σ H _ I h) fun v s1 ⟨x,H1,I1,r1,a,ep,xs,ex,e1,q⟩=>?_)
  subst ex
  cases (show v=Value.ref a from r1)
  obtain⟨hd,_,_,g⟩:=DL.dxp_at I1 e1
  refine⟨"dict","dict.values",F.plainAttrs_dict,F.slot_dict_values,F.type_dict_values,⟨_,g,rfl⟩,fun b e=>by cases e; exact⟨_,g,rfl⟩,Calls.callWith_builtin rfl (PySem.evalArgs_none ?_)⟩
  refine call_meetsIn F.slot_dict_values ⟨_,g,rfl⟩ F.entry_dict_values (F.args_dict_values_1 _) (diV a _ ep hd) ⟨g,?_⟩
  have I2:Inv X pins σ H1 {s1 with heap:=s1.heap.push {cls:=.type "dict_values",data:=.fields #[.ref a]}}:=I1.kept (t':=s1.toks) fun b o e=>Heap.get?_push_of_some _ e
  refine pyIter_dv (s:={s1 with heap:=s1.heap.push {cls:=.type "dict_values",data:=.fields #[.ref a]}}) (Heap.get?_push_size _ rfl) (Heap.get?_push_of_some _ g) ⟨_,[_],_,_,H1,rfl,I2.kept (t':=s1.toks) fun b o e=>Heap.get?_push_of_some _ e,turn_dict .v a _ ep xs.length,?_,fun b hb=>?_,q⟩
  · show(Heap.push _ _).get? _=_
    rw [Heap.get?_push_size _ rfl]
    simp [DIt.nm]
  · have e:b=(s1.heap.push {cls:=.type "dict_values",data:=.fields #[.ref a]}).objs.size:=by simpa using hb
    subst e
    exact I2.fpOk (Nat.le_refl _) (I2.hok.fresh (Nat.le_refl _))
def iPairs (to:TE):TI:=fun σ H R=>to σ H fun x H1=>∃ a ep xs,x=.ref a/\H1 a=some (.ext (DL.DxP a xs ep))/\R (Iti a ep xs.length) H1
theorem pi_items {es:List Expr} {k:Nat} {pos:Pos} (ho:PE X o to) (hbase:attributeBase o "items" X.env (eval o X.env)=eval o X.env:=by rfl) (hline:(apos.endLine == cpos.line)=true:=by rfl):PI X (.Tuple es k pos) (.Call (.Attribute o "items" apos) [] [] cpos) (iPairs to):=by
  intro pins s σ H R I h
  refine wpAny_Call_method0_late hbase hline (thn (ho pins s σ H _ I h) fun v s1 ⟨x,H1,I1,r1,a,ep,xs,ex,e1,q⟩=>?_)
  subst ex
  cases (show v=Value.ref a from r1)
  obtain⟨hd,_,_,g⟩:=DL.dxp_at I1 e1
  refine⟨"dict","dict.items",F.plainAttrs_dict,F.slot_dict_items,F.type_dict_items,⟨_,g,rfl⟩,fun b e=>by cases e; exact⟨_,g,rfl⟩,Calls.callWith_builtin rfl (PySem.evalArgs_none ?_)⟩
  refine call_meetsIn F.slot_dict_items ⟨_,g,rfl⟩ F.entry_dict_items (F.args_dict_items_1 _) (diT a _ ep hd) ⟨g,?_⟩
  have I2:Inv X pins σ H1 {s1 with heap:=s1.heap.push {cls:=.type "dict_items",data:=.fields #[.ref a]}}:=I1.kept (t':=s1.toks) fun b o e=>Heap.get?_push_of_some _ e
  have ne:(s1.heap.push {cls:=.type "dict_items",data:=.fields #[.ref a]}).objs.size≠a:=Nat.ne_of_gt (Nat.lt_of_lt_of_le (Heap.lt_size g) (by rw [Heap.size_push]; omega))
  refine pyIter_di (s:={s1 with heap:=s1.heap.push {cls:=.type "dict_items",data:=.fields #[.ref a]}}) (Heap.get?_push_size _ rfl) (Heap.get?_push_of_some _ g) ⟨_,[_],_,_,H1,rfl,I2.kept (t':=s1.toks) fun b o e=>Heap.get?_push_of_some _ e,turn_items a _ ep xs.length ne,⟨.none,.none,?_⟩,fun b hb=>?_,q⟩
  · show(Heap.push _ _).get? _=_
    rw [Heap.get?_push_size _ rfl]
    simp
  · have e:b=(s1.heap.push {cls:=.type "dict_items",data:=.fields #[.ref a]}).objs.size:=by simpa using hb
    subst e
    exact I2.fpOk (Nat.le_refl _) (I2.hok.fresh (Nat.le_refl _))
end
end L2
namespace DL
open PySem PySem.Spec PyProof.Rows L2
abbrev DSrc:=Lo->DH->(List D->(DH->Prop)->DH->Prop)->Prop
structure Goes (K:Fg) (H1:Hp) (J:It) (ds:List D) (ok:DH->Prop):Prop where
  go:∀ i d S2 H2,ds[i]?=some d->Kp H1 H2->Hs K H2 S2->ok S2->J.go i H2/\∀ x H',J.yld i H2 x H'->Kp H2 H'/\Hs K H' S2/\IsD K H' d x
  stop:∀ S2 H2,Kp H1 H2->Hs K H2 S2->ok S2->J.stop ds.length H2
def upI (K:Fg) (g:DSrc):TI:=fun σ H R=>∃ L S k,Lc K H L σ/\Hs K H S/\g L S k/\∀ ds ok S' H' J,k ds ok S'->Kp H H'->Lc K H' L σ->Hs K H' S'->Goes K H' J ds ok->R J H'
structure IJ (X:Cx) (tg iter:Expr) (g:DSrc):Prop where
  h:PI X tg iter (upI X.K g)
def dForI (gi:DSrc) (g:DG) (b:DS):DS:=fun M L S=>gi L S fun ds ok S1=>dLoop ok g b M ds L S1
def dCompI (cap:List (Option Nat)) (gi:DSrc) (g:DG) (bd:DB):DE:=fun L S k=>gi L S fun ds ok S1=>∀ p,S1 p=none->dCLoop ok p g bd k ds [] (capL cap L) (put S1 p (.lst []))
section
variable {K:Fg} {ok:DH->Prop} {gg:DG} {ge:DE} {gc:DT} {k:DK} {ds:List D} {L:Lo} {S:DH} {σ:L2.St} {H:Hp} {J:It} {p:Addr} {Q:V->Hp->Prop}
theorem comp_coreIfG (hL:Lc K H L σ) (hS:Hs K H S) (hp:H p=none) (h:dCLoop ok p gg (bdIf gc ge) k ds [] L (put S p (.lst [])))
    (n:∀ d S' v H',k d S'->Kp H H'->Hs K H' S'->IsD K H' d v->Q v H') (G:Goes K H J ds ok):
    ∃ W:Nat->Nat->L2.St->Hp->Prop,(∃ m,W 0 m σ (upd H p (.lst [])))/\∀ i m σ' H',W i m σ' H'->
      (J.stop i H'/\Q (.ref p) H')\/(J.go i H'/\∃ N:L2.St->Hp->Prop,(∀ σ2 H2,N σ2 H2->∃ m',m' < m/\W (i+1) m' σ2 H2)/\∀ x H2,J.yld i H' x H2->upG K gg x σ' H2 fun σ3 H3=>upT K gc σ3 H3 fun b H3'=>if b=true then up K ge σ3 H3' fun v H4=>∃ ys,H4 p=some (.lst ys)/\ys.length < sizeLine/\N σ3 (upd H4 p (.lst (ys++[v]))) else N σ3 H3'):=by
  refine⟨fun i m σ1 H1=>m=ds.length - i/\i<=ds.length/\∃ acc L1 S1,Lc K H1 L1 σ1/\Hs K H1 S1/\Kp H H1/\dCLoop ok p gg (bdIf gc ge) k (ds.drop i) acc L1 S1,⟨ds.length,by simp,Nat.zero_le _,[],L,_,hL.kp (Kp.new hp),hS.newL hp IsDs.nil,Kp.new hp,h⟩,?_⟩
  rintro i m σ1 H1 ⟨rfl,hi,acc,L1,S1,hL1,hS1,k1,w1⟩
  by_cases hlt:i < ds.length
  · have e:ds.drop i=ds[i]::ds.drop (i+1):=List.drop_eq_getElem_cons hlt
    rw [e] at w1
    obtain⟨o1,w1⟩:=w1
    obtain⟨g1,y1⟩:=G.go i ds[i] S1 H1 (by simp [hlt]) k1 hS1 o1
    refine .inr ⟨g1,fun σ' H'=>i+1<=ds.length/\∃ acc L' S',Lc K H' L' σ'/\Hs K H' S'/\Kp H H'/\dCLoop ok p gg (bdIf gc ge) k (ds.drop (i+1)) acc L' S',fun σ' H' ⟨q1,q2⟩=>⟨ds.length - (i+1),by omega,rfl,q1,q2⟩,fun x H' y=>?_⟩
    obtain⟨k0,hS0,ix⟩:=y1 x H' y
    refine⟨ds[i],L1,S1,_,ix,hL1.kp k0,hS0,w1,fun L2 S2 σ2 H2 q k2 hL2 hS2=>upT.go hL2 hS2 q fun b S2' H2' h2 k2' hL2' hS2'=>?_⟩
    have kk:=((k1.trans k0).trans k2).trans k2'
    cases b with
    | true=>
      rw [if_pos rfl] at h2 ⊢
      refine up.go hL2' hS2' h2 fun d S3 v H3 h3 k3 hL3 hS3 i3=>?_
      obtain⟨z1,z2,z3⟩:=h3
      obtain⟨xs,hl,j⟩:=hS3.lst z1
      have k4:Kp H3 (upd H3 p (.lst (xs++[v]))):=Kp.mut hl (fun z=>z)
      exact⟨xs,hl,by rw [<- j.length]; exact z2,hlt,_,L2,_,hL3.kp k4,hS3.setL hl (j.append (IsDs.cons i3 IsDs.nil)),(kk.trans k3).trans k4,z3⟩
    | false=>
      rw [if_neg Bool.false_ne_true] at h2 ⊢
      exact⟨hlt,acc,L2,_,hL2',hS2',kk,h2⟩
  · have e:i=ds.length:=by omega
    subst e
    rw [List.drop_length] at w1
    obtain⟨o1,w1⟩:=w1
    exact .inl ⟨G.stop S1 H1 k1 hS1 o1,n _ S1 _ H1 w1 k1 hS1 (isRef.mpr rfl)⟩
end
section
variable {X:Cx} {tg iter elt c:Expr} {gi:DSrc} {gg:DG} {g:DS} {ge:DE} {gc:DT} {body:List Stmt} {pos:Pos} {scope:Scope} {cl:List (Str×Addr)} {N:List Str} {cap:List (Option Nat)}
theorem dst_forIj (hp:PassesOwn (model X.prog X.w) X.A X.env X.xe) (hc:X.calm=true) (hi:IJ X tg iter gi) (hg:GJ X tg gg) (hb:SsJ X body g) (hs:∀ x,foldedSetIterable iter X.env x=pure x:=by intro _; rfl):
    SJ X (.For tg iter body [] pos) (dForI gi gg g):=
  ⟨PS.imp (ps_for hp hc hi.h hg.h hb.h hs) fun N σ H ⟨L,S,M,hL,hS,h,r⟩=>⟨L,S,_,hL,hS,h,fun ds ok S1 H1 J h1 k1 hL1 hS1 G=>for_coreG hL1 hS1 h1 (r.kp k1) G.go G.stop⟩⟩
theorem compI_go {K:Fg}:∀ σ H Q,up K (dCompI cap gi gg (bdAll ge)) σ H Q->tComp cap (upI K gi) (upG K gg) (up K ge) σ H Q:=fun σ H Q ⟨L,S,k,hL,hS,h,n⟩=>
  ⟨L,S,_,hL,hS,h,fun ds ok S1 H1 J h1 k1 hL1 hS1 G D hD=>comp_coreG (hL1.cap cap) hS1 hD (h1 D (hS1.free hD)) (fun d S' v H' q k3=>n d S' v H' q (k1.trans k3)) G.go G.stop⟩
theorem compIIf_go {K:Fg}:∀ σ H Q,up K (dCompI cap gi gg (bdIf gc ge)) σ H Q->tCompIf cap (upI K gi) (upG K gg) (upT K gc) (up K ge) σ H Q:=fun σ H Q ⟨L,S,k,hL,hS,h,n⟩=>
  ⟨L,S,_,hL,hS,h,fun ds ok S1 H1 J h1 k1 hL1 hS1 G D hD=>comp_coreIfG (hL1.cap cap) hS1 hD (h1 D (hS1.free hD)) (fun d S' v H' q k3=>n d S' v H' q (k1.trans k3)) G⟩
theorem d_compIj (hc:X.calm=true) (Sc:CompSc X scope cl N cap) (hi:IJ X tg iter gi) (hg:∀ s0 H0 ex C,GJ (cxC X scope cl N s0 H0 ex C) tg gg) (he:∀ s0 H0 ex C,EJ (cxC X scope cl N s0 H0 ex C) elt ge)
    (hs:∀ x,foldedSetIterable iter X.env x=pure x:=by intro _; rfl):EJ X (.ListComp elt [⟨tg,iter,[],0⟩] scope pos) (dCompI cap gi gg (bdAll ge)):=
  ⟨PE.imp (pe_comp hc Sc hi.h (fun s0 H0 ex C=>(hg s0 H0 ex C).h) (fun s0 H0 ex C=>(he s0 H0 ex C).h) hs) compI_go⟩
theorem d_compIIfj (hc:X.calm=true) (Sc:CompSc X scope cl N cap) (hi:IJ X tg iter gi) (hg:∀ s0 H0 ex C,GJ (cxC X scope cl N s0 H0 ex C) tg gg) (hcnd:∀ s0 H0 ex C,TJ (cxC X scope cl N s0 H0 ex C) c gc) (he:∀ s0 H0 ex C,EJ (cxC X scope cl N s0 H0 ex C) elt ge)
    (hs:∀ x,foldedSetIterable iter X.env x=pure x:=by intro _; rfl):EJ X (.ListComp elt [⟨tg,iter,[c],0⟩] scope pos) (dCompI cap gi gg (bdIf gc ge)):=
  ⟨PE.imp (pe_compIf hc Sc hi.h (fun s0 H0 ex C=>(hg s0 H0 ex C).h) (fun s0 H0 ex C=>(hcnd s0 H0 ex C).h) (fun s0 H0 ex C=>(he s0 H0 ex C).h) hs) compIIf_go⟩
end
def outD (c:DIt) (kvs:List (List Int×D)):List D:=kvs.map fun p=>match c with
  | .k=>keyD p.1
  | .v=>p.2
def pairsD (kvs:List (List Int×D)):List D:=kvs.map fun p=>.tup [keyD p.1,p.2]
def srcD (gi:DE) (f:List (List Int×D)->List D):DSrc:=fun L S k=>gi L S fun d S1=>match d with
  | .ref a=>∃ kvs ep,S1 a=some (.gen (.dT kvs ep))/\k (f kvs) (fun S=>S a=some (.gen (.dT kvs ep))) S1
  | _=>False
theorem goes_dict (c:DIt) {K:Fg} {H1:Hp} {a:Addr} {kvs:List (List Int×D)} {ep:Nat}:Goes K H1 (Itd c a ep kvs.length) (outD c kvs) (fun S=>S a=some (.gen (.dT kvs ep))) where
  go:=fun i d S2 H2 e k2 hS2 ok=>by
    obtain⟨xs,e1,r1⟩:=hS2.dT ok
    unfold outD at e
    rw [List.getElem?_map] at e
    obtain⟨p,hp,rfl⟩:=Option.map_eq_some_iff.mp e
    obtain⟨q,hq,h1,h2,v,h3,h4⟩:=r1.at_ hp
    cases c with
    | k=>
      refine⟨⟨xs,q,.ref q.2.1,e1,hq,r1.length.symm,rfl⟩,?_⟩
      rintro x H' ⟨rfl,al⟩
      obtain⟨q',hq',rv⟩:=al xs e1
      rw [hq] at hq'
      cases hq'
      rw [RelV.inj (show RelV x (Value.ref q.2.1) from rv) (show RelV (.ref q.2.1) (Value.ref q.2.1) from rfl)]
      exact⟨Kp.refl _,hS2,isKey.mpr ⟨_,rfl,h2⟩⟩
    | v=>
      refine⟨⟨xs,q,v,e1,hq,r1.length.symm,h3⟩,?_⟩
      rintro x H' ⟨rfl,al⟩
      obtain⟨q',hq',rv⟩:=al xs e1
      rw [hq] at hq'
      cases hq'
      rw [RelV.inj (show RelV x q.2.2 from rv) h3]
      exact⟨Kp.refl _,hS2,h4⟩
  stop:=fun S2 H2 k2 hS2 ok=>by
    obtain⟨xs,e1,r1⟩:=hS2.dT ok
    exact⟨xs,e1,r1.length.symm,by unfold outD; rw [List.length_map]; exact Nat.le_refl _⟩
theorem goes_pairs {K:Fg} {H1:Hp} {a:Addr} {kvs:List (List Int×D)} {ep:Nat}:Goes K H1 (Iti a ep kvs.length) (pairsD kvs) (fun S=>S a=some (.gen (.dT kvs ep))) where
  go:=fun i d S2 H2 e k2 hS2 ok=>by
    obtain⟨xs,e1,r1⟩:=hS2.dT ok
    unfold pairsD at e
    rw [List.getElem?_map] at e
    obtain⟨p,hp,rfl⟩:=Option.map_eq_some_iff.mp e
    obtain⟨q,hq,h1,h2,v,h3,h4⟩:=r1.at_ hp
    refine⟨⟨xs,q,v,e1,hq,r1.length.symm,h3⟩,?_⟩
    rintro x H' ⟨T,b,v',rfl,hT,rfl,al⟩
    obtain⟨q',hq',rfl,rv⟩:=al xs e1
    rw [hq] at hq'
    cases hq'
    rw [RelV.inj rv h3]
    have kn:Kp H2 (upd H2 T (.tup [.ref q.2.1,v])):=Kp.new hT
    exact⟨kn,hS2.new hT,isTup.mpr ⟨T,_,rfl,SqT.of upd_same,IsDs.cons (isKey.mpr ⟨_,rfl,kn.tup h2⟩) (IsDs.cons (h4.kp kn) IsDs.nil)⟩⟩
  stop:=fun S2 H2 k2 hS2 ok=>by
    obtain⟨xs,e1,r1⟩:=hS2.dT ok
    exact⟨xs,e1,r1.length.symm,by unfold pairsD; rw [List.length_map]; exact Nat.le_refl _⟩
section
variable {X:Cx} {tg o:Expr} {go:DE} {apos cpos:Pos}
theorem i_keysj (ho:EJ X o go):IJ X tg o (srcD go (outD .k)):=⟨PI.imp (pi_dict ho.h) fun σ H R ⟨L,S,k,hL,hS,h,n⟩=>up.go hL hS h fun d S1 v H1 h1 k1 hL1 hS1 i1=>by
    cases d with
    | ref a=>
      obtain⟨kvs,ep,g1,h1⟩:=h1
      obtain⟨xs,e1,r1⟩:=hS1.dT g1
      have ex:=isRef.mp i1
      subst ex
      exact⟨a,ep,xs,rfl,e1,n _ _ _ _ _ h1 k1 hL1 hS1 (r1.length▸goes_dict .k)⟩
    | _=>exact(show False from h1).elim⟩
theorem i_valsj (ho:EJ X o go) (hbase:attributeBase o "values" X.env (eval o X.env)=eval o X.env:=by rfl) (hline:(apos.endLine == cpos.line)=true:=by rfl):IJ X tg (.Call (.Attribute o "values" apos) [] [] cpos) (srcD go (outD .v)):=⟨PI.imp (pi_vals ho.h hbase hline) fun σ H R ⟨L,S,k,hL,hS,h,n⟩=>up.go hL hS h fun d S1 v H1 h1 k1 hL1 hS1 i1=>by
    cases d with
    | ref a=>
      obtain⟨kvs,ep,g1,h1⟩:=h1
      obtain⟨xs,e1,r1⟩:=hS1.dT g1
      have ex:=isRef.mp i1
      subst ex
      exact⟨a,ep,xs,rfl,e1,n _ _ _ _ _ h1 k1 hL1 hS1 (r1.length▸goes_dict .v)⟩
    | _=>exact(show False from h1).elim⟩
theorem i_itemsj {es:List Expr} {k:Nat} {pos:Pos} (ho:EJ X o go) (hbase:attributeBase o "items" X.env (eval o X.env)=eval o X.env:=by rfl) (hline:(apos.endLine == cpos.line)=true:=by rfl):IJ X (.Tuple es k pos) (.Call (.Attribute o "items" apos) [] [] cpos) (srcD go pairsD):=⟨PI.imp (pi_items ho.h hbase hline) fun σ H R ⟨L,S,k,hL,hS,h,n⟩=>up.go hL hS h fun d S1 v H1 h1 k1 hL1 hS1 i1=>by
    cases d with
    | ref a=>
      obtain⟨kvs,ep,g1,h1⟩:=h1
      obtain⟨xs,e1,r1⟩:=hS1.dT g1
      have ex:=isRef.mp i1
      subst ex
      exact⟨a,ep,xs,rfl,e1,n _ _ _ _ _ h1 k1 hL1 hS1 (r1.length▸goes_pairs)⟩
    | _=>exact(show False from h1).elim⟩
end
section
variable {X:Cx} {o e f:Expr} {go ge gf:DE} {to te tf:TE} {apos cpos:Pos}
def tGet2X (K:Fg) (to te tf:TE):TE:=fun σ H Q=>to σ H fun x H1=>∃ a xs ep,x=.ref a/\H1 a=some (.ext (DxP a xs ep))/\te σ H1 fun y H2=>tf σ H2 fun z H3=>∃ b kvs xs ep ks v,y=.ref b/\H3 a=some (.ext (DxP a xs ep))/\KtR K H3 kvs xs/\SqT K H3 b (ks.map V.int)/\(∀ r,RelV z r->RelV v (((atKey xs ks).map (·.2)).getD r))/\Q v H3
theorem pe_get2X {n:Nat} (hr:Room n X.A) (ho:PE X o to) (he:PE X e te) (hf:PE X f tf) (m:M2 X o "get" apos e f cpos):PE X (.Call (.Attribute o "get" apos) [e,f] [] cpos) (tGet2X X.K to te tf):=by
  intro pins s σ H Q I h
  refine wpAny_Call_method m.base m.few m.line PySem.F.plainAttrs_dict PySem.F.slot_dict_get PySem.F.type_dict_get (thn (ho pins s σ H _ I h) fun u s1 ⟨x,H1,I1,rx,a,xs,ep,ex,e1,q1⟩=>?_)
  subst ex
  obtain rfl:u=Value.ref a:=rx
  have g:=(dxp_at I1 e1).2.2.2
  refine⟨⟨_,g,rfl⟩,fun b eb=>by cases eb; exact⟨_,g,rfl⟩,?_⟩
  rw [m.trees]
  refine Calls.callWith_builtin rfl (Calls.evalArgs_plain (Calls.spliced_cons (thn (he pins s1 σ H1 _ I1 q1) fun iv s2 ⟨y,H2,I2,ry,q2⟩=>Calls.spliced_cons (thn (hf pins s2 σ H2 _ I2 q2) fun r s3 ⟨z,H3,I3,rz,b,kvs,xs,ep,ks,v,ey,e3,r3,t3,g3,q3⟩=>Calls.spliced_nil ?_))))
  subst ey
  cases (show iv=Value.ref b from ry)
  have dd:=dx_of I3 e3 r3
  exact call_meetsIn PySem.F.slot_dict_get dd.typeIs PySem.F.entry_dict_get (PySem.F.args_dict_get_3 _ _ _) (meetsH_dict_get_default (tupleKind (intKind X.prog X.w)) a b (dxp_at I3 e3).1 r) ⟨tupleKind_room_in1 (un1 hr),ks,xs,key_int I3 t3,dd,v,H3,I3.tok _,g3 r rz,q3⟩
def dGet2 (go ge gf:DE):DE:=fun L S k=>go L S fun d S1=>match d with
  | .ref a=>(∃ kvs ep,S1 a=some (.gen (.dT kvs ep)))/\ge L S1 fun y S2=>gf L S2 fun z S3=>∃ kvs ep ks,S3 a=some (.gen (.dT kvs ep))/\y=keyD ks/\k ((getT kvs ks).getD z) S3
  | _=>False
theorem d_get2j {n:Nat} (hr:Room n X.A) (ho:EJ X o go) (he:EJ X e ge) (hf:EJ X f gf) (m:M2 X o "get" apos e f cpos:=by exact⟨rfl,rfl,rfl,rfl⟩):EJ X (.Call (.Attribute o "get" apos) [e,f] [] cpos) (dGet2 go ge gf):=
  ⟨PE.imp (pe_get2X hr ho.h he.h hf.h m) fun σ H Q ⟨L,S,k,hL,hS,h,n⟩=>up.go hL hS h fun d S1 x H1 h1 k1 hL1 hS1 i1=>by
    cases d with
    | ref a=>
      obtain⟨⟨kvs,ep,g1⟩,h1⟩:=h1
      obtain⟨xs,e1,_⟩:=hS1.dT g1
      have ex:=isRef.mp i1
      subst ex
      refine⟨a,xs,ep,rfl,e1,up.go hL1 hS1 h1 fun y S2 vy H2 h2 k2 hL2 hS2 i2=>up.go hL2 hS2 h2 fun z S3 vz H3 h3 k3 hL3 hS3 i3=>?_⟩
      obtain⟨kvs,ep,ks,g3,rfl,h3⟩:=h3
      obtain⟨xs,e3,r3⟩:=hS3.dT g3
      obtain⟨b,rfl,t3⟩:=isKey.mp (i2.kp k3)
      have kk:=(k1.trans k2).trans k3
      rcases r3.get ks with ⟨z1,z2⟩ | ⟨d,b',w,v,z1,z2,z3,z4⟩
      · rw [z1] at h3
        exact⟨b,kvs,xs,ep,ks,vz,rfl,e3,r3,t3,fun r q=>by rw [z2]; exact q,n _ _ _ _ h3 kk hS3 i3⟩
      · rw [z1] at h3
        exact⟨b,kvs,xs,ep,ks,v,rfl,e3,r3,t3,fun r q=>by rw [z2]; exact z3,n _ _ _ _ h3 kk hS3 z4⟩
    | _=>exact(show False from h1).elim⟩
def bLenD:DSp:=fun ds S k=>match ds with
  | [.ref a]=>∃ kvs ep,S a=some (.gen (.dT kvs ep))/\k (.int kvs.length) S
  | _=>False
theorem b_lenD:CallR X (.builtin "len") (upC X.K bLenD):=by
  intro pins s σ H xs us Q I rs h
  obtain⟨ds,S,k,i,hS,r,n⟩:=h
  unfold bLenD at r
  split at r
  · rename_i a
    obtain⟨kvs,ep,g1,r⟩:=r
    obtain⟨v,rfl,j⟩:=isDs1 i
    have ex:=isRef.mp j
    subst ex
    obtain⟨ys,e1,r1⟩:=hS.dT g1
    obtain⟨u,rfl,ru⟩:=vals1 rs
    cases (show u=Value.ref a from ru)
    obtain⟨hd,z,_,g⟩:=dxp_at I e1
    have T:s.TypeIs (.ref a) "dict":=⟨_,g,rfl⟩
    have sz:(ys.map eT).toArray.size=kvs.length:=by simp [r1.length]
    have hl:(kvs.length:Int) < 2 ^ 63:=by rw [r1.length]; rw [sizeLine_eq] at z; omega
    refine PyProof.Rows.call_len_slot (n:=kvs.length) T F.slot_dict_len (fun Q' q=>call_meetsIn F.slot_dict_len T F.entry_dict_len (F.args_dict_len_1 _) (dLn a _ ep hd) ⟨g,?_⟩) (by omega) (by omega) ⟨.int kvs.length,H,I.tok _,⟨_,rfl⟩,n _ _ _ _ r (Kp.refl H) hS (isInt.mpr rfl)⟩
    rw [sz]
    exact q
  · exact r.elim
def bIsiD:DSp:=fun ds S k=>match ds with
  | [.ref a,.ty c]=>∃ kvs ep,S a=some (.gen (.dT kvs ep))/\k (.bl (subT .dic c)) S
  | _=>False
theorem b_isiD:CallR X (.builtin "isinstance") (upC X.K bIsiD):=by
  intro pins s σ H xs us Q I rs h
  obtain⟨ds,S,k,i,hS,r,n⟩:=h
  unfold bIsiD at r
  split at r
  · rename_i a c
    obtain⟨kvs,ep,g1,r⟩:=r
    obtain⟨x,y,rfl,i1,i2⟩:=isDs2 i
    have e2:=isTy.mp i2
    have e1:=isRef.mp i1
    subst e2 e1
    obtain⟨u,w',rfl,r1,r2⟩:=vals2 rs
    cases (show w'=Value.type c.name from r2)
    cases (show u=Value.ref a from r1)
    obtain⟨ys,e1,_⟩:=hS.dT g1
    exact PySem.W.kia_one PySem.W.kitx_dict I.kIn ⟨_,(dxp_at I e1).2.2.2,rfl⟩ (kit_of .dic c) (fun z=>nomatch z) fun tk=>⟨.bl (subT .dic c),H,I.tok tk,rfl,n _ _ _ _ r (Kp.refl H) hS (isBl.mpr rfl)⟩
  · exact r.elim
end
abbrev DPs:=Lo->DH->(List (D×D)->DH->Prop)->Prop
def dpNil:DPs:=fun _ S k=>k [] S
def dpCons (gk gv:DE) (t:DPs):DPs:=fun L S k=>gk L S fun x S1=>gv L S1 fun y S2=>t L S2 fun ps S3=>k ((x,y)::ps) S3
abbrev IsPs (K:Fg) (H:Hp):List (D×D)->List (V×V)->Prop:=Paired fun d p=>IsD K H d.1 p.1/\IsD K H d.2 p.2
def upP (K:Fg) (t:DPs):L2.St->Hp->(List (V×V)->Hp->Prop)->Prop:=fun σ H Q=>∃ L S k,Lc K H L σ/\Hs K H S/\t L S k/\∀ ds S' ps H',k ds S'->Kp H H'->Hs K H' S'->IsPs K H' ds ps->Q ps H'
structure PJ (X:Cx) (pos:Pos) (keys:List (Option Expr)) (values:List Expr) (t:DPs):Prop where
  h:∀ (pins:List (Addr×Obj)) (s:Shared) (σ:L2.St) (H:Hp) (Q:List (V×V)->Hp->Prop),Inv X pins σ H s->upP X.K t σ H Q->
    wpAny (model X.prog X.w) X.A (evalPairs (pairTrees keys values X.env pos)) (fun vs s'=>∃ ps H',Inv X pins σ H' s'/\VV ps vs/\Q ps H') X.xe s
section
variable {X:Cx} {pos:Pos}
theorem pj_nil:PJ X pos [] [] dpNil:=⟨fun pins s σ H Q I ⟨L,S,k,hL,hS,h,n⟩=>pairTrees_nil_walk ⟨[],H,I,.nil,n [] S [] H h (Kp.refl H) hS .nil⟩⟩
theorem pj_cons {a b:Expr} {ks:List (Option Expr)} {vs:List Expr} {ga gb:DE} {t:DPs} (ha:EJ X a ga) (hb:EJ X b gb) (hr:PJ X pos ks vs t):PJ X pos (some a::ks) (b::vs) (dpCons ga gb t):=
  ⟨fun pins s σ H Q I ⟨L,S,k,hL,hS,h,n⟩=>by
    refine pairTrees_cons_walk (thn (ha.h pins s σ H (fun x H1=>up X.K gb σ H1 fun y H2=>upP X.K t σ H2 fun ps H3=>Q ((x,y)::ps) H3) I ?_) fun u s1 ⟨x,H1,I1,rx,q1⟩=>thn (hb.h pins s1 σ H1 _ I1 q1) fun w2 s2 ⟨y,H2,I2,ry,q2⟩=>
      thn (hr.h pins s2 σ H2 _ I2 q2) fun ws s3 ⟨ps,H3,I3,rel,q3⟩=>⟨(x,y)::ps,H3,I3,.cons ⟨rx,ry⟩ rel,q3⟩)
    exact up.go hL hS h fun d S1 v H1 h1 k1 hL1 hS1 i1=>up.go hL1 hS1 h1 fun e S2 u H2 h2 k2 hL2 hS2 i2=>⟨L,S2,_,hL2,hS2,h2,fun ds S3 ps H3 h3 k3 hS3 i3=>n _ S3 _ H3 h3 ((k1.trans k2).trans k3) hS3 (.cons ⟨i1.kp (k2.trans k3),i2.kp k3⟩ i3)⟩⟩
end
section
variable {prog:Program} {w:World} {A:Around} {E:Value->Shared->Prop} {d:Addr}
theorem store_all (hu:A.units < cLine):∀ (vs:List (Value×Value)) (ks acc:List (List Int×Addr×Value)) (s:Shared) (Q:PUnit->Shared->Prop),Paired (fun v k=>v.1=.ref k.2.1/\v.2=k.2.2) vs ks->
    (∀ k∈ks,(tupleKind (intKind prog w)).is s.heap k.1 k.2.1)->s.heap.DictOfH (tupleKind (intKind prog w)) d acc->acc.length+ks.length<=sizeLine->
    (∀ h' tk,h'.DictOfH (tupleKind (intKind prog w)) d (ks.foldl (fun acc k=>storedH acc k.1 k.2.1 k.2.2) acc)->Heap.SameBut d s.heap h'->Q PUnit.unit {s with heap:=h',toks:=tk})->
    wpAny (model prog w) A (forIn vs PUnit.unit fun(x:Value×Value) (_:PUnit)=>(do dictSet d x.1 x.2; pure (ForInStep.yield PUnit.unit):Sem (ForInStep PUnit))) Q E s
  | _,_,acc,s,Q,.nil,_,hm,_,hQ=>by
    rw [List.forIn_nil]
    exact wpAny_pure (hQ s.heap s.toks hm (Heap.SameBut.refl _ _))
  | (_,_)::vs,k::ks,acc,s,Q,.cons h t,hk,hm,hz,hQ=>by
    obtain⟨h1,h2⟩:=h
    simp only at h1 h2
    subst h1 h2
    rw [List.length_cons] at hz
    rw [List.forIn_cons]
    have hl:=storedH_len acc k.1 k.2.1 k.2.2
    refine wpAny_bind (wpAny_bind (wpAny_dictSet_heap (hsz:=by omega) (show (tupleKind (intKind prog w)).room A from hu) (hk k (by simp)) hm fun h1 m1 s1=>wpAny_pure (store_all hu vs ks (storedH acc k.1 k.2.1 k.2.2) _ Q t (fun q hq=>?_) m1 (by omega) fun h' tk m' s'=>hQ h' tk m' (s1.trans s'))))
    obtain⟨o,es,ep,g,_,dt,_⟩:=hm
    exact(tupleKind (intKind prog w)).keeps (hk q (by simp [hq])) g dt s1
end
def mergeT (acc kvs:List (List Int×D)):List (List Int×D):=kvs.foldl (fun acc kv=>putT acc kv.1 kv.2) acc
theorem KtR.merge {K:Fg} {H:Hp}:∀ {kvs:List (List Int×D)} {xs:List (List Int×Addr×Value)} {acc:List (List Int×D)} {ys:List (List Int×Addr×Value)},KtR K H kvs xs->KtR K H acc ys->KtR K H (mergeT acc kvs) (xs.foldl (fun acc k=>storedH acc k.1 k.2.1 k.2.2) ys)
  | _,_,_,_,.nil,r=>r
  | (k,d)::_,x::_,_,_,.cons h t,r=>by
    obtain⟨h1,h2,v,h3,h4⟩:=h
    simp only at h1
    subst h1
    rename_i t1 t2 a b
    exact KtR.merge (kvs:=t1) (xs:=t2) (acc:=putT a x.1 d) (ys:=storedH b x.1 x.2.1 x.2.2) t (r.put h2 h3 h4)
theorem foldH_len:∀ (ks acc:List (List Int×Addr×Value)),(ks.foldl (fun acc k=>storedH acc k.1 k.2.1 k.2.2) acc).length<=acc.length+ks.length
  | [],acc=>Nat.le_refl _
  | k::ks,acc=>by
    have h1:=foldH_len ks (storedH acc k.1 k.2.1 k.2.2)
    have h2:=storedH_len acc k.1 k.2.1 k.2.2
    rw [List.foldl_cons,List.length_cons]
    omega
theorem raw_of {K:Fg} {H:Hp}:∀ {kvs:List (List Int×D)} {ps:List (V×V)} {vs:List (Value×Value)},IsPs K H (kvs.map fun kv=>(keyD kv.1,kv.2)) ps->VV ps vs->∃ xs,KtR K H kvs xs/\Paired (fun v (k:List Int×Addr×Value)=>v.1=.ref k.2.1/\v.2=k.2.2) vs xs
  | [],_,_,r,q=>by rw [List.map_nil] at r; cases r; cases q; exact⟨[],.nil,.nil⟩
  | kv::kvs,_,_,r,q=>by
    rw [List.map_cons] at r
    cases r with
    | @cons _ p _ _ h t=>
      cases q with
      | @cons _ b _ _ h' t'=>
        obtain⟨xs,a1,a2⟩:=raw_of t t'
        obtain⟨c,e,t1⟩:=isKey.mp h.1
        have h1:=h'.1
        rw [e] at h1
        exact⟨(kv.1,c,b.2)::xs,.cons ⟨rfl,t1,p.2,h'.2,h.2⟩ a1,.cons ⟨h1,rfl⟩ a2⟩
def tDispX (K:Fg) (t:L2.St->Hp->(List (V×V)->Hp->Prop)->Prop):TE:=fun σ H Q=>∀ p,H p=none->t σ (upd H p (.ext (DxP p [] 0))) fun ps H2=>∃ ep,H2 p=some (.ext (DxP p [] ep))/\∃ kvs:List (List Int×D),IsPs K H2 (kvs.map fun kv=>(keyD kv.1,kv.2)) ps/\kvs.length<=15/\
  ∀ xs ep',KtR K H2 kvs xs->Q (.ref p) (upd H2 p (.ext (DxP p (xs.foldl (fun acc k=>storedH acc k.1 k.2.1 k.2.2) []) ep')))
theorem pe_dispX {X:Cx} {pos:Pos} {keys:List (Option Expr)} {values:List Expr} {t:DPs} {n:Nat} (hr:Room n X.A) (h:PJ X pos keys values t) (hall:keys.all (·.isSome)=true:=by rfl) (hl:keys.length=values.length:=by rfl) (h0:keys≠[]:=by simp)
    (h15:keys.length<=15:=by decide):PE X (.Dict keys values pos) (tDispX X.K (upP X.K t)):=by
  intro pins s σ H Q I q
  have hn:=I.hok.fresh (Nat.le_refl s.heap.objs.size)
  have hlen:=pairTrees_length keys values X.env pos hall hl
  have I1:=I.laid (a:=s.heap.objs.size) (o:=.ext (DxP s.heap.objs.size [] 0)) (h':=s.heap.push {cls:=.type "dict",data:=.dict #[]}) (t':=s.toks) (fun _ _ q=>Heap.get?_push_of_some _ q) (Nat.le_refl _) (ext_ok (dxp_empty s.heap I.big))
  rw [arm_eval_Dict,zip_pairTrees keys values X.env pos hall hl,dictDisplay_pairs _ (fun e=>h0 (by rw [e] at hlen; exact List.length_eq_zero_iff.mp hlen.symm)) (by omega)]
  refine wpAny_bind (wpAny_standAt (wpAny_bind ?_))
  unfold subDict
  refine wpAny_bind (wpAny_alloc (wpAny_bind (wpAny_holding ?_)))
  rw [if_pos (by omega)]
  refine wpAny_bind (thn (h.h pins _ σ _ _ I1 (q _ hn)) fun ws s2 ⟨ps,H2,I2,rel,ep,e2,kvs,r2,lk,q2⟩=>wpAny_holding (wpAny_bind ?_))
  obtain⟨xs,rx,rw'⟩:=raw_of r2 rel
  have hd:=(dxp_at I2 e2).1
  have hz:xs.length<=15:=by rw [<- rx.length]; exact lk
  refine store_all (Nat.lt_of_succ_lt (un1 hr)) ws xs [] s2 _ rw' (fun x hx=>?_) (dx_of I2 e2 (kvs:=[]) .nil) (by rw [sizeLine_eq,List.length_nil]; omega) fun h' tk dd' hs=>?_
  · clear rw' hz q2
    clear r2 lk
    induction rx with
    | nil=>exact nomatch hx
    | @cons p q ps qs h t ih=>
      rcases List.mem_cons.mp hx with e | hx
      · subst e
        rw [<- h.1]
        exact key_int I2 h.2.1
      · exact ih hx
  · have z':(xs.foldl (fun acc k=>storedH acc k.1 k.2.1 k.2.2) []).length<=sizeLine:=by have:=foldH_len xs []; rw [List.length_nil] at this; rw [sizeLine_eq]; omega
    obtain⟨ep',m⟩:=dxp_of hd z' dd'
    exact wpAny_pure (wpAny_pure (wpAny_pure ⟨.ref s.heap.objs.size,_,d_write (t':=tk) I2 (by rw [e2]; exact True.intro) hs ⟨_,m.2.2.2⟩ (ext_ok m),rfl,q2 xs ep' rx⟩))
def dDisp (t:DPs):DE:=fun L S k=>∀ p,S p=none->∀ ep,t L (put S p (.gen (.dT [] ep))) fun ds S2=>∃ ep' kvs,S2 p=some (.gen (.dT [] ep'))/\ds=kvs.map (fun (kv:List Int×D)=>(keyD kv.1,kv.2))/\kvs.length<=15/\∀ ep2,k (.ref p) (put S2 p (.gen (.dT (mergeT [] kvs) ep2)))
theorem d_dispj {X:Cx} {pos:Pos} {keys:List (Option Expr)} {values:List Expr} {t:DPs} {n:Nat} (hr:Room n X.A) (h:PJ X pos keys values t) (hall:keys.all (·.isSome)=true:=by rfl) (hl:keys.length=values.length:=by rfl) (h0:keys≠[]:=by simp)
    (h15:keys.length<=15:=by decide):EJ X (.Dict keys values pos) (dDisp t):=
  ⟨PE.imp (pe_dispX hr h hall hl h0 h15) fun σ H Q ⟨L,S,k,hL,hS,h,n⟩ p hp=>by
    refine⟨L,_,_,hL.kp (Kp.new hp),hS.newG (g:=.dT [] 0) hp ⟨[],upd_same,.nil⟩,h p (hS.free hp) 0,fun ds S2 ps H2 h2 k2 hS2 i2=>?_⟩
    obtain⟨ep',kvs,g2,rfl,lk,h2⟩:=h2
    obtain⟨ys,e2,r2⟩:=hS2.dT g2
    cases r2
    refine⟨ep',e2,kvs,i2,lk,fun xs ep2 rx=>?_⟩
    have k3:Kp H2 (upd H2 p (.ext (DxP p (xs.foldl (fun acc k=>storedH acc k.1 k.2.1 k.2.2) []) ep2))):=Kp.mut e2 (fun z=>z)
    exact n _ _ _ _ (h2 ep2) (((Kp.new hp).trans k2).trans k3) (hS2.setG e2 (fun z=>z) ⟨_,upd_same,(rx.merge .nil).kp k3⟩) (isRef.mpr rfl)⟩
end DL
namespace PySem
open Sem (wp)
open Builtin DL
section
variable {prog:Program} {w:World} {A:Around} {E:Value->Shared->Prop}
theorem lk_list_keys:typeLookup (.type "list") "keys"=pure none:=by rw [typeLookup_type,builtinLookup_eq_fast]; kernel_rfl
theorem keys_call {a:Addr} {xs:Array Value} {k:Nat} {u:Tok} {s:Shared} {R:Result->Shared->Prop} (hx:s.heap.get? a=some {cls:=.type "list",dict:=none,data:=.seq xs k,slots:=#[]}) (hA:A.handled=none)
    (h:∀ h' tk e,Heap.NewAttrErr s.heap h' e (.ref a) "keys"->R (.error (.ref e)) {s with heap:=h',toks:=tk}):codeAny (model prog w) A (.call (.builtin "list.__getattribute__") ⟨[.ref a,.str "keys" u],[]⟩) R s:=
  have T:s.TypeIs (.ref a) "list":=⟨_,hx,rfl⟩
  codeAny_call_builtin F.slot_list_getattribute.plain am_entry_list_getattribute (F.slot_list_getattribute.check _ _ _ _ _ _ _ _ T (F.args_list_getattribute_2 _ _) (meets_getattribute_miss_list a xs k #[] "keys" _ lk_list_keys (by decide) (by rw [sizeLine_eq]; decide) prog w A _ _ ⟨hx,hA,h⟩))
theorem keys_none {a:Addr} {xs:Array Value} {k:Nat} {s:Shared} {Q:Option Value->Shared->Prop} (hx:s.heap.get? a=some {cls:=.type "list",dict:=none,data:=.seq xs k,slots:=#[]}) (hA:A.handled=none)
    (h:∀ h' tk,(∀ b o,s.heap.get? b=some o->h'.get? b=some o)->Q none {s with heap:=h',toks:=tk}):wpAny (model prog w) A (getAttr? (.ref a) "keys") Q E s:=by
  obtain⟨hp,g,d,tk,os⟩:=s
  have hT:∀ tk',(⟨hp,g,d,tk',os⟩:Shared).TypeIs (.ref a) "list":=fun _=>⟨_,hx,rfl⟩
  have c1:=sub_AttributeError
  have c2:=F.slot_list_getattribute.lookup
  have c3:=F.slot_list_getattribute.bind (.ref a)
  have c4:=am_list_getattr_none
  unfold getAttr? getAttrBy? getAttrBy
  repeat (any_goals (first | assumption | exact hT _ | wp_step))
  refine keys_call (s:=⟨hp,g,d,tk+1,os⟩) hx hA fun h' tk' e ne=>?_
  obtain⟨t',u',he⟩:=ne.there
  have z:=h h' tk' ne.keeps
  show wpAny _ _ (getattributeRaised _ _ _ _ _ _ _) _ _ _
  unfold getattributeRaised
  repeat (any_goals (first | assumption | wp_step))
theorem ent_upd:entryFor table "dict.update.loop"=some Builtin.«dict.update.loop»:=entryFor_of_tree (by kernel_rfl)
theorem pln_upd:plainId "dict.update.loop"=true:=by decide +kernel
theorem loop_step {d it l T:Addr} {its:Array Value} {i n:Nat} {key val:Value} {s:Shared} {R:Result->Shared->Prop} {dd:Option Addr} {sl:Array (Option Value)} (hx:its[i]?=some (.ref T)) (st:s.heap.IsListIter it l i) (hl:s.heap.IsList l its)
    (hT:s.heap.get? T=some {cls:=.type "tuple",dict:=dd,data:=.seq #[key,val] n,slots:=sl}) (ne:T≠it)
    (h:∀ h',h'.IsListIter it l (i+1)->Heap.SameBut it s.heap h'->wpAny (model prog w) A.in1 (dictSet d key val) (fun _ s'=>codeAny (model prog w) A (.builtin "dict.update.loop" ⟨[.ref d,.ref it,rawInt ((i:Int)+1),.none],[]⟩) R s') (fun e s'=>R (.error e) s') {s with heap:=h'}):
    codeAny (model prog w) A (.builtin "dict.update.loop" ⟨[.ref d,.ref it,rawInt i,.none],[]⟩) R s:=by
  refine codeAny_builtin ent_upd ?_
  rw [Around.under_plainId pln_upd _]
  refine wpAny_bind (m:=pyNext (.ref it)) (wpAny_pyNext_list_item st hl hx fun h' st' sb=>?_)
  obtain⟨hp,g,dr,tk,os⟩:=s
  have hT':Heap.get? h' T=some {cls:=.type "tuple",dict:=dd,data:=.seq #[key,val] n,slots:=sl}:=(sb.2 T ne).trans hT
  have z:=h h' st' sb
  refine wpAny_bind (wpAny_holding (wpAny_bind (wpAny_tryCatch ?_)))
  repeat (any_goals (first | assumption | (with_reducible show wpAny _ _ (dictSet _ _ _) _ _ _; refine wpAny_mono z (fun _ s' q=>wpAny_pure ⟨plainId_quiet pln_upd _,q⟩) fun _ _ q=>q) | wp_step))
abbrev tkI (prog:Program) (w:World):HeapKind prog w (List Int):=tupleKind (intKind prog w)
theorem doh_keep {h h':Heap} {d it:Addr} {c:String} {acc:List (List Int×Addr×Value)} (m:h.DictOfH (tkI prog w) d acc) (ci:∃ o,h.get? it=some o/\o.cls=.type c) (nt:(Value.type "tuple" == Value.type c)=false) (hd:d≠it)
    (k:∀ b o,b≠it->h.get? b=some o->h'.get? b=some o):h'.DictOfH (tkI prog w) d acc:=by
  obtain⟨o,es,ep,g,e1,e2,e3,e4,nd⟩:=m
  refine⟨o,es,ep,k _ _ hd g,e1,e2,e3,fun x hx=>?_,nd⟩
  obtain⟨q,its,n,g1,g2,g3⟩:=e4 x hx
  refine⟨q,its,n,k _ _ (fun z=>?_) g1,g2,g3⟩
  obtain⟨q',y1,y2⟩:=ci
  rw [z,y1] at g1
  cases g1
  rw [y2] at g2
  rw [g2] at nt
  simp at nt
theorem upd_loop {d it l:Addr} {R:Result->Shared->Prop} (hu:A.units+1 < cLine) (hh:A.handled=none) (ts:List (Addr×List Int×Addr×Value)) (hd:d≠it) (hl:l≠it) (hld:l≠d):
    ∀ (k i:Nat) (s:Shared) (acc:List (List Int×Addr×Value)),ts.length - i=k->i<=ts.length->s.heap.IsListIter it l i->s.heap.IsList l (ts.map fun t=>Value.ref t.1).toArray->
    (∀ t∈ts,(∃ dd n sl,s.heap.get? t.1=some {cls:=.type "tuple",dict:=dd,data:=.seq #[.ref t.2.2.1,t.2.2.2] n,slots:=sl})/\(tkI prog w).is s.heap t.2.1 t.2.2.1)->
    s.heap.DictOfH (tkI prog w) d acc->acc.length+(ts.length - i)<=sizeLine->
    (∀ h' tk,(∀ b o,b≠it->b≠d->s.heap.get? b=some o->h'.get? b=some o)->h'.DictOfH (tkI prog w) d ((ts.drop i).foldl (fun acc t=>storedH acc t.2.1 t.2.2.1 t.2.2.2) acc)->R (.ok (.ret .none)) {s with heap:=h',toks:=tk})->
    codeAny (model prog w) A (.builtin "dict.update.loop" ⟨[.ref d,.ref it,rawInt i,.none],[]⟩) R s:=by
  intro k
  induction k with
  | zero=>
    intro i s acc hk hi st hL hts hm hz hR
    have e:i=ts.length:=by omega
    subst e
    refine codeAny_builtin ent_upd ?_
    rw [Around.under_plainId pln_upd _]
    have ci:∃ o,s.heap.get? it=some o/\o.cls=.type "list_iterator":=let ⟨o,a,b,_⟩:=st; ⟨o,a,b⟩
    refine wpAny_bind (m:=pyNext (.ref it)) (wpAny_pyNext_list_end (A:=A.in1) hh st hL (by simp) fun h' eb=>?_)
    have z:=hR h' s.toks (fun b o n1 _ x=>eb b o n1 x) (by rw [List.drop_length]; exact doh_keep hm ci (by decide) hd eb)
    exact wpAny_bind (wpAny_pure (wpAny_pure z))
  | succ k ih=>
    intro i s acc hk hi st hL hts hm hz hR
    have hlt:i < ts.length:=by omega
    have mem:ts[i]∈ts:=List.getElem_mem hlt
    obtain⟨⟨dd,n,sl,gT⟩,ik⟩:=hts _ mem
    have ci:∃ o,s.heap.get? it=some o/\o.cls=.type "list_iterator":=let ⟨o,a,b,_⟩:=st; ⟨o,a,b⟩
    have cd:∃ o,s.heap.get? d=some o/\o.cls=.type "dict":=let ⟨o,_,_,a,b,_⟩:=hm; ⟨o,a,b.1⟩
    have tni:∀ {b:Addr} {o:Obj},s.heap.get? b=some o->o.cls=.type "tuple"->b≠it:=fun g c z=>by
      obtain⟨q,y1,y2⟩:=ci
      rw [z,y1] at g
      cases g
      rw [y2] at c
      simp at c
    have tnd:∀ {b:Addr} {o:Obj},s.heap.get? b=some o->o.cls=.type "tuple"->b≠d:=fun g c z=>by
      obtain⟨q,y1,y2⟩:=cd
      rw [z,y1] at g
      cases g
      rw [y2] at c
      simp at c
    have hlen:=storedH_len acc ts[i].2.1 ts[i].2.2.1 ts[i].2.2.2
    refine loop_step (T:=ts[i].1) (by simp [hlt]) st hL gT (tni gT rfl) fun h1 st1 sb=>?_
    have kk:∀ b o,b≠it->s.heap.get? b=some o->h1.get? b=some o:=fun b o n1 x=>(sb.2 b n1).trans x
    have isk:∀ t∈ts,(tkI prog w).is h1 t.2.1 t.2.2.1:=fun t ht=>by
      obtain⟨q,its,m,g1,g2,g3⟩:=(hts t ht).2
      exact⟨q,its,m,kk _ _ (tni g1 g2) g1,g2,g3⟩
    have hm1:h1.DictOfH (tkI prog w) d acc:=doh_keep hm ci (by decide) hd kk
    refine wpAny_dictSet_heap (hsz:=by omega) (show (tkI prog w).room A.in1 from hu) (isk _ mem) hm1 fun h2 hm2 sb2=>?_
    have e:(rawInt ((i:Int)+1))=rawInt ((i+1:Nat):Int):=rfl
    rw [e]
    have k2:∀ b o,b≠d->h1.get? b=some o->h2.get? b=some o:=fun b o n1 x=>(sb2.2 b n1).trans x
    refine ih (i+1) _ _ (by omega) hlt (st1.at fun o x=>k2 _ _ (Ne.symm hd) x) ((hL.at fun o x=>kk _ _ hl x).at fun o x=>k2 _ _ hld x) (fun t ht=>?_) hm2 (by omega) fun h' tk q1 q2=>?_
    · obtain⟨⟨dd,n,sl,g⟩,_⟩:=hts t ht
      obtain⟨o,es,ep,g',_,dt,_⟩:=hm1
      exact⟨⟨dd,n,sl,k2 _ _ (tnd g rfl) (kk _ _ (tni g rfl) g)⟩,(tkI prog w).keeps (isk t ht) g' dt sb2⟩
    · refine hR h' tk (fun b o n1 n2 x=>q1 b o n1 n2 (k2 b o n2 (kk b o n1 x))) ?_
      rw [List.drop_eq_getElem_cons hlt,List.foldl_cons]
      exact q2
theorem call_dict_list {l:Addr} {s:Shared} {n:Nat} (hu:A.units+2 < cLine) (hh:A.handled=none) (hb:sysModules < s.heap.objs.size) (ts:List (Addr×List Int×Addr×Value)) {Q:Value->Shared->Prop}
    (gl:s.heap.get? l=some {cls:=.type "list",dict:=none,data:=.seq (ts.map fun t=>Value.ref t.1).toArray n,slots:=#[]})
    (hts:∀ t∈ts,(∃ dd n sl,s.heap.get? t.1=some {cls:=.type "tuple",dict:=dd,data:=.seq #[.ref t.2.2.1,t.2.2.2] n,slots:=sl})/\(tkI prog w).is s.heap t.2.1 t.2.2.1) (hz:ts.length<=sizeLine)
    (h:∀ h' tk,(∀ b o,s.heap.get? b=some o->h'.get? b=some o)->h'.DictOfH (tkI prog w) s.heap.objs.size (ts.foldl (fun acc t=>storedH acc t.2.1 t.2.2.1 t.2.2.2) [])->Q (.ref s.heap.objs.size) {s with heap:=h',toks:=tk}):
    wpAny (model prog w) A (call (.type "dict") [.ref l]) Q E s:=by
  refine callType_codes (Q₁:=fun ob s1=>ob=.ref s.heap.objs.size/\s1={s with heap:=s.heap.push {cls:=.type "dict",data:=.dict #[]}}) F.kt_called_dict (F.kt_typeCall_dict_1 _) F.entry_dict_init (kt_code_dict_new _ ⟨rfl,rfl⟩) ?_
  rintro ob s1 ⟨rfl,rfl⟩
  have hl:l < s.heap.objs.size:=Heap.lt_size gl
  have gl1:(s.heap.push {cls:=.type "dict",data:=.dict #[]}).get? l=some {cls:=.type "list",dict:=none,data:=.seq (ts.map fun t=>Value.ref t.1).toArray n,slots:=#[]}:=Heap.get?_push_of_some _ gl
  have gd1:(s.heap.push {cls:=.type "dict",data:=.dict #[]}).get? s.heap.objs.size=some (dxO #[] 0):=Heap.get?_push_size _ rfl
  refine⟨⟨_,gd1,rfl⟩,F.args_dict_init_2 _ _,?_⟩
  generalize hH:s.heap.push {cls:=.type "dict",data:=.dict #[]}=H1 at gl1 gd1
  have kH:∀ b o,s.heap.get? b=some o->H1.get? b=some o:=fun b o x=>by rw [<- hH]; exact Heap.get?_push_of_some _ x
  obtain⟨hp,g,dr,tk,os⟩:=s
  have T1:(⟨H1,g,dr,tk,os⟩:Shared).TypeIs (.ref hp.objs.size) "dict":=⟨_,gd1,rfl⟩
  have hT2:(⟨H1,g,dr,tk,os⟩:Shared).TypeIs (.ref l) "list":=⟨_,gl1,rfl⟩
  refine wpAny_bind (m:=Dict.selfAndRest "__init__" _) ?_
  unfold Dict.selfAndRest
  refine wpAny_bind (wpAny_notOrdered_dict T1 ?_)
  show wpAny _ _ (pure (hp.objs.size,[Value.ref l])) _ _ _
  refine wpAny_pure ?_
  show wpAny _ _ (Dict.updateFrom "dict.__init__" hp.objs.size (.ref l) [] .none) _ _ _
  unfold Dict.updateFrom
  refine wpAny_bind (wpAny_typeOf hT2 ?_)
  rw [if_pos (by decide)]
  refine wpAny_bind (keys_none (s:=⟨H1,g,dr,tk,os⟩) gl1 hh fun h' tk' kk=>?_)
  rw [if_pos (show (none:Option Value).isNone=true from rfl)]
  refine wpAny_bind (wpAny_rule (wpAny_bind ?_))
  have gl2:=kk _ _ gl1
  have gd2:=kk _ _ gd1
  have iL:h'.IsList l (ts.map fun t=>Value.ref t.1).toArray:=⟨_,gl2,rfl,_,rfl⟩
  refine wpAny_pyIter_list (s:=⟨h',g,dr,tk',os⟩) iL (wpAny_pure ⟨plainId_quiet pln_upd _,?_⟩)
  have z1:hp.objs.size < h'.objs.size:=Heap.lt_size gd2
  refine upd_loop (A:=A.in1) (by show A.units+1+1 < cLine; omega) hh ts (Nat.ne_of_lt z1) (Nat.ne_of_lt (Nat.lt_trans hl z1)) (Nat.ne_of_lt hl) ts.length 0 ⟨h'.push {cls:=.type "list_iterator",data:=.fields #[.ref l,.int 0 0]},g,dr,tk',os⟩ [] rfl (Nat.zero_le _) ⟨_,Heap.get?_push_size _ rfl,rfl,rfl⟩ (iL.push _) (fun t ht=>?_) ?_ (by rw [List.length_nil]; omega) fun h2 tk2 q1 q2=>⟨rfl,h h2 tk2 (fun b o x=>?_) q2⟩
  · obtain⟨⟨dd,n',sl,g1⟩,o,its,m,g2,g3⟩:=hts t ht
    have up:∀ b o,hp.get? b=some o->(h'.push {cls:=.type "list_iterator",data:=.fields #[.ref l,.int 0 0]}).get? b=some o:=fun b o x=>Heap.get?_push_of_some _ (kk _ _ (kH _ _ x))
    exact⟨⟨dd,n',sl,up _ _ g1⟩,o,its,m,up _ _ g2,g3⟩
  · exact⟨_,#[],0,Heap.get?_push_of_some _ gd2,⟨rfl,rfl,rfl⟩,rfl,rfl,(by intro x hx; simp at hx),List.nodup_nil⟩
  · have b1:b < hp.objs.size:=Heap.lt_size x
    exact q1 b o (Nat.ne_of_lt (Nat.lt_trans b1 z1)) (Nat.ne_of_lt b1) (Heap.get?_push_of_some _ (kk _ _ (kH _ _ x)))
theorem hash_one (c:Int):∀ l:List DictEntry,(l.map (·.hash)).Nodup->(l.filter (·.hash == c)).length<=1
  | [],_=>Nat.zero_le _
  | e::l,h=>by
    rw [List.map_cons,List.nodup_cons] at h
    rw [List.filter_cons]
    by_cases q:(e.hash == c)=true
    · rw [if_pos q]
      have z:l.filter (·.hash == c)=[]:=by
        rw [List.filter_eq_nil_iff]
        intro x hx y
        refine h.1 (List.mem_map.mpr ⟨x,hx,?_⟩)
        simp only [beq_iff_eq] at q y
        rw [q,y]
      rw [z]
      exact Nat.le_refl _
    · rw [if_neg q]
      exact hash_one c l h.2
theorem entries_same {id:String} {o:Addr} {es:Array DictEntry} {ep:Nat} {s:Shared} {Q:Array DictEntry->Shared->Prop} (g:s.heap.get? o=some (dxO es ep)) (hk:∀ e∈es.toList,∃ b q,e.key=.ref b/\s.heap.get? b=some q/\q.cls=.type "tuple") (hn:(es.toList.map (·.hash)).Nodup) (h:Q es s):
    wpAny (model prog w) A (Dict.entriesForEmpty id o) Q E s:=by
  unfold Dict.entriesForEmpty
  refine wpAny_bind (wpAny_dictEntries g rfl ?_)
  refine wpAny_bind ?_
  rw [<- Array.forIn_toList]
  refine wpAny_forIn_list _ (fun rest _ s'=>s'=s/\∀ e∈rest,e∈es.toList) _ ?_ ?_ es.toList _ ⟨rfl,fun e he=>he⟩
  · rintro e rest _ s' ⟨rfl,hr⟩
    have me:=hr e (by simp)
    obtain⟨b,q,kb,gb,cb⟩:=hk e me
    have one:¬ (es.filter (·.hash == e.hash)).size > 1:=by
      have z:=hash_one e.hash es.toList hn
      rw [<- Array.length_toList,Array.toList_filter]
      omega
    rw [kb]
    have T:s'.TypeIs (.ref b) "tuple":=⟨q,gb,cb⟩
    refine wpAny_bind (wpAny_bind (wpAny_specialOf T F.slot_tuple_eq.lookup (wpAny_pure ?_)))
    rw [if_pos (by decide),if_neg one]
    exact wpAny_pure ⟨rfl,fun x hx=>hr x (by simp [hx])⟩
  · rintro _ s' ⟨rfl,_⟩
    exact wpAny_pure h
theorem merge_dx {d o:Addr} {es:Array DictEntry} {ep:Nat} {s:Shared} {Q:Unit->Shared->Prop} (ne:d≠o) (ho:(o == sysModules)=false) (gd:s.heap.get? d=some (dxO #[] 0)) (go:s.heap.get? o=some (dxO es ep))
    (hk:∀ e∈es.toList,∃ b q,e.key=.ref b/\s.heap.get? b=some q/\q.cls=.type "tuple") (hn:(es.toList.map (·.hash)).Nodup) (hz:es.size<=sizeLine) (h:∀ h' ep',h'.get? d=some (dxO es ep')->Heap.SameBut d s.heap h'->Q () {s with heap:=h'}):
    wpAny (model prog w) A (Dict.mergeDict "dict.__init__" d o) Q E s:=by
  have nb:(d == o)=false:=by simpa using ne
  unfold Dict.mergeDict Dict.showsAll
  rw [if_neg (by rw [nb]; exact Bool.false_ne_true),if_neg (by rw [ho]; exact Bool.false_ne_true)]
  refine wpAny_bind (wpAny_pure (wpAny_bind (wpAny_dictEntries go rfl ?_)))
  cases hes:es.toList with
  | nil=>
    have e0:es=#[]:=by cases es; simp at hes; rw [hes]
    subst e0
    have z:=h s.heap 0 gd (Heap.SameBut.refl _ _)
    dsimp only
    rw [if_neg (by simp)]
    refine wpAny_bind (wpAny_dictEpoch go rfl (wpAny_bind (wpAny_dictEntries go rfl ?_)))
    rw [Std.Legacy.Range.forIn_eq_forIn_range']
    exact wpAny_bind (wpAny_pure (wpAny_pure z))
  | cons e r=>
    obtain⟨b,q,kb,gb,cb⟩:=hk e (by rw [hes]; simp)
    have few:(es.size<=8 && es.all fun e=>(keyPart e.key).isSome)=false:=by
      have:(es.all fun e=>(keyPart e.key).isSome)=false:=by
        rw [<- Array.all_toList,hes,List.all_cons,kb]
        rfl
      rw [this,Bool.and_false]
    dsimp only
    rw [if_pos (by rw [few]; rfl)]
    refine wpAny_bind (wpAny_dictEntries gd rfl ?_)
    rw [if_pos (by rfl)]
    refine wpAny_bind (entries_same go (by rw [hes]; rw [hes] at hk; exact hk) hn ?_)
    have ne0:(!es.isEmpty)=true:=by
      cases es
      simp at hes
      rw [hes]
      rfl
    rw [if_pos ne0]
    have up:(s.heap.update d (Obj.mapDictKeys fun _=>es)).get? d=_:=Heap.get?_update_self (Obj.mapDictKeys fun _=>es) gd rfl
    refine wpAny_bind (wpAny_updateDictKeysTo gd rfl ?_ (Nat.le_succ_of_le hz))
    exact wpAny_pure (h _ _ up (Heap.SameBut.update ..))
theorem call_dict_dict {o:Addr} {es:Array DictEntry} {ep:Nat} {s:Shared} {Q:Value->Shared->Prop} (ho:(o == sysModules)=false) (go:s.heap.get? o=some (dxO es ep))
    (hk:∀ e∈es.toList,∃ b q,e.key=.ref b/\s.heap.get? b=some q/\q.cls=.type "tuple") (hn:(es.toList.map (·.hash)).Nodup) (hz:es.size<=sizeLine)
    (h:∀ h' ep',h'.get? s.heap.objs.size=some (dxO es ep')->(∀ b q,s.heap.get? b=some q->h'.get? b=some q)->Q (.ref s.heap.objs.size) {s with heap:=h'}):wpAny (model prog w) A (call (.type "dict") [.ref o]) Q E s:=by
  refine callType_codes (Q₁:=fun ob s1=>ob=.ref s.heap.objs.size/\s1={s with heap:=s.heap.push {cls:=.type "dict",data:=.dict #[]}}) F.kt_called_dict (F.kt_typeCall_dict_1 _) F.entry_dict_init (kt_code_dict_new _ ⟨rfl,rfl⟩) ?_
  rintro ob s1 ⟨rfl,rfl⟩
  have lo:o < s.heap.objs.size:=Heap.lt_size go
  have go1:=Heap.get?_push_of_some {cls:=.type "dict",data:=.dict #[]} go
  have gd1:(s.heap.push {cls:=.type "dict",data:=.dict #[]}).get? s.heap.objs.size=some (dxO #[] 0):=Heap.get?_push_size _ rfl
  have T1:({s with heap:=s.heap.push {cls:=.type "dict",data:=.dict #[]}}:Shared).TypeIs (.ref s.heap.objs.size) "dict":=⟨_,gd1,rfl⟩
  have T2:({s with heap:=s.heap.push {cls:=.type "dict",data:=.dict #[]}}:Shared).TypeIs (.ref o) "dict":=⟨_,go1,rfl⟩
  refine⟨T1,F.args_dict_init_2 _ _,wpAny_bind (m:=Dict.selfAndRest "__init__" _) ?_⟩
  unfold Dict.selfAndRest
  refine wpAny_bind (wpAny_notOrdered_dict T1 (wpAny_pure (a:=(s.heap.objs.size,[Value.ref o])) ?_))
  show wpAny _ _ (Dict.updateFrom "dict.__init__" s.heap.objs.size (.ref o) [] .none) _ _ _
  unfold Dict.updateFrom
  refine wpAny_bind (wpAny_typeOf T2 ?_)
  rw [if_neg (by decide)]
  refine wpAny_bind ?_
  unfold Dict.merge
  refine wpAny_bind ?_
  unfold Dict.readDirectly
  refine wpAny_bind (wpAny_isInstance T2 isSubtype_dict_dict ?_)
  rw [if_neg (by decide)]
  refine wpAny_bind (wpAny_specialOf T2 F.slot_dict_iter.lookup (wpAny_pure ?_))
  rw [if_pos (by decide)]
  refine wpAny_bind (wpAny_pure (merge_dx (Nat.ne_of_gt lo) ho gd1 go1 (fun e he=>?_) hn hz fun h' ep' g sb=>?_))
  · obtain⟨b,q,x1,x2,x3⟩:=hk e he
    exact⟨b,q,x1,Heap.get?_push_of_some _ x2,x3⟩
  · exact wpAny_bind (wpAny_pure (wpAny_pure ⟨rfl,h h' ep' g fun b q x=>(sb.2 b (Nat.ne_of_lt (Heap.lt_size x))).trans (Heap.get?_push_of_some _ x)⟩))
end
section
variable {prog:Program} {w:World} {A:Around} {E:Value->Shared->Prop}
theorem tupGt (p q:Addr) (a b c d:Int) (t1 t2 t3 t4:Tok) (n n':Nat) (dd dd':Option Addr) (sl sl':Array (Option Value)):
    MeetsIn prog w (Builtin.«tuple.__gt__» ⟨[.ref p,.ref q],[]⟩) (fun A R s=>A.units+1 < cLine/\s.heap.get? p=some ⟨.type "tuple",dd,.seq #[.int a t1,.int b t2] n,sl⟩/\s.heap.get? q=some ⟨.type "tuple",dd',.seq #[.int c t3,.int d t4] n',sl'⟩/\
      R (.ok (.ret (.bool (decide (c < a) || (decide (a=c) && decide (d < b)))))) s):=
  .of_wp fun A R s h=>by
    obtain⟨hp,g,dr,tk,os⟩:=s
    obtain⟨hu,h1,h2,h⟩:=h
    have f:=AutoSeq1.sub_tuple_tuple
    have stp:∀ {x y:Int} {u v:Tok} {Q:Bool->Shared->Prop} {s:Shared},Q (x == y) s->wpAny (model prog w) A.in1 (eqBool (.int x u) (.int y v)) Q (fun e s'=>R (.error e) s') s:=fun h=>wpAny_eqBool_int h
    have gtp:∀ {x y:Int} {u v:Tok} {Q:Value->Shared->Prop} {s:Shared},Q (.bool (decide (y < x))) s->wpAny (model prog w) A.in1 (richCompare .Gt (.int x u) (.int y v)) Q (fun e s'=>R (.error e) s') s:=fun h=>PyProof.Rows.gt_int h
    by_cases e1:a=c
    · subst e1
      by_cases e2:b=d
      · subst e2
        repeat (any_goals (first | assumption | (with_reducible refine stp ?_) | (with_reducible refine gtp ?_) | wp_step))
        refine⟨_,rfl,?_⟩
        simp only [Int.lt_irrefl,decide_false,Bool.and_false,Bool.or_false] at h
        exact h
      · have e3:(b == d)=false:=by simpa using e2
        repeat (any_goals (first | assumption | (with_reducible refine stp ?_) | (with_reducible refine gtp ?_) | wp_step))
        refine⟨_,rfl,?_⟩
        simp only [Int.lt_irrefl,decide_false,Bool.false_or,decide_true,Bool.true_and] at h
        exact h
    · have e3:(a == c)=false:=by simpa using e1
      repeat (any_goals (first | assumption | (with_reducible refine stp ?_) | (with_reducible refine gtp ?_) | wp_step))
      refine⟨_,rfl,?_⟩
      simp only [decide_eq_false e1,Bool.false_and,Bool.or_false] at h
      exact h
theorem mx_loop {I S:Addr} {fp wr:List Addr} {n:Nat} {P:Nat->Value->Prop} {St:Nat->Heap->Prop} {R:Result->Shared->Prop} (W:Walks prog w A.in1 I fp wr n P St) (bt:Nat->Nat->Bool) (Φ:Heap->Prop) (hS:S∉fp)
    (kΦ:∀ h h',Φ h->(∀ b o,b∉wr->b≠S->h.get? b=some o->h'.get? b=some o)->Φ h')
    (cmp:∀ i j u v (s:Shared) (Q:Value->Shared->Prop) (E:Value->Shared->Prop),Φ s.heap->P i u->P j v->Q (.bool (bt i j)) s->wpAny (model prog w) A.in1 (richCompare .Gt u v) Q E s):
    ∀ (k j:Nat) (s:Shared) (vb:Value) (c:Nat),n - (j+1)=k->j+1<=n->Φ s.heap->St (j+1) s.heap->P (argBest bt j) vb->s.heap.get? S=some {cls:=.type "list",dict:=none,data:=.seq #[vb,vb] c,slots:=#[]}->
    (∀ v h' tk,P (argBest bt (n - 1)) v->(∀ b o,b∉wr->b≠S->s.heap.get? b=some o->h'.get? b=some o)->R (.ok (.ret v)) {s with heap:=h',toks:=tk})->codeAny (model prog w) A (.builtin "max.loop" ⟨[.ref I,.none,.ref S],[]⟩) R s:=by
  have nw:S∉wr:=fun z=>hS (W.sub _ z)
  have nm:((toString "max"++toString ".loop":String))="max.loop":=by decide
  intro k
  induction k with
  | zero=>
    intro j s vb c hk hj ph st pb gS fin
    have ej:n=j+1:=by omega
    refine codeAny_builtin F.entry_max_loop ?_
    rw [Around.under_plainId F.plain_max_loop _]
    refine wpAny_bind (m:=seqItems? (.ref S)) (wpAny_seqItems gS rfl (wpAny_bind (wpAny_tryCatch (m:=pyNext (.ref I)) (W.done s _ _ (by rw [ej]; exact st) fun h' tk far=>?_))))
    have g1:=far S _ nw gS
    refine wpAny_bind (m:=updateSeq S fun _=>#[]) (wpAny_updateSeq g1 rfl (wpAny_bind (wpAny_letGo (wpAny_pure (fin vb _ tk (by rw [ej]; exact pb) fun b o n1 n2 x=>?_)))))
    exact(Heap.get?_update_other _ _ (Ne.symm n2)).trans (far b o n1 x)
  | succ k ih=>
    intro j s vb c hk hj ph st pb gS fin
    have lt:j+1 < n:=by omega
    refine codeAny_builtin F.entry_max_loop ?_
    rw [Around.under_plainId F.plain_max_loop _]
    refine wpAny_bind (m:=seqItems? (.ref S)) (wpAny_seqItems gS rfl (wpAny_bind (wpAny_tryCatch (m:=pyNext (.ref I)) (W.item (j+1) s _ _ lt st fun v h' tk pv st1 far=>?_))))
    have g1:=far S _ nw gS
    have ph1:=kΦ _ _ ph fun b o n1 _ x=>far b o n1 x
    refine wpAny_bind (wpAny_pure (wpAny_bind (wpAny_tryCatch (wpAny_holding (wpAny_bind (m:=richCompare .Gt v vb) (cmp (j+1) (argBest bt j) v vb _ _ _ ph1 pv pb (wpAny_bind (wpAny_holding (wpAny_truthy_bool (wpAny_bind (wpAny_letGo (wpAny_pure ?_))))))))))))
    by_cases hb:bt (j+1) (argBest bt j)=true
    · rw [hb,if_pos rfl]
      refine wpAny_bind (m:=updateSeq S fun _=>#[v,v]) (wpAny_updateSeq g1 rfl (wpAny_bind (wpAny_letGo ?_)))
      have oth:∀ b o,b≠S->h'.get? b=some o->(h'.update S (Obj.mapSeq fun _=>#[v,v])).get? b=some o:=fun b o n2 x=>(Heap.get?_update_other _ _ (Ne.symm n2)).trans x
      rw [nm]
      refine wpAny_pure ⟨plainId_quiet F.plain_max_loop _,ih (j+1) _ v _ (by omega) lt (kΦ _ _ ph1 fun b o _ n2 x=>oth b o n2 x) (W.frame _ _ _ st1 fun b hb' o x=>oth b o (fun z=>hS (z▸hb')) x) (by unfold argBest; rw [hb,if_pos rfl]; exact pv) (Heap.get?_update_self _ g1 rfl) fun u h2 tk2 pu far2=>?_⟩
      exact fin u h2 tk2 pu fun b o n1 n2 x=>far2 b o n1 n2 (oth b o n2 (far b o n1 x))
    · have hb':bt (j+1) (argBest bt j)=false:=by simpa using hb
      rw [hb',if_neg Bool.false_ne_true]
      refine wpAny_bind (wpAny_letGo ?_)
      rw [nm]
      refine wpAny_pure ⟨plainId_quiet F.plain_max_loop _,ih (j+1) _ vb c (by omega) lt ph1 st1 (by unfold argBest; rw [hb',if_neg Bool.false_ne_true]; exact pb) g1 fun u h2 tk2 pu far2=>?_⟩
      exact fin u h2 tk2 pu fun b o n1 n2 x=>far2 b o n1 n2 (far b o n1 x)
theorem mx_call {x:Value} {s:Shared} {Q:Value->Shared->Prop} (h:wpAny (model prog w) A.in1 (pyIter x) (fun it s2=>∃ I fp wr n P St bt,∃ Φ:Heap->Prop,it=.ref I/\Walks prog w A.in1 I fp wr n P St/\St 0 s2.heap/\(∀ b∈fp,b < s2.heap.objs.size)/\0 < n/\Φ s2.heap/\
      (∀ S,s2.heap.objs.size<=S->∀ h h',Φ h->(∀ b o,b∉wr->b≠S->h.get? b=some o->h'.get? b=some o)->Φ h')/\
      (∀ i j u v (s:Shared) (Q:Value->Shared->Prop) (E:Value->Shared->Prop),Φ s.heap->P i u->P j v->Q (.bool (bt i j)) s->wpAny (model prog w) A.in1 (richCompare .Gt u v) Q E s)/\
      ∀ v h' tk,P (argBest bt (n - 1)) v->(∀ b o,b∉wr->s2.heap.get? b=some o->h'.get? b=some o)->Q v {s2 with heap:=h',toks:=tk}) E s):wpAny (model prog w) A (call (.builtin "max") [x]) Q E s:=by
  have nm:((toString "max"++toString ".loop":String))="max.loop":=by decide
  refine call_function_tree F.kind_max F.plain_max F.entry_max (F.args_max1 _) (wpAny_bind (m:=Builtin.Builtins.bindParams "max" ["key","default"] 0 ⟨[],[]⟩) (wpAny_of_eq (a:=[none,none]) rfl (wpAny_bind (wpAny_pure (wpAny_bind (wpAny_mono h (fun it s2 h2=>?_) fun _ _ e=>e))))))
  obtain⟨I,fp,wr,n,P,St,bt,Φ,rfl,W,st,below,n0,ph,kΦ,cmp,fin⟩:=h2
  refine wpAny_bind (wpAny_newObj_type ?_)
  have hS:s2.heap.objs.size∉fp:=fun m=>Nat.lt_irrefl _ (below _ m)
  have nw:s2.heap.objs.size∉wr:=fun m=>hS (W.sub _ m)
  have kp:∀ b o,s2.heap.get? b=some o->(s2.heap.push {cls:=.type "list",data:=.seq #[]}).get? b=some o:=fun b o x=>Heap.get?_push_of_some _ x
  have gS:(s2.heap.push {cls:=.type "list",data:=.seq #[]}).get? s2.heap.objs.size=some {cls:=.type "list",dict:=none,data:=.seq #[] 0,slots:=#[]}:=Heap.get?_push_size _ rfl
  have ph0:=kΦ _ (Nat.le_refl _) _ _ ph fun b o _ _ x=>kp b o x
  have st0:=W.frame 0 _ _ st fun b _ o x=>kp b o x
  rw [nm]
  refine wpAny_pure ⟨plainId_quiet F.plain_max_loop _,codeAny_builtin F.entry_max_loop ?_⟩
  rw [Around.under_plainId F.plain_max_loop _]
  refine wpAny_bind (m:=seqItems? (.ref s2.heap.objs.size)) (wpAny_seqItems gS rfl (wpAny_bind (wpAny_tryCatch (m:=pyNext (.ref I)) (W.item 0 _ _ _ n0 st0 fun v h' tk pv st1 far=>?_))))
  have g1:=far _ _ nw gS
  have ph1:=kΦ _ (Nat.le_refl _) _ _ ph0 fun b o n1 _ x=>far b o n1 x
  have oth:∀ b o,b≠s2.heap.objs.size->h'.get? b=some o->(h'.update s2.heap.objs.size (Obj.mapSeq fun _=>#[v,v])).get? b=some o:=fun b o n2 x=>(Heap.get?_update_other _ _ (Ne.symm n2)).trans x
  refine wpAny_bind (wpAny_pure (wpAny_bind (m:=updateSeq s2.heap.objs.size fun _=>#[v,v]) (wpAny_updateSeq g1 rfl ?_)))
  rw [nm]
  refine wpAny_pure ⟨plainId_quiet F.plain_max_loop _,mx_loop W bt Φ hS (kΦ _ (Nat.le_refl _)) cmp _ 0 _ v _ rfl n0 (kΦ _ (Nat.le_refl _) _ _ ph1 fun b o _ n2 x=>oth b o n2 x) (W.frame _ _ _ st1 fun b hb o x=>oth b o (fun z=>hS (z▸hb)) x) pv (Heap.get?_update_self _ g1 rfl) fun u h2 tk2 pu far2=>?_⟩
  exact fin u h2 tk2 pu fun b o n1 x=>by
    have nb:b≠s2.heap.objs.size:=Nat.ne_of_lt (Heap.lt_size x)
    exact far2 b o n1 nb (oth b o nb (far b o n1 (kp b o x)))
theorem walks_dx (c:DIt) (hh:A.handled=none) (I d:Addr) (ne:d≠I) (es:Array DictEntry) (ep:Nat):Walks prog w A I [I,d] [I] es.size (fun i v=>∃ e,es[i]?=some e/\v=DIt.of e c) (fun i h=>h.get? I=some (kiO c.nm d i es.size ep)/\h.get? d=some (dxO es ep)) where
  sub:=fun b hb=>by simp at hb; simp [hb]
  frame:=fun _ _ _ st k=>⟨k I (by simp) _ st.1,k d (by simp) _ st.2⟩
  item:=fun i s Q E hi st fin=>next_dx c (e:=es[i]) st.1 st.2 (by simp [hi]) fun h' a k=>fin _ h' s.toks ⟨es[i],by simp [hi],rfl⟩ ⟨a,k _ _ ne st.2⟩ fun b o hb x=>k b o (fun z=>hb (by simp [z])) x
  done:=fun s Q E st fin=>next_dxE c hh st.1 st.2 (by simp) fun h' k=>fin h' s.toks fun b o hb x=>k b o (fun z=>hb (by simp [z])) x
  self:=fun _ _ _ _ st q=>self_ki c st.1 q
end
end PySem
namespace DL
open PySem PySem.Spec PyProof.Rows L2
theorem pairs_raw {X:Cx} {pins:List (Addr×Obj)} {σ:L2.St} {H:Hp} {s:Shared} (I:Inv X pins σ H s):∀ {kvs:List (List Int×D)} {xs:List V} {us:List Value},IsDs X.K H (pairsD kvs) xs->Vals xs us->
    ∃ ts:List (Addr×List Int×Addr×Value),us=ts.map (fun t=>Value.ref t.1)/\KtR X.K H kvs (ts.map (·.2))/\
      ∀ t∈ts,(∃ dd n sl,s.heap.get? t.1=some {cls:=.type "tuple",dict:=dd,data:=.seq #[.ref t.2.2.1,t.2.2.2] n,slots:=sl})/\(tkI X.prog X.w).is s.heap t.2.1 t.2.2.1
  | [],xs,us,i,r=>by
    have e:xs=[]:=isNil.mp i
    subst e
    cases r
    exact⟨[],rfl,.nil,fun t ht=>nomatch ht⟩
  | kv::kvs,xs,us,i,r=>by
    obtain⟨v,vs,rfl,h1,h2⟩:=isCons.mp (show IsDs X.K H (.tup [keyD kv.1,kv.2]::pairsD kvs) xs from i)
    cases r with
    | @cons _ u _ us r1 r2=>
      obtain⟨ts,e,q1,q2⟩:=pairs_raw I h2 r2
      obtain⟨T,ys,rfl,t1,j⟩:=isTup.mp h1
      obtain⟨y1,y2,rfl,j1,j2⟩:=isDs2 j
      obtain⟨b,rfl,tb⟩:=isKey.mp j1
      cases (show u=Value.ref T from r1)
      obtain⟨its,rv,⟨⟨cls,dd,data,sl⟩,g1,g2,n,g3⟩,_⟩:=I.tuple t1
      obtain⟨w1,w2,rfl,rw1,rw2⟩:=vals2 rv
      cases (show w1=Value.ref b from rw1)
      simp only at g2 g3
      subst g2 g3
      refine⟨(T,kv.1,b,w2)::ts,by rw [e]; rfl,.cons ⟨rfl,tb,y2,rw2,j2⟩ q1,fun t ht=>?_⟩
      rcases List.mem_cons.mp ht with e2 | ht2
      · subst e2
        exact⟨⟨dd,n,sl,g1⟩,key_int I tb⟩
      · exact q2 t ht2
theorem foldl_snd (ts:List (Addr×List Int×Addr×Value)):∀ acc,ts.foldl (fun acc t=>storedH acc t.2.1 t.2.2.1 t.2.2.2) acc=(ts.map (·.2)).foldl (fun acc k=>storedH acc k.1 k.2.1 k.2.2) acc:=by
  induction ts with
  | nil=>intro acc; rfl
  | cons t ts ih=>intro acc; exact ih _
def bDict:DSp:=fun ds S k=>match ds with
  | [.ref a]=>(∃ kvs ep,S a=some (.gen (.dT kvs ep))/\(kvs.map fun p=>hashT p.1).Nodup/\∀ p,S p=none->∀ ep',k (.ref p) (put S p (.gen (.dT kvs ep'))))\/
      ∃ kvs,S a=some (.lst (pairsD kvs))/\∀ p,S p=none->∀ ep',k (.ref p) (put S p (.gen (.dT (mergeT [] kvs) ep')))
  | _=>False
theorem b_dict {X:Cx} {n:Nat} (hr:Room n X.A):CallR X (.type "dict") (upC X.K bDict):=by
  intro pins s σ H xs us Q I rs h
  obtain⟨ds,S,k,i,hS,r,m⟩:=h
  unfold bDict at r
  split at r
  · rename_i a
    obtain⟨v,rfl,j⟩:=isDs1 i
    have ex:=isRef.mp j
    subst ex
    obtain⟨u,rfl,ru⟩:=vals1 rs
    cases (show u=Value.ref a from ru)
    have hn:=I.hok.fresh (Nat.le_refl s.heap.objs.size)
    have hb:(s.heap.objs.size == sysModules)=false:=beq_eq_false_iff_ne.mpr (Ne.symm (Nat.ne_of_lt I.big))
    have hun:=hr.un
    rcases r with ⟨kvs,ep,g1,nd,r⟩ | ⟨kvs,g1,r⟩
    · obtain⟨ys,e1,r1⟩:=hS.dT g1
      obtain⟨hd,z,ndk,g⟩:=dxp_at I e1
      have hash:(ys.map fun y=>hashT y.1)=kvs.map fun p=>hashT p.1:=by
        clear e1 z ndk g nd g1 r
        induction r1 with
        | nil=>rfl
        | cons h t ih=>exact congr (congrArg List.cons (congrArg hashT h.1.symm)) ih
      refine call_dict_dict hd g (fun e he=>?_) ?_ (by simp; omega) fun h' ep' g' kk=>?_
      · simp only [List.mem_map] at he
        obtain⟨y,hy,rfl⟩:=he
        have dd:=dx_of I e1 r1
        obtain⟨_,_,_,_,_,_,_,al,_⟩:=dd
        obtain⟨q,its,n',q1,q2,_⟩:=al y hy
        exact⟨y.2.1,q,rfl,q1,q2⟩
      · show((ys.map eT).map (·.hash)).Nodup
        rw [List.map_map,show((fun x:DictEntry=>x.hash) ∘ eT)=fun y:List Int×Addr×Value=>hashT y.1 from rfl,hash]
        exact nd
      · have new:DxP s.heap.objs.size ys ep' h':=⟨hb,z,ndk,g'⟩
        refine⟨.ref s.heap.objs.size,_,I.laid (o:=.ext (DxP s.heap.objs.size ys ep')) (t':=s.toks) kk (Nat.le_refl _) (ext_ok new),rfl,?_⟩
        exact m _ _ _ _ (r _ (hS.free hn) ep') (Kp.new hn) (hS.newG hn ⟨ys,upd_same,r1.kp (Kp.new hn)⟩) (isRef.mpr rfl)
    · obtain⟨vs,hl,jl⟩:=hS.lst g1
      obtain⟨z,its,c,rv,gl⟩:=(show ObjOk X.prog X.w H s.heap a (.lst vs) from I.hok a _ hl)
      obtain⟨ts,rfl,q1,q2⟩:=pairs_raw I jl rv
      have hz:ts.length<=sizeLine:=by
        have:=rv.length
        rw [List.length_map] at this
        omega
      refine call_dict_list (by omega) hr.hd I.big ts gl q2 hz fun h' tk kk dd=>?_
      rw [foldl_snd] at dd
      have z':((ts.map (·.2)).foldl (fun acc k=>storedH acc k.1 k.2.1 k.2.2) []).length<=sizeLine:=by have:=foldH_len (ts.map (·.2)) []; rw [List.length_map,List.length_nil] at this; omega
      obtain⟨ep',new⟩:=dxp_of hb z' dd
      refine⟨.ref s.heap.objs.size,_,I.laid (o:=.ext (DxP s.heap.objs.size _ ep')) (t':=tk) kk (Nat.le_refl _) (ext_ok new),rfl,?_⟩
      exact m _ _ _ _ (r _ (hS.free hn) ep') (Kp.new hn) (hS.newG hn ⟨_,upd_same,(q1.merge .nil).kp (Kp.new hn)⟩) (isRef.mpr rfl)
  · exact r.elim
def gtP:List Int->List Int->Bool
  | [a,b],[c,d]=>decide (c < a) || (decide (a=c) && decide (d < b))
  | _,_=>false
theorem best_gt (key:Nat->List Int) (h2:∀ i,∃ a b,key i=[a,b]):∀ k,argBest (fun i j=>gtP (key i) (key j)) k<=k/\∀ i,i<=k->gtP (key i) (key (argBest (fun i j=>gtP (key i) (key j)) k))=false
  | 0=>⟨Nat.le_refl _,fun i h=>by
      have:i=0:=by omega
      subst this
      obtain⟨a,b,e⟩:=h2 0
      show gtP (key 0) (key 0)=false
      rw [e]
      simp [gtP]⟩
  | k+1=>by
    obtain⟨b1,b2⟩:=best_gt key h2 k
    obtain⟨a,b,e1⟩:=h2 (k+1)
    obtain⟨c,d,e2⟩:=h2 (argBest (fun i j=>gtP (key i) (key j)) k)
    unfold argBest
    by_cases h:gtP (key (k+1)) (key (argBest (fun i j=>gtP (key i) (key j)) k))=true
    · rw [if_pos h]
      refine⟨Nat.le_refl _,fun i hi=>?_⟩
      obtain⟨x,y,e3⟩:=h2 i
      rw [e1,e2] at h
      rw [e1,e3]
      by_cases q:i=k+1
      · subst q
        rw [e1] at e3
        injection e3 with z1 z2
        injection z2 with z2 _
        subst z1 z2
        simp [gtP]
      · have z:=b2 i (by omega)
        rw [e2,e3] at z
        simp only [gtP,Bool.or_eq_true,Bool.and_eq_true,decide_eq_true_eq,Bool.or_eq_false_iff,Bool.and_eq_false_iff,decide_eq_false_iff_not] at h z ⊢
        omega
    · rw [if_neg h]
      refine⟨by omega,fun i hi=>?_⟩
      by_cases q:i=k+1
      · subst q; simpa using h
      · exact b2 i (by omega)
def keyAt (ys:List (List Int×Addr×Value)) (i:Nat):List Int:=(ys[i]?.map (·.1)).getD [0,0]
theorem keyAt_some {ys:List (List Int×Addr×Value)} {i:Nat} {y:List Int×Addr×Value} (h:ys[i]?=some y):keyAt ys i=y.1:=by unfold keyAt; rw [h]; rfl
def bMaxD:DSp:=fun ds S k=>match ds with
  | [.ref a]=>∃ kvs ep,S a=some (.gen (.dT kvs ep))/\kvs≠[]/\(∀ p∈kvs,∃ i j,p.1=[i,j])/\∀ m∈kvs,(∀ p∈kvs,gtP p.1 m.1=false)->k (keyD m.1) S
  | _=>False
theorem b_maxD {X:Cx} {n:Nat} (hr:Room n X.A):CallR X (.builtin "max") (upC X.K bMaxD):=by
  intro pins s σ H xs us Q I rs h
  obtain⟨ds,S,k,i,hS,r,m⟩:=h
  unfold bMaxD at r
  split at r
  · rename_i a
    obtain⟨v,rfl,j⟩:=isDs1 i
    have ex:=isRef.mp j
    subst ex
    obtain⟨u,rfl,ru⟩:=vals1 rs
    cases (show u=Value.ref a from ru)
    obtain⟨kvs,ep,g1,ne,two,r⟩:=r
    obtain⟨ys,e1,r1⟩:=hS.dT g1
    obtain⟨hd,z,ndk,g⟩:=dxp_at I e1
    have hun:=hr.un
    have la:a < s.heap.objs.size:=Heap.lt_size g
    have len:=r1.length
    have n0:0 < ys.length:=by rw [<- len]; exact List.length_pos_iff.mpr ne
    have tup:∀ y∈ys,∃ i j dd sl t1 t2 c,y.1=[i,j]/\s.heap.get? y.2.1=some ⟨.type "tuple",dd,.seq #[.int i t1,.int j t2] c,sl⟩:=fun y hy=>by
      obtain⟨q,hq,rfl⟩:=List.mem_iff_getElem.mp hy
      obtain⟨p',hp1,hp2,hp3,_⟩:=r1.at_ (i:=q) (p:=kvs[q]'(by omega)) (by simp)
      rw [List.getElem?_eq_getElem hq] at hp1
      cases hp1
      obtain⟨i,j,ee⟩:=two _ (List.getElem_mem (by omega:q < kvs.length))
      rw [ee] at hp2 hp3
      obtain⟨its,rv,⟨⟨cls,dd,data,sl⟩,h1,h2,c,h3⟩,_⟩:=I.tuple hp3
      obtain⟨w1,w2,rfl,rw1,rw2⟩:=vals2 rv
      obtain⟨t1,rfl⟩:=rw1
      obtain⟨t2,rfl⟩:=rw2
      simp only at h2 h3
      subst h2 h3
      exact⟨i,j,dd,sl,t1,t2,c,hp2.symm,h1⟩
    have hz:ys.length<=sizeLine:=z
    have szE:(ys.map eT).toArray.size=ys.length:=by simp
    have keyOk:∀ i,∃ a b,keyAt ys i=[a,b]:=fun i=>by
      unfold keyAt
      cases q:ys[i]? with
      | none=>exact⟨0,0,rfl⟩
      | some y=>
        obtain⟨a,b,_,_,_,_,_,e,_⟩:=tup y (List.mem_of_getElem? q)
        exact⟨a,b,e⟩
    refine mx_call (pyIter_dk (A:=X.A.in1) hd g ?_)
    refine⟨s.heap.objs.size,_,_,_,_,_,fun i j=>gtP (keyAt ys i) (keyAt ys j),fun h=>∀ y∈ys,∃ i j dd sl t1 t2 c,y.1=[i,j]/\h.get? y.2.1=some ⟨.type "tuple",dd,.seq #[.int i t1,.int j t2] c,sl⟩,rfl,
      walks_dx .k (show X.A.in1.handled=none from hr.hd) s.heap.objs.size a (Nat.ne_of_lt la) _ ep,⟨Heap.get?_push_size _ rfl,Heap.get?_push_of_some _ g⟩,fp_lt la,by rw [szE]; exact n0,fun y hy=>?_,fun S' hS' h h' ph far y hy=>?_,fun i j u v s' Q' E' ph pu pv q=>?_,fun v h' tk pv far=>?_⟩
    · obtain⟨i,j,dd,sl,t1,t2,c,ee,gg⟩:=tup y hy
      exact⟨i,j,dd,sl,t1,t2,c,ee,Heap.get?_push_of_some _ gg⟩
    · obtain⟨i0,j0,dd0,sl0,t10,t20,c0,ee0,gg0⟩:=tup y hy
      have ly:y.2.1 < s.heap.objs.size:=Heap.lt_size gg0
      obtain⟨i,j,dd,sl,t1,t2,c,ee,gg⟩:=ph y hy
      have sp:s.heap.objs.size < S':=Nat.lt_of_lt_of_le (Heap.lt_size (Heap.get?_push_size s.heap (o:=kiO "dict_keyiterator" a 0 (ys.map eT).toArray.size ep) rfl)) hS'
      exact⟨i,j,dd,sl,t1,t2,c,ee,far _ _ (by simp; exact Nat.ne_of_lt ly) (Nat.ne_of_lt (Nat.lt_trans ly sp)) gg⟩
    · obtain⟨e,he,rfl⟩:=pu
      obtain⟨e',he',rfl⟩:=pv
      simp only [List.getElem?_toArray,List.getElem?_map] at he he'
      obtain⟨y,hy,rfl⟩:=Option.map_eq_some_iff.mp he
      obtain⟨y',hy',rfl⟩:=Option.map_eq_some_iff.mp he'
      obtain⟨a1,b1,dd,sl,t1,t2,c,ee,gg⟩:=ph y (List.mem_of_getElem? hy)
      obtain⟨a2,b2,dd',sl',t1',t2',c',ee',gg'⟩:=ph y' (List.mem_of_getElem? hy')
      have T1:s'.TypeIs (.ref y.2.1) "tuple":=⟨_,gg,rfl⟩
      simp only [keyAt_some hy,keyAt_some hy',ee,ee',gtP] at q
      have fin:Value.bool (decide (a2 < a1) || (decide (a1=a2) && decide (b2 < b1)))≠.notImplemented/\Q' (.bool (decide (a2 < a1) || (decide (a1=a2) && decide (b2 < b1)))) s':=⟨(by intro z; cases z),q⟩
      exact wpAny_richCompare_same_room (op:=.Gt) T1 ⟨_,gg',rfl⟩ F.slot_tuple_gt (call_meetsIn F.slot_tuple_gt T1 F.entry_tuple_gt (F.args_tuple_gt_2 _ _) (tupGt y.2.1 y'.2.1 a1 b1 a2 b2 t1 t2 t1' t2' c c' dd dd' sl sl') ⟨by show X.A.units+1+1 < cLine; omega,gg,gg',fin⟩) (by show X.A.units+1 < cLine; omega)
    · obtain⟨e,he,rfl⟩:=pv
      simp only [List.getElem?_toArray,List.getElem?_map] at he
      rw [szE] at he
      obtain⟨y,hy,rfl⟩:=Option.map_eq_some_iff.mp he
      obtain⟨b1,b2⟩:=best_gt (keyAt ys) keyOk (ys.length - 1)
      generalize argBest (fun i j=>gtP (keyAt ys i) (keyAt ys j)) (ys.length - 1)=bi at b1 b2 hy
      have lb:bi < kvs.length:=by omega
      obtain⟨q,hq,f1,f2,_⟩:=r1.at_ (i:=bi) (p:=kvs[bi]) (by simp)
      rw [hy] at hq
      cases hq
      have kq:=r kvs[bi] (List.getElem_mem lb) fun p hp=>by
        obtain⟨x,hx,rfl⟩:=List.mem_iff_getElem.mp hp
        obtain⟨q',hq',f1',_⟩:=r1.at_ (i:=x) (p:=kvs[x]) (by simp)
        have z:=b2 x (by omega)
        rw [keyAt_some hq',keyAt_some hy,<- f1',<- f1] at z
        exact z
      have I1:Inv X pins σ H {s with heap:=s.heap.push (kiO "dict_keyiterator" a 0 (ys.map eT).toArray.size ep)}:=I.kept (t':=s.toks) fun c o e=>Heap.get?_push_of_some _ e
      refine⟨.ref y.2.1,H,Inv.turnedL (s:={s with heap:=s.heap.push (kiO "dict_keyiterator" a 0 (ys.map eT).toArray.size ep)}) (t':=tk) [s.heap.objs.size] I1 far (fun c hc=>?_),rfl,m _ S _ H kq (Kp.refl H) hS (isKey.mpr ⟨_,rfl,f2⟩)⟩
      have e:c=s.heap.objs.size:=by simpa using hc
      subst e
      exact I.fpOk (Nat.le_refl _) (I.hok.fresh (Nat.le_refl _))
  · exact r.elim
end DL
namespace L2
open PySem PySem.Spec PyProof.Rows
def VwP (p a:Addr):Heap->Prop:=fun h=>h.get? p=some {cls:=.type "dict_values",data:=.fields #[.ref a]}
section
variable {X:Cx} {o:Expr} {to:TE} {apos cpos pos p0:Pos}
def tVals (to:TE):TE:=fun σ H Q=>to σ H fun x H1=>∃ a xs ep,x=.ref a/\H1 a=some (.ext (DL.DxP a xs ep))/\∀ p,H1 p=none->Q (.ref p) (upd H1 p (.ext (VwP p a)))
theorem pe_vals (ho:PE X o to) (hbase:attributeBase o "values" X.env (eval o X.env)=eval o X.env:=by rfl) (hline:(apos.endLine == cpos.line)=true:=by rfl):PE X (.Call (.Attribute o "values" apos) [] [] cpos) (tVals to):=by
  intro pins s σ H Q I h
  refine wpAny_Call_method0_late hbase hline (thn (ho pins s σ H _ I h) fun v s1 ⟨x,H1,I1,r1,a,xs,ep,ex,e1,q⟩=>?_)
  subst ex
  cases (show v=Value.ref a from r1)
  obtain⟨hd,_,_,g⟩:=DL.dxp_at I1 e1
  refine⟨"dict","dict.values",F.plainAttrs_dict,F.slot_dict_values,F.type_dict_values,⟨_,g,rfl⟩,fun b e=>by cases e; exact⟨_,g,rfl⟩,Calls.callWith_builtin rfl (PySem.evalArgs_none ?_)⟩
  refine call_meetsIn F.slot_dict_values ⟨_,g,rfl⟩ F.entry_dict_values (F.args_dict_values_1 _) (diV a _ ep hd) ⟨g,?_⟩
  have hn:=I1.hok.fresh (Nat.le_refl s1.heap.objs.size)
  have gp:(s1.heap.push {cls:=.type "dict_values",data:=.fields #[.ref a]}).get? s1.heap.objs.size=some {cls:=.type "dict_values",data:=.fields #[.ref a]}:=Heap.get?_push_size _ rfl
  exact⟨.ref s1.heap.objs.size,_,I1.laid (o:=.ext (VwP s1.heap.objs.size a)) (t':=s1.toks) (fun b o e=>Heap.get?_push_of_some _ e) (Nat.le_refl _) ⟨gp,⟨_,gp⟩,fun h1 h2 z k=>k _ z⟩,rfl,q _ hn⟩
theorem src_vals {P:Program} {w:World} {p a:Addr} {es:Array DictEntry} {ep:Nat}:PySem.W.KdlSrc P w "dict_values" p a es.size (fun i v=>∃ e,es[i]?=some e/\v=DIt.of e .v) (fun h=>VwP p a h/\h.get? a=some (DL.dxO es ep)) where
  type:=fun s ok=>⟨_,ok.1,rfl⟩
  there:=fun h ok=>⟨Heap.lt_size ok.1,Heap.lt_size ok.2⟩
  keep:=fun h h' ok k=>⟨k p (.inl rfl) _ ok.1,k a (.inr rfl) _ ok.2⟩
  notList:=by decide
  notTuple:=by decide
  hint:=fun A E s Q ok q=>PySem.W.kdl_hint_values ⟨_,ok.1,rfl⟩ q
  iter:=fun A s hh ok=>⟨kiO "dict_valueiterator" a 0 es.size ep,_,fun E Q q=>pyIter_dv ok.1 ok.2 q,walks_dx .v hh s.heap.objs.size a (Nat.ne_of_lt (Heap.lt_size ok.2)) es ep,⟨Heap.get?_push_size _ rfl,Heap.get?_push_of_some _ ok.2⟩⟩
def rListV:List V->Hp->VK->Prop:=fun xs H Q=>∃ p a ys ep vs,xs=[.ref p]/\H p=some (.ext (VwP p a))/\H a=some (.ext (DL.DxP a ys ep))/\Vals vs (ys.map (·.2.2))/\∀ q,H q=none->Q (.ref q) (upd H q (.lst vs))
theorem call_listV (hc:X.calm=true):CallR X (.type "list") rListV:=by
  intro pins s σ H xs us Q I rs h
  obtain⟨p,a,ys,ep,vs,rfl,e1,e2,rv,q⟩:=h
  obtain⟨u,rfl,ru⟩:=vals1 rs
  cases (show u=Value.ref p from ru)
  have g1:=(I.hok p _ e1).1
  obtain⟨_,z,_,g2⟩:=DL.dxp_at I e2
  have hn:=I.hok.fresh (Nat.le_refl s.heap.objs.size)
  have sz:(ys.map DL.eT).toArray.size=ys.length:=by simp
  refine PySem.W.kdl_call (src_vals (p:=p) (a:=a) (es:=(ys.map DL.eT).toArray) (ep:=ep)) (I.ok.hd hc) ⟨g1,g2⟩ (by rw [sz]; exact z) fun h' tk acc' c' kk gn it=>?_
  have ev:acc'.toList=ys.map (·.2.2):=by
    obtain⟨l1,l2⟩:=it
    apply List.ext_getElem?
    intro i
    rw [Array.getElem?_toList,List.getElem?_map]
    cases q1:acc'[i]? with
    | none=>
      have:acc'.size<=i:=by simpa using q1
      rw [l1,sz] at this
      rw [List.getElem?_eq_none this]
      rfl
    | some v=>
      obtain⟨e,he,rfl⟩:=l2 i v q1
      simp only [List.getElem?_toArray,List.getElem?_map] at he
      obtain⟨y,hy,rfl⟩:=Option.map_eq_some_iff.mp he
      rw [hy]
      rfl
  have ea:acc'=(ys.map (·.2.2)).toArray:=by rw [<- ev]
  refine⟨.ref s.heap.objs.size,_,I.laid (o:=.lst vs) (t':=tk) kk (Nat.le_refl _) ⟨?_,_,c',rv,by rw [gn,ea]⟩,rfl,q _ hn⟩
  rw [rv.length,List.length_map]
  exact z
end
end L2
namespace DL
open PySem PySem.Spec PyProof.Rows L2
theorem KtR.vals {K:Fg} {H:Hp}:∀ {kvs:List (List Int×D)} {xs:List (List Int×Addr×Value)},KtR K H kvs xs->∃ vs,Vals vs (xs.map (·.2.2))/\IsDs K H (kvs.map (·.2)) vs
  | _,_,.nil=>⟨[],.nil,IsDs.nil⟩
  | _,_,.cons ⟨_,_,v,h3,h4⟩ t=>by
    obtain⟨vs,a,b⟩:=KtR.vals t
    exact⟨v::vs,.cons h3 a,IsDs.cons h4 b⟩
def dListV (go:DE):DE:=fun L S k=>go L S fun d S1=>match d with
  | .ref a=>∃ kvs ep,S1 a=some (.gen (.dT kvs ep))/\∀ p,S1 p=none->k (.ref p) (put S1 p (.lst (kvs.map (·.2))))
  | _=>False
theorem d_listVj {X:Cx} {o:Expr} {go:DE} {apos cpos pos p0:Pos} (hc:X.calm=true) (hg:Gl X "list") (hm:X.mg "list"=none) (ho:EJ X o go) (hbase:attributeBase o "values" X.env (eval o X.env)=eval o X.env:=by rfl) (hline:(apos.endLine == cpos.line)=true:=by rfl):
    EJ X (.Call (.Name "list" p0) [.Call (.Attribute o "values" apos) [] [] cpos] [] pos) (dListV go):=
  ⟨PE.imp (pe_callTy (call_listV hc) hg hm (by decide +kernel) (pa_cons (pe_vals ho.h hbase hline) pa_nil rfl)) fun σ H Q ⟨L,S,k,hL,hS,h,n⟩=>up.go hL hS h fun d S1 v H1 h1 k1 hL1 hS1 i1=>by
    cases d with
    | ref a=>
      obtain⟨kvs,ep,g1,h1⟩:=h1
      obtain⟨xs,e1,r1⟩:=hS1.dT g1
      have ex:=isRef.mp i1
      subst ex
      refine⟨a,xs,ep,rfl,e1,fun p hp=>?_⟩
      obtain⟨vs,q1,q2⟩:=r1.vals
      have kn:Kp H1 (upd H1 p (.ext (VwP p a))):=Kp.new hp
      have na:a≠p:=ne_of_none e1 hp
      refine⟨p,a,xs,ep,vs,rfl,upd_same,by rw [upd_ne na]; exact e1,q1,fun q hq=>?_⟩
      have hS2:Hs X.K (upd H1 p (.ext (VwP p a))) S1:=hS1.new hp
      exact n _ _ _ _ (h1 q (hS2.free hq)) ((k1.trans kn).trans (Kp.new hq)) (hS2.newL hq (q2.kp kn)) (isRef.mpr rfl)
    | _=>exact(show False from h1).elim⟩
end DL
namespace PySem
open Builtin DL
def Hit (A:Around) (s:Shared) (ys:List (List Int×Addr×Value)):List (List Int×Addr×Value)->Bool->Prop
  | [],r=>r=true
  | x::xs,r=>(atKey ys x.1=none/\r=false)\/∃ p e r',atKey ys x.1=some p/\SeqAt.EqAt A s x.2.2 p.2 e/\Hit A s ys xs r'/\r=(e && r')
section
variable {prog:Program} {w:World} {A:Around} {E:Value->Shared->Prop}
theorem sp_dx {nm:String} {a b:Addr} {s:Shared} {xs ys:List (List Int×Addr×Value)} {ep ep':Nat} {r:Bool} {Q:Bool->Shared->Prop} (ha:(a == sysModules)=false) (hb:(b == sysModules)=false) (ga:s.heap.get? a=some (dxO (xs.map eT).toArray ep)) (gb:s.heap.get? b=some (dxO (ys.map eT).toArray ep'))
    (ka:∀ x∈xs,(tupleKind (intKind prog w)).is s.heap x.1 x.2.1) (kb:∀ x∈ys,(tupleKind (intKind prog w)).is s.heap x.1 x.2.1) (nb:(ys.map (·.1)).Nodup) (hu:(tupleKind (intKind prog w)).room A) (len:xs.length=ys.length) (hit:Hit A s ys xs r) (h:Q r s):
    wpAny (model prog w) A (Builtin.Dict.samePairs nm a b) Q E s:=by
  have na:¬ (a == sysModules)=true:=by rw [ha]; decide
  have nb':¬ (b == sysModules)=true:=by rw [hb]; decide
  unfold Builtin.Dict.samePairs Builtin.Dict.showsAll
  rw [if_neg na,if_neg nb']
  refine wpAny_bind (wpAny_pure (wpAny_bind (wpAny_pure (wpAny_bind (wpAny_dictEntries ga rfl ?_)))))
  dsimp only
  refine wpAny_bind (wpAny_dictEntries gb rfl ?_)
  have sz:(xs.map eT).toArray.size=(ys.map eT).toArray.size:=by simp [len]
  rw [if_neg (by rw [sz]; simp)]
  refine wpAny_bind (wpAny_dictEpoch ga rfl (wpAny_bind ?_))
  rw [Std.Legacy.Range.forIn_eq_forIn_range']
  have sz2:(xs.map eT).toArray.size=xs.length:=by simp
  simp only [Std.Legacy.Range.size,Nat.sub_zero,Nat.add_sub_cancel,Nat.div_one,sz2]
  refine wpAny_forIn_list _ (fun rest q s'=>s'=s/\q=(none,())/\∃ pre suf,xs=pre++suf/\rest=List.range' pre.length suf.length/\Hit A s ys suf r) _ ?_ ?_ _ _ ⟨rfl,rfl,[],xs,rfl,rfl,hit⟩
  · rintro i rest q s' ⟨rfl,rfl,pre,suf,ex,er,ht⟩
    cases suf with
    | nil=>cases er
    | cons x suf=>
      rw [List.length_cons,List.range'_succ] at er
      injection er with e1 e2
      subst e1
      have gx:(xs.map eT).toArray[pre.length]?=some (eT x):=by simp [ex]
      refine wpAny_bind (wpAny_dictEntries ga rfl ?_)
      rw [gx]
      have mx:x∈xs:=by rw [ex]; simp
      refine wpAny_bind (wpAny_holding (wpAny_bind (wpAny_dictFind_heap (knd:=tupleKind (intKind prog w)) (k:=x.1) (a:=x.2.1) (xs:=ys) hu (ka x mx) gb rfl rfl kb nb (fun no=>?_) (fun j p hj=>?_))))
      · rcases ht with ⟨_,er⟩ | ⟨p,e,r',hp,_⟩
        · subst er
          exact wpAny_pure (wpAny_pure (wpAny_pure h))
        · rw [atKey_none_of_get no] at hp
          cases hp
      · rcases ht with ⟨hn,_⟩ | ⟨p',e,r',hp,he,ht',er⟩
        · rw [atKey_of_get nb hj] at hn
          cases hn
        · rw [atKey_of_get nb hj] at hp
          cases hp
          have gy:(ys.map eT).toArray[j]?=some (eT (x.1,p)):=by simp [hj]
          refine wpAny_bind (wpAny_dictEntries gb rfl ?_)
          rw [gy]
          refine wpAny_holding (he prog w _ _ ?_)
          cases e with
          | false=>
            rw [Bool.false_and] at er
            subst er
            exact wpAny_pure (wpAny_pure h)
          | true=>
            rw [Bool.true_and] at er
            subst er
            refine wpAny_bind (wpAny_dictEpoch ga rfl ?_)
            rw [if_neg (by simp)]
            exact wpAny_pure ⟨rfl,rfl,pre++[x],suf,by rw [ex]; simp,by simp [e2],ht'⟩
  · rintro q s' ⟨rfl,rfl,pre,suf,ex,er,ht⟩
    cases suf with
    | cons x suf=>rw [List.length_cons,List.range'_succ] at er; cases er
    | nil=>
      have ht:r=true:=ht
      subst ht
      exact wpAny_pure h
end
end PySem
namespace DL
open PySem PySem.Spec PyProof.Rows L2
def HitD (kvs':List (List Int×D)):List (List Int×D)->Bool->Prop
  | [],r=>r=true
  | p::ps,r=>(getT kvs' p.1=none/\r=false)\/∃ d e r',getT kvs' p.1=some d/\eqT 6 p.2 d=some e/\HitD kvs' ps r'/\r=(e && r')
section
variable {X:Cx} {pins:List (Addr×Obj)} {σ:L2.St} {H:Hp} {s:Shared}
theorem hit_of (I:Inv X pins σ H s) {A:Around} (hu:A.units+6 < cLine) {kvs':List (List Int×D)} {ys:List (List Int×Addr×Value)} (r2:KtR X.K H kvs' ys):∀ {kvs:List (List Int×D)} {xs:List (List Int×Addr×Value)} {r:Bool},KtR X.K H kvs xs->HitD kvs' kvs r->Hit A s ys xs r
  | _,_,_,.nil,h=>h
  | p::ps,q::qs,r,.cons c t,h=>by
    obtain⟨e1,_,v,rv,iv⟩:=c
    rcases h with ⟨hn,er⟩ | ⟨d,e,r',hd,he,ht,er⟩
    · rcases r2.get p.1 with ⟨_,g⟩ | ⟨_,_,_,_,g,_⟩
      · exact .inl ⟨by rw [<- e1]; exact g,er⟩
      · rw [hn] at g
        cases g
    · rcases r2.get p.1 with ⟨g,_⟩ | ⟨d',b,u,v2,g,hp,rv2,iv2⟩
      · rw [hd] at g
        cases g
      · rw [hd] at g
        cases g
        exact .inr ⟨(b,u),e,r',by rw [<- e1]; exact hp,(eqT_at I 6 A p.2 d v v2 q.2.2 u e hu he iv iv2 rv rv2).1,hit_of I hu r2 t ht,er⟩
end
end DL
namespace PySem
open Builtin DL
section
variable {prog:Program} {w:World} {A:Around} {E:Value->Shared->Prop}
theorem dx_eq {a b:Addr} {s:Shared} {r:Bool} {Q:Value->Shared->Prop} (T1:s.TypeIs (.ref a) "dict") (T2:s.TypeIs (.ref b) "dict") (hu:A.units < cLine) (sp:∀ (Q':Bool->Shared->Prop),Q' r s->wpAny (model prog w) A.in1 (Builtin.Dict.samePairs "dict.__eq__" a b) Q' E s) (h:Q (.bool r) s):
    wpAny (model prog w) A (compareOp .Eq (.ref a) (.ref b)) Q E s:=by
  refine wpAny_richCompare_same_room (op:=.Eq) T1 T2 F.slot_dict_eq (wpAny_call_entry F.slot_dict_eq T1 F.entry_dict_eq ?_ (F.args_dict_eq_2 _ _)) hu
  refine wpAny_bind (m:=Builtin.Dict.dictSlotArgs "__eq__" ⟨[.ref a,.ref b],[]⟩) ?_
  unfold Builtin.Dict.dictSlotArgs
  refine wpAny_bind (wpAny_notOrdered_dict T1 (wpAny_pure (wpAny_bind (wpAny_isInstance (T:="dict") T2 F.sub_dict_dict ?_))))
  rw [if_neg (by decide)]
  refine wpAny_bind (wpAny_pure (wpAny_bind (wpAny_pure (wpAny_bind (sp _ ?_)))))
  exact wpAny_pure ⟨_,rfl,(by intro z; cases z),by cases r <;> exact h⟩
theorem sp_len {nm:String} {a b:Addr} {s:Shared} {es es':Array DictEntry} {ep ep':Nat} {Q:Bool->Shared->Prop} (ha:(a == sysModules)=false) (hb:(b == sysModules)=false) (ga:s.heap.get? a=some (dxO es ep)) (gb:s.heap.get? b=some (dxO es' ep')) (n:es.size≠es'.size) (h:Q false s):
    wpAny (model prog w) A (Builtin.Dict.samePairs nm a b) Q E s:=by
  have na:¬ (a == sysModules)=true:=by rw [ha]; decide
  have nb':¬ (b == sysModules)=true:=by rw [hb]; decide
  unfold Builtin.Dict.samePairs Builtin.Dict.showsAll
  rw [if_neg na,if_neg nb']
  refine wpAny_bind (wpAny_pure (wpAny_bind (wpAny_pure (wpAny_bind (wpAny_dictEntries ga rfl ?_)))))
  dsimp only
  refine wpAny_bind (wpAny_dictEntries gb rfl ?_)
  rw [if_pos (by simpa using n)]
  exact wpAny_bind (wpAny_rule (wpAny_pure h))
end
end PySem
namespace DL
open PySem PySem.Spec PyProof.Rows L2
theorem items_cast {p q:Program} {u v:World}:∀ {k:List Int} {l:List Value},PySem.ItemsAre (intKind p u) k l->PySem.ItemsAre (intKind q v) k l:=by
  intro k l h
  induction h with
  | nil=>exact .nil
  | cons a _ ih=>exact .cons a ih
def EqR (kvs kvs':List (List Int×D)) (r:Bool):Prop:=(kvs.length≠kvs'.length/\r=false)\/(kvs.length=kvs'.length/\HitD kvs' kvs r)
section
variable {X:Cx} {pins:List (Addr×Obj)} {σ:L2.St} {H:Hp} {s:Shared}
theorem sp_of (I:Inv X pins σ H s) {S:DH} (hS:Hs X.K H S) {a b:Addr} {kvs kvs':List (List Int×D)} {ep ep':Nat} {r:Bool} {A:Around} (hu:A.units+7 < cLine) (g1:S a=some (.gen (.dT kvs ep))) (g2:S b=some (.gen (.dT kvs' ep'))) (h:EqR kvs kvs' r) {nm:String} {E:Value->Shared->Prop} {prog:Program} {w:World}:
    ∀ (Q':Bool->Shared->Prop),Q' r s->wpAny (model prog w) A.in1 (Builtin.Dict.samePairs nm a b) Q' E s:=fun Q' hq=>by
  obtain⟨xs,w1,r1⟩:=hS.dT g1
  obtain⟨ys,w2,r2⟩:=hS.dT g2
  obtain⟨hd1,_,n1,t1⟩:=dxp_at I w1
  obtain⟨hd2,_,n2,t2⟩:=dxp_at I w2
  have l1:=r1.length
  have l2:=r2.length
  rcases h with ⟨hl,rfl⟩ | ⟨hl,ht⟩
  · exact sp_len hd1 hd2 t1 t2 (by simp; omega) hq
  · obtain⟨_,_,_,_,_,_,_,k1,_⟩:=dx_of I w1 r1
    obtain⟨_,_,_,_,_,_,_,k2,_⟩:=dx_of I w2 r2
    have ct:∀ k a,(tupleKind (intKind X.prog X.w)).is s.heap k a->(tupleKind (intKind prog w)).is s.heap k a:=fun k a h=>by
      obtain⟨o,its,n,h1,h2,h3,h4⟩:=h
      exact⟨o,its,n,h1,h2,h3,items_cast h4⟩
    exact sp_dx hd1 hd2 t1 t2 (fun x hx=>ct _ _ (k1 x hx)) (fun x hx=>ct _ _ (k2 x hx)) n2 (tupleKind_room_in1 (by omega)) (by omega) (hit_of I (by show A.units+1+6 < cLine; omega) r2 r1 ht) hq
end
def dEqDD:D2:=fun d e S k=>match d,e with
  | .ref a,.ref b=>∃ kvs ep kvs' ep' r,S a=some (.gen (.dT kvs ep))/\S b=some (.gen (.dT kvs' ep'))/\EqR kvs kvs' r/\k (.bl r) S
  | _,_=>False
theorem o_eqDD {X:Cx} {n:Nat} (hr:Room n X.A):OpR X (compareOp .Eq) (upR X.K dEqDD):=by
  intro pins s σ H x y v u Q I rx ry h
  obtain⟨d,e,S,k,i1,i2,hS,r,m⟩:=h
  unfold dEqDD at r
  split at r
  · rename_i a b
    obtain⟨kvs,ep,kvs',ep',r0,g1,g2,hl,r⟩:=r
    have e1:=isRef.mp i1
    have e2:=isRef.mp i2
    subst e1 e2
    cases (show v=Value.ref a from rx)
    cases (show u=Value.ref b from ry)
    obtain⟨xs,w1,r1⟩:=hS.dT g1
    obtain⟨ys,w2,r2⟩:=hS.dT g2
    have hu:=hr.units
    exact dx_eq ⟨_,(dxp_at I w1).2.2.2,rfl⟩ ⟨_,(dxp_at I w2).2.2.2,rfl⟩ (by omega) (sp_of I hS (by omega) g1 g2 hl) ⟨.bl r0,H,I,rfl,up1 m hS r (isBl.mpr rfl)⟩
  · exact r.elim
end DL
namespace My
open PySem PySem.Spec PyProof.Rows L2 DL HM
set_option maxHeartbeats 4000000
def top (i : Nat) : Stmt := PySem.Challenge.pw_hingedraw_k64_curves_of_pens.main.body.getD i (.Pass ⟨0, 0, 0, 0⟩)
abbrev s_common_divisor:Stmt:=top 7
abbrev s_ratio:Stmt:=top 8
abbrev s_plus:Stmt:=top 9
abbrev s_minus:Stmt:=top 10
abbrev s_times:Stmt:=top 11
abbrev s_negative:Stmt:=top 12
abbrev s_product_of_ways:Stmt:=top 14
abbrev s_without_noughts:Stmt:=top 16
abbrev s_common_multiple:Stmt:=top 20
abbrev s_common_bottom:Stmt:=top 21
abbrev s_tops_over:Stmt:=top 22
abbrev s_normal_of_tops:Stmt:=top 25
abbrev s_normal:Stmt:=top 26
abbrev s_line_from:Stmt:=top 27
abbrev s_round_about:Stmt:=top 28
abbrev s_curve_plus:Stmt:=top 17
abbrev s_curve_grown:Stmt:=top 19
abbrev s_curve_minus:Stmt:=top 18
abbrev s_product_of_tops:Stmt:=top 23
abbrev s_curve_times:Stmt:=top 24
abbrev s_difference_of_products:Stmt:=top 31
abbrev s_rod_curves:Stmt:=top 30
abbrev s_coupler_curve:Stmt:=top 32
abbrev s__law_cell_at:Stmt:=top 34
abbrev s__law_state:Stmt:=top 35
abbrev s__law_take:Stmt:=top 36
abbrev s__law_divisor:Stmt:=top 37
abbrev s__law_ratio:Stmt:=top 38
abbrev s__law_times:Stmt:=top 41
abbrev s__law_small:Stmt:=top 43
abbrev s__law_above:Stmt:=top 44
abbrev s__law_plus:Stmt:=top 39
abbrev s__law_minus:Stmt:=top 40
abbrev s__law_added:Stmt:=top 45
abbrev s__law_multiplied:Stmt:=top 46
abbrev s__law_same:Stmt:=top 48
abbrev s__law_normal:Stmt:=top 47
abbrev s__law_alike:Stmt:=top 49
abbrev s__law_four_rods:Stmt:=top 50
abbrev s__law_rounds:Stmt:=top 51
abbrev s__law_coupler:Stmt:=top 52
abbrev s_law:Stmt:=top 53
theorem bt_abs:bootBuiltins "abs"=some (.builtin "abs"):=by decide +kernel
theorem bt_max:bootBuiltins "max"=some (.builtin "max"):=by decide +kernel
theorem bt_len:bootBuiltins "len"=some (.builtin "len"):=by decide +kernel
theorem bt_list:bootBuiltins "list"=some (.type "list"):=by decide +kernel
theorem bt_dict:bootBuiltins "dict"=some (.type "dict"):=by decide +kernel
theorem bt_isinstance:bootBuiltins "isinstance"=some (.builtin "isinstance"):=by decide +kernel
theorem bt_tuple:bootBuiltins "tuple"=some (.type "tuple"):=by decide +kernel
theorem bt_all:bootBuiltins "all"=some (.builtin "all"):=by decide +kernel
theorem bt_bool:bootBuiltins "bool"=some (.type "bool"):=by decide +kernel
theorem bt_min:bootBuiltins "min"=some (.builtin "min"):=by decide +kernel
theorem ite_ne {y:Int} {A B:Prop} (h1:y≠0->A) (h2:y=0->B):if (!decide (y=0))=true then A else B:=by
  by_cases h:y=0
  · rw [if_neg (by simp [h])]; exact h2 h
  · rw [if_pos (by simp [h])]; exact h1 h
theorem ite_dec {p:Prop} [Decidable p] {A B:Prop} (h1:p->A) (h2:¬ p->B):if decide p=true then A else B:=by
  by_cases h:p
  · rw [if_pos (by simp [h])]; exact h1 h
  · rw [if_neg (by simp [h])]; exact h2 h
theorem ite_b {c:Bool} {A B:Prop} (h1:c=true->A) (h2:c=false->B):if c=true then A else B:=by
  cases c
  · exact iteF (h2 rfl)
  · exact iteT (h1 rfl)
theorem ite_nb {c:Bool} {A B:Prop} (h1:c=false->A) (h2:c=true->B):if (!c)=true then A else B:=by
  cases c
  · exact iteT (h1 rfl)
  · exact iteF (h2 rfl)
theorem atI_mem {ds:List D} {i:Int} (h0:0<=i) (h1:i < (ds.length:Int)):∃ d,L2.atI ds i=some d/\d∈ds:=by
  obtain⟨n,rfl⟩:=Int.eq_ofNat_of_zero_le h0
  have hn:n < ds.length:=by omega
  exact⟨ds[n],atI_nat (by simp [hn]),List.getElem_mem hn⟩
theorem loop_all {ok:DH->Prop} {g:DG} {b:DS} {M:DEnds} {P:D->Prop} (Iv:Lo->DH->Prop) (hok:∀ L S,Iv L S->ok S)
    (hs:∀ d L S N,P d->Iv L S->(∀ L' S',Iv L' S'->N L' S')->g d L S fun L1 S1=>b {M with nx:=N,ct:=N,bk:=M.nx} L1 S1) (hd:∀ L S,Iv L S->M.nx L S):∀ r,(∀ d∈r,P d)->∀ L S,Iv L S->dLoop ok g b M r L S
  | [],_,L,S,i=>⟨hok L S i,hd L S i⟩
  | d::r,hp,L,S,i=>⟨hok L S i,hs d L S _ (hp d List.mem_cons_self) i fun L' S' i'=>loop_all Iv hok hs hd r (fun e he=>hp e (List.mem_cons_of_mem _ he)) L' S' i'⟩
instance {n:Nat} {x:Int}:Decidable (Bt n x):=inferInstanceAs (Decidable (x.natAbs < 2 ^ n))
theorem put_keep {S:DH} {p a:Addr} {o u:DO} (hp:S p=none) (h:S a=some u):put S p o a=some u:=by rw [put_ne (ne_put h hp)]; exact h
theorem few {ds:List D} (h:Nat.ble ds.length sizeLine=true:=by rfl):ds.length<=sizeLine:=Nat.le_of_ble_eq_true h
def SOK (S:DH) (a:Addr):Prop:=∃ n b,S a=some (.lst [.int n,.bl b])/\(b=false->0<=n/\n < 2147483647)
def Dr (a:Addr) (S S':DH):Prop:=SOK S' a/\∀ b o,b≠a->S b=some o->S' b=some o
theorem Dr.trans {a:Addr} {S S1 S2:DH} (h1:Dr a S S1) (h2:Dr a S1 S2):Dr a S S2:=⟨h2.1,fun b o n e=>h2.2 b o n (h1.2 b o n e)⟩
theorem SOK.ne {a p:Addr} {S:DH} (h:SOK S a) (hp:S p=none):p≠a:=by
  obtain⟨n,b,e,_⟩:=h
  intro z
  subst z
  rw [e] at hp
  cases hp
theorem SOK.new {a p:Addr} {S:DH} {o:DO} (h:SOK S a) (hp:S p=none):SOK (put S p o) a:=by
  have z:=h.ne hp
  obtain⟨n,b,e,q⟩:=h
  exact⟨n,b,by rw [put_ne (Ne.symm z)]; exact e,q⟩
theorem Dr.new {a p:Addr} {S:DH} {o:DO} (h:SOK S a) (hp:S p=none):Dr a S (put S p o):=
  ⟨h.new hp,fun b u n e=>by rw [put_ne (ne_put e hp)]; exact e⟩
theorem bt31 {x:Int} (h1:0<=x) (h2:x < 2147483648):Bt 31 x:=by
  unfold Bt
  omega
def N (u a b:Rat):D:=.tup [fr a,fr (ss b*u)]
theorem fr_neg {q:Rat}:D.tup [.int (-q.num),.int (q.den:Int)]=fr (-q):=by
  show _=D.tup [.int (-q).num,.int ((-q).den:Int)]
  rw [Rat.neg_num,Rat.neg_den]
theorem gcd_bt {n:Nat} {t b:Int} (h:b≠0) (hb:Bt n b):Bt n ((Int.gcd t b:Nat):Int):=by
  refine hb.le ?_
  have h1:Int.gcd t b ∣ b.natAbs:=by
    have:=Int.gcd_dvd_right t b
    exact(by have:=Int.natAbs_dvd_natAbs.mpr this; simpa using this)
  have:=Nat.le_of_dvd (by omega) h1
  omega
def F_common_divisor:DSp:=fun ds S k=>match ds with
  | [.int a,.int b]=>k (.int ((Int.gcd a b:Nat):Int)) S
  | _=>False
theorem sc_common_divisor:FnScope ["one","other","rest"] ["one","other"] (defScope s_common_divisor):=⟨rfl,rfl,rfl,by decide +kernel,rfl,by decide +kernel,by decide +kernel⟩
theorem ok_common_divisor {P:Program} {w:World} {K:Fg} {mg:Str->Option Value} {base:Heap} {f:Addr} {fd:FuncData} (Fn:Fun K "common_divisor" "common_divisor" s_common_divisor f fd) (z_abs:mg "abs"=none):
    FnOk P w K mg base CX0 1 f fd ["one","other"] (spU K F_common_divisor):=by
  refine Fn.okJ sc_common_divisor (fun ds S k h=>?_) (fun cdv A outer s H E hr=>⟨_,(ds_consj (dst_whilej PassesOwn.never (dt_cmpj o_ne (d_varj 1) d_intj (nomark _)) (ds_consj (dst_setj (i:=2) sc_common_divisor.nd (d_opj o_mod (d_varj 0) (d_varj 1))) (ds_consj (dst_setj (i:=0) sc_common_divisor.nd (d_varj 1)) (ds_onej (dst_setj (i:=1) sc_common_divisor.nd (d_varj 2)))))) (ds_onej (dst_retj (d_callBj b_abs rfl z_abs bt_abs (da_consj (d_varj 0) da_nilj))))),fun ds S k h=>?_⟩)
  · unfold F_common_divisor at h
    split at h
    · rfl
    · exact h.elim
  · unfold F_common_divisor at h
    split at h
    · rename_i a b
      refine⟨fun m L S'=>S'=S/\∃ x y r,L=[some (.int x),some (.int y),r]/\m=y.natAbs/\Int.gcd x y=Int.gcd a b,⟨_,rfl,a,b,_,rfl,rfl,rfl⟩,?_⟩
      rintro m L S' ⟨rfl,x,y,r,rfl,rfl,e⟩
      refine ite_ne (fun hy=>⟨fun L' S''=>∃ m',m' < y.natAbs/\S''=S'/\∃ x y r,L'=[some (.int x),some (.int y),r]/\m'=y.natAbs/\Int.gcd x y=Int.gcd a b,fun _ _ z=>z,hy,?_⟩) (fun hy=>?_)
      · exact⟨_,fmod_lt x y hy,rfl,y,x.fmod y,_,rfl,rfl,(gcd_fmod x y).trans e⟩
      · subst hy
        have e2:=gcd_zero x
        rw [e] at e2
        show k (.int (if x < 0 then -x else x)) S'
        rw [<- e2]
        exact h
    · exact h.elim
def F_ratio:DSp:=fun ds S k=>match ds with
  | [.int t,.int b]=>b≠0/\Bt 8000 b/\k (fr (Rat.divInt t b)) S
  | _=>False
theorem ratio_go {S:DH} {k:DK} {t b:Int} {q:Rat} (e:Rat.divInt t b=q) (h0:b≠0) (hb:Bt 8000 b) (h:k (fr q) S):F_ratio [.int t,.int b] S k:=by subst e; exact⟨h0,hb,h⟩
theorem sc_ratio:FnScope ["top","bottom","shared"] ["top","bottom"] (defScope s_ratio):=⟨rfl,rfl,rfl,by decide +kernel,rfl,by decide +kernel,by decide +kernel⟩
theorem ok_ratio {P:Program} {w:World} {K:Fg} {mg:Str->Option Value} {base:Heap} {f:Addr} {fd:FuncData} (Fn:Fun K "ratio" "ratio" s_ratio f fd) (c_common_divisor:Own P w K mg base "common_divisor" 1 F_common_divisor):
    FnOk P w K mg base CX0 2 f fd ["top","bottom"] (spU K F_ratio):=by
  refine Fn.okJ sc_ratio (fun ds S k h=>?_) (fun cdv A outer s H E hr=>⟨_,(ds_consj (dst_ifj (dt_cmpj o_eq (d_varj 1) d_intj (nomark _)) (ds_onej dst_neverj) ds_nilj) (ds_consj (dst_setj (i:=2) sc_ratio.nd (d_callj c_common_divisor (hr.mono (by decide)) rfl (da_consj (d_varj 0) (da_consj (d_varj 1) da_nilj)))) (ds_consj (dst_ifj (dt_cmpj o_lt (d_varj 1) d_intj (nomark _)) (ds_onej (dst_setj (i:=2) sc_ratio.nd (d_unj o_neg (d_varj 2)))) ds_nilj) (ds_onej (dst_retj (d_tupj (da_consj (d_opj o_div (d_varj 0) (d_varj 2)) (da_consj (d_opj o_div (d_varj 1) (d_varj 2)) da_nilj)))))))),fun ds S k h=>?_⟩)
  · unfold F_ratio at h
    split at h
    · rfl
    · exact h.elim
  · unfold F_ratio at h
    split at h
    · rename_i t b
      obtain⟨h0,hb,q⟩:=h
      have hg:=gcd_bt (t:=t) h0 hb
      have hs:=shr_ne (t:=t) h0
      have e1:=div_num (t:=t) h0
      have e2:=div_den (t:=t) h0
      have qq:k (.tup [.int (t.fdiv (shr t b)),.int (b.fdiv (shr t b))]) S:=by rw [e1,e2]; exact q
      unfold shr at qq hs
      refine ite_dec (fun z=>absurd z h0) (fun _=>ite_dec (fun hl=>?_) (fun hl=>?_))
      · rw [if_pos hl] at qq hs
        exact⟨dok hs hg.neg,dok hs hg.neg,few,qq⟩
      · rw [if_neg hl] at qq hs
        exact⟨dok hs hg,dok hs hg,few,qq⟩
    · exact h.elim
def F_plus:DSp:=fun ds S k=>∃ p q:Rat,ds=[fr p,fr q]/\Sz 4000 p/\Sz 4000 q/\k (fr (p+q)) S
theorem sc_plus:FnScope ["one","other"] ["one","other"] (defScope s_plus):=⟨rfl,rfl,rfl,by decide +kernel,rfl,by decide +kernel,by decide +kernel⟩
theorem ok_plus {P:Program} {w:World} {K:Fg} {mg:Str->Option Value} {base:Heap} {f:Addr} {fd:FuncData} (Fn:Fun K "plus" "plus" s_plus f fd) (c_ratio:Own P w K mg base "ratio" 2 F_ratio):
    FnOk P w K mg base CX0 3 f fd ["one","other"] (spU K F_plus):=by
  refine Fn.okJ sc_plus (fun ds S k h=>?_) (fun cdv A outer s H E hr=>⟨_,(ds_onej (dst_retj (d_callj c_ratio (hr.mono (by decide)) rfl (da_consj (d_opj o_add (d_opj o_mul (d_ixj x_ixE (d_varj 0) d_intj (fun _ _=>rfl)) (d_ixj x_ixE (d_varj 1) d_intj (fun _ _=>rfl))) (d_opj o_mul (d_ixj x_ixE (d_varj 1) d_intj (fun _ _=>rfl)) (d_ixj x_ixE (d_varj 0) d_intj (fun _ _=>rfl)))) (da_consj (d_opj o_mul (d_ixj x_ixE (d_varj 0) d_intj (fun _ _=>rfl)) (d_ixj x_ixE (d_varj 1) d_intj (fun _ _=>rfl))) da_nilj))))),fun ds S k h=>?_⟩)
  · obtain⟨_,_,rfl,_⟩:=h
    rfl
  · obtain⟨p,q,rfl,hp,hq,w⟩:=h
    exact⟨mok hp.num hq.den,mok hq.num hp.den,mok hp.den hq.den,ratio_go (add_of p q) (den_mul_ne p q) ((hp.den.mul hq.den).mono (by decide)) w⟩
def F_minus:DSp:=fun ds S k=>∃ p q:Rat,ds=[fr p,fr q]/\Sz 4000 p/\Sz 4000 q/\k (fr (p - q)) S
theorem sc_minus:FnScope ["one","other"] ["one","other"] (defScope s_minus):=⟨rfl,rfl,rfl,by decide +kernel,rfl,by decide +kernel,by decide +kernel⟩
theorem ok_minus {P:Program} {w:World} {K:Fg} {mg:Str->Option Value} {base:Heap} {f:Addr} {fd:FuncData} (Fn:Fun K "minus" "minus" s_minus f fd) (c_ratio:Own P w K mg base "ratio" 2 F_ratio):
    FnOk P w K mg base CX0 3 f fd ["one","other"] (spU K F_minus):=by
  refine Fn.okJ sc_minus (fun ds S k h=>?_) (fun cdv A outer s H E hr=>⟨_,(ds_onej (dst_retj (d_callj c_ratio (hr.mono (by decide)) rfl (da_consj (d_opj o_sub (d_opj o_mul (d_ixj x_ixE (d_varj 0) d_intj (fun _ _=>rfl)) (d_ixj x_ixE (d_varj 1) d_intj (fun _ _=>rfl))) (d_opj o_mul (d_ixj x_ixE (d_varj 1) d_intj (fun _ _=>rfl)) (d_ixj x_ixE (d_varj 0) d_intj (fun _ _=>rfl)))) (da_consj (d_opj o_mul (d_ixj x_ixE (d_varj 0) d_intj (fun _ _=>rfl)) (d_ixj x_ixE (d_varj 1) d_intj (fun _ _=>rfl))) da_nilj))))),fun ds S k h=>?_⟩)
  · obtain⟨_,_,rfl,_⟩:=h
    rfl
  · obtain⟨p,q,rfl,hp,hq,w⟩:=h
    exact⟨mok hp.num hq.den,mok hq.num hp.den,mok hp.den hq.den,ratio_go (sub_of p q) (den_mul_ne p q) ((hp.den.mul hq.den).mono (by decide)) w⟩
def F_times:DSp:=fun ds S k=>∃ p q:Rat,ds=[fr p,fr q]/\Sz 4000 p/\Sz 4000 q/\k (fr (p*q)) S
theorem sc_times:FnScope ["one","other"] ["one","other"] (defScope s_times):=⟨rfl,rfl,rfl,by decide +kernel,rfl,by decide +kernel,by decide +kernel⟩
theorem ok_times {P:Program} {w:World} {K:Fg} {mg:Str->Option Value} {base:Heap} {f:Addr} {fd:FuncData} (Fn:Fun K "times" "times" s_times f fd) (c_ratio:Own P w K mg base "ratio" 2 F_ratio):
    FnOk P w K mg base CX0 3 f fd ["one","other"] (spU K F_times):=by
  refine Fn.okJ sc_times (fun ds S k h=>?_) (fun cdv A outer s H E hr=>⟨_,(ds_onej (dst_retj (d_callj c_ratio (hr.mono (by decide)) rfl (da_consj (d_opj o_mul (d_ixj x_ixE (d_varj 0) d_intj (fun _ _=>rfl)) (d_ixj x_ixE (d_varj 1) d_intj (fun _ _=>rfl))) (da_consj (d_opj o_mul (d_ixj x_ixE (d_varj 0) d_intj (fun _ _=>rfl)) (d_ixj x_ixE (d_varj 1) d_intj (fun _ _=>rfl))) da_nilj))))),fun ds S k h=>?_⟩)
  · obtain⟨_,_,rfl,_⟩:=h
    rfl
  · obtain⟨p,q,rfl,hp,hq,w⟩:=h
    exact⟨mok hp.num hq.num,mok hp.den hq.den,ratio_go (mul_of p q) (den_mul_ne p q) ((hp.den.mul hq.den).mono (by decide)) w⟩
def F_negative:DSp:=fun ds S k=>∃ q:Rat,ds=[fr q]/\k (fr (-q)) S
theorem sc_negative:FnScope ["one"] ["one"] (defScope s_negative):=⟨rfl,rfl,rfl,by decide +kernel,rfl,by decide +kernel,by decide +kernel⟩
theorem ok_negative {P:Program} {w:World} {K:Fg} {mg:Str->Option Value} {base:Heap} {f:Addr} {fd:FuncData} (Fn:Fun K "negative" "negative" s_negative f fd):
    FnOk P w K mg base CX0 1 f fd ["one"] (spU K F_negative):=by
  refine Fn.okJ sc_negative (fun ds S k h=>?_) (fun cdv A outer s H E hr=>⟨_,(ds_onej (dst_retj (d_tupj (da_consj (d_unj o_neg (d_ixj x_ixE (d_varj 0) d_intj (fun _ _=>rfl))) (da_consj (d_ixj x_ixE (d_varj 0) d_intj (fun _ _=>rfl)) da_nilj))))),fun ds S k h=>?_⟩)
  · obtain⟨_,rfl,_⟩:=h
    rfl
  · obtain⟨q,rfl,w⟩:=h
    rw [<- fr_neg] at w
    exact⟨few,w⟩
set_option maxHeartbeats 4000000
def bs (u b d:Rat):Rat:=pick b d*pick b d*u
set_option maxHeartbeats 4000000
def Ext (S S':DH):Prop:=∀ b o,S b=some o->S' b=some o
theorem Ext.refl (S:DH):Ext S S:=fun _ _ h=>h
theorem Ext.trans {S S1 S2:DH} (a:Ext S S1) (b:Ext S1 S2):Ext S S2:=fun c o h=>b c o (a c o h)
theorem Ext.new {S:DH} {p:Addr} {o:DO} (h:S p=none):Ext S (put S p o):=fun b u e=>by
  unfold put
  split
  · rename_i z; subst z; rw [h] at e; cases e
  · exact e
theorem Ext.put {S S1:DH} {p:Addr} {o:DO} (e:Ext S S1) (h:S p=none):Ext S (put S1 p o):=fun b u z=>by
  unfold DL.put
  split
  · rename_i y; subst y; rw [h] at z; cases z
  · exact e b u z
theorem Ext.none {S S1:DH} {p:Addr} (e:Ext S S1) (h:S1 p=none):S p=none:=by
  cases q:S p with
  | none=>rfl
  | some o=>rw [e p o q] at h; cases h
abbrev Q:=Rat×Rat
def qs (x y:Q):Q:=(x.1 - y.1,x.2 - y.2)
def W (x y:Rat):D:=.tup [fr x,fr y]
def F_product_of_ways:DSp:=fun ds S k=>∃ x y z v:Rat,ds=[W x y,W z v]/\Sz 900 x/\Sz 900 y/\Sz 900 z/\Sz 900 v/\k (fr (x*z+y*v)) S
theorem sc_product_of_ways:FnScope ["one","other"] ["one","other"] (defScope s_product_of_ways):=⟨rfl,rfl,rfl,by decide +kernel,rfl,by decide +kernel,by decide +kernel⟩
theorem ok_product_of_ways {P:Program} {w:World} {K:Fg} {mg:Str->Option Value} {base:Heap} {f:Addr} {fd:FuncData} (Fn:Fun K "product_of_ways" "product_of_ways" s_product_of_ways f fd) (c_plus:Own P w K mg base "plus" 3 F_plus) (c_times:Own P w K mg base "times" 3 F_times):
    FnOk P w K mg base CX0 4 f fd ["one","other"] (spU K F_product_of_ways):=by
  refine Fn.okJ sc_product_of_ways (fun ds S k h=>?_) (fun cdv A outer s H E hr=>⟨_,(ds_onej (dst_retj (d_callj c_plus (hr.mono (by decide)) rfl (da_consj (d_callj c_times (hr.mono (by decide)) rfl (da_consj (d_ixj x_ixE (d_varj 0) d_intj (fun _ _=>rfl)) (da_consj (d_ixj x_ixE (d_varj 1) d_intj (fun _ _=>rfl)) da_nilj))) (da_consj (d_callj c_times (hr.mono (by decide)) rfl (da_consj (d_ixj x_ixE (d_varj 0) d_intj (fun _ _=>rfl)) (da_consj (d_ixj x_ixE (d_varj 1) d_intj (fun _ _=>rfl)) da_nilj))) da_nilj))))),fun ds S k h=>?_⟩)
  · obtain⟨_,_,_,_,rfl,_⟩:=h
    rfl
  · obtain⟨x,y,z,v,rfl,hx,hy,hz,hv,w⟩:=h
    exact⟨x,z,rfl,hx.mono (by decide),hz.mono (by decide),y,v,rfl,hy.mono (by decide),hv.mono (by decide),_,_,rfl,(hx.mul hz).mono (by decide),(hy.mul hv).mono (by decide),w⟩
set_option maxHeartbeats 4000000
structure Nrm (c:List (List Int×Rat)) (ns:List (List Int×Int)):Prop where
  keys:ns.map (·.1)=c.map (·.1)
  sc:∃ t:Rat,t≠0/\(∀ p∈ns,∃ q,(p.1,q)∈c/\(p.2:Rat)=t*q)/\∀ p∈c,∃ n:Int,(p.1,n)∈ns/\(n:Rat)=t*p.2
  co:∀ d:Int,(∀ p∈ns,d ∣ p.2)->d ∣ 1
  sg:∃ p∈ns,(∀ q∈ns,gtP q.1 p.1=false)/\0 < p.2
theorem gtP_eq {k l:List Int} (hk:∃ i j,k=[i,j]) (hl:∃ i j,l=[i,j]) (h1:gtP k l=false) (h2:gtP l k=false):k=l:=by
  obtain⟨a,b,rfl⟩:=hk
  obtain⟨c,d,rfl⟩:=hl
  simp only [gtP,Bool.or_eq_false_iff,Bool.and_eq_false_iff,decide_eq_false_iff_not] at h1 h2
  have e1:a=c:=by omega
  have e2:b=d:=by omega
  rw [e1,e2]
theorem key_uniq {α:Type}:∀ {l:List (List Int×α)} {k:List Int} {x y:α},(l.map (·.1)).Nodup->(k,x)∈l->(k,y)∈l->x=y
  | [],_,_,_,_,h,_=>nomatch h
  | p::l,k,x,y,nd,h1,h2=>by
    rw [List.map_cons,List.nodup_cons] at nd
    rcases List.mem_cons.mp h1 with e1 | m1
    · rcases List.mem_cons.mp h2 with e2 | m2
      · have:=e1.trans e2.symm
        injection this
      · refine absurd (List.mem_map.mpr ⟨_,m2,?_⟩) nd.1
        rw [<- e1]
    · rcases List.mem_cons.mp h2 with e2 | m2
      · refine absurd (List.mem_map.mpr ⟨_,m1,?_⟩) nd.1
        rw [<- e2]
      · exact key_uniq nd.2 m1 m2
theorem den_rat (q:Rat):((q.den:Int):Rat)≠0:=fun z=>by
  have:=q.den_nz
  have:(q.den:Int)=0:=Rat.intCast_inj.mp (by rw [z]; rfl)
  omega
theorem den_mulq (q:Rat):((q.den:Int):Rat)*q=(q.num:Rat):=by
  have d0:=den_rat q
  have e:=Rat.num_divInt_den q
  rw [Rat.divInt_eq_div] at e
  grind
theorem rat_int_div {r:Rat} {n m:Int} (h:(m:Rat)=r*n):(r.den:Int)*m=r.num*n:=by
  have z:=den_mulq r
  have e2:(((r.den:Int)*m:Int):Rat)=((r.num*n:Int):Rat):=by
    rw [Rat.intCast_mul,Rat.intCast_mul,h,<- z]
    grind
  exact Rat.intCast_inj.mp e2
theorem cop_dvd {a b n:Int} (h:a ∣ b*n) (c:Nat.Coprime a.natAbs b.natAbs):a ∣ n:=by
  have:=Int.natAbs_dvd_natAbs.mpr h
  rw [Int.natAbs_mul] at this
  exact Int.natAbs_dvd_natAbs.mp (Nat.Coprime.dvd_of_dvd_mul_left c this)
theorem nrm_uniq {c c':List (List Int×Rat)} {ns ns':List (List Int×Int)} {s:Rat} (h:Nrm c ns) (h':Nrm c' ns') (s0:s≠0) (two:∀ p∈c,∃ i j,p.1=[i,j]) (two':∀ p∈c',∃ i j,p.1=[i,j])
    (hc:∀ p∈c,(p.1,s*p.2)∈c') (hc':∀ p∈c',∃ q,(p.1,q)∈c/\p.2=s*q) (nd:(c.map (·.1)).Nodup) (nd':(c'.map (·.1)).Nodup):∀ p∈ns',p∈ns:=by
  obtain⟨t,t0,f1,f2⟩:=h.sc
  obtain⟨t',t0',f1',f2'⟩:=h'.sc
  have ndn:(ns.map (·.1)).Nodup:=by rw [h.keys]; exact nd
  have ndn':(ns'.map (·.1)).Nodup:=by rw [h'.keys]; exact nd'
  have g1:∀ p∈ns',∃ n:Int,(p.1,n)∈ns/\(p.2:Rat)=(t'*s / t)*n:=fun p hp=>by
    obtain⟨q',m1,e1⟩:=f1' p hp
    obtain⟨q,m2,e2⟩:=hc' _ m1
    obtain⟨n,m3,e3⟩:=f2 _ m2
    refine⟨n,m3,?_⟩
    simp only at e2 e3
    rw [e1,e2,e3]
    grind
  have g2:∀ p∈ns,∃ n:Int,(p.1,n)∈ns'/\(n:Rat)=(t'*s / t)*p.2:=fun p hp=>by
    obtain⟨q,m1,e1⟩:=f1 p hp
    obtain⟨n,m3,e3⟩:=f2' _ (hc _ m1)
    refine⟨n,m3,?_⟩
    simp only at e3
    rw [e1,e3]
    grind
  generalize t'*s / t=r at g1 g2
  have d1:(r.den:Int) ∣ 1:=h.co _ fun p hp=>by
    obtain⟨n,_,e⟩:=g2 p hp
    have z:=rat_int_div e
    exact cop_dvd (b:=r.num) ⟨n,z.symm⟩ (Nat.Coprime.symm r.reduced)
  have d2:r.num ∣ 1:=h'.co _ fun p hp=>by
    obtain⟨n,_,e⟩:=g1 p hp
    have z:=rat_int_div e
    exact cop_dvd (b:=(r.den:Int)) ⟨n,z⟩ r.reduced
  have den1:r.den=1:=by
    have:=Int.eq_one_of_dvd_one (by omega) d1
    omega
  have num1:r.num=1\/r.num=-1:=by
    have:=Int.natAbs_dvd_natAbs.mpr d2
    have h1:r.num.natAbs=1:=Nat.dvd_one.mp (by simpa using this)
    omega
  have rpos:r.num=1:=by
    rcases num1 with e | e
    · exact e
    · exfalso
      obtain⟨p,hp,mx,pos⟩:=h.sg
      obtain⟨p',hp',mx',pos'⟩:=h'.sg
      obtain⟨n,m1,e1⟩:=g2 p hp
      obtain⟨n',m2,e2⟩:=g1 p' hp'
      obtain⟨q,w1,_⟩:=f1 p hp
      obtain⟨q',w1',_⟩:=f1' p' hp'
      have ek:p.1=p'.1:=gtP_eq (two _ w1) (two' _ w1') (mx' (p.1,n) m1) (mx (p'.1,n') m2)
      have ep:n'=p.2:=key_uniq ndn (k:=p.1) (by rw [ek]; exact m2) hp
      have z:=rat_int_div e2
      rw [den1,e,ep] at z
      omega
  intro p hp
  obtain⟨n,m1,e1⟩:=g1 p hp
  have z:=rat_int_div e1
  rw [den1,rpos] at z
  have:p.2=n:=by omega
  rw [<- this] at m1
  exact m1
def topI (B:Int) (q:Rat):Int:=q.num*B.fdiv (q.den:Int)
theorem topI_eq {B:Int} {q:Rat} (h:(q.den:Int) ∣ B):((topI B q:Int):Rat)=B*q:=by
  obtain⟨c,rfl⟩:=h
  have d0:(q.den:Int)≠0:=by have:=q.den_nz; omega
  have z:=den_mulq q
  unfold topI
  rw [Int.mul_fdiv_cancel_left c d0,Rat.intCast_mul,Rat.intCast_mul,<- z]
  grind
theorem nrm_of {c:List (List Int×Rat)} {B g:Int} (B0:B≠0) (hd:∀ p∈c,(p.2.den:Int) ∣ B) (g0:g≠0) (gd:∀ p∈c,g ∣ topI B p.2) (gm:∀ d:Int,(∀ p∈c,d ∣ topI B p.2)->d ∣ g)
    (hs:∃ p∈c,(∀ q∈c,gtP q.1 p.1=false)/\0 < (topI B p.2).fdiv g):Nrm c (c.map fun p=>(p.1,(topI B p.2).fdiv g)):=by
  have ex:∀ p∈c,g*(topI B p.2).fdiv g=topI B p.2:=fun p hp=>by
    obtain⟨x,e⟩:=gd p hp
    rw [e,Int.mul_fdiv_cancel_left x g0]
  have gr:(g:Rat)≠0:=by
    intro z
    exact g0 (Rat.intCast_inj.mp (by rw [z]; rfl))
  have tr:∀ p∈c,(((topI B p.2).fdiv g:Int):Rat)=((B:Rat) / g)*p.2:=fun p hp=>by
    have e:=congrArg (fun z:Int=>(z:Rat)) (ex p hp)
    simp only [Rat.intCast_mul] at e
    rw [topI_eq (hd p hp)] at e
    grind
  refine⟨by rw [List.map_map]; rfl,⟨(B:Rat) / g,?_,fun p hp=>?_,fun p hp=>⟨_,List.mem_map.mpr ⟨p,hp,rfl⟩,tr p hp⟩⟩,fun d h=>?_,?_⟩
  · intro z
    have:(B:Rat)=0:=by grind
    exact B0 (Rat.intCast_inj.mp (by rw [this]; rfl))
  · obtain⟨x,hx,rfl⟩:=List.mem_map.mp hp
    exact⟨x.2,hx,tr x hx⟩
  · have z:d*g ∣ g:=gm _ fun p hp=>by
      obtain⟨x,e⟩:=h _ (List.mem_map.mpr ⟨p,hp,rfl⟩)
      simp only at e
      refine⟨x,?_⟩
      have:=ex p hp
      rw [<- this,e]
      grind
    obtain⟨y,e⟩:=z
    refine⟨y,?_⟩
    have : g * (d * y) = g * 1 := by rw [Int.mul_one]; conv => rhs; rw [e]
                                     grind
    exact(Int.eq_of_mul_eq_mul_left g0 this).symm
  · obtain⟨p,hp,mx,pos⟩:=hs
    refine⟨_,List.mem_map.mpr ⟨p,hp,rfl⟩,fun q hq=>?_,pos⟩
    obtain⟨x,hx,rfl⟩:=List.mem_map.mp hq
    exact mx x hx
def kvD {α:Type} (f:α->D) (l:List (List Int×α)):List (List Int×D):=l.map fun p=>(p.1,f p.2)
abbrev cvD:=kvD fr
abbrev tpD:=kvD D.int
abbrev nmD:=kvD (fun n:Int=>D.tup [.int n,.int 1])
abbrev dTo (l:List (List Int×D)) (ep:Nat):DO:=.gen (.dT l ep)
section
variable {α:Type} {f:α->D}
theorem getT_none:∀ {l:List (List Int×α)} {k:List Int},k∉l.map (·.1)->getT (kvD f l) k=none
  | [],_,_=>rfl
  | p::l,k,h=>by
    rw [List.map_cons,List.mem_cons,not_or] at h
    have e:getT (kvD f (p::l)) k=getT (kvD f l) k:=by simp [getT,kvD,List.find?_cons,Ne.symm h.1]
    rw [e]
    exact getT_none h.2
theorem getT_some:∀ {l:List (List Int×α)} {k:List Int} {x:α},(l.map (·.1)).Nodup->(k,x)∈l->getT (kvD f l) k=some (f x)
  | [],_,_,_,h=>nomatch h
  | p::l,k,x,nd,h=>by
    rw [List.map_cons,List.nodup_cons] at nd
    rcases List.mem_cons.mp h with e | m
    · subst e
      simp [getT,kvD]
    · have ne:p.1≠k:=fun z=>nd.1 (List.mem_map.mpr ⟨_,m,z.symm⟩)
      have e:getT (kvD f (p::l)) k=getT (kvD f l) k:=by simp [getT,kvD,List.find?_cons,ne]
      rw [e]
      exact getT_some nd.2 m
theorem putT_app {l:List (List Int×α)} {k:List Int} {x:α} (h:k∉l.map (·.1)):putT (kvD f l) k (f x)=kvD f (l++[(k,x)]):=by
  unfold putT
  rw [getT_none h,if_neg (by simp)]
  simp [kvD]
theorem kvD_len {l:List (List Int×α)}:(kvD f l).length=l.length:=List.length_map _
theorem nd_mid {l r:List (List Int×α)} {p:List Int×α} (h:((l++p::r).map (·.1)).Nodup):p.1∉l.map (·.1):=by
  rw [List.map_append,List.map_cons,List.nodup_append] at h
  exact fun m=>h.2.2 _ m _ List.mem_cons_self rfl
end
theorem lim {n:Nat} (h:n<=100):n < sizeLine:=Nat.lt_of_lt_of_le (by omega:n < 300) (Nat.le_of_ble_eq_true (rfl:Nat.ble 300 sizeLine=true))
theorem nd_filter {l:List (List Int×Rat)} {g:List Int×Rat->Bool} (h:(l.map (·.1)).Nodup):((l.filter g).map (·.1)).Nodup:=List.Sublist.nodup (List.Sublist.map _ List.filter_sublist) h
theorem mem_ff {l:List (List Int×Rat)} {g:List Int×Rat->Bool} {k:List Int} (h:k∉l.map (·.1)):k∉(l.filter g).map (·.1):=fun m=>h (by
  obtain⟨x,hx,e⟩:=List.mem_map.mp m
  exact List.mem_map.mpr ⟨x,(List.mem_filter.mp hx).1,e⟩)
abbrev nz (l:List (List Int×Rat)):List (List Int×Rat):=l.filter fun p=>decide (p.2≠0)
def F_without_noughts:DSp:=fun ds S k=>∃ (a:Addr) (c:List (List Int×Rat)) (ep:Nat),ds=[.ref a]/\S a=some (dTo (cvD c) ep)/\(c.map (·.1)).Nodup/\c.length<=100/\∀ S' p ep',Ext S S'->S p=none->S' p=some (dTo (cvD (nz c)) ep')->k (.ref p) S'
theorem sc_without_noughts:FnScope ["sums","told","key","fraction"] ["sums"] (defScope s_without_noughts):=⟨rfl,rfl,rfl,by decide +kernel,rfl,by decide +kernel,by decide +kernel⟩
theorem ok_without_noughts {P:Program} {w:World} {K:Fg} {mg:Str->Option Value} {base:Heap} {f:Addr} {fd:FuncData} (Fn:Fun K "without_noughts" "without_noughts" s_without_noughts f fd):
    FnOk P w K mg base CX0 1 f fd ["sums"] (spU K F_without_noughts):=by
  refine Fn.okJ sc_without_noughts (fun ds S k h=>?_) (fun cdv A outer s H E hr=>⟨_,(ds_consj (dst_setj (i:=1) sc_without_noughts.nd d_dnewj) (ds_consj (dst_forIj PassesOwn.never rfl (i_itemsj (d_varj 0)) (dg_seqE (n:=2) rfl (dgs_consj (dg_namej (i:=2) sc_without_noughts.nd) (dgs_consj (dg_namej (i:=3) sc_without_noughts.nd) dgs_nilj))) (ds_onej (dst_ifj (dt_cmpj o_ne (d_ixj x_ixE (d_varj 3) d_intj (fun _ _=>rfl)) d_intj (nomark _)) (ds_onej (dst_asgj (d_varj 3) (dg_subD hr (d_varj 1) (d_varj 2)))) ds_nilj))) (ds_onej (dst_retj (d_varj 1))))),fun ds S k h=>?_⟩)
  · obtain⟨_,_,_,rfl,_⟩:=h
    rfl
  · obtain⟨a,c,ep,rfl,ha,nd,hl,w⟩:=h
    refine fun p hp e0=>⟨_,_,put_keep hp ha,?_⟩
    refine loop_ix (fun r L S'=>∃ (don rest:List (List Int×Rat)) (e1:Nat) (l2 l3:Option D),c=don++rest/\r=pairsD (cvD rest)/\L=[some (.ref a),some (.ref p),l2,l3]/\Ext S S'/\S' a=some (dTo (cvD c) ep)/\S' p=some (dTo (cvD (nz don)) e1)) (fun r L S' ⟨_,_,_,_,_,_,_,_,_,h,_⟩=>h) ?_ ?_ _ _ _ ⟨[],c,e0,none,none,rfl,rfl,rfl,Ext.new hp,put_keep hp ha,put_same⟩
    · rintro d r L S1 N1 ⟨don,rest,e1,l2,l3,ec,er,rfl,x1,a1,p1⟩ hN
      cases rest with
      | nil=>cases er
      | cons q rest=>
        cases er
        have nq:=nd_mid (p:=q) (ec▸nd)
        have lz:(nz don).length<=don.length:=List.length_filter_le _ _
        have hd:don.length < 100:=by have:=congrArg List.length ec; rw [List.length_append,List.length_cons] at this; omega
        have nap:a≠p:=ne_put ha hp
        refine⟨([keyD q.1,fr q.2],none),rfl,rfl,rfl,ite_ne (fun h0=>⟨_,_,_,p1,rfl,by rw [kvD_len]; exact lim (by omega),fun e2=>hN _ _ ⟨don++[q],rest,e2,_,_,by rw [ec]; simp,rfl,rfl,x1.put hp,by rw [put_ne nap]; exact a1,?_⟩⟩) (fun h0=>hN _ _ ⟨don++[q],rest,e1,_,_,by rw [ec]; simp,rfl,rfl,x1,a1,?_⟩)⟩
        · have q0:q.2≠0:=fun z=>h0 (by rw [z]; rfl)
          rw [put_same,putT_app (mem_ff nq)]
          simp [nz,List.filter_append,q0]
        · have q0:q.2=0:=Rat.num_eq_zero.mp h0
          rw [p1]
          simp [nz,List.filter_append,q0]
    · rintro L S1 ⟨don,rest,e1,l2,l3,ec,er,rfl,x1,a1,p1⟩
      cases rest with
      | cons q rest=>cases er
      | nil=>
        rw [List.append_nil] at ec
        subst ec
        exact w S1 p e1 x1 hp p1
theorem lcm_of' {a b:Int} (ha:0 < a) (hb:0 < b):(a.fdiv ((Int.gcd a b:Nat):Int))*b=((Int.lcm a b:Nat):Int):=by
  have h1:((Int.gcd a b:Nat):Int) ∣ a:=Int.gcd_dvd_left a b
  have g0:((Int.gcd a b:Nat):Int)≠0:=by
    have:=Int.gcd_pos_of_ne_zero_left (a:=a) b (by omega)
    omega
  have z:((Int.gcd a b:Nat):Int)*((Int.lcm a b:Nat):Int)=a*b:=by
    have e2:=congrArg (fun n:Nat=>(n:Int)) (Int.gcd_mul_lcm a b)
    simp only [Int.natCast_mul] at e2
    rw [Int.natAbs_of_nonneg (by omega),Int.natAbs_of_nonneg (by omega)] at e2
    exact e2
  generalize ((Int.gcd a b:Nat):Int)=g at h1 g0 z
  generalize ((Int.lcm a b:Nat):Int)=l at z
  obtain⟨x,rfl⟩:=h1
  rw [Int.mul_fdiv_cancel_left x g0]
  refine Int.eq_of_mul_eq_mul_left g0 ?_
  rw [z,Int.mul_assoc]
def F_common_multiple:DSp:=fun ds S k=>∃ a b:Int,ds=[.int a,.int b]/\0 < a/\0 < b/\Bt 4000 a/\Bt 4000 b/\k (.int ((Int.lcm a b:Nat):Int)) S
theorem sc_common_multiple:FnScope ["one","other"] ["one","other"] (defScope s_common_multiple):=⟨rfl,rfl,rfl,by decide +kernel,rfl,by decide +kernel,by decide +kernel⟩
theorem ok_common_multiple {P:Program} {w:World} {K:Fg} {mg:Str->Option Value} {base:Heap} {f:Addr} {fd:FuncData} (Fn:Fun K "common_multiple" "common_multiple" s_common_multiple f fd) (c_common_divisor:Own P w K mg base "common_divisor" 1 F_common_divisor):
    FnOk P w K mg base CX0 2 f fd ["one","other"] (spU K F_common_multiple):=by
  refine Fn.okJ sc_common_multiple (fun ds S k h=>?_) (fun cdv A outer s H E hr=>⟨_,(ds_onej (dst_retj (d_opj o_mul (d_opj o_div (d_varj 0) (d_callj c_common_divisor (hr.mono (by decide)) rfl (da_consj (d_varj 0) (da_consj (d_varj 1) da_nilj)))) (d_varj 1)))),fun ds S k h=>?_⟩)
  · obtain⟨_,_,rfl,_⟩:=h
    rfl
  · obtain⟨a,b,rfl,ha,hb,ba,bb,w⟩:=h
    rw [<- lcm_of' ha hb] at w
    have g0:((Int.gcd a b:Nat):Int)≠0:=by
      have:=Int.gcd_pos_of_ne_zero_left (a:=a) b (by omega)
      omega
    exact⟨dok g0 (gcd_bt (t:=a) (by omega) bb),mok (ba.le (HM.natAbs_fdiv_le _ _)) bb,w⟩
def lcB:Int->List Rat->Int
  | m,[]=>m
  | m,q::qs=>lcB ((Int.lcm m (q.den:Int):Nat):Int) qs
theorem lcm_pos' {a b:Int} (ha:0 < a) (hb:0 < b):0 < ((Int.lcm a b:Nat):Int):=by
  have:=Int.lcm_pos (m:=a) (n:=b) (by omega) (by omega)
  omega
theorem den_p (q:Rat):0 < (q.den:Int):=by have:=q.den_nz; omega
theorem lcB_dvd:∀ {qs:List Rat} {m:Int},m ∣ lcB m qs/\∀ q∈qs,(q.den:Int) ∣ lcB m qs
  | [],m=>⟨Int.dvd_refl m,fun q h=>nomatch h⟩
  | q::qs,m=>by
    obtain⟨a,b⟩:=lcB_dvd (qs:=qs) (m:=((Int.lcm m (q.den:Int):Nat):Int))
    refine⟨Int.dvd_trans (Int.dvd_lcm_left ..) a,fun p hp=>?_⟩
    rcases List.mem_cons.mp hp with e | m'
    · rw [e]
      exact Int.dvd_trans (Int.dvd_lcm_right ..) a
    · exact b p m'
theorem dvd_bt {n:Nat} {g x:Int} (h:g ∣ x) (x0:x≠0) (b:Bt n x):Bt n g:=b.le (Nat.le_of_dvd (by omega) (Int.natAbs_dvd_natAbs.mpr h))
theorem lcB_dv {B:Int}:∀ {qs:List Rat} {m:Int},m ∣ B->(∀ q∈qs,(q.den:Int) ∣ B)->lcB m qs ∣ B
  | [],_,h,_=>h
  | q::qs,m,h,hq=>lcB_dv (qs:=qs) (Int.coe_lcm_dvd h (hq q List.mem_cons_self)) fun p hp=>hq p (List.mem_cons_of_mem _ hp)
theorem lcB_pos:∀ {qs:List Rat} {m:Int},0 < m->0 < lcB m qs
  | [],_,h=>h
  | q::qs,m,h=>lcB_pos (qs:=qs) (lcm_pos' h (den_p q))
theorem den_dv {q:Rat} {B t:Int} (b0:B≠0) (e:(B:Rat)*q=t):(q.den:Int) ∣ B:=by
  have r0:(B:Rat)≠0:=fun z=>b0 (Rat.intCast_inj.mp (by rw [z]; rfl))
  have:q=Rat.divInt t B:=by
    rw [Rat.divInt_eq_div,<- e]
    grind
  rw [this]
  rw [Rat.den_divInt,if_neg b0,Int.ofNat_dvd_left]
  exact Nat.div_dvd_of_dvd (Nat.gcd_dvd_left _ _)
def F_common_bottom:DSp:=fun ds S k=>∃ (a:Addr) (qs:List Rat) (B:Int),ds=[.ref a]/\S a=some (.lst (qs.map fr))/\0 < B/\Bt 3000 B/\(∀ q∈qs,(q.den:Int) ∣ B)/\k (.int (lcB 1 qs)) S
theorem sc_common_bottom:FnScope ["fractions","bottom","fraction"] ["fractions"] (defScope s_common_bottom):=⟨rfl,rfl,rfl,by decide +kernel,rfl,by decide +kernel,by decide +kernel⟩
theorem ok_common_bottom {P:Program} {w:World} {K:Fg} {mg:Str->Option Value} {base:Heap} {f:Addr} {fd:FuncData} (Fn:Fun K "common_bottom" "common_bottom" s_common_bottom f fd) (c_common_multiple:Own P w K mg base "common_multiple" 2 F_common_multiple):
    FnOk P w K mg base CX0 3 f fd ["fractions"] (spU K F_common_bottom):=by
  refine Fn.okJ sc_common_bottom (fun ds S k h=>?_) (fun cdv A outer s H E hr=>⟨_,(ds_consj (dst_setj (i:=1) sc_common_bottom.nd d_intj) (ds_consj (dst_forEj PassesOwn.never rfl (d_varj 0) (dg_namej (i:=2) sc_common_bottom.nd) (ds_onej (dst_setj (i:=1) sc_common_bottom.nd (d_callj c_common_multiple (hr.mono (by decide)) rfl (da_consj (d_varj 1) (da_consj (d_ixj x_ixE (d_varj 2) d_intj (fun _ _=>rfl)) da_nilj)))))) (ds_onej (dst_retj (d_varj 1))))),fun ds S k h=>?_⟩)
  · obtain⟨_,_,_,rfl,_⟩:=h
    rfl
  · obtain⟨a,qs,B,rfl,ha,B0,bB,hq,w⟩:=h
    refine⟨(qs.map fr,some a),by simp only [dItems,ha],?_⟩
    refine loop_ix (fun r L S'=>S'=S/\∃ (rs:List Rat) (m:Int) (l2:Option D),L=[some (.ref a),some (.int m),l2]/\r=rs.map fr/\lcB 1 qs=lcB m rs/\0 < m/\m ∣ B/\∀ q∈rs,(q.den:Int) ∣ B) (fun r L S' ⟨e,_⟩=>by rw [e]; exact ha) ?_ ?_ _ _ _ ⟨rfl,qs,1,none,rfl,rfl,rfl,by decide,Int.one_dvd B,hq⟩
    · rintro d r L S1 N1 ⟨rfl,rs,m,l2,rfl,er,hm,m0,bm,hr⟩ hN
      cases rs with
      | nil=>cases er
      | cons q rs=>
        cases er
        have hq:=hr q List.mem_cons_self
        exact⟨m,(q.den:Int),rfl,m0,den_p q,(dvd_bt bm (by omega) bB).mono (by decide),(dvd_bt hq (by omega) bB).mono (by decide),hN _ _ ⟨rfl,rs,_,_,rfl,rfl,hm,lcm_pos' m0 (den_p q),Int.coe_lcm_dvd bm hq,fun p hp=>hr p (List.mem_cons_of_mem _ hp)⟩⟩
    · rintro L S1 ⟨rfl,rs,m,l2,rfl,er,hm,_⟩
      cases rs with
      | nil=>rw [hm] at w; exact w
      | cons _ _=>cases er
def Dn (B:Int) (T:Nat) (c:List (List Int×Rat)):Prop:=∀ p∈c,∃ t:Int,Bt T t/\(B:Rat)*p.2=t
theorem Dn.dv {B:Int} {T:Nat} {c:List (List Int×Rat)} (h:Dn B T c) (b0:B≠0):∀ q∈c.map (·.2),(q.den:Int) ∣ B:=fun q hq=>by
  obtain⟨p,hp,rfl⟩:=List.mem_map.mp hq
  obtain⟨t,_,e⟩:=h p hp
  exact den_dv b0 e
theorem Dn.sz {B:Int} {T n:Nat} {c:List (List Int×Rat)} (h:Dn B T c) (B0:0 < B) (bB:Bt n B) (hT:T<=n):∀ p∈c,Sz n p.2:=fun p hp=>by
  obtain⟨t,bt,e⟩:=h p hp
  have r0:(B:Rat)≠0:=fun z=>by
    have:B=0:=Rat.intCast_inj.mp (by rw [z]; rfl)
    omega
  have:p.2=Rat.divInt t B:=by
    rw [Rat.divInt_eq_div,<- e]
    grind
  rw [this]
  exact Sz.divInt (bt.mono hT) bB (by omega)
def F_tops_over:DSp:=fun ds S k=>∃ (a:Addr) (c:List (List Int×Rat)) (ep:Nat) (B:Int),ds=[.ref a,.int B]/\S a=some (dTo (cvD c) ep)/\(c.map (·.1)).Nodup/\c.length<=100/\(∀ p∈c,Sz 4000 p.2)/\Bt 4000 B/\∀ S' p ep',Ext S S'->S' p=some (dTo (tpD (c.map fun x=>(x.1,topI B x.2))) ep')->k (.ref p) S'
theorem sc_tops_over:FnScope ["curve","bottom","tops","key","fraction"] ["curve","bottom"] (defScope s_tops_over):=⟨rfl,rfl,rfl,by decide +kernel,rfl,by decide +kernel,by decide +kernel⟩
theorem ok_tops_over {P:Program} {w:World} {K:Fg} {mg:Str->Option Value} {base:Heap} {f:Addr} {fd:FuncData} (Fn:Fun K "tops_over" "tops_over" s_tops_over f fd):
    FnOk P w K mg base CX0 1 f fd ["curve","bottom"] (spU K F_tops_over):=by
  refine Fn.okJ sc_tops_over (fun ds S k h=>?_) (fun cdv A outer s H E hr=>⟨_,(ds_consj (dst_setj (i:=2) sc_tops_over.nd d_dnewj) (ds_consj (dst_forIj PassesOwn.never rfl (i_itemsj (d_varj 0)) (dg_seqE (n:=2) rfl (dgs_consj (dg_namej (i:=3) sc_tops_over.nd) (dgs_consj (dg_namej (i:=4) sc_tops_over.nd) dgs_nilj))) (ds_onej (dst_asgj (d_opj o_mul (d_ixj x_ixE (d_varj 4) d_intj (fun _ _=>rfl)) (d_opj o_div (d_varj 1) (d_ixj x_ixE (d_varj 4) d_intj (fun _ _=>rfl)))) (dg_subD hr (d_varj 2) (d_varj 3))))) (ds_onej (dst_retj (d_varj 2))))),fun ds S k h=>?_⟩)
  · obtain⟨_,_,_,_,rfl,_⟩:=h
    rfl
  · obtain⟨a,c,ep,B,rfl,ha,nd,hl,hz,bB,w⟩:=h
    refine fun p hp e0=>⟨_,_,put_keep hp ha,?_⟩
    have nap:a≠p:=ne_put ha hp
    refine loop_ix (fun r L S'=>∃ (don rest:List (List Int×Rat)) (e1:Nat) (l2 l3:Option D),c=don++rest/\r=pairsD (cvD rest)/\L=[some (.ref a),some (.int B),some (.ref p),l2,l3]/\Ext S S'/\S' a=some (dTo (cvD c) ep)/\S' p=some (dTo (tpD (don.map fun x=>(x.1,topI B x.2))) e1)) (fun r L S' ⟨_,_,_,_,_,_,_,_,_,h,_⟩=>h) ?_ ?_ _ _ _ ⟨[],c,e0,none,none,rfl,rfl,rfl,Ext.new hp,put_keep hp ha,put_same⟩
    · rintro d r L S1 N1 ⟨don,rest,e1,l2,l3,ec,er,rfl,x1,a1,p1⟩ hN
      cases rest with
      | nil=>cases er
      | cons q rest=>
        cases er
        have nq:=nd_mid (p:=q) (ec▸nd)
        have hd:don.length < 100:=by have:=congrArg List.length ec; rw [List.length_append,List.length_cons] at this; omega
        have sq:Sz 4000 q.2:=hz q (by rw [ec]; simp)
        have nk:q.1∉(don.map fun x=>(x.1,topI B x.2)).map (·.1):=by rw [List.map_map]; exact nq
        refine⟨([keyD q.1,fr q.2],none),rfl,rfl,rfl,dok (by have:=den_p q.2; omega) sq.den,mok sq.num (bB.le (HM.natAbs_fdiv_le _ _)),_,_,_,p1,rfl,by rw [kvD_len,List.length_map]; exact lim (by omega),fun e2=>hN _ _ ⟨don++[q],rest,e2,_,_,by rw [ec]; simp,rfl,rfl,x1.put hp,by rw [put_ne nap]; exact a1,?_⟩⟩
        refine put_same.trans ?_
        have z:=putT_app (f:=D.int) (x:=topI B q.2) nk
        show some (DO.gen (Gen.dT (putT _ q.1 (D.int (topI B q.2))) e2))=_
        rw [z]
        simp
    · rintro L S1 ⟨don,rest,e1,l2,l3,ec,er,rfl,x1,a1,p1⟩
      cases rest with
      | cons q rest=>cases er
      | nil=>
        rw [List.append_nil] at ec
        subst ec
        exact w S1 p e1 x1 p1
structure Gp (l:List (List Int×Int)) (g:Int):Prop where
  dv:∀ p∈l,g ∣ p.2
  mx:∀ d:Int,(∀ p∈l,d ∣ p.2)->d ∣ g
  nn:0<=g
theorem Gp.nil:Gp [] 0:=⟨(by simp),(fun d _=>Int.dvd_zero d),Int.le_refl 0⟩
theorem Gp.snoc {l:List (List Int×Int)} {g:Int} {p:List Int×Int} (h:Gp l g):Gp (l++[p]) ((Int.gcd g p.2:Nat):Int):=by
  refine⟨fun q hq=>?_,fun d hd=>Int.dvd_coe_gcd (h.mx d fun q hq=>hd q (List.mem_append_left _ hq)) (hd p (by simp)),by omega⟩
  rcases List.mem_append.mp hq with m | m
  · exact Int.dvd_trans (Int.gcd_dvd_left ..) (h.dv q m)
  · have e:q=p:=by simpa using m
    rw [e]
    exact Int.gcd_dvd_right ..
theorem sgn_ok {g x:Int} (h:g ∣ x) (h0:x≠0) (hs:(x < 0->g < 0)/\(0 < x->0 < g)):0 < x.fdiv g:=by
  obtain⟨y,rfl⟩:=h
  have g0:g≠0:=fun z=>h0 (by rw [z,Int.zero_mul])
  rw [Int.mul_fdiv_cancel_left y g0]
  rcases Int.lt_trichotomy (g*y) 0 with c | c | c
  · have:=hs.1 c
    exact Int.pos_of_mul_neg_left (Int.mul_comm g y▸c) (by omega)
  · exact absurd c h0
  · have:=hs.2 c
    exact Int.pos_of_mul_pos_left (Int.mul_comm g y▸c) (by omega)
def F_normal_of_tops:DSp:=fun ds S k=>∃ (a:Addr) (ts:List (List Int×Int)) (ep:Nat),ds=[.ref a]/\S a=some (dTo (tpD ts) ep)/\(ts.map (·.1)).Nodup/\ts.length<=100/\ts≠[]/\(∀ p∈ts,∃ i j,p.1=[i,j])/\(∀ p∈ts,p.2≠0/\Bt 8000 p.2)/\
  ∀ S' p ep' g,Ext S S'->g≠0->(∀ p∈ts,g ∣ p.2)->(∀ d:Int,(∀ p∈ts,d ∣ p.2)->d ∣ g)->(∃ m∈ts,(∀ q∈ts,gtP q.1 m.1=false)/\0 < m.2.fdiv g)->S' p=some (dTo (nmD (ts.map fun x=>(x.1,x.2.fdiv g))) ep')->k (.ref p) S'
theorem sc_normal_of_tops:FnScope ["tops","shared","top","told","key"] ["tops"] (defScope s_normal_of_tops):=⟨rfl,rfl,rfl,by decide +kernel,rfl,by decide +kernel,by decide +kernel⟩
theorem ok_normal_of_tops {P:Program} {w:World} {K:Fg} {mg:Str->Option Value} {base:Heap} {f:Addr} {fd:FuncData} (Fn:Fun K "normal_of_tops" "normal_of_tops" s_normal_of_tops f fd) (c_common_divisor:Own P w K mg base "common_divisor" 1 F_common_divisor) (z_max:mg "max"=none):
    FnOk P w K mg base CX0 2 f fd ["tops"] (spU K F_normal_of_tops):=by
  refine Fn.okJ sc_normal_of_tops (fun ds S k h=>?_) (fun cdv A outer s H E hr=>⟨_,(ds_consj (dst_setj (i:=1) sc_normal_of_tops.nd d_intj) (ds_consj (dst_forIj PassesOwn.never rfl (i_valsj (d_varj 0)) (dg_namej (i:=2) sc_normal_of_tops.nd) (ds_onej (dst_setj (i:=1) sc_normal_of_tops.nd (d_callj c_common_divisor (hr.mono (by decide)) rfl (da_consj (d_varj 1) (da_consj (d_varj 2) da_nilj)))))) (ds_consj (dst_ifj (dt_cmpj o_lt (d_dgetj hr (d_varj 0) (d_callBj (b_maxD hr) rfl z_max bt_max (da_consj (d_varj 0) da_nilj)) (fun _ _=>rfl)) d_intj (nomark _)) (ds_onej (dst_setj (i:=1) sc_normal_of_tops.nd (d_unj o_neg (d_varj 1)))) ds_nilj) (ds_consj (dst_setj (i:=3) sc_normal_of_tops.nd d_dnewj) (ds_consj (dst_forIj PassesOwn.never rfl (i_itemsj (d_varj 0)) (dg_seqE (n:=2) rfl (dgs_consj (dg_namej (i:=4) sc_normal_of_tops.nd) (dgs_consj (dg_namej (i:=2) sc_normal_of_tops.nd) dgs_nilj))) (ds_onej (dst_asgj (d_tupj (da_consj (d_opj o_div (d_varj 2) (d_varj 1)) (da_consj d_intj da_nilj))) (dg_subD hr (d_varj 3) (d_varj 4))))) (ds_onej (dst_retj (d_varj 3)))))))),fun ds S k h=>?_⟩)
  · obtain⟨_,_,_,rfl,_⟩:=h
    rfl
  · obtain⟨a,ts,ep,rfl,ha,nd,hl,ne,two,hz,w⟩:=h
    refine⟨_,_,ha,?_⟩
    refine loop_ix (fun r L S'=>S'=S/\∃ (don rest:List (List Int×Int)) (g:Int) (l2:Option D),ts=don++rest/\r=rest.map (fun p=>D.int p.2)/\L=[some (.ref a),some (.int g),l2,none,none]/\Gp don g) (fun r L S' ⟨e,_⟩=>by rw [e]; exact ha) ?_ ?_ _ _ _ ⟨rfl,[],ts,0,none,rfl,by show List.map _ (List.map _ ts)=_; rw [List.map_map]; rfl,rfl,Gp.nil⟩
    · rintro d r L S1 N1 ⟨rfl,don,rest,g,l2,ec,er,rfl,hg⟩ hN
      cases rest with
      | nil=>cases er
      | cons q rest=>
        cases er
        exact hN _ _ ⟨rfl,don++[q],rest,_,_,by rw [ec]; simp,rfl,rfl,hg.snoc⟩
    · rintro L S1 ⟨rfl,don,rest,g,l2,ec,er,rfl,hg⟩
      cases rest with
      | cons q rest=>cases er
      | nil=>
        rw [List.append_nil] at ec
        subst ec
        have mk:∀ m∈tpD ts,∃ x∈ts,m=(x.1,D.int x.2):=fun m hm=>by
          obtain⟨x,hx,rfl⟩:=List.mem_map.mp hm
          exact⟨x,hx,rfl⟩
        have rest:∀ g':Int,g'≠0->(∀ p∈ts,g' ∣ p.2)->(∀ d:Int,(∀ p∈ts,d ∣ p.2)->d ∣ g')->(∃ m∈ts,(∀ q∈ts,gtP q.1 m.1=false)/\0 < m.2.fdiv g')->
            (dSeq (dSet 3 dDNew) (dSeq (dForI (srcD (dVar 0) pairsD) (dgSeqE 2 (dgCons (dgName 4) (dgCons (dgName 2) dgNil))) (dAsg (dTup (dCons (dOp dDiv (dVar 2) (dVar 1)) (dCons (dC (D.int 1)) dNil))) (dgSubD (dVar 3) (dVar 4)))) (dRet (dVar 3)))) {nx:=fun _ S'=>k D.non S',rt:=k} [some (D.ref a),some (D.int g'),l2,none,none] S1:=by
          intro g' g0 gd gm gs
          have gb:Bt 8000 g':=by
            obtain⟨m,hm,_⟩:=gs
            exact dvd_bt (gd m hm) (hz m hm).1 (hz m hm).2
          refine fun p hp e0=>⟨_,_,put_keep hp ha,?_⟩
          have nap:a≠p:=ne_put ha hp
          refine loop_ix (fun r L S'=>∃ (don rest:List (List Int×Int)) (e1:Nat) (l2 l3:Option D),ts=don++rest/\r=pairsD (tpD rest)/\L=[some (.ref a),some (.int g'),l2,some (.ref p),l3]/\Ext S1 S'/\S' a=some (dTo (tpD ts) ep)/\S' p=some (dTo (nmD (don.map fun x=>(x.1,x.2.fdiv g'))) e1)) (fun r L S' ⟨_,_,_,_,_,_,_,_,_,h,_⟩=>h) ?_ ?_ _ _ _ ⟨[],ts,e0,l2,none,rfl,rfl,rfl,Ext.new hp,put_keep hp ha,put_same⟩
          · rintro d r L S2 N1 ⟨don,rest,e1,l2,l3,ec,er,rfl,x1,a1,p1⟩ hN
            cases rest with
            | nil=>cases er
            | cons q rest=>
              cases er
              have nq:=nd_mid (p:=q) (ec▸nd)
              have hd:don.length < 100:=by have:=congrArg List.length ec; rw [List.length_append,List.length_cons] at this; omega
              have nk:q.1∉(don.map fun x=>(x.1,x.2.fdiv g')).map (·.1):=by rw [List.map_map]; exact nq
              refine⟨([keyD q.1,.int q.2],none),rfl,rfl,rfl,dok g0 gb,few,_,_,_,p1,rfl,by rw [kvD_len,List.length_map]; exact lim (by omega),fun e2=>hN _ _ ⟨don++[q],rest,e2,_,_,by rw [ec]; simp,rfl,rfl,x1.put hp,by rw [put_ne nap]; exact a1,?_⟩⟩
              refine put_same.trans ?_
              have z:=putT_app (f:=fun n:Int=>D.tup [.int n,.int 1]) (x:=q.2.fdiv g') nk
              show some (DO.gen (Gen.dT (putT _ q.1 (D.tup [.int (q.2.fdiv g'),.int 1])) e2))=_
              rw [z]
              simp
          · rintro L S2 ⟨don,rest,e1,l2,l3,ec,er,rfl,x1,a1,p1⟩
            cases rest with
            | cons q rest=>cases er
            | nil=>
              rw [List.append_nil] at ec
              subst ec
              exact w S2 p e1 g' x1 g0 gd gm gs p1
        refine⟨_,_,ha,fun z=>ne (List.map_eq_nil_iff.mp z),fun m hm=>?_,fun m hm mx=>?_⟩
        · obtain⟨x,hx,rfl⟩:=mk m hm
          exact two x hx
        · obtain⟨x,hx,rfl⟩:=mk m hm
          have g0:g≠0:=fun z=>by
            have:=hg.dv x hx
            rw [z] at this
            exact(hz x hx).1 (Int.zero_dvd.mp this)
          have mx':∀ q∈ts,gtP q.1 x.1=false:=fun q hq=>mx (q.1,.int q.2) (List.mem_map.mpr ⟨q,hq,rfl⟩)
          have gn:=hg.nn
          refine⟨_,_,x.1,_,ha,rfl,getT_some nd hx,ite_dec (fun neg=>rest (-g) (by omega) (fun p hp=>Int.neg_dvd.mpr (hg.dv p hp)) (fun d hd=>Int.dvd_neg.mpr (hg.mx d hd)) ⟨x,hx,mx',sgn_ok (Int.neg_dvd.mpr (hg.dv x hx)) (hz x hx).1 ⟨fun _=>by omega,fun z=>by omega⟩⟩) (fun pos=>rest g g0 hg.dv hg.mx ⟨x,hx,mx',sgn_ok (hg.dv x hx) (hz x hx).1 ⟨fun z=>absurd z pos,fun _=>by omega⟩⟩)⟩
def F_normal:DSp:=fun ds S k=>∃ (a:Addr) (c:List (List Int×Rat)) (ep:Nat) (B0:Int),ds=[.ref a]/\S a=some (dTo (cvD c) ep)/\(c.map (·.1)).Nodup/\c.length<=100/\c≠[]/\(∀ p∈c,∃ i j,p.1=[i,j])/\(∀ p∈c,p.2≠0)/\0 < B0/\Bt 600 B0/\Dn B0 600 c/\∀ S' p ep' ns,Ext S S'->Nrm c ns->S' p=some (dTo (nmD ns) ep')->k (.ref p) S'
theorem sc_normal:FnScope ["curve"] ["curve"] (defScope s_normal):=⟨rfl,rfl,rfl,by decide +kernel,rfl,by decide +kernel,by decide +kernel⟩
theorem ok_normal {P:Program} {w:World} {K:Fg} {mg:Str->Option Value} {base:Heap} {f:Addr} {fd:FuncData} (Fn:Fun K "normal" "normal" s_normal f fd) (c_normal_of_tops:Own P w K mg base "normal_of_tops" 2 F_normal_of_tops) (c_tops_over:Own P w K mg base "tops_over" 1 F_tops_over) (c_common_bottom:Own P w K mg base "common_bottom" 3 F_common_bottom) (z_len:mg "len"=none) (z_list:mg "list"=none):
    FnOk P w K mg base CX0 4 f fd ["curve"] (spU K F_normal):=by
  refine Fn.okJ sc_normal (fun ds S k h=>?_) (fun cdv A outer s H E hr=>⟨_,(ds_consj (dst_ifj (dt_cmpj o_eq (d_callBj b_lenD rfl z_len bt_len (da_consj (d_varj 0) da_nilj)) d_intj (nomark _)) (ds_onej dst_neverj) ds_nilj) (ds_onej (dst_retj (d_callj c_normal_of_tops (hr.mono (by decide)) rfl (da_consj (d_callj c_tops_over (hr.mono (by decide)) rfl (da_consj (d_varj 0) (da_consj (d_callj c_common_bottom (hr.mono (by decide)) rfl (da_consj (d_listVj rfl rfl z_list (d_varj 0)) da_nilj)) da_nilj))) da_nilj))))),fun ds S k h=>?_⟩)
  · obtain⟨_,_,_,_,rfl,_⟩:=h
    rfl
  · obtain⟨a,c,ep,B1,rfl,ha,nd,hl,ne,two,n0,B1p,bB1,hD,w⟩:=h
    have hz:∀ p∈c,p.2≠0/\Sz 600 p.2:=fun p hp=>⟨n0 p hp,hD.sz B1p bB1 (by decide) p hp⟩
    have l0:((cvD c).length:Int)≠0:=by rw [kvD_len]; exact fun z=>ne (List.length_eq_zero_iff.mp (by omega))
    refine⟨_,_,ha,ite_dec (fun z=>absurd z l0) (fun _=>?_)⟩
    refine⟨_,_,ha,fun q hq=>?_⟩
    have x1:Ext S (put S q (.lst ((kvD fr c).map (·.2)))):=Ext.new hq
    have e1:(kvD fr c).map (·.2)=(c.map (·.2)).map fr:=by unfold kvD; rw [List.map_map,List.map_map]; rfl
    have y1:put S q (.lst ((kvD fr c).map (·.2))) q=some (.lst ((c.map (·.2)).map fr)):=by rw [put_same,e1]
    generalize put S q (.lst ((kvD fr c).map (·.2)))=S1 at x1 y1
    have B0:0 < lcB 1 (c.map (·.2)):=lcB_pos (by decide)
    have dvd1:lcB 1 (c.map (·.2)) ∣ B1:=lcB_dv (Int.one_dvd _) (hD.dv (by omega))
    have dv:=(lcB_dvd (qs:=c.map (·.2)) (m:=1)).2
    refine⟨q,_,B1,rfl,y1,B1p,bB1.mono (by decide),hD.dv (by omega),?_⟩
    have bB':Bt 600 (lcB 1 (c.map (·.2))):=dvd_bt dvd1 (by omega) bB1
    clear dvd1
    generalize lcB 1 (c.map (·.2))=B at B0 bB' dv
    have dv':∀ p∈c,(p.2.den:Int) ∣ B:=fun p hp=>dv p.2 (List.mem_map.mpr ⟨p,hp,rfl⟩)
    have top0:∀ p∈c,topI B p.2≠0:=fun p hp z=>by
      have e:=topI_eq (dv' p hp)
      rw [z] at e
      have b0:(B:Rat)≠0:=fun y=>by
        have:B=0:=Rat.intCast_inj.mp (by rw [y]; rfl)
        omega
      have p0:=(hz p hp).1
      have e2:(B:Rat)*p.2=0:=by rw [<- e]; rfl
      rcases Rat.mul_eq_zero.mp e2 with y | y
      · exact b0 y
      · exact p0 y
    refine⟨a,c,ep,B,rfl,x1 _ _ ha,nd,by omega,fun p hp=>(hz p hp).2.mono (by decide),bB'.mono (by decide),fun S2 p2 e2 x2 h2=>?_⟩
    have tk:(c.map fun x=>(x.1,topI B x.2)).map (·.1)=c.map (·.1):=by rw [List.map_map]; rfl
    refine⟨p2,_,e2,rfl,h2,by rw [tk]; exact nd,by rw [List.length_map]; omega,fun z=>ne (List.map_eq_nil_iff.mp z),fun p hp=>?_,fun p hp=>?_,fun S3 p3 e3 g x3 g0 gd gm gs h3=>?_⟩
    · obtain⟨x,hx,rfl⟩:=List.mem_map.mp hp
      exact two x hx
    · obtain⟨x,hx,rfl⟩:=List.mem_map.mp hp
      exact⟨top0 x hx,(((hz x hx).2.num).mul (bB'.le (HM.natAbs_fdiv_le _ _))).mono (by decide)⟩
    · have n1:Nrm c (c.map fun p=>(p.1,(topI B p.2).fdiv g)):=nrm_of (by omega) dv' g0 (fun p hp=>gd (p.1,topI B p.2) (List.mem_map.mpr ⟨p,hp,rfl⟩)) (fun d hd=>gm d fun p hp=>by
          obtain⟨x,hx,rfl⟩:=List.mem_map.mp hp
          exact hd x hx) (by
          obtain⟨m,hm,mx,pos⟩:=gs
          obtain⟨x,hx,rfl⟩:=List.mem_map.mp hm
          exact⟨x,hx,fun q hq=>mx (q.1,topI B q.2) (List.mem_map.mpr ⟨q,hq,rfl⟩),pos⟩)
      rw [List.map_map] at h3
      exact w S3 p3 e3 _ ((x1.trans x2).trans x3) n1 h3
theorem mergeT_go {α:Type} {f:α->D}:∀ {rest don:List (List Int×α)},((don++rest).map (·.1)).Nodup->mergeT (kvD f don) (kvD f rest)=kvD f (don++rest)
  | [],don,_=>by rw [List.append_nil]; rfl
  | p::rest,don,nd=>by
    have e:mergeT (kvD f don) (kvD f (p::rest))=mergeT (putT (kvD f don) p.1 (f p.2)) (kvD f rest):=rfl
    rw [e,putT_app (nd_mid nd),mergeT_go (by rw [List.append_assoc]; exact nd),List.append_assoc]
    rfl
theorem mergeT_nd {α:Type} {f:α->D} {l:List (List Int×α)} (h:(l.map (·.1)).Nodup):mergeT [] (kvD f l)=kvD f l:=mergeT_go (f:=f) (don:=[]) h
abbrev ln3 (a b r:Rat):List (List Int×Rat):=[([1,0],a),([0,1],b),([0,0],r)]
def F_line_from:DSp:=fun ds S k=>∃ x y a b:Rat,ds=[W x y,W a b]/\Sz 200 x/\Sz 200 y/\Sz 40 a/\Sz 40 b/\∀ S' p ep',Ext S S'->S' p=some (dTo (cvD (nz (ln3 a b (-(x*a+y*b))))) ep')->k (.ref p) S'
theorem sc_line_from:FnScope ["place","across"] ["place","across"] (defScope s_line_from):=⟨rfl,rfl,rfl,by decide +kernel,rfl,by decide +kernel,by decide +kernel⟩
theorem ok_line_from {P:Program} {w:World} {K:Fg} {mg:Str->Option Value} {base:Heap} {f:Addr} {fd:FuncData} (Fn:Fun K "line_from" "line_from" s_line_from f fd) (c_without_noughts:Own P w K mg base "without_noughts" 1 F_without_noughts) (c_negative:Own P w K mg base "negative" 1 F_negative) (c_product_of_ways:Own P w K mg base "product_of_ways" 4 F_product_of_ways):
    FnOk P w K mg base CX0 5 f fd ["place","across"] (spU K F_line_from):=by
  refine Fn.okJ sc_line_from (fun ds S k h=>?_) (fun cdv A outer s H E hr=>⟨_,(ds_onej (dst_retj (d_callj c_without_noughts (hr.mono (by decide)) rfl (da_consj (d_dispj hr (pj_cons (d_tupj (da_consj d_intj (da_consj d_intj da_nilj))) (d_ixj x_ixE (d_varj 1) d_intj (fun _ _=>rfl)) (pj_cons (d_tupj (da_consj d_intj (da_consj d_intj da_nilj))) (d_ixj x_ixE (d_varj 1) d_intj (fun _ _=>rfl)) (pj_cons (d_tupj (da_consj d_intj (da_consj d_intj da_nilj))) (d_callj c_negative (hr.mono (by decide)) rfl (da_consj (d_callj c_product_of_ways (hr.mono (by decide)) rfl (da_consj (d_varj 0) (da_consj (d_varj 1) da_nilj))) da_nilj)) pj_nil)))) da_nilj)))),fun ds S k h=>?_⟩)
  · obtain⟨_,_,_,_,rfl,_⟩:=h
    rfl
  · obtain⟨x,y,a,b,rfl,hx,hy,ha,hb,w⟩:=h
    refine fun p hp e0=>⟨few,few,few,x,y,a,b,rfl,hx.mono (by decide),hy.mono (by decide),ha.mono (by decide),hb.mono (by decide),_,rfl,e0,cvD (ln3 a b (-(x*a+y*b))),put_same,rfl,by show 3<=15; decide,fun e1=>?_⟩
    refine⟨p,ln3 a b (-(x*a+y*b)),e1,rfl,by rw [put_same,mergeT_nd (f:=fr) (l:=ln3 a b (-(x*a+y*b))) (by show(([[1,0],[0,1],[0,0]]:List (List Int))).Nodup; decide)],(by show(([[1,0],[0,1],[0,0]]:List (List Int))).Nodup; decide),by show 3<=100; decide,fun S' q e' xx _ hh=>w S' q e' (((Ext.new hp).put hp).trans xx) hh⟩
abbrev cr5 (x y s:Rat):List (List Int×Rat):=[([2,0],1),([0,2],1),([1,0],-(x+x)),([0,1],-(y+y)),([0,0],x*x+y*y - s)]
theorem cr5_nd {x y s:Rat}:((cr5 x y s).map (·.1)).Nodup:=by show(([[2,0],[0,2],[1,0],[0,1],[0,0]]:List (List Int))).Nodup; decide
theorem ln3_nd {a b r:Rat}:((ln3 a b r).map (·.1)).Nodup:=by show(([[1,0],[0,1],[0,0]]:List (List Int))).Nodup; decide
def F_round_about:DSp:=fun ds S k=>∃ x y s:Rat,ds=[W x y,fr s]/\Sz 40 x/\Sz 40 y/\Sz 100 s/\∀ S' p ep',Ext S S'->S' p=some (dTo (cvD (nz (cr5 x y s))) ep')->k (.ref p) S'
theorem sc_round_about:FnScope ["place","square","x","y","rest"] ["place","square"] (defScope s_round_about):=⟨rfl,rfl,rfl,by decide +kernel,rfl,by decide +kernel,by decide +kernel⟩
theorem ok_round_about {P:Program} {w:World} {K:Fg} {mg:Str->Option Value} {base:Heap} {f:Addr} {fd:FuncData} (Fn:Fun K "round_about" "round_about" s_round_about f fd) (c_plus:Own P w K mg base "plus" 3 F_plus) (c_minus:Own P w K mg base "minus" 3 F_minus) (c_product_of_ways:Own P w K mg base "product_of_ways" 4 F_product_of_ways) (c_without_noughts:Own P w K mg base "without_noughts" 1 F_without_noughts) (c_negative:Own P w K mg base "negative" 1 F_negative) (g_ONE:GTup K mg "ONE" [1,1]):
    FnOk P w K mg base CX0 5 f fd ["place","square"] (spU K F_round_about):=by
  refine Fn.okJ sc_round_about (fun ds S k h=>?_) (fun cdv A outer s H E hr=>⟨_,(ds_consj (dst_setj (i:=2) sc_round_about.nd (d_callj c_plus (hr.mono (by decide)) rfl (da_consj (d_ixj x_ixE (d_varj 0) d_intj (fun _ _=>rfl)) (da_consj (d_ixj x_ixE (d_varj 0) d_intj (fun _ _=>rfl)) da_nilj)))) (ds_consj (dst_setj (i:=3) sc_round_about.nd (d_callj c_plus (hr.mono (by decide)) rfl (da_consj (d_ixj x_ixE (d_varj 0) d_intj (fun _ _=>rfl)) (da_consj (d_ixj x_ixE (d_varj 0) d_intj (fun _ _=>rfl)) da_nilj)))) (ds_consj (dst_setj (i:=4) sc_round_about.nd (d_callj c_minus (hr.mono (by decide)) rfl (da_consj (d_callj c_product_of_ways (hr.mono (by decide)) rfl (da_consj (d_varj 0) (da_consj (d_varj 0) da_nilj))) (da_consj (d_varj 1) da_nilj)))) (ds_onej (dst_retj (d_callj c_without_noughts (hr.mono (by decide)) rfl (da_consj (d_dispj hr (pj_cons (d_tupj (da_consj d_intj (da_consj d_intj da_nilj))) (d_gtup g_ONE rfl) (pj_cons (d_tupj (da_consj d_intj (da_consj d_intj da_nilj))) (d_gtup g_ONE rfl) (pj_cons (d_tupj (da_consj d_intj (da_consj d_intj da_nilj))) (d_callj c_negative (hr.mono (by decide)) rfl (da_consj (d_varj 2) da_nilj)) (pj_cons (d_tupj (da_consj d_intj (da_consj d_intj da_nilj))) (d_callj c_negative (hr.mono (by decide)) rfl (da_consj (d_varj 3) da_nilj)) (pj_cons (d_tupj (da_consj d_intj (da_consj d_intj da_nilj))) (d_varj 4) pj_nil)))))) da_nilj))))))),fun ds S k h=>?_⟩)
  · obtain⟨_,_,_,rfl,_⟩:=h
    rfl
  · obtain⟨x,y,s,rfl,hx,hy,hs,w⟩:=h
    refine⟨x,x,rfl,hx.mono (by decide),hx.mono (by decide),y,y,rfl,hy.mono (by decide),hy.mono (by decide),x,y,x,y,rfl,hx.mono (by decide),hy.mono (by decide),hx.mono (by decide),hy.mono (by decide),_,s,rfl,(((hx.mul hx).add (hy.mul hy))).mono (by decide),hs.mono (by decide),?_⟩
    refine fun p hp e0=>⟨few,few,few,_,rfl,few,_,rfl,few,e0,cvD (cr5 x y s),put_same,rfl,by show 5<=15; decide,fun e1=>?_⟩
    exact⟨p,cr5 x y s,e1,rfl,by rw [put_same,mergeT_nd (f:=fr) (l:=cr5 x y s) cr5_nd],cr5_nd,by show 5<=100; decide,fun S' q e' xx _ hh=>w S' q e' (((Ext.new hp).put hp).trans xx) hh⟩
theorem nz_mem {l:List (List Int×Rat)} {p:List Int×Rat}:p∈nz l↔p∈l/\p.2≠0:=by
  rw [List.mem_filter]
  simp
theorem nz_len {l:List (List Int×Rat)}:(nz l).length<=l.length:=List.length_filter_le _ _
theorem two3 {a b r:Rat}:∀ p∈ln3 a b r,∃ i j,p.1=[i,j]:=by
  intro p hp
  simp only [List.mem_cons,List.not_mem_nil,or_false] at hp
  rcases hp with rfl | rfl | rfl <;> exact⟨_,_,rfl⟩
theorem two5 {a b r:Rat}:∀ p∈cr5 a b r,∃ i j,p.1=[i,j]:=by
  intro p hp
  simp only [List.mem_cons,List.not_mem_nil,or_false] at hp
  rcases hp with rfl | rfl | rfl | rfl | rfl <;> exact⟨_,_,rfl⟩
set_option maxHeartbeats 4000000
section
variable {α:Type} {f:α->D}
def gA (z:α) (c:List (List Int×α)) (k:List Int):α:=((c.find? fun p=>decide (p.1=k)).map (·.2)).getD z
theorem gA_none {z:α}:∀ {c:List (List Int×α)} {k:List Int},k∉c.map (·.1)->gA z c k=z
  | [],_,_=>rfl
  | p::l,k,h=>by
    rw [List.map_cons,List.mem_cons,not_or] at h
    have e:gA z (p::l) k=gA z l k:=by simp [gA,List.find?_cons,Ne.symm h.1]
    rw [e]
    exact gA_none h.2
theorem gA_mem {z:α}:∀ {c:List (List Int×α)} {k:List Int} {x:α},(c.map (·.1)).Nodup->(k,x)∈c->gA z c k=x
  | [],_,_,_,h=>nomatch h
  | p::l,k,x,nd,h=>by
    rw [List.map_cons,List.nodup_cons] at nd
    rcases List.mem_cons.mp h with e | m
    · subst e
      simp [gA]
    · have ne:p.1≠k:=fun z=>nd.1 (List.mem_map.mpr ⟨_,m,z.symm⟩)
      have e:gA z (p::l) k=gA z l k:=by simp [gA,List.find?_cons,ne]
      rw [e]
      exact gA_mem nd.2 m
theorem getT_gA {z:α} {c:List (List Int×α)} {k:List Int}:(getT (kvD f c) k).getD (f z)=f (gA z c k):=by
  induction c with
  | nil=>rfl
  | cons p l ih=>
    by_cases h:p.1=k
    · simp [getT,kvD,gA,h]
    · have e1:getT (kvD f (p::l)) k=getT (kvD f l) k:=by simp [getT,kvD,List.find?_cons,h]
      have e2:gA z (p::l) k=gA z l k:=by simp [gA,List.find?_cons,h]
      rw [e1,e2,ih]
theorem key_or {z:α} {c:List (List Int×α)} (k:List Int) (nd:(c.map (·.1)).Nodup):k∉c.map (·.1)\/(k,gA z c k)∈c:=by
  by_cases h:k∈c.map (·.1)
  · obtain⟨p,hp,rfl⟩:=List.mem_map.mp h
    exact .inr (by rw [gA_mem (x:=p.2) nd hp]; exact hp)
  · exact .inl h
end
abbrev gR:=gA (0:Rat)
abbrev gI:=gA (0:Int)
theorem putT_set {l:List (List Int×Rat)} {k:List Int} {x:Rat}:∃ l':List (List Int×Rat),putT (cvD l) k (fr x)=cvD l'/\((l.map (·.1)).Nodup->(l'.map (·.1)).Nodup)/\l'.length<=l.length+1/\(∀ p∈l',p∈l\/p=(k,x))/\(k,x)∈l'/\∀ p∈l,p.1≠k->p∈l':=by
  by_cases h:k∈l.map (·.1)
  · refine⟨l.map fun p=>if p.1=k then(p.1,x) else p,?_,fun nd=>?_,by rw [List.length_map]; omega,fun p hp=>?_,?_,fun p hp n=>?_⟩
    · unfold putT
      obtain⟨p,hp,e⟩:=List.mem_map.mp h
      have:(getT (cvD l) k).isSome=true:=by
        have:(cvD l).find? (fun p=>decide (p.1=k))≠none:=fun z=>by
          have:=List.find?_eq_none.mp z (p.1,fr p.2) (List.mem_map.mpr ⟨p,hp,rfl⟩)
          simp [e] at this
        unfold getT
        cases hh:(cvD l).find? (fun p=>decide (p.1=k)) with
        | none=>exact absurd hh this
        | some v=>rfl
      rw [if_pos this]
      unfold cvD kvD
      rw [List.map_map,List.map_map]
      refine List.map_congr_left fun p _=>?_
      show(if p.1=k then(p.1,fr x) else(p.1,fr p.2))=_
      show _=((if p.1=k then(p.1,x) else p).1,fr (if p.1=k then(p.1,x) else p).2)
      split <;> rfl
    · rw [List.map_map]
      have:((fun p:List Int×Rat=>p.1) ∘ fun p=>if p.1=k then(p.1,x) else p)=fun p=>p.1:=by
        funext p
        show(if p.1=k then(p.1,x) else p).1=p.1
        split <;> rfl
      rw [this]
      exact nd
    · obtain⟨q,hq,rfl⟩:=List.mem_map.mp hp
      by_cases e:q.1=k
      · rw [if_pos e,e]
        exact .inr rfl
      · rw [if_neg e]
        exact .inl hq
    · obtain⟨p,hp,e⟩:=List.mem_map.mp h
      exact List.mem_map.mpr ⟨p,hp,by rw [if_pos e,e]⟩
    · exact List.mem_map.mpr ⟨p,hp,by rw [if_neg n]⟩
  · refine⟨l++[(k,x)],putT_app h,fun nd=>?_,by simp,fun p hp=>?_,by simp,fun p hp _=>by simp [hp]⟩
    · rw [List.map_append,List.nodup_append]
      refine⟨nd,by simp,fun a ha b hb=>?_⟩
      have:b=k:=by simpa using hb
      rw [this]
      exact fun z=>h (z▸ha)
    · rcases List.mem_append.mp hp with m | m
      · exact .inl m
      · exact .inr (by simpa using m)
theorem nodup_len {α:Type} [BEq α] [LawfulBEq α]:∀ {l l':List α},l.Nodup->(∀ x∈l,x∈l')->l.length<=l'.length
  | [],_,_,_=>Nat.zero_le _
  | a::l,l',nd,h=>by
    rw [List.nodup_cons] at nd
    have ma:=h a List.mem_cons_self
    have z:=nodup_len (l:=l) (l':=l'.erase a) nd.2 fun x hx=>(List.mem_erase_of_ne fun e=>nd.1 (by rw [<- e]; exact hx)).mpr (h x (List.mem_cons_of_mem _ hx))
    rw [List.length_erase_of_mem ma] at z
    have:0 < l'.length:=List.length_pos_of_mem ma
    rw [List.length_cons]
    omega
structure Cv (n m:Nat) (b:Int) (c:List (List Int×Rat)):Prop where
  nd:(c.map (·.1)).Nodup
  hl:c.length<=n
  sm:∀ p∈c,∃ i j:Int,p.1=[i,j]/\0<=i/\0<=j/\i<=b/\j<=b
  hz:∀ p∈c,Sz m p.2
theorem Cv.two {n m:Nat} {b:Int} {c:List (List Int×Rat)} (h:Cv n m b c):∀ p∈c,∃ i j,p.1=[i,j]:=fun p hp=>by
  obtain⟨i,j,e,_⟩:=h.sm p hp
  exact⟨i,j,e⟩
theorem Cv.sz {n m:Nat} {b:Int} {c:List (List Int×Rat)} (h:Cv n m b c) (m0:1<=m) (k:List Int):Sz m (gR c k):=by
  rcases key_or (z:=(0:Rat)) k h.nd with x | x
  · rw [show gR c k=0 from gA_none x]
    exact Sz.mono (m:=1) ⟨by decide,by decide⟩ m0
  · exact h.hz _ x
theorem Cv.of_gR {n m m':Nat} {b:Int} {c:List (List Int×Rat)} (h:Cv n m b c) (hz:∀ k,Sz m' (gR c k)):Cv n m' b c:=⟨h.nd,h.hl,h.sm,fun p hp=>by
  have:=hz p.1
  rw [show gR c p.1=p.2 from gA_mem h.nd hp] at this
  exact this⟩
theorem Cv.nil {m:Nat} {b:Int}:Cv 0 m b []:=⟨List.nodup_nil,by decide,fun p h=>(nomatch h),fun p h=>(nomatch h)⟩
theorem Cv.mono {n m n' m':Nat} {b b':Int} {c:List (List Int×Rat)} (h:Cv n m b c) (hn:n<=n') (hm:m<=m') (hb:b<=b'):Cv n' m' b' c:=⟨h.nd,Nat.le_trans h.hl hn,fun p hp=>by
  obtain⟨i,j,e,a1,a2,a3,a4⟩:=h.sm p hp
  exact⟨i,j,e,a1,a2,by omega,by omega⟩,fun p hp=>(h.hz p hp).mono hm⟩
theorem Cv.put {n m:Nat} {b:Int} {c:List (List Int×Rat)} (h:Cv n m b c) {i j:Int} {x:Rat} (i0:0<=i) (j0:0<=j) (i1:i<=b) (j1:j<=b) (hx:Sz m x):∃ c',putT (cvD c) [i,j] (fr x)=cvD c'/\Cv (n+1) m b c'/\∀ k,gR c' k=if k=[i,j] then x else gR c k:=by
  obtain⟨c',e,nd,hl,mm,m1,m2⟩:=putT_set (l:=c) (k:=[i,j]) (x:=x)
  have:=h.hl
  have nd':=nd h.nd
  refine⟨c',e,⟨nd',by omega,fun p hp=>?_,fun p hp=>?_⟩,fun k=>?_⟩
  · rcases mm p hp with q | rfl
    · exact h.sm p q
    · exact⟨i,j,rfl,i0,j0,i1,j1⟩
  · rcases mm p hp with q | rfl
    · exact h.hz p q
    · exact hx
  · by_cases ek:k=[i,j]
    · rw [if_pos ek,ek]
      exact gA_mem nd' m1
    · rw [if_neg ek]
      rcases key_or (z:=(0:Rat)) k h.nd with q | q
      · rw [show gR c k=0 from gA_none q]
        refine gA_none fun z=>?_
        obtain⟨p,hp,rfl⟩:=List.mem_map.mp z
        rcases mm p hp with y | y
        · exact q (List.mem_map.mpr ⟨p,y,rfl⟩)
        · exact ek (by rw [y])
      · exact gA_mem nd' (m2 _ q ek)
theorem gR_nz {c:List (List Int×Rat)} (nd:(c.map (·.1)).Nodup) (k:List Int):gR (nz c) k=gR c k:=by
  rcases key_or (z:=(0:Rat)) k nd with q | q
  · rw [show gR c k=0 from gA_none q]
    exact gA_none (mem_ff q)
  · by_cases z:gR c k=0
    · rw [z]
      refine gA_none fun y=>?_
      obtain⟨p,hp,rfl⟩:=List.mem_map.mp y
      obtain⟨hp,p0⟩:=nz_mem.mp hp
      exact p0 ((gA_mem nd hp).symm.trans z)
    · exact gA_mem (nd_filter nd) (nz_mem.mpr ⟨q,z⟩)
structure Res (φ:List Int->Rat) (g:List (List Int×Rat)):Prop where
  nd:(g.map (·.1)).Nodup
  two:∀ p∈g,∃ i j,p.1=[i,j]
  n0:∀ p∈g,p.2≠0
  at_:∀ k,gR g k=φ k
theorem Res.mem {φ:List Int->Rat} {g:List (List Int×Rat)} (h:Res φ g) {p:List Int×Rat}:p∈g↔p.2≠0/\φ p.1=p.2:=by
  refine⟨fun hp=>⟨h.n0 p hp,by rw [<- h.at_ p.1]; exact gA_mem h.nd hp⟩,fun⟨n,e⟩=>?_⟩
  rcases key_or (z:=(0:Rat)) p.1 h.nd with q | q
  · exact absurd (by rw [<- e,<- h.at_ p.1]; exact gA_none q) n
  · have:gR g p.1=p.2:=by rw [h.at_ p.1,e]
    rw [show gA 0 g p.1=p.2 from this] at q
    exact q
theorem Res.alike {φ:List Int->Rat} {g g':List (List Int×Rat)} (h:Res φ g) (h':Res φ g'):g.length=g'.length/\∀ p∈g',p∈g:=by
  have s1:∀ p∈g',p∈g:=fun p hp=>h.mem.mpr (h'.mem.mp hp)
  have s2:∀ p∈g,p∈g':=fun p hp=>h'.mem.mpr (h.mem.mp hp)
  have l1:=nodup_len h.nd (l':=g'.map (·.1)) fun x hx=>by
    obtain⟨p,hp,rfl⟩:=List.mem_map.mp hx
    exact List.mem_map.mpr ⟨p,s2 p hp,rfl⟩
  have l2:=nodup_len h'.nd (l':=g.map (·.1)) fun x hx=>by
    obtain⟨p,hp,rfl⟩:=List.mem_map.mp hx
    exact List.mem_map.mpr ⟨p,s1 p hp,rfl⟩
  rw [List.length_map,List.length_map] at l1 l2
  exact⟨by omega,s1⟩
theorem Res.of {n m:Nat} {b:Int} {c:List (List Int×Rat)} {φ:List Int->Rat} (h:Cv n m b c) (e:∀ k,gR c k=φ k):Res φ (nz c):=⟨nd_filter h.nd,fun p hp=>h.two p (nz_mem.mp hp).1,fun p hp=>(nz_mem.mp hp).2,fun k=>by rw [gR_nz h.nd]; exact e k⟩
theorem gA_snoc {z:Rat} {l:List (List Int×Rat)} {q:List Int×Rat} (h:q.1∉l.map (·.1)) (k:List Int):gA z (l++[q]) k=if k=q.1 then q.2 else gA z l k:=by
  unfold gA
  rw [List.find?_append]
  by_cases e:k=q.1
  · rw [if_pos e]
    have:l.find? (fun p=>decide (p.1=k))=none:=by
      rw [List.find?_eq_none]
      intro p hp
      have:p.1≠k:=fun y=>h (List.mem_map.mpr ⟨p,hp,y.trans e⟩)
      simpa using this
    rw [this]
    simp [e]
  · rw [if_neg e]
    have:([q]:List (List Int×Rat)).find? (fun p=>decide (p.1=k))=none:=by simp [Ne.symm e]
    rw [this]
    simp
theorem putT_setG {α:Type} {f:α->D} {l:List (List Int×α)} {k:List Int} {x:α}:∃ l':List (List Int×α),putT (kvD f l) k (f x)=kvD f l'/\((l.map (·.1)).Nodup->(l'.map (·.1)).Nodup)/\l'.length<=l.length+1/\(∀ p∈l',p∈l\/p=(k,x))/\(k,x)∈l'/\∀ p∈l,p.1≠k->p∈l':=by
  by_cases h:k∈l.map (·.1)
  · refine⟨l.map fun p=>if p.1=k then(p.1,x) else p,?_,fun nd=>?_,by rw [List.length_map]; omega,fun p hp=>?_,?_,fun p hp n=>?_⟩
    · unfold putT
      obtain⟨p,hp,e⟩:=List.mem_map.mp h
      have:(getT (kvD f l) k).isSome=true:=by
        have:(kvD f l).find? (fun p=>decide (p.1=k))≠none:=fun z=>by
          have:=List.find?_eq_none.mp z (p.1,f p.2) (List.mem_map.mpr ⟨p,hp,rfl⟩)
          simp [e] at this
        unfold getT
        cases hh:(kvD f l).find? (fun p=>decide (p.1=k)) with
        | none=>exact absurd hh this
        | some v=>rfl
      rw [if_pos this]
      unfold kvD
      rw [List.map_map,List.map_map]
      refine List.map_congr_left fun p _=>?_
      show(if p.1=k then(p.1,f x) else(p.1,f p.2))=_
      show _=((if p.1=k then(p.1,x) else p).1,f (if p.1=k then(p.1,x) else p).2)
      split <;> rfl
    · rw [List.map_map]
      have:((fun p:List Int×α=>p.1) ∘ fun p=>if p.1=k then(p.1,x) else p)=fun p=>p.1:=by
        funext p
        show(if p.1=k then(p.1,x) else p).1=p.1
        split <;> rfl
      rw [this]
      exact nd
    · obtain⟨q,hq,rfl⟩:=List.mem_map.mp hp
      by_cases e:q.1=k
      · rw [if_pos e,e]
        exact .inr rfl
      · rw [if_neg e]
        exact .inl hq
    · obtain⟨p,hp,e⟩:=List.mem_map.mp h
      exact List.mem_map.mpr ⟨p,hp,by rw [if_pos e,e]⟩
    · exact List.mem_map.mpr ⟨p,hp,by rw [if_neg n]⟩
  · refine⟨l++[(k,x)],putT_app h,fun nd=>?_,by simp,fun p hp=>?_,by simp,fun p hp _=>by simp [hp]⟩
    · rw [List.map_append,List.nodup_append]
      refine⟨nd,by simp,fun a ha b hb=>?_⟩
      have:b=k:=by simpa using hb
      rw [this]
      exact fun z=>h (z▸ha)
    · rcases List.mem_append.mp hp with m | m
      · exact .inl m
      · exact .inr (by simpa using m)
def addK:List Int->List Int->List Int
  | [i,j],[a,b]=>[i+a,j+b]
  | _,_=>[]
section
variable {α:Type} [Add α] [Mul α] [OfNat α 0]
def tmP (p q:List Int×α) (k:List Int):α:=if addK p.1 q.1=k then p.2*q.2 else 0
def rowF (p:List Int×α) (l:List (List Int×α)) (k:List Int) (s:α):α:=l.foldl (fun s q=>s+tmP p q k) s
def mulF (l l':List (List Int×α)) (k:List Int):α:=l.foldl (fun s p=>rowF p l' k s) 0
theorem rowF_snoc {p q:List Int×α} {l:List (List Int×α)} {k:List Int} {s:α}:rowF p (l++[q]) k s=rowF p l k s+tmP p q k:=by
  unfold rowF
  rw [List.foldl_append]
  rfl
theorem mulF_snoc {p:List Int×α} {l l':List (List Int×α)} {k:List Int}:mulF (l++[p]) l' k=rowF p l' k (mulF l l' k):=by
  unfold mulF
  rw [List.foldl_append]
  rfl
end
structure Ci (b:Int) (c:List (List Int×Int)):Prop where
  nd:(c.map (·.1)).Nodup
  sm:∀ p∈c,∃ i j:Int,p.1=[i,j]/\0<=i/\0<=j/\i<=b/\j<=b
theorem Ci.put {b:Int} {c:List (List Int×Int)} (h:Ci b c) {i j:Int} {x:Int} (i0:0<=i) (j0:0<=j) (i1:i<=b) (j1:j<=b):∃ c',putT (tpD c) [i,j] (D.int x)=tpD c'/\Ci b c'/\c'.length<=c.length+1/\∀ k,gI c' k=if k=[i,j] then x else gI c k:=by
  obtain⟨c',e,nd,hl,mm,m1,m2⟩:=putT_setG (f:=D.int) (l:=c) (k:=[i,j]) (x:=x)
  have nd':=nd h.nd
  refine⟨c',e,⟨nd',fun p hp=>?_⟩,hl,fun k=>?_⟩
  · rcases mm p hp with q | rfl
    · exact h.sm p q
    · exact⟨i,j,rfl,i0,j0,i1,j1⟩
  · by_cases ek:k=[i,j]
    · rw [if_pos ek,ek]
      exact gA_mem nd' m1
    · rw [if_neg ek]
      rcases key_or (z:=(0:Int)) k h.nd with q | q
      · rw [show gI c k=0 from gA_none q]
        refine gA_none fun z=>?_
        obtain⟨p,hp,rfl⟩:=List.mem_map.mp z
        rcases mm p hp with y | y
        · exact q (List.mem_map.mpr ⟨p,y,rfl⟩)
        · exact ek (by rw [y])
      · exact gA_mem nd' (m2 _ q ek)
theorem rowF_top {X Y:Int} {p:List Int×Rat} {P:Int} {k:List Int} (hP:(P:Rat)=X*p.2):∀ {l:List (List Int×Rat)} {s:Rat} {z:Int},(∀ q∈l,((topI Y q.2:Int):Rat)=Y*q.2)->(z:Rat)=X*Y*s->((rowF (p.1,P) (l.map fun q=>(q.1,topI Y q.2)) k z:Int):Rat)=X*Y*rowF p l k s
  | [],s,z,_,h=>h
  | q::l,s,z,hq,h=>by
    show((rowF (p.1,P) (l.map fun q=>(q.1,topI Y q.2)) k (z+tmP (p.1,P) (q.1,topI Y q.2) k):Int):Rat)=X*Y*rowF p l k (s+tmP p q k)
    refine rowF_top hP (fun r hr=>hq r (List.mem_cons_of_mem _ hr)) ?_
    have e:=hq q List.mem_cons_self
    rw [Rat.intCast_add,h]
    unfold tmP
    dsimp only
    by_cases ek:addK p.1 q.1=k
    · rw [if_pos ek,if_pos ek,Rat.intCast_mul,e,hP]
      grind
    · rw [if_neg ek,if_neg ek]
      show X*Y*s+0=_
      grind
theorem mulF_top {X Y:Int} {k:List Int} {l':List (List Int×Rat)} (h':∀ q∈l',((topI Y q.2:Int):Rat)=Y*q.2):∀ {l:List (List Int×Rat)},(∀ q∈l,((topI X q.2:Int):Rat)=X*q.2)->∀ {s:Rat} {z:Int},(z:Rat)=X*Y*s->
    (((l.map fun q=>(q.1,topI X q.2)).foldl (fun s p=>rowF p (l'.map fun q=>(q.1,topI Y q.2)) k s) z:Int):Rat)=X*Y*l.foldl (fun s p=>rowF p l' k s) s
  | [],_,_,_,h=>h
  | p::l,hl,s,z,h=>mulF_top h' (fun r hr=>hl r (List.mem_cons_of_mem _ hr)) (rowF_top (hl p List.mem_cons_self) h' h)
theorem gA_map {α β:Type} {φ:α->β} {z:α} {k:List Int}:∀ {c:List (List Int×α)},gA (φ z) (c.map fun p=>(p.1,φ p.2)) k=φ (gA z c k)
  | []=>rfl
  | p::l=>by
    by_cases h:p.1=k
    · simp [gA,h]
    · have e1:gA (φ z) ((p::l).map fun p=>(p.1,φ p.2)) k=gA (φ z) (l.map fun p=>(p.1,φ p.2)) k:=by simp [gA,List.find?_cons,h]
      have e2:gA z (p::l) k=gA z l k:=by simp [gA,List.find?_cons,h]
      rw [e1,e2]
      exact gA_map
set_option maxHeartbeats 4000000
theorem hash_le6:∀ i∈List.range 7,∀ j∈List.range 7,∀ a∈List.range 7,∀ b∈List.range 7,hashT [(i:Int),(j:Int)]=hashT [(a:Int),(b:Int)]->i=a/\j=b:=by decide +kernel
theorem Cv.hash6 {n m:Nat} {c:List (List Int×Rat)} (h:Cv n m 6 c):((cvD c).map fun p=>hashT p.1).Nodup:=by
  show(List.map (fun p=>hashT p.1) (c.map fun p=>(p.1,fr p.2))).Nodup
  rw [List.map_map]
  have nd:=h.nd
  have sm:=h.sm
  clear h
  induction c with
  | nil=>exact List.nodup_nil
  | cons p l ih=>
    rw [List.map_cons,List.nodup_cons] at nd ⊢
    refine⟨fun z=>nd.1 ?_,ih nd.2 fun q hq=>sm q (List.mem_cons_of_mem _ hq)⟩
    obtain⟨q,hq,e⟩:=List.mem_map.mp z
    obtain⟨i,j,e1,i0,j0,i1,j1⟩:=sm p List.mem_cons_self
    obtain⟨i',j',e2,i0',j0',i1',j1'⟩:=sm q (List.mem_cons_of_mem _ hq)
    have e:hashT q.1=hashT p.1:=e
    rw [e1,e2] at e
    have r:∀ z:Int,0<=z->z<=6->∃ t∈List.range 7,z=(t:Int):=fun z _ _=>⟨z.toNat,List.mem_range.mpr (by omega),by omega⟩
    obtain⟨x1,y1,rfl⟩:=r i i0 i1
    obtain⟨x2,y2,rfl⟩:=r j j0 j1
    obtain⟨x3,y3,rfl⟩:=r i' i0' i1'
    obtain⟨x4,y4,rfl⟩:=r j' j0' j1'
    obtain⟨a,b⟩:=hash_le6 x3 y3 x4 y4 x1 y1 x2 y2 e
    subst a b
    exact List.mem_map.mpr ⟨q,hq,by rw [e1,e2]⟩
theorem Res.congr {φ ψ:List Int->Rat} {g:List (List Int×Rat)} (h:Res φ g) (e:∀ k,φ k=ψ k):Res ψ g:=⟨h.nd,h.two,h.n0,fun k=>by rw [h.at_ k]; exact e k⟩
structure Wf (d:Nat) (M:Int) (T:Nat) (φ:List Int->Rat):Prop where
  dg:∀ k,φ k≠0->∃ i j:Int,k=[i,j]/\0<=i/\0<=j/\i+j<=d
  dn:∀ k,∃ t:Int,Bt T t/\(M:Rat)*φ k=t
theorem _root_.HM.Bt.zero {n:Nat}:Bt n 0:=by
  show(0:Int).natAbs < 2 ^ n
  exact Nat.two_pow_pos n
theorem _root_.HM.Bt.add1 {n:Nat} {x y:Int} (hx:Bt n x) (hy:Bt n y):Bt (n+1) (x+y):=by
  unfold Bt at*
  rw [Nat.pow_succ]
  omega
theorem _root_.HM.Bt.neg' {n:Nat} {x:Int} (hx:Bt n x):Bt n (-x):=by
  unfold Bt at*
  omega
theorem Wf.congr {d:Nat} {M:Int} {T:Nat} {φ ψ:List Int->Rat} (h:Wf d M T φ) (e:∀ k,φ k=ψ k):Wf d M T ψ:=by
  rw [show ψ=φ from(funext e).symm]
  exact h
theorem Wf.add {d:Nat} {M:Int} {T:Nat} {φ ψ:List Int->Rat} (h:Wf d M T φ) (h':Wf d M T ψ):Wf d M (T+1) fun k=>φ k+ψ k:=⟨fun k n=>by
  by_cases z:φ k=0
  · refine h'.dg k fun y=>n ?_
    show φ k+ψ k=0
    rw [z,y,Rat.add_zero]
  · exact h.dg k z,fun k=>by
  obtain⟨t,bt,e⟩:=h.dn k
  obtain⟨t',bt',e'⟩:=h'.dn k
  exact⟨t+t',bt.add1 bt',by rw [Rat.mul_add,e,e',Rat.intCast_add]⟩⟩
theorem Wf.neg {d:Nat} {M:Int} {T:Nat} {φ:List Int->Rat} (h:Wf d M T φ):Wf d M T fun k=>-φ k:=⟨fun k n=>h.dg k fun z=>n (by show -φ k=0; rw [z]; rfl),fun k=>by
  obtain⟨t,bt,e⟩:=h.dn k
  exact⟨-t,bt.neg',by rw [Rat.intCast_neg,<- e]; grind⟩⟩
theorem Wf.sub {d:Nat} {M:Int} {T:Nat} {φ ψ:List Int->Rat} (h:Wf d M T φ) (h':Wf d M T ψ):Wf d M (T+1) fun k=>φ k - ψ k:=(h.add h'.neg).congr fun k=>by grind
theorem Wf.up {d d':Nat} {M M' m:Int} {T T' s:Nat} {φ:List Int->Rat} (h:Wf d M T φ) (e:M'=M*m) (hm:Bt s m) (hd:d<=d') (hT:T+s<=T'):Wf d' M' T' φ:=⟨fun k n=>by
  obtain⟨i,j,e,a,b,c⟩:=h.dg k n
  exact⟨i,j,e,a,b,by omega⟩,fun k=>by
  obtain⟨t,bt,q⟩:=h.dn k
  refine⟨t*m,(bt.mul hm).mono hT,?_⟩
  rw [e,Rat.intCast_mul,Rat.intCast_mul,<- q]
  grind⟩
theorem Wf.mul {d:Nat} {M m n:Int} {T s:Nat} {φ:List Int->Rat} {q:Rat} (h:Wf d M T φ) (e:(m:Rat)*q=n) (hn:Bt s n):Wf d (M*m) (T+s) fun k=>φ k*q:=⟨fun k z=>h.dg k fun y=>z (by show φ k*q=0; rw [y,Rat.zero_mul]),fun k=>by
  obtain⟨t,bt,et⟩:=h.dn k
  refine⟨t*n,bt.mul hn,?_⟩
  rw [Rat.intCast_mul,Rat.intCast_mul,<- et,<- e]
  grind⟩
theorem Wf.sz {d:Nat} {M:Int} {T n:Nat} {φ:List Int->Rat} (h:Wf d M T φ) (M0:0 < M) (hM:Bt n M) (hT:T<=n) (k:List Int):Sz n (φ k):=by
  obtain⟨t,bt,e⟩:=h.dn k
  have m0:(M:Rat)≠0:=fun z=>by
    have:M=0:=Rat.intCast_inj.mp (by rw [z]; rfl)
    omega
  have:φ k=Rat.divInt t M:=by
    rw [Rat.divInt_eq_div,<- e]
    grind
  rw [this]
  exact Sz.divInt (bt.mono hT) hM (by omega)
def triL (d:Nat):List (List Int):=(List.range (d+1)).flatMap fun(i:Nat)=>(List.range (d+1 - i)).map fun(j:Nat)=>[(i:Int),(j:Int)]
theorem mem_triL {d:Nat} {i j:Int} (i0:0<=i) (j0:0<=j) (h:i+j<=d):[i,j]∈triL d:=by
  unfold triL
  rw [List.mem_flatMap]
  refine⟨i.toNat,List.mem_range.mpr (by omega),List.mem_map.mpr ⟨j.toNat,List.mem_range.mpr (by omega),?_⟩⟩
  rw [Int.toNat_of_nonneg i0,Int.toNat_of_nonneg j0]
theorem Res.len {φ:List Int->Rat} {g:List (List Int×Rat)} {d:Nat} {M:Int} {T:Nat} (h:Res φ g) (w:Wf d M T φ):g.length<=(triL d).length:=by
  have:=nodup_len h.nd (l':=triL d) fun x hx=>by
    obtain⟨p,hp,rfl⟩:=List.mem_map.mp hx
    obtain⟨a,b⟩:=h.mem.mp hp
    obtain⟨i,j,e,i0,j0,hd⟩:=w.dg p.1 (by rw [b]; exact a)
    rw [e]
    exact mem_triL i0 j0 hd
  rw [List.length_map] at this
  exact this
theorem Res.cv {φ:List Int->Rat} {g:List (List Int×Rat)} {d n m:Nat} {b:Int} {M:Int} {T:Nat} (h:Res φ g) (w:Wf d M T φ) (M0:0 < M) (hM:Bt m M) (hT:T<=m) (hn:(triL d).length<=n) (hb:(d:Int)<=b):Cv n m b g:=⟨h.nd,Nat.le_trans (h.len w) hn,fun p hp=>by
  obtain⟨a,e⟩:=h.mem.mp hp
  obtain⟨i,j,ek,i0,j0,hd⟩:=w.dg p.1 (by rw [e]; exact a)
  exact⟨i,j,ek,i0,j0,by omega,by omega⟩,fun p hp=>by
  obtain⟨a,e⟩:=h.mem.mp hp
  rw [<- e]
  exact w.sz M0 hM hT p.1⟩
theorem Res.perm {φ:List Int->Rat} {g g':List (List Int×Rat)} (h:Res φ g) (h':Res φ g'):g.Perm g':=by
  have n1:g.Nodup:=List.Pairwise.of_map (·.1) (fun a b n e=>n (by rw [e])) h.nd
  have n2:g'.Nodup:=List.Pairwise.of_map (·.1) (fun a b n e=>n (by rw [e])) h'.nd
  rw [List.perm_iff_count]
  intro p
  have c1:p∈g↔p∈g':=by rw [h.mem,h'.mem]
  by_cases m:p∈g
  · rw [List.Nodup.count n1,List.Nodup.count n2,if_pos m,if_pos (c1.mp m)]
  · rw [List.Nodup.count n1,List.Nodup.count n2,if_neg m,if_neg (fun z=>m (c1.mpr z))]
theorem rowF_add {p:List Int×Rat} {l:List (List Int×Rat)} {k:List Int} {s:Rat}:rowF p l k s=s+rowF p l k 0:=by
  induction l generalizing s with
  | nil=>exact(Rat.add_zero s).symm
  | cons q l ih=>
    show rowF p l k (s+tmP p q k)=s+rowF p l k (0+tmP p q k)
    rw [ih,ih (s:=0+tmP p q k),Rat.zero_add,Rat.add_assoc]
theorem rowF_perm {p:List Int×Rat} {l l':List (List Int×Rat)} {k:List Int} (h:l.Perm l'):rowF p l k 0=rowF p l' k 0:=by
  induction h with
  | nil=>rfl
  | @cons x l1 l2 _ ih=>
    show rowF p l1 k (0+tmP p x k)=rowF p l2 k (0+tmP p x k)
    rw [rowF_add (l:=l1) (s:=0+tmP p x k),rowF_add (l:=l2) (s:=0+tmP p x k),ih]
  | swap x y l=>
    show rowF p l k (0+tmP p y k+tmP p x k)=rowF p l k (0+tmP p x k+tmP p y k)
    rw [show 0+tmP p y k+tmP p x k=0+tmP p x k+tmP p y k by grind]
  | trans _ _ i1 i2=>rw [i1,i2]
def sumF (f:List Int×Rat->Rat) (l:List (List Int×Rat)) (s:Rat):Rat:=l.foldl (fun s p=>s+f p) s
theorem sumF_add {f:List Int×Rat->Rat} {l:List (List Int×Rat)} {s:Rat}:sumF f l s=s+sumF f l 0:=by
  induction l generalizing s with
  | nil=>exact(Rat.add_zero s).symm
  | cons q l ih=>
    show sumF f l (s+f q)=s+sumF f l (0+f q)
    rw [ih,ih (s:=0+f q),Rat.zero_add,Rat.add_assoc]
theorem sumF_perm {f:List Int×Rat->Rat} {l l':List (List Int×Rat)} (h:l.Perm l'):sumF f l 0=sumF f l' 0:=by
  induction h with
  | nil=>rfl
  | @cons x l1 l2 _ ih=>
    show sumF f l1 (0+f x)=sumF f l2 (0+f x)
    rw [sumF_add (l:=l1) (s:=0+f x),sumF_add (l:=l2) (s:=0+f x),ih]
  | swap x y l=>
    show sumF f l (0+f y+f x)=sumF f l (0+f x+f y)
    rw [show 0+f y+f x=0+f x+f y by grind]
  | trans _ _ i1 i2=>rw [i1,i2]
theorem mulF_sum {l l':List (List Int×Rat)} {k:List Int}:mulF l l' k=sumF (fun p=>rowF p l' k 0) l 0:=by
  unfold mulF sumF
  congr 1
  funext s p
  exact rowF_add
theorem mulF_perm {l l2 l' l2':List (List Int×Rat)} {k:List Int} (h:l.Perm l2) (h':l'.Perm l2'):mulF l l' k=mulF l2 l2' k:=by
  rw [mulF_sum,mulF_sum,sumF_perm h]
  congr 1
  funext p
  exact rowF_perm h'
open Classical in
noncomputable def cl (φ:List Int->Rat):List (List Int×Rat):=if h:∃ c,Res φ c then h.choose else []
theorem cl_res {φ:List Int->Rat} {c:List (List Int×Rat)} (h:Res φ c):Res φ (cl φ):=by
  have e:∃ c,Res φ c:=⟨c,h⟩
  unfold cl
  rw [dif_pos e]
  exact e.choose_spec
noncomputable def mulφ (φ ψ:List Int->Rat) (k:List Int):Rat:=mulF (cl φ) (cl ψ) k
theorem mul_cl {φ ψ:List Int->Rat} {c c':List (List Int×Rat)} (h:Res φ c) (h':Res ψ c') (k:List Int):mulF c c' k=mulφ φ ψ k:=mulF_perm (h.perm (cl_res h)) (h'.perm (cl_res h'))
theorem row_dn {M M':Int} {T T':Nat} {p:List Int×Rat} {k:List Int} (hp:∃ t:Int,Bt T t/\(M:Rat)*p.2=t):∀ {l:List (List Int×Rat)},(∀ q∈l,∃ t:Int,Bt T' t/\(M':Rat)*q.2=t)->∀ {n:Nat} {s:Rat},(∃ t:Int,t.natAbs<=n*2 ^ (T+T')/\((M*M':Int):Rat)*s=t)->∃ t:Int,t.natAbs<=(n+l.length)*2 ^ (T+T')/\((M*M':Int):Rat)*rowF p l k s=t
  | [],_,n,s,h=>by simpa [rowF] using h
  | q::l,hl,n,s,h=>by
    have e:n+(q::l).length=n+1+l.length:=by rw [List.length_cons]; omega
    rw [e]
    refine row_dn (k:=k) hp (l:=l) (fun r hr=>hl r (List.mem_cons_of_mem _ hr)) (n:=n+1) (s:=s+tmP p q k) ?_
    obtain⟨t,ht,et⟩:=h
    obtain⟨a,ba,ea⟩:=hp
    obtain⟨b,bb,eb⟩:=hl q List.mem_cons_self
    unfold tmP
    by_cases z:addK p.1 q.1=k
    · refine⟨t+a*b,?_,?_⟩
      · have m:Bt (T+T') (a*b):=ba.mul bb
        unfold Bt at m
        have:=Int.natAbs_add_le t (a*b)
        rw [Nat.add_mul,Nat.one_mul]
        omega
      · rw [if_pos z,Rat.mul_add,et,Rat.intCast_add,Rat.intCast_mul,Rat.intCast_mul,<- ea,<- eb]
        grind
    · refine⟨t,?_,?_⟩
      · rw [Nat.add_mul]
        omega
      · rw [if_neg z,Rat.add_zero]
        exact et
theorem mul_dn {M M':Int} {T T':Nat} {k:List Int} {l':List (List Int×Rat)} (hl':∀ q∈l',∃ t:Int,Bt T' t/\(M':Rat)*q.2=t):∀ {l:List (List Int×Rat)},(∀ q∈l,∃ t:Int,Bt T t/\(M:Rat)*q.2=t)->∀ {n:Nat} {s:Rat},(∃ t:Int,t.natAbs<=n*2 ^ (T+T')/\((M*M':Int):Rat)*s=t)->∃ t:Int,t.natAbs<=(n+l.length*l'.length)*2 ^ (T+T')/\((M*M':Int):Rat)*l.foldl (fun s p=>rowF p l' k s) s=t
  | [],_,n,s,h=>by simpa using h
  | q::l,hl,n,s,h=>by
    have e:n+(q::l).length*l'.length=n+l'.length+l.length*l'.length:=by rw [List.length_cons,Nat.succ_mul]; omega
    rw [e]
    exact mul_dn hl' (l:=l) (fun r hr=>hl r (List.mem_cons_of_mem _ hr)) (row_dn (k:=k) (hl q List.mem_cons_self) hl' h)
theorem Res.dn {φ:List Int->Rat} {c:List (List Int×Rat)} {d:Nat} {M:Int} {T:Nat} (h:Res φ c) (w:Wf d M T φ):Dn M T c:=fun p hp=>by
  obtain⟨_,e⟩:=h.mem.mp hp
  obtain⟨t,bt,et⟩:=w.dn p.1
  rw [e] at et
  exact⟨t,bt,et⟩
theorem Dn.mono {B:Int} {T T':Nat} {c:List (List Int×Rat)} (h:Dn B T c) (hT:T<=T'):Dn B T' c:=fun p hp=>by
  obtain⟨t,bt,e⟩:=h p hp
  exact⟨t,bt.mono hT,e⟩
theorem rowF_zero {p:List Int×Rat} {k:List Int}:∀ {l:List (List Int×Rat)} {s:Rat},(∀ q∈l,addK p.1 q.1≠k)->rowF p l k s=s
  | [],_,_=>rfl
  | q::l,s,h=>by
    show rowF p l k (s+tmP p q k)=s
    rw [show tmP p q k=0 from if_neg (h q List.mem_cons_self),Rat.add_zero]
    exact rowF_zero fun r hr=>h r (List.mem_cons_of_mem _ hr)
theorem mulF_ne {k:List Int} {l':List (List Int×Rat)}:∀ {l:List (List Int×Rat)} {s:Rat},(∀ p∈l,∀ q∈l',addK p.1 q.1≠k)->l.foldl (fun s p=>rowF p l' k s) s=s
  | [],_,_=>rfl
  | p::l,s,h=>by
    show l.foldl (fun s p=>rowF p l' k s) (rowF p l' k s)=s
    rw [rowF_zero (h p List.mem_cons_self)]
    exact mulF_ne fun r hr=>h r (List.mem_cons_of_mem _ hr)
theorem Wf.prod {φ ψ:List Int->Rat} {c c':List (List Int×Rat)} {d d':Nat} {M M':Int} {T T':Nat} (h:Res φ c) (h':Res ψ c') (w:Wf d M T φ) (w':Wf d' M' T' ψ) (hl:c.length<=10) (hl':c'.length<=10):Wf (d+d') (M*M') (T+T'+7) (mulφ φ ψ):=⟨fun k n=>by
  rw [<- mul_cl h h'] at n
  refine Classical.byContradiction fun no=>n ?_
  refine mulF_ne (s:=0) fun p hp q hq e=>no ?_
  obtain⟨a,b⟩:=h.mem.mp hp
  obtain⟨a',b'⟩:=h'.mem.mp hq
  obtain⟨i,j,e1,i0,j0,ij⟩:=w.dg p.1 (by rw [b]; exact a)
  obtain⟨i',j',e2,i0',j0',ij'⟩:=w'.dg q.1 (by rw [b']; exact a')
  rw [e1,e2] at e
  exact⟨i+i',j+j',e.symm,by omega,by omega,by omega⟩,fun k=>by
  obtain⟨t,ht,et⟩:=mul_dn (k:=k) (M:=M) (M':=M') (T:=T) (T':=T') (h'.dn w') (h.dn w) (n:=0) (s:=0) ⟨0,Nat.zero_le _,by rw [Rat.mul_zero]; rfl⟩
  refine⟨t,?_,?_⟩
  · unfold Bt
    have l1:c.length*c'.length<=10*10:=Nat.mul_le_mul hl hl'
    have l2:(0+c.length*c'.length)*2 ^ (T+T')<=100*2 ^ (T+T'):=Nat.mul_le_mul_right _ (by omega)
    have l3:2 ^ (T+T'+7)=2 ^ (T+T')*128:=by rw [Nat.pow_add]
    have l4:=Nat.two_pow_pos (T+T')
    omega
  · rw [<- mul_cl h h']
    exact et⟩
theorem sumF_one {f:Rat->Rat} {k:List Int} (f0:f 0=0):∀ {l:List (List Int×Rat)},(l.map (·.1)).Nodup->sumF (fun p=>if p.1=k then f p.2 else 0) l 0=f (gR l k)
  | [],_=>f0.symm
  | p::l,nd=>by
    rw [List.map_cons,List.nodup_cons] at nd
    show sumF _ l (0+if p.1=k then f p.2 else 0)=_
    rw [sumF_add,sumF_one f0 nd.2]
    by_cases e:p.1=k
    · subst e
      rw [if_pos rfl,show gR l p.1=0 from gA_none nd.1,f0,Rat.add_zero,Rat.zero_add,show gR (p::l) p.1=p.2 by simp [gA]]
    · rw [if_neg e,show gR (p::l) k=gR l k by simp [gA,List.find?_cons,e],Rat.add_zero,Rat.zero_add]
theorem rowF_sum {p:List Int×Rat} {k:List Int}:∀ {l:List (List Int×Rat)} {s:Rat},rowF p l k s=sumF (fun q=>tmP p q k) l s
  | _,_=>rfl
theorem sumF_congr {f g:List Int×Rat->Rat}:∀ {l:List (List Int×Rat)} {s:Rat},(∀ p∈l,f p=g p)->sumF f l s=sumF g l s
  | [],_,_=>rfl
  | p::l,s,h=>by
    show sumF f l (s+f p)=sumF g l (s+g p)
    rw [h p List.mem_cons_self]
    exact sumF_congr fun q hq=>h q (List.mem_cons_of_mem _ hq)
theorem mul_top {φ ψ:List Int->Rat} {c c':List (List Int×Rat)} {d d':Nat} {M M':Int} {T T':Nat} (h:Res φ c) (h':Res ψ c') (w:Wf d M T φ) (w':Wf d' M' T' ψ):mulφ φ ψ [((d+d':Nat):Int),0]=φ [(d:Int),0]*ψ [(d':Int),0]:=by
  rw [<- mul_cl h h',mulF_sum]
  have row:∀ p∈c,rowF p c' [((d+d':Nat):Int),0] 0=if p.1=[(d:Int),0] then p.2*ψ [(d':Int),0] else 0:=fun p hp=>by
    obtain⟨a,b⟩:=h.mem.mp hp
    obtain⟨i,j,e1,i0,j0,ij⟩:=w.dg p.1 (by rw [b]; exact a)
    have key:∀ q∈c',(addK p.1 q.1=[((d+d':Nat):Int),0]↔p.1=[(d:Int),0]/\q.1=[(d':Int),0]):=fun q hq=>by
      obtain⟨a',b'⟩:=h'.mem.mp hq
      obtain⟨i',j',e2,i0',j0',ij'⟩:=w'.dg q.1 (by rw [b']; exact a')
      rw [e1,e2]
      show [i+i',j+j']=[((d+d':Nat):Int),0]↔[i,j]=[(d:Int),0]/\[i',j']=[(d':Int),0]
      simp only [List.cons.injEq,and_true]
      omega
    rw [rowF_sum]
    by_cases e:p.1=[(d:Int),0]
    · rw [if_pos e,sumF_congr (g:=fun q=>if q.1=[(d':Int),0] then p.2*q.2 else 0) (fun q hq=>by
        unfold tmP
        by_cases z:q.1=[(d':Int),0]
        · rw [if_pos ((key q hq).mpr ⟨e,z⟩),if_pos z]
        · rw [if_neg fun y=>z ((key q hq).mp y).2,if_neg z]),sumF_one (f:=fun x=>p.2*x) (Rat.mul_zero _) h'.nd,show gR c' [(d':Int),0]=ψ _ from h'.at_ _]
    · rw [if_neg e]
      rw [<- rowF_sum]
      exact rowF_zero fun q hq y=>e ((key q hq).mp y).1
  rw [sumF_congr row,sumF_one (f:=fun x=>x*ψ [(d':Int),0]) (Rat.zero_mul _) h.nd,show gR c [(d:Int),0]=φ _ from h.at_ _]
set_option maxHeartbeats 4000000
def F_curve_plus:DSp:=fun ds S k=>∃ (a b:Addr) (c c':List (List Int×Rat)) (e e':Nat),ds=[.ref a,.ref b]/\S a=some (dTo (cvD c) e)/\S b=some (dTo (cvD c') e')/\Cv 28 900 6 c/\Cv 28 900 6 c'/\∀ S' p ep g,Ext S S'->S p=none->Res (fun k=>gR c k+gR c' k) g->S' p=some (dTo (cvD g) ep)->k (.ref p) S'
theorem sc_curve_plus:FnScope ["one","other","sums","key","fraction"] ["one","other"] (defScope s_curve_plus):=⟨rfl,rfl,rfl,by decide +kernel,rfl,by decide +kernel,by decide +kernel⟩
theorem ok_curve_plus {P:Program} {w:World} {K:Fg} {mg:Str->Option Value} {base:Heap} {f:Addr} {fd:FuncData} (Fn:Fun K "curve_plus" "curve_plus" s_curve_plus f fd) (c_plus:Own P w K mg base "plus" 3 F_plus) (c_without_noughts:Own P w K mg base "without_noughts" 1 F_without_noughts) (z_dict:mg "dict"=none) (g_NOUGHT:GTup K mg "NOUGHT" [0,1]):
    FnOk P w K mg base CX0 4 f fd ["one","other"] (spU K F_curve_plus):=by
  refine Fn.okJ sc_curve_plus (fun ds S k h=>?_) (fun cdv A outer s H E hr=>⟨_,(ds_consj (dst_setj (i:=2) sc_curve_plus.nd (d_callTj (b_dict hr) rfl z_dict bt_dict (da_consj (d_varj 0) da_nilj))) (ds_consj (dst_forIj PassesOwn.never rfl (i_itemsj (d_varj 1)) (dg_seqE (n:=2) rfl (dgs_consj (dg_namej (i:=3) sc_curve_plus.nd) (dgs_consj (dg_namej (i:=4) sc_curve_plus.nd) dgs_nilj))) (ds_onej (dst_asgj (d_callj c_plus (hr.mono (by decide)) rfl (da_consj (d_get2j hr (d_varj 2) (d_varj 3) (d_gtup g_NOUGHT rfl)) (da_consj (d_varj 4) da_nilj))) (dg_subD hr (d_varj 2) (d_varj 3))))) (ds_onej (dst_retj (d_callj c_without_noughts (hr.mono (by decide)) rfl (da_consj (d_varj 2) da_nilj)))))),fun ds S k h=>?_⟩)
  · obtain⟨_,_,_,_,_,_,rfl,_⟩:=h
    rfl
  · obtain⟨a,b,c,c',e,e',rfl,ha,hb,hc,hc',w⟩:=h
    refine .inl ⟨_,_,ha,hc.hash6,fun p hp e1=>⟨_,_,put_keep hp hb,?_⟩⟩
    have nbp:b≠p:=ne_put hb hp
    refine loop_ix (fun r L S'=>∃ (don rest f:List (List Int×Rat)) (e3:Nat) (l3 l4:Option D),c'=don++rest/\r=pairsD (cvD rest)/\L=[some (.ref a),some (.ref b),some (.ref p),l3,l4]/\Ext S S'/\S' b=some (dTo (cvD c') e')/\S' p=some (dTo (cvD f) e3)/\Cv (28+don.length) 1801 6 f/\∀ k,gR f k=gR c k+gR don k) (fun r L S' ⟨_,_,_,_,_,_,_,_,_,_,h,_⟩=>h) ?_ ?_ _ _ _ ⟨[],c',c,e1,none,none,rfl,rfl,rfl,Ext.new hp,put_keep hp hb,put_same,hc.mono (by decide) (by decide) (by decide),fun k=>(Rat.add_zero _).symm⟩
    · rintro d r L S1 N1 ⟨don,rest,f,e3,l3,l4,ec,er,rfl,x1,b1,p1,hf,hg⟩ hN
      cases rest with
      | nil=>cases er
      | cons q rest=>
        cases er
        have mq:q∈c':=by rw [ec]; simp
        have nq:=nd_mid (p:=q) (ec▸hc'.nd)
        have hd:don.length < 28:=by have:=congrArg List.length ec; rw [List.length_append,List.length_cons] at this; have:=hc'.hl; omega
        have s0:Sz 900 (gR f q.1):=by rw [hg,show gR don q.1=0 from gA_none nq,Rat.add_zero]; exact hc.sz (by decide) _
        have sq:=hc'.hz q mq
        obtain⟨i,j,ek,i0,j0,i1,j1⟩:=hc'.sm q mq
        obtain⟨f',ef,hf',gf⟩:=hf.put (i:=i) (j:=j) (x:=gR f q.1+q.2) i0 j0 i1 j1 (s0.add sq)
        rw [<- ek] at ef gf
        refine⟨([keyD q.1,fr q.2],none),rfl,rfl,rfl,⟨_,_,p1⟩,_,_,q.1,p1,rfl,gR f q.1,q.2,congrArg (fun z=>[z,fr q.2]) (getT_gA (f:=fr) (z:=0)),s0.mono (by decide),sq.mono (by decide),_,_,q.1,p1,rfl,by rw [kvD_len]; exact lim (by have:=hf.hl; omega),fun e4=>hN _ _ ⟨don++[q],rest,f',e4,_,_,by rw [ec]; simp,rfl,rfl,x1.put hp,by rw [put_ne nbp]; exact b1,by rw [put_same,ef],by rw [List.length_append]; exact hf',fun k=>?_⟩⟩
        rw [gf k,show gR (don++[q]) k=_ from gA_snoc nq k]
        by_cases e:k=q.1
        · rw [if_pos e,if_pos e,hg,e,show gR don q.1=0 from gA_none nq,Rat.add_zero]
        · rw [if_neg e,if_neg e]
          exact hg k
    · rintro L S1 ⟨don,rest,f,e3,l3,l4,ec,er,rfl,x1,b1,p1,hf,hg⟩
      cases rest with
      | cons q rest=>cases er
      | nil=>
        rw [List.append_nil] at ec
        subst ec
        have:=hf.hl
        have:=hc'.hl
        exact⟨p,f,e3,rfl,p1,hf.nd,by omega,fun S2 q e2 x2 hq h2=>w S2 q e2 (nz f) (x1.trans x2) (x1.none hq) (Res.of hf hg) h2⟩
def F_curve_grown:DSp:=fun ds S k=>∃ (a:Addr) (c:List (List Int×Rat)) (e:Nat) (t:Rat),ds=[.ref a,fr t]/\S a=some (dTo (cvD c) e)/\Cv 28 900 6 c/\Sz 100 t/\∀ S' p ep g,Ext S S'->S p=none->Res (fun k=>gR c k*t) g->Cv 28 1000 6 g->S' p=some (dTo (cvD g) ep)->k (.ref p) S'
theorem sc_curve_grown:FnScope ["curve","by","grown","key","fraction"] ["curve","by"] (defScope s_curve_grown):=⟨rfl,rfl,rfl,by decide +kernel,rfl,by decide +kernel,by decide +kernel⟩
theorem ok_curve_grown {P:Program} {w:World} {K:Fg} {mg:Str->Option Value} {base:Heap} {f:Addr} {fd:FuncData} (Fn:Fun K "curve_grown" "curve_grown" s_curve_grown f fd) (c_times:Own P w K mg base "times" 3 F_times) (c_without_noughts:Own P w K mg base "without_noughts" 1 F_without_noughts):
    FnOk P w K mg base CX0 4 f fd ["curve","by"] (spU K F_curve_grown):=by
  refine Fn.okJ sc_curve_grown (fun ds S k h=>?_) (fun cdv A outer s H E hr=>⟨_,(ds_consj (dst_setj (i:=2) sc_curve_grown.nd d_dnewj) (ds_consj (dst_forIj PassesOwn.never rfl (i_itemsj (d_varj 0)) (dg_seqE (n:=2) rfl (dgs_consj (dg_namej (i:=3) sc_curve_grown.nd) (dgs_consj (dg_namej (i:=4) sc_curve_grown.nd) dgs_nilj))) (ds_onej (dst_asgj (d_callj c_times (hr.mono (by decide)) rfl (da_consj (d_varj 4) (da_consj (d_varj 1) da_nilj))) (dg_subD hr (d_varj 2) (d_varj 3))))) (ds_onej (dst_retj (d_callj c_without_noughts (hr.mono (by decide)) rfl (da_consj (d_varj 2) da_nilj)))))),fun ds S k h=>?_⟩)
  · obtain⟨_,_,_,_,rfl,_⟩:=h
    rfl
  · obtain⟨a,c,e,t,rfl,ha,hc,ht,w⟩:=h
    refine fun p hp e0=>⟨_,_,put_keep hp ha,?_⟩
    have nap:a≠p:=ne_put ha hp
    refine loop_ix (fun r L S'=>∃ (don rest f:List (List Int×Rat)) (e3:Nat) (l3 l4:Option D),c=don++rest/\r=pairsD (cvD rest)/\L=[some (.ref a),some (fr t),some (.ref p),l3,l4]/\Ext S S'/\S' a=some (dTo (cvD c) e)/\S' p=some (dTo (cvD f) e3)/\Cv don.length 1000 6 f/\∀ k,gR f k=gR don k*t) (fun r L S' ⟨_,_,_,_,_,_,_,_,_,_,h,_⟩=>h) ?_ ?_ _ _ _ ⟨[],c,[],e0,none,none,rfl,rfl,rfl,Ext.new hp,put_keep hp ha,put_same,Cv.nil,fun k=>(Rat.zero_mul _).symm⟩
    · rintro d r L S1 N1 ⟨don,rest,f,e3,l3,l4,ec,er,rfl,x1,a1,p1,hf,hg⟩ hN
      cases rest with
      | nil=>cases er
      | cons q rest=>
        cases er
        have mq:q∈c:=by rw [ec]; simp
        have nq:=nd_mid (p:=q) (ec▸hc.nd)
        have hd:don.length < 28:=by have:=congrArg List.length ec; rw [List.length_append,List.length_cons] at this; have:=hc.hl; omega
        have sq:=hc.hz q mq
        obtain⟨i,j,ek,i0,j0,i1,j1⟩:=hc.sm q mq
        obtain⟨f',ef,hf',gf⟩:=hf.put (i:=i) (j:=j) (x:=q.2*t) i0 j0 i1 j1 (sq.mul ht)
        rw [<- ek] at ef gf
        refine⟨([keyD q.1,fr q.2],none),rfl,rfl,rfl,q.2,t,rfl,sq.mono (by decide),ht.mono (by decide),_,_,q.1,p1,rfl,by rw [kvD_len]; exact lim (by have:=hf.hl; omega),fun e4=>hN _ _ ⟨don++[q],rest,f',e4,_,_,by rw [ec]; simp,rfl,rfl,x1.put hp,by rw [put_ne nap]; exact a1,by rw [put_same,ef],by rw [List.length_append]; exact hf',fun k=>?_⟩⟩
        rw [gf k,show gR (don++[q]) k=_ from gA_snoc nq k]
        by_cases e:k=q.1
        · rw [if_pos e,if_pos e]
        · rw [if_neg e,if_neg e]
          exact hg k
    · rintro L S1 ⟨don,rest,f,e3,l3,l4,ec,er,rfl,x1,a1,p1,hf,hg⟩
      cases rest with
      | cons q rest=>cases er
      | nil=>
        rw [List.append_nil] at ec
        subst ec
        have l1:=hf.hl
        have l2:=hc.hl
        have cz:Cv 28 1000 6 (nz f):=⟨nd_filter hf.nd,Nat.le_trans nz_len (by omega),fun p hp=>hf.sm p (nz_mem.mp hp).1,fun p hp=>hf.hz p (nz_mem.mp hp).1⟩
        exact⟨p,f,e3,rfl,p1,hf.nd,by omega,fun S2 q e2 x2 hq h2=>w S2 q e2 (nz f) (x1.trans x2) (x1.none hq) (Res.of hf hg) cz h2⟩
def F_curve_minus:DSp:=fun ds S k=>∃ (a b:Addr) (c c':List (List Int×Rat)) (e e':Nat),ds=[.ref a,.ref b]/\S a=some (dTo (cvD c) e)/\S b=some (dTo (cvD c') e')/\Cv 28 900 6 c/\Cv 28 800 6 c'/\∀ S' p ep g,Ext S S'->S p=none->Res (fun k=>gR c k - gR c' k) g->S' p=some (dTo (cvD g) ep)->k (.ref p) S'
theorem sc_curve_minus:FnScope ["one","other"] ["one","other"] (defScope s_curve_minus):=⟨rfl,rfl,rfl,by decide +kernel,rfl,by decide +kernel,by decide +kernel⟩
theorem ok_curve_minus {P:Program} {w:World} {K:Fg} {mg:Str->Option Value} {base:Heap} {f:Addr} {fd:FuncData} (Fn:Fun K "curve_minus" "curve_minus" s_curve_minus f fd) (c_curve_plus:Own P w K mg base "curve_plus" 4 F_curve_plus) (c_curve_grown:Own P w K mg base "curve_grown" 4 F_curve_grown) (c_negative:Own P w K mg base "negative" 1 F_negative) (g_ONE:GTup K mg "ONE" [1,1]):
    FnOk P w K mg base CX0 5 f fd ["one","other"] (spU K F_curve_minus):=by
  refine Fn.okJ sc_curve_minus (fun ds S k h=>?_) (fun cdv A outer s H E hr=>⟨_,(ds_onej (dst_retj (d_callj c_curve_plus (hr.mono (by decide)) rfl (da_consj (d_varj 0) (da_consj (d_callj c_curve_grown (hr.mono (by decide)) rfl (da_consj (d_varj 1) (da_consj (d_callj c_negative (hr.mono (by decide)) rfl (da_consj (d_gtup g_ONE rfl) da_nilj)) da_nilj))) da_nilj))))),fun ds S k h=>?_⟩)
  · obtain⟨_,_,_,_,_,_,rfl,_⟩:=h
    rfl
  · obtain⟨a,b,c,c',e,e',rfl,ha,hb,hc,hc',w⟩:=h
    refine⟨1,rfl,b,c',e',-1,rfl,hb,hc'.mono (by decide) (by decide) (by decide),⟨by decide,by decide⟩,fun S1 p1 e1 g1 x1 n1 r1 v1 h1=>⟨a,p1,c,g1,e,e1,rfl,x1 _ _ ha,h1,hc,v1.of_gR fun k=>?_,fun S2 p2 e2 g2 x2 n2 r2 h2=>w S2 p2 e2 g2 (x1.trans x2) (x1.none n2) ?_ h2⟩⟩
    · rw [r1.at_ k]
      exact((hc'.sz (by decide) k).mul (show Sz 1 (-1:Rat) from⟨by decide,by decide⟩)).mono (by decide)
    refine⟨r2.nd,r2.two,r2.n0,fun k=>?_⟩
    rw [r2.at_ k,r1.at_ k]
    grind
def F_product_of_tops:DSp:=fun ds S k=>∃ (a b:Addr) (t t':List (List Int×Int)) (e e':Nat),ds=[.ref a,.ref b]/\S a=some (dTo (tpD t) e)/\S b=some (dTo (tpD t') e')/\Ci 3 t/\Ci 3 t'/\t.length<=10/\t'.length<=10/\(∀ p∈t,Bt 500 p.2)/\(∀ p∈t',Bt 500 p.2)/\∀ S' p ep g,Ext S S'->S p=none->Ci 6 g->g.length<=100->(∀ k,gI g k=mulF t t' k)->S' p=some (dTo (tpD g) ep)->k (.ref p) S'
theorem sc_product_of_tops:FnScope ["one","other","sums","mine","top","theirs","other_top","key"] ["one","other"] (defScope s_product_of_tops):=⟨rfl,rfl,rfl,by decide +kernel,rfl,by decide +kernel,by decide +kernel⟩
theorem ok_product_of_tops {P:Program} {w:World} {K:Fg} {mg:Str->Option Value} {base:Heap} {f:Addr} {fd:FuncData} (Fn:Fun K "product_of_tops" "product_of_tops" s_product_of_tops f fd):
    FnOk P w K mg base CX0 1 f fd ["one","other"] (spU K F_product_of_tops):=by
  refine Fn.okJ sc_product_of_tops (fun ds S k h=>?_) (fun cdv A outer s H E hr=>⟨_,(ds_consj (dst_setj (i:=2) sc_product_of_tops.nd d_dnewj) (ds_consj (dst_forIj PassesOwn.never rfl (i_itemsj (d_varj 0)) (dg_seqE (n:=2) rfl (dgs_consj (dg_namej (i:=3) sc_product_of_tops.nd) (dgs_consj (dg_namej (i:=4) sc_product_of_tops.nd) dgs_nilj))) (ds_onej (dst_forIj PassesOwn.never rfl (i_itemsj (d_varj 1)) (dg_seqE (n:=2) rfl (dgs_consj (dg_namej (i:=5) sc_product_of_tops.nd) (dgs_consj (dg_namej (i:=6) sc_product_of_tops.nd) dgs_nilj))) (ds_consj (dst_setj (i:=7) sc_product_of_tops.nd (d_tupj (da_consj (d_opj o_add (d_ixj x_ixE (d_varj 3) d_intj (fun _ _=>rfl)) (d_ixj x_ixE (d_varj 5) d_intj (fun _ _=>rfl))) (da_consj (d_opj o_add (d_ixj x_ixE (d_varj 3) d_intj (fun _ _=>rfl)) (d_ixj x_ixE (d_varj 5) d_intj (fun _ _=>rfl))) da_nilj)))) (ds_onej (dst_asgj (d_opj o_add (d_get2j hr (d_varj 2) (d_varj 7) d_intj) (d_opj o_mul (d_varj 4) (d_varj 6))) (dg_subD hr (d_varj 2) (d_varj 7)))))))) (ds_onej (dst_retj (d_varj 2))))),fun ds S k h=>?_⟩)
  · obtain⟨_,_,_,_,_,_,rfl,_⟩:=h
    rfl
  · obtain⟨a,b,t,t',e,e',rfl,ha,hb,ht,ht',hl,hl',bt,bt',w⟩:=h
    refine fun p hp e0=>⟨_,_,put_keep hp ha,?_⟩
    have nap:a≠p:=ne_put ha hp
    have nbp:b≠p:=ne_put hb hp
    refine loop_ix (fun r L S'=>∃ (don rest g:List (List Int×Int)) (e1:Nat) (l3 l4 l5 l6 l7:Option D),t=don++rest/\r=pairsD (tpD rest)/\L=[some (.ref a),some (.ref b),some (.ref p),l3,l4,l5,l6,l7]/\Ext S S'/\S' a=some (dTo (tpD t) e)/\S' b=some (dTo (tpD t') e')/\S' p=some (dTo (tpD g) e1)/\Ci 6 g/\g.length<=10*don.length/\∀ k,gI g k=mulF don t' k) (fun r L S' ⟨_,_,_,_,_,_,_,_,_,_,_,_,_,h,_⟩=>h) ?_ ?_ _ _ _ ⟨[],t,[],e0,none,none,none,none,none,rfl,rfl,rfl,Ext.new hp,put_keep hp ha,put_keep hp hb,put_same,⟨List.nodup_nil,fun p h=>(nomatch h)⟩,by decide,fun k=>rfl⟩
    · rintro d r L S1 N1 ⟨don,rest,g,e1,l3,l4,l5,l6,l7,ec,er,rfl,x1,a1,b1,p1,hg,gl,gf⟩ hN
      cases rest with
      | nil=>cases er
      | cons q rest=>
        cases er
        have mq:q∈t:=by rw [ec]; simp
        have hd:don.length < 10:=by have:=congrArg List.length ec; rw [List.length_append,List.length_cons] at this; omega
        obtain⟨i,j,ek,i0,j0,i1,j1⟩:=ht.sm q mq
        refine⟨([keyD q.1,.int q.2],none),rfl,rfl,rfl,_,_,b1,?_⟩
        refine loop_ix (fun r L S'=>∃ (don2 rest2 g:List (List Int×Int)) (e1:Nat) (l5 l6 l7:Option D),t'=don2++rest2/\r=pairsD (tpD rest2)/\L=[some (.ref a),some (.ref b),some (.ref p),some (keyD q.1),some (.int q.2),l5,l6,l7]/\Ext S S'/\S' a=some (dTo (tpD t) e)/\S' b=some (dTo (tpD t') e')/\S' p=some (dTo (tpD g) e1)/\Ci 6 g/\g.length<=10*don.length+don2.length/\∀ k,gI g k=rowF q don2 k (mulF don t' k)) (fun r L S' ⟨_,_,_,_,_,_,_,_,_,_,_,_,h,_⟩=>h) ?_ ?_ _ _ _ ⟨[],t',g,e1,_,_,_,rfl,rfl,rfl,x1,a1,b1,p1,hg,by simpa using gl,gf⟩
        · rintro d r L S2 N2 ⟨don2,rest2,g2,e2,m5,m6,m7,ec2,er2,rfl,x2,a2,b2,p2,hg2,gl2,gf2⟩ hN2
          cases rest2 with
          | nil=>cases er2
          | cons q2 rest2=>
            cases er2
            have mq2:q2∈t':=by rw [ec2]; simp
            have hd2:don2.length < 10:=by have:=congrArg List.length ec2; rw [List.length_append,List.length_cons] at this; omega
            obtain⟨i',j',ek2,i0',j0',i1',j1'⟩:=ht'.sm q2 mq2
            have G:(getT (tpD g2) [i+i',j+j']).getD (D.int 0)=D.int (gI g2 [i+i',j+j']):=getT_gA (f:=D.int) (z:=0)
            obtain⟨g3,eg3,hg3,gl3,gf3⟩:=hg2.put (i:=i+i') (j:=j+j') (x:=gI g2 [i+i',j+j']+q.2*q2.2) (by omega) (by omega) (by omega) (by omega)
            refine⟨([keyD q2.1,.int q2.2],none),rfl,rfl,rfl,?_⟩
            have fin:∀ e4:Nat,N2 [some (.ref a),some (.ref b),some (.ref p),some (keyD q.1),some (.int q.2),some (keyD q2.1),some (.int q2.2),some (.tup [.int (i+i'),.int (j+j')])] (put S2 p (dTo (putT (tpD g2) [i+i',j+j'] (.int (gI g2 [i+i',j+j']+q.2*q2.2))) e4)):=fun e4=>hN2 _ _ ⟨don2++[q2],rest2,g3,e4,_,_,_,by rw [ec2]; simp,rfl,rfl,x2.put hp,by rw [put_ne nap]; exact a2,by rw [put_ne nbp]; exact b2,by rw [put_same,eg3],hg3,by rw [List.length_append]; simp; omega,fun k=>by
              rw [gf3 k,rowF_snoc,<- gf2 k]
              unfold tmP
              rw [ek,ek2]
              show _=gI g2 k+(if [i+i',j+j']=k then q.2*q2.2 else 0)
              by_cases e:k=[i+i',j+j']
              · rw [if_pos e,if_pos e.symm,e]
              · rw [if_neg e,if_neg (Ne.symm e),Int.add_zero]⟩
            rw [ek,ek2] at fin ⊢
            refine⟨few,⟨_,_,p2⟩,_,_,[i+i',j+j'],p2,rfl,mok (bt q mq) (bt' q2 mq2),?_⟩
            rw [G]
            exact⟨_,_,[i+i',j+j'],p2,rfl,by rw [kvD_len]; exact lim (by omega),fin⟩
        · rintro L S2 ⟨don2,rest2,g2,e2,m5,m6,m7,ec2,er2,rfl,x2,a2,b2,p2,hg2,gl2,gf2⟩
          cases rest2 with
          | cons q2 rest2=>cases er2
          | nil=>
            rw [List.append_nil] at ec2
            subst ec2
            exact hN _ _ ⟨don++[q],rest,g2,e2,_,_,_,_,_,by rw [ec]; simp,rfl,rfl,x2,a2,b2,p2,hg2,by rw [List.length_append]; simp; omega,fun k=>by rw [mulF_snoc]; exact gf2 k⟩
    · rintro L S1 ⟨don,rest,g,e1,l3,l4,l5,l6,l7,ec,er,rfl,x1,a1,b1,p1,hg,gl,gf⟩
      cases rest with
      | cons q rest=>cases er
      | nil=>
        rw [List.append_nil] at ec
        subst ec
        exact w S1 p e1 g x1 hp hg (by omega) gf p1
theorem vals_eq {c:List (List Int×Rat)}:(kvD fr c).map (·.2)=(c.map (·.2)).map fr:=by unfold kvD; rw [List.map_map,List.map_map]; rfl
theorem top_bt {M B:Int} {T:Nat} {q:Rat} (b0:B≠0) (dv:M ∣ B) (e:((topI M q:Int):Rat)=(M:Int)*q) (h:∃ t:Int,Bt T t/\(B:Rat)*q=t):Bt T (topI M q):=by
  obtain⟨t,bt,et⟩:=h
  obtain⟨m,rfl⟩:=dv
  have e2:t=topI M q*m:=by
    refine Rat.intCast_inj.mp ?_
    rw [<- et,Rat.intCast_mul,Rat.intCast_mul,e]
    grind
  by_cases z:t=0
  · rw [z] at e2
    rcases Int.mul_eq_zero.mp e2.symm with y | y
    · rw [y]
      exact HM.Bt.zero
    · exact absurd (by rw [y,Int.mul_zero]) b0
  · exact dvd_bt ⟨m,e2⟩ z bt
def F_curve_times:DSp:=fun ds S k=>∃ (a b:Addr) (c c':List (List Int×Rat)) (e e':Nat) (B B':Int),ds=[.ref a,.ref b]/\S a=some (dTo (cvD c) e)/\S b=some (dTo (cvD c') e')/\Cv 10 900 3 c/\Cv 10 900 3 c'/\0 < B/\0 < B'/\Bt 300 B/\Bt 300 B'/\Dn B 500 c/\Dn B' 500 c'/\∀ S' p ep g,Ext S S'->S p=none->Res (fun k=>mulF c c' k) g->S' p=some (dTo (cvD g) ep)->k (.ref p) S'
theorem sc_curve_times:FnScope ["one","other","mine","theirs","told","key","top"] ["one","other"] (defScope s_curve_times):=⟨rfl,rfl,rfl,by decide +kernel,rfl,by decide +kernel,by decide +kernel⟩
theorem ok_curve_times {P:Program} {w:World} {K:Fg} {mg:Str->Option Value} {base:Heap} {f:Addr} {fd:FuncData} (Fn:Fun K "curve_times" "curve_times" s_curve_times f fd) (c_common_bottom:Own P w K mg base "common_bottom" 3 F_common_bottom) (c_product_of_tops:Own P w K mg base "product_of_tops" 1 F_product_of_tops) (c_tops_over:Own P w K mg base "tops_over" 1 F_tops_over) (c_ratio:Own P w K mg base "ratio" 2 F_ratio) (c_without_noughts:Own P w K mg base "without_noughts" 1 F_without_noughts) (z_list:mg "list"=none):
    FnOk P w K mg base CX0 4 f fd ["one","other"] (spU K F_curve_times):=by
  refine Fn.okJ sc_curve_times (fun ds S k h=>?_) (fun cdv A outer s H E hr=>⟨_,(ds_consj (dst_setj (i:=2) sc_curve_times.nd (d_callj c_common_bottom (hr.mono (by decide)) rfl (da_consj (d_listVj rfl rfl z_list (d_varj 0)) da_nilj))) (ds_consj (dst_setj (i:=3) sc_curve_times.nd (d_callj c_common_bottom (hr.mono (by decide)) rfl (da_consj (d_listVj rfl rfl z_list (d_varj 1)) da_nilj))) (ds_consj (dst_setj (i:=4) sc_curve_times.nd d_dnewj) (ds_consj (dst_forIj PassesOwn.never rfl (i_itemsj (d_callj c_product_of_tops (hr.mono (by decide)) rfl (da_consj (d_callj c_tops_over (hr.mono (by decide)) rfl (da_consj (d_varj 0) (da_consj (d_varj 2) da_nilj))) (da_consj (d_callj c_tops_over (hr.mono (by decide)) rfl (da_consj (d_varj 1) (da_consj (d_varj 3) da_nilj))) da_nilj)))) (dg_seqE (n:=2) rfl (dgs_consj (dg_namej (i:=5) sc_curve_times.nd) (dgs_consj (dg_namej (i:=6) sc_curve_times.nd) dgs_nilj))) (ds_onej (dst_asgj (d_callj c_ratio (hr.mono (by decide)) rfl (da_consj (d_varj 6) (da_consj (d_opj o_mul (d_varj 2) (d_varj 3)) da_nilj))) (dg_subD hr (d_varj 4) (d_varj 5))))) (ds_onej (dst_retj (d_callj c_without_noughts (hr.mono (by decide)) rfl (da_consj (d_varj 4) da_nilj)))))))),fun ds S k h=>?_⟩)
  · obtain⟨_,_,_,_,_,_,_,_,rfl,_⟩:=h
    rfl
  · obtain⟨a,b,c,c',e,e',B1,B2,rfl,ha,hb,hc,hc',B1p,B2p,bB1,bB2,hD,hD',w⟩:=h
    have l1:=hc.hl
    have l2:=hc'.hl
    have M0:0 < lcB 1 (c.map (·.2)):=lcB_pos (by decide)
    have T0:0 < lcB 1 (c'.map (·.2)):=lcB_pos (by decide)
    have dvM:lcB 1 (c.map (·.2)) ∣ B1:=lcB_dv (Int.one_dvd _) (hD.dv (by omega))
    have dvT:lcB 1 (c'.map (·.2)) ∣ B2:=lcB_dv (Int.one_dvd _) (hD'.dv (by omega))
    have bM':Bt 300 (lcB 1 (c.map (·.2))):=dvd_bt dvM (by omega) bB1
    have bT':Bt 300 (lcB 1 (c'.map (·.2))):=dvd_bt dvT (by omega) bB2
    have dM:=(lcB_dvd (qs:=c.map (·.2)) (m:=1)).2
    have dT:=(lcB_dvd (qs:=c'.map (·.2)) (m:=1)).2
    refine⟨_,_,ha,fun q hq=>?_⟩
    have x1:Ext S (put S q (.lst ((kvD fr c).map (·.2)))):=Ext.new hq
    have y1:put S q (.lst ((kvD fr c).map (·.2))) q=some (.lst ((c.map (·.2)).map fr)):=by rw [put_same,vals_eq]
    generalize put S q (.lst ((kvD fr c).map (·.2)))=S1 at x1 y1
    refine⟨q,_,B1,rfl,y1,B1p,bB1.mono (by decide),hD.dv (by omega),?_⟩
    refine⟨_,_,x1 _ _ hb,fun q' hq'=>?_⟩
    have x2:Ext S (put S1 q' (.lst ((kvD fr c').map (·.2)))):=x1.trans (Ext.new hq')
    have y2:put S1 q' (.lst ((kvD fr c').map (·.2))) q'=some (.lst ((c'.map (·.2)).map fr)):=by rw [put_same,vals_eq]
    generalize put S1 q' (.lst ((kvD fr c').map (·.2)))=S2 at x2 y2
    refine⟨q',_,B2,rfl,y2,B2p,bB2.mono (by decide),hD'.dv (by omega),?_⟩
    have tM:∀ p∈c,((topI (lcB 1 (c.map (·.2))) p.2:Int):Rat)=(lcB 1 (c.map (·.2)):Int)*p.2:=fun p hp=>topI_eq (dM p.2 (List.mem_map.mpr ⟨p,hp,rfl⟩))
    have tT:∀ p∈c',((topI (lcB 1 (c'.map (·.2))) p.2:Int):Rat)=(lcB 1 (c'.map (·.2)):Int)*p.2:=fun p hp=>topI_eq (dT p.2 (List.mem_map.mpr ⟨p,hp,rfl⟩))
    have cbM:∀ p∈c,Bt 500 (topI (lcB 1 (c.map (·.2))) p.2):=fun p hp=>top_bt (by omega) dvM (tM p hp) (hD p hp)
    have cbT:∀ p∈c',Bt 500 (topI (lcB 1 (c'.map (·.2))) p.2):=fun p hp=>top_bt (by omega) dvT (tT p hp) (hD' p hp)
    clear dvM dvT
    generalize lcB 1 (c.map (·.2))=M at M0 bM' dM tM cbM ⊢
    generalize lcB 1 (c'.map (·.2))=T at T0 bT' dT tT cbT ⊢
    intro p hp e0
    have x3:Ext S (put S2 p (dTo [] e0)):=x2.trans (Ext.new hp)
    have y3:put S2 p (dTo [] e0) p=some (dTo [] e0):=put_same
    have Sp:=x2.none hp
    generalize put S2 p (dTo [] e0)=S3 at x3 y3 ⊢
    have ci:∀ {c:List (List Int×Rat)} {B:Int},Cv 10 900 3 c->Ci 3 (c.map fun x=>(x.1,topI B x.2)):=fun hc=>⟨by rw [List.map_map]; exact hc.nd,fun p hp=>by
      obtain⟨x,hx,rfl⟩:=List.mem_map.mp hp
      exact hc.sm x hx⟩
    have cb:∀ {c:List (List Int×Rat)} {B:Int},(∀ p∈c,Bt 500 (topI B p.2))->∀ p∈c.map fun x=>(x.1,topI B x.2),Bt 500 p.2:=fun h p hp=>by
      obtain⟨x,hx,rfl⟩:=List.mem_map.mp hp
      exact h x hx
    refine⟨a,c,e,M,rfl,x3 _ _ ha,hc.nd,by omega,fun p hp=>(hc.hz p hp).mono (by decide),bM'.mono (by decide),fun S4 p4 e4 x4 h4=>⟨b,c',e',T,rfl,x4 _ _ (x3 _ _ hb),hc'.nd,by omega,fun p hp=>(hc'.hz p hp).mono (by decide),bT'.mono (by decide),fun S5 p5 e5 x5 h5=>?_⟩⟩
    refine⟨p4,p5,_,_,e4,e5,rfl,x5 _ _ h4,h5,ci hc,ci hc',by rw [List.length_map]; omega,by rw [List.length_map]; omega,cb cbM,cb cbT,fun S6 p6 e6 g x6 n6 hg gl gf h6=>?_⟩
    have y6:=x6 _ _ (x5 _ _ (x4 _ _ y3))
    have X6:=((x3.trans x4).trans x5).trans x6
    have gm:∀ k,((gI g k:Int):Rat)=M*T*mulF c c' k:=fun k=>by
      rw [gf k]
      exact mulF_top tT tM (s:=0) (z:=0) (by show(0:Rat)=_; grind)
    have B0:M*T≠0:=Int.mul_ne_zero (by omega) (by omega)
    have np6:p6≠p:=fun z=>by rw [z] at n6; rw [x5 _ _ (x4 _ _ y3)] at n6; cases n6
    have gk:∀ l:List (List Int×Int),(l.map fun q=>(q.1,Rat.divInt q.2 (M*T))).map (·.1)=l.map (·.1):=fun l=>by rw [List.map_map]; rfl
    refine⟨_,_,h6,?_⟩
    refine loop_ix (fun r L S'=>∃ (don rest:List (List Int×Int)) (e3:Nat) (l5 l6:Option D),g=don++rest/\r=pairsD (tpD rest)/\L=[some (.ref a),some (.ref b),some (.int M),some (.int T),some (.ref p),l5,l6]/\Ext S S'/\S' p6=some (dTo (tpD g) e6)/\S' p=some (dTo (cvD (don.map fun q=>(q.1,Rat.divInt q.2 (M*T)))) e3)) (fun r L S' ⟨_,_,_,_,_,_,_,_,_,h,_⟩=>h) ?_ ?_ _ _ _ ⟨[],g,e0,none,none,rfl,rfl,rfl,X6,h6,y6⟩
    · rintro d r L S7 N1 ⟨don,rest,e3,l5,l6,ec,er,rfl,x7,g7,p7⟩ hN
      cases rest with
      | nil=>cases er
      | cons q rest=>
        cases er
        have nq:=nd_mid (p:=q) (ec▸hg.nd)
        have hd:don.length < 100:=by have:=congrArg List.length ec; rw [List.length_append,List.length_cons] at this; omega
        refine⟨([keyD q.1,.int q.2],none),rfl,rfl,rfl,mok bM' bT',B0,(bM'.mul bT').mono (by decide),_,_,q.1,p7,rfl,by rw [kvD_len,List.length_map]; exact lim (by omega),fun e8=>hN _ _ ⟨don++[q],rest,e8,_,_,by rw [ec]; simp,rfl,rfl,x7.put Sp,by rw [put_ne np6]; exact g7,?_⟩⟩
        rw [put_same,putT_app (f:=fr) (l:=don.map fun q=>(q.1,Rat.divInt q.2 (M*T))) (k:=q.1) (x:=Rat.divInt q.2 (M*T)) (by rw [gk]; exact nq)]
        simp
    · rintro L S7 ⟨don,rest,e3,l5,l6,ec,er,rfl,x7,g7,p7⟩
      cases rest with
      | cons q rest=>cases er
      | nil=>
        rw [List.append_nil] at ec
        subst ec
        have nd:((g.map fun q=>(q.1,Rat.divInt q.2 (M*T))).map (·.1)).Nodup:=by rw [gk]; exact hg.nd
        refine⟨p,_,e3,rfl,p7,nd,by rw [List.length_map]; omega,fun S8 q8 e8 x8 n8 h8=>w S8 q8 e8 _ (x7.trans x8) (x7.none n8) ⟨nd_filter nd,fun p hp=>?_,fun p hp=>(nz_mem.mp hp).2,fun k=>?_⟩ h8⟩
        · obtain⟨x,hx,rfl⟩:=List.mem_map.mp (nz_mem.mp hp).1
          obtain⟨i,j,e,_⟩:=hg.sm x hx
          exact⟨i,j,e⟩
        · rw [gR_nz nd]
          have z0:Rat.divInt 0 (M*T)=0:=Rat.zero_divInt _
          have e1:=gA_map (φ:=fun n:Int=>Rat.divInt n (M*T)) (z:=0) (k:=k) (c:=g)
          rw [z0] at e1
          refine e1.trans ?_
          show Rat.divInt (gI g k) (M*T)=_
          have b0:((M*T:Int):Rat)≠0:=fun z=>B0 (Rat.intCast_inj.mp (by rw [z]; rfl))
          rw [Rat.divInt_eq_div,gm k]
          rw [Rat.intCast_mul] at b0 ⊢
          grind
set_option maxHeartbeats 4000000
structure Ok (d:Nat) (M:Int) (φ:List Int->Rat) (c:List (List Int×Rat)):Prop where
  res:Res φ c
  wf:Wf d M 390 φ
  d3:d<=3
  M0:0 < M
  bM:Bt 200 M
theorem tri3:∀ d:Nat,d<=3->(triL d).length<=10:=by
  intro d h
  match d,h with
  | 0,_=>decide
  | 1,_=>decide
  | 2,_=>decide
  | 3,_=>decide
theorem tri6:∀ d:Nat,d<=6->(triL d).length<=28:=by
  intro d h
  match d,h with
  | 0,_=>decide
  | 1,_=>decide
  | 2,_=>decide
  | 3,_=>decide
  | 4,_=>decide
  | 5,_=>decide
  | 6,_=>decide
theorem Ok.len {d:Nat} {M:Int} {φ:List Int->Rat} {c:List (List Int×Rat)} (h:Ok d M φ c):c.length<=10:=Nat.le_trans (h.res.len h.wf) (tri3 d h.d3)
theorem Ok.cv {d:Nat} {M:Int} {φ:List Int->Rat} {c:List (List Int×Rat)} (h:Ok d M φ c):Cv 10 900 3 c:=h.res.cv h.wf h.M0 (h.bM.mono (by decide)) (by decide) (tri3 d h.d3) (by have:=h.d3; omega)
theorem Ok.dn {d:Nat} {M:Int} {φ:List Int->Rat} {c:List (List Int×Rat)} (h:Ok d M φ c):Dn M 500 c:=(h.res.dn h.wf).mono (by decide)
theorem Ok.prod {d d':Nat} {M M':Int} {φ ψ:List Int->Rat} {c c' g:List (List Int×Rat)} (h:Ok d M φ c) (h':Ok d' M' ψ c') (r:Res (fun k=>mulF c c' k) g):Res (mulφ φ ψ) g/\Cv 28 800 6 g:=by
  have r2:Res (mulφ φ ψ) g:=r.congr fun k=>mul_cl h.res h'.res k
  have w:=Wf.prod h.res h'.res h.wf h'.wf h.len h'.len
  have d1:=h.d3
  have d2:=h'.d3
  exact⟨r2,r2.cv w (Int.mul_pos h.M0 h'.M0) ((h.bM.mul h'.bM).mono (by decide)) (by decide) (tri6 _ (by omega)) (by omega)⟩
def F_difference_of_products:DSp:=fun ds S k=>∃ (a1 a2 a3 a4:Addr) (c1 c2 c3 c4:List (List Int×Rat)) (e1 e2 e3 e4:Nat) (φ1 φ2 φ3 φ4:List Int->Rat) (d1 d2 d3 d4:Nat) (M1 M2 M3 M4:Int),ds=[.ref a1,.ref a2,.ref a3,.ref a4]/\S a1=some (dTo (cvD c1) e1)/\S a2=some (dTo (cvD c2) e2)/\S a3=some (dTo (cvD c3) e3)/\S a4=some (dTo (cvD c4) e4)/\Ok d1 M1 φ1 c1/\Ok d2 M2 φ2 c2/\Ok d3 M3 φ3 c3/\Ok d4 M4 φ4 c4/\∀ S' p ep g,Ext S S'->S p=none->Res (fun k=>mulφ φ1 φ2 k - mulφ φ3 φ4 k) g->S' p=some (dTo (cvD g) ep)->k (.ref p) S'
theorem sc_difference_of_products:FnScope ["one","other","third","fourth"] ["one","other","third","fourth"] (defScope s_difference_of_products):=⟨rfl,rfl,rfl,by decide +kernel,rfl,by decide +kernel,by decide +kernel⟩
theorem ok_difference_of_products {P:Program} {w:World} {K:Fg} {mg:Str->Option Value} {base:Heap} {f:Addr} {fd:FuncData} (Fn:Fun K "difference_of_products" "difference_of_products" s_difference_of_products f fd) (c_curve_minus:Own P w K mg base "curve_minus" 5 F_curve_minus) (c_curve_times:Own P w K mg base "curve_times" 4 F_curve_times):
    FnOk P w K mg base CX0 6 f fd ["one","other","third","fourth"] (spU K F_difference_of_products):=by
  refine Fn.okJ sc_difference_of_products (fun ds S k h=>?_) (fun cdv A outer s H E hr=>⟨_,(ds_onej (dst_retj (d_callj c_curve_minus (hr.mono (by decide)) rfl (da_consj (d_callj c_curve_times (hr.mono (by decide)) rfl (da_consj (d_varj 0) (da_consj (d_varj 1) da_nilj))) (da_consj (d_callj c_curve_times (hr.mono (by decide)) rfl (da_consj (d_varj 2) (da_consj (d_varj 3) da_nilj))) da_nilj))))),fun ds S k h=>?_⟩)
  · obtain⟨_,_,_,_,_,_,_,_,_,_,_,_,_,_,_,_,_,_,_,_,_,_,_,_,rfl,_⟩:=h
    rfl
  · obtain⟨a1,a2,a3,a4,c1,c2,c3,c4,e1,e2,e3,e4,φ1,φ2,φ3,φ4,d1,d2,d3,d4,M1,M2,M3,M4,rfl,h1,h2,h3,h4,o1,o2,o3,o4,w⟩:=h
    refine⟨a1,a2,c1,c2,e1,e2,M1,M2,rfl,h1,h2,o1.cv,o2.cv,o1.M0,o2.M0,o1.bM.mono (by decide),o2.bM.mono (by decide),o1.dn,o2.dn,fun S1 p1 e5 g1 x1 n1 r1 h5=>?_⟩
    refine⟨a3,a4,c3,c4,e3,e4,M3,M4,rfl,x1 _ _ h3,x1 _ _ h4,o3.cv,o4.cv,o3.M0,o4.M0,o3.bM.mono (by decide),o4.bM.mono (by decide),o3.dn,o4.dn,fun S2 p2 e6 g2 x2 n2 r2 h6=>?_⟩
    obtain⟨q1,v1⟩:=o1.prod o2 r1
    obtain⟨q2,v2⟩:=o3.prod o4 r2
    refine⟨p1,p2,g1,g2,e5,e6,rfl,x2 _ _ h5,h6,v1.mono (by decide) (by decide) (by decide),v2,fun S3 p3 e7 g3 x3 n3 r3 h7=>w S3 p3 e7 g3 ((x1.trans x2).trans x3) ((x1.trans x2).none n3) (r3.congr fun k=>?_) h7⟩
    rw [show gR g1 k=_ from q1.at_ k,show gR g2 k=_ from q2.at_ k]
def F_rod_curves:DSp:=fun ds S k=>∃ x y a b q s:Rat,ds=[W x y,W a b,fr q,fr s]/\Sz 30 x/\Sz 30 y/\Sz 8 a/\Sz 8 b/\Sz 31 q/\Sz 30 s/\∀ S' p1 p2 p3 e1 e2 e3,Ext S S'->S' p1=some (dTo (cvD (nz (ln3 a b (-(x*a+y*b))))) e1)->S' p2=some (dTo (cvD (nz (ln3 (-b) a (-(x*-b+y*a))))) e2)->S' p3=some (dTo (cvD (nz (cr5 x y (s - (a*a+b*b)*q)))) e3)->k (.tup [.ref p1,.ref p2,.ref p3]) S'
theorem sc_rod_curves:FnScope ["place","way","coupler","square","by_x","by_y"] ["place","way","coupler","square"] (defScope s_rod_curves):=⟨rfl,rfl,rfl,by decide +kernel,rfl,by decide +kernel,by decide +kernel⟩
theorem ok_rod_curves {P:Program} {w:World} {K:Fg} {mg:Str->Option Value} {base:Heap} {f:Addr} {fd:FuncData} (Fn:Fun K "rod_curves" "rod_curves" s_rod_curves f fd) (c_line_from:Own P w K mg base "line_from" 5 F_line_from) (c_negative:Own P w K mg base "negative" 1 F_negative) (c_round_about:Own P w K mg base "round_about" 5 F_round_about) (c_minus:Own P w K mg base "minus" 3 F_minus) (c_times:Own P w K mg base "times" 3 F_times) (c_product_of_ways:Own P w K mg base "product_of_ways" 4 F_product_of_ways):
    FnOk P w K mg base CX0 6 f fd ["place","way","coupler","square"] (spU K F_rod_curves):=by
  refine Fn.okJ sc_rod_curves (fun ds S k h=>?_) (fun cdv A outer s H E hr=>⟨_,(ds_consj (dst_setj (i:=4) sc_rod_curves.nd (d_callj c_line_from (hr.mono (by decide)) rfl (da_consj (d_varj 0) (da_consj (d_varj 1) da_nilj)))) (ds_consj (dst_setj (i:=5) sc_rod_curves.nd (d_callj c_line_from (hr.mono (by decide)) rfl (da_consj (d_varj 0) (da_consj (d_tupj (da_consj (d_callj c_negative (hr.mono (by decide)) rfl (da_consj (d_ixj x_ixE (d_varj 1) d_intj (fun _ _=>rfl)) da_nilj)) (da_consj (d_ixj x_ixE (d_varj 1) d_intj (fun _ _=>rfl)) da_nilj))) da_nilj)))) (ds_onej (dst_retj (d_tupj (da_consj (d_varj 4) (da_consj (d_varj 5) (da_consj (d_callj c_round_about (hr.mono (by decide)) rfl (da_consj (d_varj 0) (da_consj (d_callj c_minus (hr.mono (by decide)) rfl (da_consj (d_varj 3) (da_consj (d_callj c_times (hr.mono (by decide)) rfl (da_consj (d_callj c_product_of_ways (hr.mono (by decide)) rfl (da_consj (d_varj 1) (da_consj (d_varj 1) da_nilj))) (da_consj (d_varj 2) da_nilj))) da_nilj))) da_nilj))) da_nilj)))))))),fun ds S k h=>?_⟩)
  · obtain⟨_,_,_,_,_,_,rfl,_⟩:=h
    rfl
  · obtain⟨x,y,a,b,q,s,rfl,hx,hy,ha,hb,hq,hs,w⟩:=h
    have sw:=(ha.mul ha).add (hb.mul hb)
    have st:=hs.sub (sw.mul hq)
    refine⟨x,y,a,b,rfl,hx.mono (by decide),hy.mono (by decide),ha.mono (by decide),hb.mono (by decide),fun S1 p1 e1 x1 h1=>?_⟩
    refine⟨b,rfl,few,x,y,-b,a,rfl,hx.mono (by decide),hy.mono (by decide),hb.neg.mono (by decide),ha.mono (by decide),fun S2 p2 e2 x2 h2=>?_⟩
    refine⟨a,b,a,b,rfl,ha.mono (by decide),hb.mono (by decide),ha.mono (by decide),hb.mono (by decide),_,q,rfl,sw.mono (by decide),hq.mono (by decide),s,_,rfl,hs.mono (by decide),(sw.mul hq).mono (by decide),x,y,_,rfl,hx.mono (by decide),hy.mono (by decide),st.mono (by decide),fun S3 p3 e3 x3 h3=>⟨few,?_⟩⟩
    exact w S3 p1 p2 p3 e1 e2 e3 ((x1.trans x2).trans x3) (x3 _ _ (x2 _ _ h1)) (x3 _ _ h2) h3
set_option maxHeartbeats 4000000
theorem res_ln {a b r:Rat}:Res (gR (ln3 a b r)) (nz (ln3 a b r)):=⟨nd_filter ln3_nd,fun p hp=>two3 p (nz_mem.mp hp).1,fun p hp=>(nz_mem.mp hp).2,gR_nz ln3_nd⟩
theorem res_cr {x y s:Rat}:Res (gR (cr5 x y s)) (nz (cr5 x y s)):=⟨nd_filter cr5_nd,fun p hp=>two5 p (nz_mem.mp hp).1,fun p hp=>(nz_mem.mp hp).2,gR_nz cr5_nd⟩
structure Cp where
  ox:Rat
  oy:Rat
  px:Rat
  py:Rat
  cr:Rat
  s0:Rat
  s1:Rat
  al:Rat
  le:Rat
namespace Cp
def A (z:Cp):List Int->Rat:=gR (ln3 z.al z.le (-(z.ox*z.al+z.oy*z.le)))
def B (z:Cp):List Int->Rat:=gR (ln3 (-z.le) z.al (-(z.ox*-z.le+z.oy*z.al)))
def C (z:Cp):List Int->Rat:=gR (cr5 z.ox z.oy (z.cr*z.cr - (z.al*z.al+z.le*z.le)*z.s0))
def D (z:Cp):List Int->Rat:=gR (ln3 (z.al - 1) z.le (-(z.px*(z.al - 1)+z.py*z.le)))
def E (z:Cp):List Int->Rat:=gR (ln3 (-z.le) (z.al - 1) (-(z.px*-z.le+z.py*(z.al - 1))))
def F (z:Cp):List Int->Rat:=gR (cr5 z.px z.py (z.s1 - ((z.al - 1)*(z.al - 1)+z.le*z.le)*z.s0))
noncomputable def X (z:Cp):List Int->Rat:=fun k=>mulφ z.C z.E k - mulφ z.F z.B k
noncomputable def Y (z:Cp):List Int->Rat:=fun k=>mulφ z.A z.F k - mulφ z.D z.C k
noncomputable def V (z:Cp):List Int->Rat:=fun k=>mulφ z.A z.E k - mulφ z.D z.B k
noncomputable def U (z:Cp):List Int->Rat:=fun k=>(mulφ z.X z.X k+mulφ z.Y z.Y k) - mulφ z.V z.V k*(4*z.s0)
end Cp
structure CpOk (z:Cp) (M1 M2:Int):Prop where
  ox:Sz 30 z.ox
  oy:Sz 30 z.oy
  px:Sz 30 z.px
  py:Sz 30 z.py
  cr:Sz 10 z.cr
  s0:Sz 31 z.s0
  s1:Sz 30 z.s1
  al:Sz 5 z.al
  le:Sz 5 z.le
  p1:0 < M1
  p2:0 < M2
  b1:Bt 18 M1
  b2:Bt 72 M2
  wA:Wf 1 M1 60 z.A
  wB:Wf 1 M1 60 z.B
  wD:Wf 1 M1 60 z.D
  wE:Wf 1 M1 60 z.E
  wC:Wf 2 M2 160 z.C
  wF:Wf 2 M2 160 z.F
  hd:∃ m:Int,M2*M2=M1*M1*(z.s0.den:Int)*m/\Bt 100 m
theorem Wf.mono {d:Nat} {M:Int} {T T':Nat} {φ:List Int->Rat} (h:Wf d M T φ) (hT:T<=T'):Wf d M T' φ:=⟨h.dg,fun k=>by
  obtain⟨t,bt,e⟩:=h.dn k
  exact⟨t,bt.mono hT,e⟩⟩
theorem Wf.comm {d:Nat} {M M':Int} {T:Nat} {φ:List Int->Rat} (h:Wf d (M*M') T φ):Wf d (M'*M) T φ:=by rw [Int.mul_comm]; exact h
section
variable {z:Cp} {M1 M2:Int} (h:CpOk z M1 M2)
include h
theorem CpOk.okA:Ok 1 M1 z.A (nz (ln3 z.al z.le (-(z.ox*z.al+z.oy*z.le)))):=⟨res_ln,h.wA.mono (by decide),by decide,h.p1,h.b1.mono (by decide)⟩
theorem CpOk.okB:Ok 1 M1 z.B (nz (ln3 (-z.le) z.al (-(z.ox*-z.le+z.oy*z.al)))):=⟨res_ln,h.wB.mono (by decide),by decide,h.p1,h.b1.mono (by decide)⟩
theorem CpOk.okD:Ok 1 M1 z.D (nz (ln3 (z.al - 1) z.le (-(z.px*(z.al - 1)+z.py*z.le)))):=⟨res_ln,h.wD.mono (by decide),by decide,h.p1,h.b1.mono (by decide)⟩
theorem CpOk.okE:Ok 1 M1 z.E (nz (ln3 (-z.le) (z.al - 1) (-(z.px*-z.le+z.py*(z.al - 1))))):=⟨res_ln,h.wE.mono (by decide),by decide,h.p1,h.b1.mono (by decide)⟩
theorem CpOk.okC:Ok 2 M2 z.C (nz (cr5 z.ox z.oy (z.cr*z.cr - (z.al*z.al+z.le*z.le)*z.s0))):=⟨res_cr,h.wC.mono (by decide),by decide,h.p2,h.b2.mono (by decide)⟩
theorem CpOk.okF:Ok 2 M2 z.F (nz (cr5 z.px z.py (z.s1 - ((z.al - 1)*(z.al - 1)+z.le*z.le)*z.s0))):=⟨res_cr,h.wF.mono (by decide),by decide,h.p2,h.b2.mono (by decide)⟩
theorem CpOk.wX:Wf 3 (M2*M1) 228 z.X:=(Wf.prod h.okC.res h.okE.res h.wC h.wE h.okC.len h.okE.len).sub (Wf.prod h.okF.res h.okB.res h.wF h.wB h.okF.len h.okB.len)
theorem CpOk.wY:Wf 3 (M2*M1) 228 z.Y:=((Wf.prod h.okA.res h.okF.res h.wA h.wF h.okA.len h.okF.len).comm).sub ((Wf.prod h.okD.res h.okC.res h.wD h.wC h.okD.len h.okC.len).comm)
theorem CpOk.wV:Wf 2 (M1*M1) 128 z.V:=(Wf.prod h.okA.res h.okE.res h.wA h.wE h.okA.len h.okE.len).sub (Wf.prod h.okD.res h.okB.res h.wD h.wB h.okD.len h.okB.len)
theorem CpOk.okX {g:List (List Int×Rat)} (r:Res z.X g):Ok 3 (M2*M1) z.X g:=⟨r,h.wX.mono (by decide),by decide,Int.mul_pos h.p2 h.p1,(h.b2.mul h.b1).mono (by decide)⟩
theorem CpOk.okY {g:List (List Int×Rat)} (r:Res z.Y g):Ok 3 (M2*M1) z.Y g:=⟨r,h.wY.mono (by decide),by decide,Int.mul_pos h.p2 h.p1,(h.b2.mul h.b1).mono (by decide)⟩
theorem CpOk.okV {g:List (List Int×Rat)} (r:Res z.V g):Ok 2 (M1*M1) z.V g:=⟨r,h.wV.mono (by decide),by decide,Int.mul_pos h.p1 h.p1,(h.b1.mul h.b1).mono (by decide)⟩
theorem CpOk.wS {gx gy:List (List Int×Rat)} (rx:Res z.X gx) (ry:Res z.Y gy):Wf 6 (M2*M1*(M2*M1)) 464 fun k=>mulφ z.X z.X k+mulφ z.Y z.Y k:=(Wf.prod rx rx h.wX h.wX (h.okX rx).len (h.okX rx).len).add (Wf.prod ry ry h.wY h.wY (h.okY ry).len (h.okY ry).len)
theorem CpOk.wG {gv:List (List Int×Rat)} (rv:Res z.V gv):Wf 4 (M1*M1*(M1*M1)*(z.s0.den:Int)) 297 fun k=>mulφ z.V z.V k*(4*z.s0):=by
  have e:((z.s0.den:Int):Rat)*(4*z.s0)=((4*z.s0.num:Int):Rat):=by
    have d:=den_mulq z.s0
    rw [Rat.intCast_mul,<- d]
    have:((4:Int):Rat)=4:=rfl
    rw [this]
    grind
  exact(Wf.prod rv rv h.wV h.wV (h.okV rv).len (h.okV rv).len).mul e (((show Bt 3 4 by decide).mul h.s0.num))
theorem CpOk.wU {gx gy gv:List (List Int×Rat)} (rx:Res z.X gx) (ry:Res z.Y gy) (rv:Res z.V gv):Wf 6 (M2*M1*(M2*M1)) 465 z.U:=by
  obtain⟨m,e,bm⟩:=h.hd
  have e2:M2*M1*(M2*M1)=M1*M1*(M1*M1)*(z.s0.den:Int)*m:=by
    have:M2*M1*(M2*M1)=M2*M2*(M1*M1):=by grind
    rw [this,e]
    grind
  exact(h.wS rx ry).sub ((h.wG rv).up (d':=6) (T':=464) e2 bm (by decide) (by decide))
theorem CpOk.top {gx gy gv:List (List Int×Rat)} (rx:Res z.X gx) (ry:Res z.Y gy) (rv:Res z.V gv):z.U [6,0]=1:=by
  have c1:z.C [2,0]=1:=rfl
  have f1:z.F [2,0]=1:=rfl
  have a1:z.A [1,0]=z.al:=rfl
  have b1:z.B [1,0]=-z.le:=rfl
  have d1:z.D [1,0]=z.al - 1:=rfl
  have e1:z.E [1,0]=-z.le:=rfl
  have X0:z.X [3,0]=0:=by
    have t1:=mul_top h.okC.res h.okE.res h.wC h.wE
    have t2:=mul_top h.okF.res h.okB.res h.wF h.wB
    show mulφ z.C z.E [3,0] - mulφ z.F z.B [3,0]=0
    have t1:mulφ z.C z.E [3,0]=z.C [2,0]*z.E [1,0]:=t1
    have t2:mulφ z.F z.B [3,0]=z.F [2,0]*z.B [1,0]:=t2
    rw [t1,t2,c1,f1,e1,b1]
    grind
  have Y0:z.Y [3,0]=1:=by
    have t1:=mul_top h.okA.res h.okF.res h.wA h.wF
    have t2:=mul_top h.okD.res h.okC.res h.wD h.wC
    show mulφ z.A z.F [3,0] - mulφ z.D z.C [3,0]=1
    have t1:mulφ z.A z.F [3,0]=z.A [1,0]*z.F [2,0]:=t1
    have t2:mulφ z.D z.C [3,0]=z.D [1,0]*z.C [2,0]:=t2
    rw [t1,t2,c1,f1,a1,d1]
    grind
  have V0:mulφ z.V z.V [6,0]=0:=Classical.byContradiction fun n=>by
    obtain⟨i,j,e,i0,j0,ij⟩:=(Wf.prod rv rv h.wV h.wV (h.okV rv).len (h.okV rv).len).dg [6,0] n
    cases e
    omega
  have tx:mulφ z.X z.X [6,0]=z.X [3,0]*z.X [3,0]:=mul_top rx rx h.wX h.wX
  have ty:mulφ z.Y z.Y [6,0]=z.Y [3,0]*z.Y [3,0]:=mul_top ry ry h.wY h.wY
  show(mulφ z.X z.X [6,0]+mulφ z.Y z.Y [6,0]) - mulφ z.V z.V [6,0]*(4*z.s0)=1
  rw [tx,ty,X0,Y0,V0]
  grind
end
def F_coupler_curve:DSp:=fun ds S k=>∃ (z:Cp) (M1 M2:Int),ds=[W z.ox z.oy,W z.px z.py,fr z.cr,.tup [fr z.s0,fr z.s1],W z.al z.le]/\CpOk z M1 M2/\∀ S' p ep g ns,Ext S S'->Res z.U g->Nrm g ns->S' p=some (dTo (nmD ns) ep)->k (.ref p) S'
theorem sc_coupler_curve:FnScope ["one","other","crank","squares","place","near","rest","far","x","y","by","total"] ["one","other","crank","squares","place"] (defScope s_coupler_curve):=⟨rfl,rfl,rfl,by decide +kernel,rfl,by decide +kernel,by decide +kernel⟩
theorem ok_coupler_curve {P:Program} {w:World} {K:Fg} {mg:Str->Option Value} {base:Heap} {f:Addr} {fd:FuncData} (Fn:Fun K "coupler_curve" "coupler_curve" s_coupler_curve f fd) (c_rod_curves:Own P w K mg base "rod_curves" 6 F_rod_curves) (c_times:Own P w K mg base "times" 3 F_times) (c_minus:Own P w K mg base "minus" 3 F_minus) (c_difference_of_products:Own P w K mg base "difference_of_products" 6 F_difference_of_products) (c_curve_plus:Own P w K mg base "curve_plus" 4 F_curve_plus) (c_curve_times:Own P w K mg base "curve_times" 4 F_curve_times) (c_normal:Own P w K mg base "normal" 4 F_normal) (c_curve_minus:Own P w K mg base "curve_minus" 5 F_curve_minus) (c_curve_grown:Own P w K mg base "curve_grown" 4 F_curve_grown) (g_ONE:GTup K mg "ONE" [1,1]):
    FnOk P w K mg base CX0 7 f fd ["one","other","crank","squares","place"] (spU K F_coupler_curve):=by
  refine Fn.okJ sc_coupler_curve (fun ds S k h=>?_) (fun cdv A outer s H E hr=>⟨_,(ds_consj (dst_setj (i:=5) sc_coupler_curve.nd (d_callj c_rod_curves (hr.mono (by decide)) rfl (da_consj (d_varj 0) (da_consj (d_varj 4) (da_consj (d_ixj x_ixE (d_varj 3) d_intj (fun _ _=>rfl)) (da_consj (d_callj c_times (hr.mono (by decide)) rfl (da_consj (d_varj 2) (da_consj (d_varj 2) da_nilj))) da_nilj)))))) (ds_consj (dst_setj (i:=6) sc_coupler_curve.nd (d_tupj (da_consj (d_callj c_minus (hr.mono (by decide)) rfl (da_consj (d_ixj x_ixE (d_varj 4) d_intj (fun _ _=>rfl)) (da_consj (d_gtup g_ONE rfl) da_nilj))) (da_consj (d_ixj x_ixE (d_varj 4) d_intj (fun _ _=>rfl)) da_nilj)))) (ds_consj (dst_setj (i:=7) sc_coupler_curve.nd (d_callj c_rod_curves (hr.mono (by decide)) rfl (da_consj (d_varj 1) (da_consj (d_varj 6) (da_consj (d_ixj x_ixE (d_varj 3) d_intj (fun _ _=>rfl)) (da_consj (d_ixj x_ixE (d_varj 3) d_intj (fun _ _=>rfl)) da_nilj)))))) (ds_consj (dst_setj (i:=8) sc_coupler_curve.nd (d_callj c_difference_of_products (hr.mono (by decide)) rfl (da_consj (d_ixj x_ixE (d_varj 5) d_intj (fun _ _=>rfl)) (da_consj (d_ixj x_ixE (d_varj 7) d_intj (fun _ _=>rfl)) (da_consj (d_ixj x_ixE (d_varj 7) d_intj (fun _ _=>rfl)) (da_consj (d_ixj x_ixE (d_varj 5) d_intj (fun _ _=>rfl)) da_nilj)))))) (ds_consj (dst_setj (i:=9) sc_coupler_curve.nd (d_callj c_difference_of_products (hr.mono (by decide)) rfl (da_consj (d_ixj x_ixE (d_varj 5) d_intj (fun _ _=>rfl)) (da_consj (d_ixj x_ixE (d_varj 7) d_intj (fun _ _=>rfl)) (da_consj (d_ixj x_ixE (d_varj 7) d_intj (fun _ _=>rfl)) (da_consj (d_ixj x_ixE (d_varj 5) d_intj (fun _ _=>rfl)) da_nilj)))))) (ds_consj (dst_setj (i:=10) sc_coupler_curve.nd (d_callj c_difference_of_products (hr.mono (by decide)) rfl (da_consj (d_ixj x_ixE (d_varj 5) d_intj (fun _ _=>rfl)) (da_consj (d_ixj x_ixE (d_varj 7) d_intj (fun _ _=>rfl)) (da_consj (d_ixj x_ixE (d_varj 7) d_intj (fun _ _=>rfl)) (da_consj (d_ixj x_ixE (d_varj 5) d_intj (fun _ _=>rfl)) da_nilj)))))) (ds_consj (dst_setj (i:=11) sc_coupler_curve.nd (d_callj c_curve_plus (hr.mono (by decide)) rfl (da_consj (d_callj c_curve_times (hr.mono (by decide)) rfl (da_consj (d_varj 8) (da_consj (d_varj 8) da_nilj))) (da_consj (d_callj c_curve_times (hr.mono (by decide)) rfl (da_consj (d_varj 9) (da_consj (d_varj 9) da_nilj))) da_nilj)))) (ds_onej (dst_retj (d_callj c_normal (hr.mono (by decide)) rfl (da_consj (d_callj c_curve_minus (hr.mono (by decide)) rfl (da_consj (d_varj 11) (da_consj (d_callj c_curve_grown (hr.mono (by decide)) rfl (da_consj (d_callj c_curve_times (hr.mono (by decide)) rfl (da_consj (d_varj 10) (da_consj (d_varj 10) da_nilj))) (da_consj (d_callj c_times (hr.mono (by decide)) rfl (da_consj (d_tupj (da_consj d_intj (da_consj d_intj da_nilj))) (da_consj (d_ixj x_ixE (d_varj 3) d_intj (fun _ _=>rfl)) da_nilj))) da_nilj))) da_nilj))) da_nilj))))))))))),fun ds S k h=>?_⟩)
  · obtain⟨_,_,_,rfl,_⟩:=h
    rfl
  · obtain⟨z,M1,M2,rfl,h,w⟩:=h
    have o1:Sz 1 (1:Rat):=⟨by decide,by decide⟩
    have sr:=h.al.sub o1
    have s4:Sz 3 (4:Rat):=⟨by decide,by decide⟩
    refine⟨z.cr,z.cr,rfl,h.cr.mono (by decide),h.cr.mono (by decide),z.ox,z.oy,z.al,z.le,z.s0,z.cr*z.cr,rfl,h.ox,h.oy,h.al.mono (by decide),h.le.mono (by decide),h.s0,(h.cr.mul h.cr).mono (by decide),fun S1 p1 p2 p3 e1 e2 e3 x1 h1 h2 h3=>?_⟩
    refine⟨z.al,1,rfl,h.al.mono (by decide),o1.mono (by decide),few,?_⟩
    refine⟨z.px,z.py,z.al - 1,z.le,z.s0,z.s1,rfl,h.px,h.py,sr.mono (by decide),h.le.mono (by decide),h.s0,h.s1,fun S2 p4 p5 p6 e4 e5 e6 x2 h4 h5 h6=>?_⟩
    have h1:=x2 _ _ h1
    have h2:=x2 _ _ h2
    have h3:=x2 _ _ h3
    refine⟨p3,p5,p6,p2,_,_,_,_,e3,e5,e6,e2,z.C,z.E,z.F,z.B,2,1,2,1,M2,M1,M2,M1,rfl,h3,h5,h6,h2,h.okC,h.okE,h.okF,h.okB,fun S3 p7 e7 gx x3 n3 rx h7=>?_⟩
    refine⟨p1,p6,p4,p3,_,_,_,_,e1,e6,e4,e3,z.A,z.F,z.D,z.C,1,2,1,2,M1,M2,M1,M2,rfl,x3 _ _ h1,x3 _ _ h6,x3 _ _ h4,x3 _ _ h3,h.okA,h.okF,h.okD,h.okC,fun S4 p8 e8 gy x4 n4 ry h8=>?_⟩
    have x34:=x3.trans x4
    refine⟨p1,p5,p4,p2,_,_,_,_,e1,e5,e4,e2,z.A,z.E,z.D,z.B,1,1,1,1,M1,M1,M1,M1,rfl,x34 _ _ h1,x34 _ _ h5,x34 _ _ h4,x34 _ _ h2,h.okA,h.okE,h.okD,h.okB,fun S5 p9 e9 gv x5 n5 rv h9=>?_⟩
    have h7:=x5 _ _ (x4 _ _ h7)
    have h8:=x5 _ _ h8
    have X5:=(x1.trans x2).trans (x34.trans x5)
    have okX:=h.okX rx
    have okY:=h.okY ry
    have okV:=h.okV rv
    clear h1 h2 h3 h4 h5 h6 x1 x2 x3 x4 x34 x5 n3 n4 n5
    refine⟨p7,p7,gx,gx,e7,e7,M2*M1,M2*M1,rfl,h7,h7,okX.cv,okX.cv,okX.M0,okX.M0,okX.bM.mono (by decide),okX.bM.mono (by decide),okX.dn,okX.dn,fun S6 q1 f1 g1 y1 m1 r1 k1=>?_⟩
    refine⟨p8,p8,gy,gy,e8,e8,M2*M1,M2*M1,rfl,y1 _ _ h8,y1 _ _ h8,okY.cv,okY.cv,okY.M0,okY.M0,okY.bM.mono (by decide),okY.bM.mono (by decide),okY.dn,okY.dn,fun S7 q2 f2 g2 y2 m2 r2 k2=>?_⟩
    obtain⟨R1,V1⟩:=okX.prod okX r1
    obtain⟨R2,V2⟩:=okY.prod okY r2
    refine⟨q1,q2,g1,g2,f1,f2,rfl,y2 _ _ k1,k2,V1.mono (by decide) (by decide) (by decide),V2.mono (by decide) (by decide) (by decide),fun S8 q3 f3 g3 y3 m3 r3 k3=>?_⟩
    have Y3:=(y1.trans y2).trans y3
    have R3:Res (fun k=>mulφ z.X z.X k+mulφ z.Y z.Y k) g3:=r3.congr fun k=>by rw [show gR g1 k=_ from R1.at_ k,show gR g2 k=_ from R2.at_ k]
    have bNN:Bt 280 (M2*M1*(M2*M1)):=((h.b2.mul h.b1).mul (h.b2.mul h.b1)).mono (by decide)
    have NN0:0 < M2*M1*(M2*M1):=Int.mul_pos okX.M0 okX.M0
    have V3:Cv 28 900 6 g3:=R3.cv (h.wS rx ry) NN0 (bNN.mono (by decide)) (by decide) (by decide) (by decide)
    refine⟨p9,p9,gv,gv,e9,e9,M1*M1,M1*M1,rfl,Y3 _ _ h9,Y3 _ _ h9,okV.cv,okV.cv,okV.M0,okV.M0,okV.bM.mono (by decide),okV.bM.mono (by decide),okV.dn,okV.dn,fun S9 q4 f4 g4 y4 m4 r4 k4=>?_⟩
    obtain⟨R4,V4⟩:=okV.prod okV r4
    refine⟨few,4,z.s0,rfl,s4.mono (by decide),h.s0.mono (by decide),q4,g4,f4,4*z.s0,rfl,k4,V4.mono (by decide) (by decide) (by decide),(s4.mul h.s0).mono (by decide),fun Sa q5 f5 g5 y5 m5 r5 v5 k5=>?_⟩
    have R5:Res (fun k=>mulφ z.V z.V k*(4*z.s0)) g5:=r5.congr fun k=>by rw [show gR g4 k=_ from R4.at_ k]
    have v5':Cv 28 800 6 g5:=v5.of_gR fun k=>by
      rw [show gR g5 k=_ from R5.at_ k]
      have wv:=Wf.prod rv rv h.wV h.wV okV.len okV.len
      exact((wv.sz (n:=300) (Int.mul_pos okV.M0 okV.M0) ((okV.bM.mul okV.bM).mono (n:=400) (by decide) |> fun _=>((h.b1.mul h.b1).mul (h.b1.mul h.b1)).mono (by decide)) (by decide) k).mul (s4.mul h.s0)).mono (by decide)
    refine⟨q3,q5,g3,g5,f3,f5,rfl,y5 _ _ (y4 _ _ k3),k5,V3,v5',fun Sb q6 f6 g6 y6 m6 r6 k6=>?_⟩
    have R6:Res z.U g6:=r6.congr fun k=>by rw [show gR g3 k=_ from R3.at_ k,show gR g5 k=_ from R5.at_ k]; rfl
    have wU:=h.wU rx ry rv
    have ne:g6≠[]:=fun e=>by
      have:([6,0],(1:Rat))∈g6:=R6.mem.mpr ⟨by decide,h.top rx ry rv⟩
      rw [e] at this
      cases this
    exact⟨q6,g6,f6,M2*M1*(M2*M1),rfl,k6,R6.nd,Nat.le_trans (R6.len wU) (by decide),ne,R6.two,R6.n0,NN0,bNN.mono (by decide),(R6.dn wU).mono (by decide),fun Sc q7 f7 ns y7 hn k7=>w Sc q7 f7 g6 ns ((((X5.trans Y3).trans y4).trans y5).trans (y6.trans y7)) R6 hn k7⟩
end My
namespace My
open PySem PySem.Spec PyProof.Rows L2 DL HM
set_option maxHeartbeats 4000000
theorem gR_ln3 {a b r:Rat} (k:List Int):gR (ln3 a b r) k=if k=[1,0] then a else if k=[0,1] then b else if k=[0,0] then r else 0:=by
  by_cases h1:k=[1,0]
  · subst h1; rfl
  by_cases h2:k=[0,1]
  · subst h2; rfl
  by_cases h3:k=[0,0]
  · subst h3; rfl
  rw [if_neg h1,if_neg h2,if_neg h3]
  exact gA_none (by simp only [List.map_cons,List.map_nil,List.mem_cons,List.not_mem_nil,or_false]; exact fun z=>by rcases z with z | z | z <;> contradiction)
structure L3 (a b r:Rat) (g:List (List Int×Rat)):Prop where
  res:Res (fun k=>gR (ln3 a b r) k) g
theorem L3.keys {a b r:Rat} {g:List (List Int×Rat)} (h:L3 a b r g):∀ p∈g,p.1=[1,0]\/p.1=[0,1]\/p.1=[0,0]:=fun p hp=>by
  obtain⟨n,e⟩:=h.res.mem.mp hp
  have e:gR (ln3 a b r) p.1=p.2:=e
  rw [gR_ln3] at e
  by_cases h1:p.1=[1,0]
  · exact .inl h1
  by_cases h2:p.1=[0,1]
  · exact .inr (.inl h2)
  by_cases h3:p.1=[0,0]
  · exact .inr (.inr h3)
  rw [if_neg h1,if_neg h2,if_neg h3] at e
  exact absurd e.symm n
theorem L3.cv {m:Nat} {a b r:Rat} {g:List (List Int×Rat)} (h:L3 a b r g) (ha:Sz m a) (hb:Sz m b) (hr:Sz m r):Cv 3 m 4 g:=by
  refine⟨h.res.nd,?_,fun p hp=>?_,fun p hp=>?_⟩
  · have:=nodup_len h.res.nd (l':=[[1,0],[0,1],[0,0]]) fun x hx=>by
      obtain⟨p,hp,rfl⟩:=List.mem_map.mp hx
      rcases h.keys p hp with e | e | e <;> rw [e] <;> simp
    rw [List.length_map] at this
    exact this
  · rcases h.keys p hp with e | e | e <;> exact⟨_,_,e,by decide,by decide,by decide,by decide⟩
  · obtain⟨n,e⟩:=h.res.mem.mp hp
    have e:gR (ln3 a b r) p.1=p.2:=e
    rw [<- e,gR_ln3]
    rcases h.keys p hp with q | q | q <;> rw [q]
    · exact ha
    · exact hb
    · exact hr
theorem L3.times {a b r t:Rat} {g g':List (List Int×Rat)} (h:L3 a b r g) (h':Res (fun k=>gR [] k+gR g k*t) g'):L3 (a*t) (b*t) (r*t) g':=⟨h'.congr fun k=>by
  rw [show gR [] k=0 from rfl,Rat.zero_add,show gR g k=_ from h.res.at_ k,gR_ln3,gR_ln3]
  split
  · rfl
  split
  · rfl
  split
  · rfl
  · exact Rat.zero_mul _⟩
theorem L3.plus {a b r a' b' r' t:Rat} {g g' g2:List (List Int×Rat)} (h:L3 a b r g) (h':L3 a' b' r' g') (h2:Res (fun k=>gR g k+gR g' k*t) g2):L3 (a+a'*t) (b+b'*t) (r+r'*t) g2:=⟨h2.congr fun k=>by
  rw [show gR g k=_ from h.res.at_ k,show gR g' k=_ from h'.res.at_ k,gR_ln3,gR_ln3,gR_ln3]
  split
  · rfl
  split
  · rfl
  split
  · rfl
  · rw [Rat.zero_mul,Rat.add_zero]⟩
theorem rowF_nz {p:List Int×Rat} {k:List Int}:∀ {l:List (List Int×Rat)} {s:Rat},rowF p (nz l) k s=rowF p l k s
  | [],_=>rfl
  | q::l,s=>by
    by_cases z:q.2=0
    · have e:nz (q::l)=nz l:=by simp [nz,z]
      rw [e]
      show _=rowF p l k (s+tmP p q k)
      have t0:tmP p q k=0:=by
        unfold tmP
        split
        · rw [z,Rat.mul_zero]
        · rfl
      rw [t0,Rat.add_zero]
      exact rowF_nz
    · have e:nz (q::l)=q::nz l:=by simp [nz,z]
      rw [e]
      exact rowF_nz (l:=l) (s:=s+tmP p q k)
theorem rowF_zero2 {p:List Int×Rat} {k:List Int} (z:p.2=0):∀ {l:List (List Int×Rat)} {s:Rat},rowF p l k s=s
  | [],_=>rfl
  | q::l,s=>by
    have t0:tmP p q k=0:=by
      unfold tmP
      split
      · rw [z,Rat.zero_mul]
      · rfl
    show rowF p l k (s+tmP p q k)=s
    rw [t0,Rat.add_zero]
    exact rowF_zero2 z
theorem mulF_nz {k:List Int} {l':List (List Int×Rat)}:∀ {l:List (List Int×Rat)} {s:Rat},(nz l).foldl (fun s p=>rowF p (nz l') k s) s=l.foldl (fun s p=>rowF p l' k s) s
  | [],_=>rfl
  | p::l,s=>by
    by_cases z:p.2=0
    · have e:nz (p::l)=nz l:=by simp [nz,z]
      rw [e]
      show _=l.foldl (fun s p=>rowF p l' k s) (rowF p l' k s)
      rw [rowF_zero2 z]
      exact mulF_nz
    · have e:nz (p::l)=p::nz l:=by simp [nz,z]
      rw [e]
      show(nz l).foldl (fun s p=>rowF p (nz l') k s) (rowF p (nz l') k s)=_
      rw [rowF_nz]
      exact mulF_nz (l:=l) (s:=rowF p l' k s)
abbrev six (p q r a b c:Rat):List (List Int×Rat):=[([2,0],p),([0,2],q),([1,1],r),([1,0],a),([0,1],b),([0,0],c)]
theorem gR_six {p q r a b c:Rat} (k:List Int):gR (six p q r a b c) k=if k=[2,0] then p else if k=[0,2] then q else if k=[1,1] then r else if k=[1,0] then a else if k=[0,1] then b else if k=[0,0] then c else 0:=by
  by_cases h1:k=[2,0]
  · subst h1; rfl
  by_cases h2:k=[0,2]
  · subst h2; rfl
  by_cases h3:k=[1,1]
  · subst h3; rfl
  by_cases h4:k=[1,0]
  · subst h4; rfl
  by_cases h5:k=[0,1]
  · subst h5; rfl
  by_cases h6:k=[0,0]
  · subst h6; rfl
  rw [if_neg h1,if_neg h2,if_neg h3,if_neg h4,if_neg h5,if_neg h6]
  exact gA_none (by simp only [List.map_cons,List.map_nil,List.mem_cons,List.not_mem_nil,or_false]; exact fun z=>by rcases z with z | z | z | z | z | z <;> contradiction)
theorem mul_ln {a b r a' b' r':Rat} (k:List Int):mulF (ln3 a b r) (ln3 a' b' r') k=gR (six (a*a') (b*b') (a*b'+b*a') (a*r'+r*a') (b*r'+r*b') (r*r')) k:=by
  rw [gR_six]
  show((((((((0+tmP ([1,0],a) ([1,0],a') k)+tmP ([1,0],a) ([0,1],b') k)+tmP ([1,0],a) ([0,0],r') k)+tmP ([0,1],b) ([1,0],a') k)+tmP ([0,1],b) ([0,1],b') k)+tmP ([0,1],b) ([0,0],r') k)+tmP ([0,0],r) ([1,0],a') k)+tmP ([0,0],r) ([0,1],b') k)+tmP ([0,0],r) ([0,0],r') k=_
  have T:∀ (i j i' j':Int) (u v:Rat),tmP ([i,j],u) ([i',j'],v) k=if k=[i+i',j+j'] then u*v else 0:=fun i j i' j' u v=>by
    unfold tmP
    show(if [i+i',j+j']=k then u*v else 0)=_
    by_cases e:k=[i+i',j+j']
    · rw [if_pos e.symm,if_pos e]
    · rw [if_neg (Ne.symm e),if_neg e]
  simp only [T,Int.add_zero,Int.zero_add,Int.reduceAdd]
  by_cases h1:k=[2,0]
  · subst h1; simp; grind
  by_cases h2:k=[0,2]
  · subst h2; simp; grind
  by_cases h3:k=[1,1]
  · subst h3; simp; grind
  by_cases h4:k=[1,0]
  · subst h4; simp; grind
  by_cases h5:k=[0,1]
  · subst h5; simp; grind
  by_cases h6:k=[0,0]
  · subst h6; simp; grind
  simp [h1,h2,h3,h4,h5,h6]
  grind
theorem L3.mul {a b r a' b' r':Rat} {g g':List (List Int×Rat)} (h:L3 a b r g) (h':L3 a' b' r' g') (k:List Int):mulF g g' k=gR (six (a*a') (b*b') (a*b'+b*a') (a*r'+r*a') (b*r'+r*b') (r*r')) k:=by
  rw [mulF_perm (h.res.perm res_ln) (h'.res.perm res_ln),<- mul_ln]
  exact mulF_nz (s:=0)
structure S6 (p q r a b c:Rat) (g:List (List Int×Rat)):Prop where
  res:Res (fun k=>gR (six p q r a b c) k) g
theorem S6.keys {p q r a b c:Rat} {g:List (List Int×Rat)} (h:S6 p q r a b c g):∀ x∈g,x.1∈[[2,0],[0,2],[1,1],[1,0],[0,1],([0,0]:List Int)]:=fun x hx=>by
  obtain⟨n,e⟩:=h.res.mem.mp hx
  have e:gR (six p q r a b c) x.1=x.2:=e
  rw [gR_six] at e
  refine Classical.byContradiction fun no=>n ?_
  simp only [List.mem_cons,List.not_mem_nil,or_false,not_or] at no
  rw [if_neg no.1,if_neg no.2.1,if_neg no.2.2.1,if_neg no.2.2.2.1,if_neg no.2.2.2.2.1,if_neg no.2.2.2.2.2] at e
  exact e.symm
theorem S6.cv {m:Nat} {p q r a b c:Rat} {g:List (List Int×Rat)} (h:S6 p q r a b c g) (hp:Sz m p) (hq:Sz m q) (hr:Sz m r) (ha:Sz m a) (hb:Sz m b) (hc:Sz m c):Cv 6 m 2 g:=by
  refine⟨h.res.nd,?_,fun x hx=>?_,fun x hx=>?_⟩
  · have:=nodup_len h.res.nd (l':=[[2,0],[0,2],[1,1],[1,0],[0,1],([0,0]:List Int)]) fun x hx=>by
      obtain⟨y,hy,rfl⟩:=List.mem_map.mp hx
      exact h.keys y hy
    rw [List.length_map] at this
    exact this
  · have:=h.keys x hx
    simp only [List.mem_cons,List.not_mem_nil,or_false] at this
    rcases this with e | e | e | e | e | e <;> exact⟨_,_,e,by decide,by decide,by decide,by decide⟩
  · obtain⟨n,e⟩:=h.res.mem.mp hx
    have e:gR (six p q r a b c) x.1=x.2:=e
    rw [<- e,gR_six]
    have:=h.keys x hx
    simp only [List.mem_cons,List.not_mem_nil,or_false] at this
    rcases this with e | e | e | e | e | e <;> rw [e]
    · exact hp
    · exact hq
    · exact hr
    · exact ha
    · exact hb
    · exact hc
theorem S6.plus {p q r a b c p' q' r' a' b' c' t:Rat} {g g' g2:List (List Int×Rat)} (h:S6 p q r a b c g) (h':S6 p' q' r' a' b' c' g') (h2:Res (fun k=>gR g k+gR g' k*t) g2):S6 (p+p'*t) (q+q'*t) (r+r'*t) (a+a'*t) (b+b'*t) (c+c'*t) g2:=⟨h2.congr fun k=>by
  rw [show gR g k=_ from h.res.at_ k,show gR g' k=_ from h'.res.at_ k,gR_six,gR_six,gR_six]
  split
  · rfl
  split
  · rfl
  split
  · rfl
  split
  · rfl
  split
  · rfl
  split
  · rfl
  · rw [Rat.zero_mul,Rat.add_zero]⟩
theorem S6.more {p q r a b c s t:Rat} {g g':List (List Int×Rat)} (h:S6 p q r a b c g) (h':Res (fun k=>gR g k+gR [([0,0],s)] k*t) g'):S6 p q r a b (c+s*t) g':=⟨h'.congr fun k=>by
  rw [show gR g k=_ from h.res.at_ k,gR_six,gR_six]
  by_cases h6:k=[0,0]
  · subst h6
    rfl
  · rw [if_neg h6,if_neg h6,show gR [([0,0],s)] k=0 from gA_none (by simp only [List.map_cons,List.map_nil,List.mem_cons,List.not_mem_nil,or_false]; exact h6),Rat.zero_mul,Rat.add_zero]⟩
theorem six_cr {x y s:Rat} (k:List Int):gR (six 1 1 0 (-(x+x)) (-(y+y)) (x*x+y*y - s)) k=gR (cr5 x y s) k:=by
  rw [gR_six]
  by_cases h1:k=[2,0]
  · subst h1; rfl
  by_cases h2:k=[0,2]
  · subst h2; rfl
  by_cases h3:k=[1,1]
  · subst h3; rfl
  by_cases h4:k=[1,0]
  · subst h4; rfl
  by_cases h5:k=[0,1]
  · subst h5; rfl
  by_cases h6:k=[0,0]
  · subst h6; rfl
  rw [if_neg h1,if_neg h2,if_neg h3,if_neg h4,if_neg h5,if_neg h6]
  exact(gA_none (by simp only [List.map_cons,List.map_nil,List.mem_cons,List.not_mem_nil,or_false]; exact fun z=>by rcases z with z | z | z | z | z <;> contradiction)).symm
set_option maxHeartbeats 4000000
structure Sd (n m:Nat) (q:Rat):Prop where
  num:Bt n q.num
  den:Bt m (q.den:Int)
theorem Sd.sz {n m k:Nat} {q:Rat} (h:Sd n m q) (hn:n<=k) (hm:m<=k):Sz k q:=⟨h.num.mono hn,h.den.mono hm⟩
theorem Sd.divInt {n m:Nat} {t b:Int} (ht:Bt n t) (hb:Bt m b) (h:b≠0):Sd n m (Rat.divInt t b):=
  ⟨by rw [<- div_num h]; exact ht.le (HM.natAbs_fdiv_le _ _),by rw [<- div_den h]; exact hb.le (HM.natAbs_fdiv_le _ _)⟩
def F__law_cell_at:DSp:=fun ds S k=>∃ (ns:List Int) (i:Int),ds=[.rl (List.map D.int ns),.int i]/\0<=i/\∀ c:Int,k (.int c) S
theorem sc__law_cell_at:FnScope ["script","k"] ["script","k"] (defScope s__law_cell_at):=⟨rfl,rfl,rfl,by decide +kernel,rfl,by decide +kernel,by decide +kernel⟩
theorem ok__law_cell_at {P:Program} {w:World} {K:Fg} {mg:Str->Option Value} {base:Heap} {f:Addr} {fd:FuncData} (Fn:Fun K "_law_cell_at" "_law_cell_at" s__law_cell_at f fd) (z_len:mg "len"=none):
    FnOk P w K mg base CX0 1 f fd ["script","k"] (spU K F__law_cell_at):=by
  refine Fn.okJ sc__law_cell_at (fun ds S k h=>?_) (fun cdv A outer s H E hr=>⟨_,(ds_consj (dst_ifj (dt_cmpj o_lt (d_varj 1) (d_callBj b_lenE rfl z_len bt_len (da_consj (d_varj 0) da_nilj)) (nomark _)) (ds_onej (dst_retj (d_ixj x_ixE (d_varj 0) (d_varj 1) (fun _ _=>rfl)))) ds_nilj) (ds_onej (dst_retj d_intj))),fun ds S k h=>?_⟩)
  · obtain⟨_,_,rfl,_⟩:=h
    rfl
  · obtain⟨ns,i,rfl,h0,q⟩:=h
    refine ite_dec (fun hl=>?_) (fun _=>q 0)
    obtain⟨n,rfl⟩:=Int.eq_ofNat_of_zero_le h0
    have hn:n < ns.length:=by rw [List.length_map] at hl; omega
    have e:L2.atI (List.map D.int ns) (n:Int)=some (.int ns[n]):=atI_nat (by rw [List.getElem?_map,List.getElem?_eq_getElem hn] <;> rfl)
    exact⟨_,e,q _⟩
def F__law_state:DSp:=fun ds S k=>∃ ns i,ds=[.rl (List.map D.int ns),.int i]/\0<=i/\∀ (p:Addr) (n:Int) (b:Bool),S p=none->(b=false->0<=n/\n < 2147483647)->k (.ref p) (put S p (.lst [.int n,.bl b]))
theorem sc__law_state:FnScope ["script","k","cell"] ["script","k"] (defScope s__law_state):=⟨rfl,rfl,rfl,by decide +kernel,rfl,by decide +kernel,by decide +kernel⟩
theorem ok__law_state {P:Program} {w:World} {K:Fg} {mg:Str->Option Value} {base:Heap} {f:Addr} {fd:FuncData} (Fn:Fun K "_law_state" "_law_state" s__law_state f fd) (c__law_cell_at:Own P w K mg base "_law_cell_at" 1 F__law_cell_at):
    FnOk P w K mg base CX0 2 f fd ["script","k"] (spU K F__law_state):=by
  refine Fn.okJ sc__law_state (fun ds S k h=>?_) (fun cdv A outer s H E hr=>⟨_,(ds_consj (dst_setj (i:=2) sc__law_state.nd (d_callj c__law_cell_at (hr.mono (by decide)) rfl (da_consj (d_varj 0) (da_consj (d_varj 1) da_nilj)))) (ds_consj (dst_ifj (dt_cmpj o_ge (d_varj 2) (d_opj o_pow d_intj d_intj) (nomark _)) (ds_onej (dst_retj (d_lstj (da_consj (d_opj o_sub (d_varj 2) (d_opj o_pow d_intj d_intj)) (da_consj d_blj da_nilj))))) ds_nilj) (ds_onej (dst_retj (d_lstj (da_consj (d_opj o_mod (d_varj 2) d_intj) (da_consj d_blj da_nilj))))))),fun ds S k h=>?_⟩)
  · obtain⟨_,_,rfl,_⟩:=h
    rfl
  · obtain⟨ns,i,rfl,h0,q⟩:=h
    have hp:CPow 10 18:=⟨by decide,by decide,by decide⟩
    refine⟨ns,i,rfl,h0,fun c=>⟨hp,ite_dec (fun hl=>⟨hp,few,fun p hn=>?_⟩) (fun hl=>⟨(by show(2147483647:Int)≠0; decide),few,fun p hn=>?_⟩)⟩⟩
    · exact q p _ _ hn (fun z=>by cases z)
    · exact q p _ _ hn (fun _=>⟨Int.fmod_nonneg_of_pos _ (by decide),Int.fmod_lt_of_pos _ (by decide)⟩)
def F__law_take:DSp:=fun ds S k=>∃ a m,ds=[.ref a,.int m]/\0 < m/\Bt 200 m/\SOK S a/\∀ r S',0<=r->r < m->Dr a S S'->k (.int r) S'
theorem sc__law_take:FnScope ["state","many","mixed","found"] ["state","many"] (defScope s__law_take):=⟨rfl,rfl,rfl,by decide +kernel,rfl,by decide +kernel,by decide +kernel⟩
theorem ok__law_take {P:Program} {w:World} {K:Fg} {mg:Str->Option Value} {base:Heap} {f:Addr} {fd:FuncData} (Fn:Fun K "_law_take" "_law_take" s__law_take f fd):
    FnOk P w K mg base CX0 1 f fd ["state","many"] (spU K F__law_take):=by
  refine Fn.okJ sc__law_take (fun ds S k h=>?_) (fun cdv A outer s H E hr=>⟨_,(ds_consj (dst_ifj (dt_valj (d_ixj x_ixE (d_varj 0) d_intj (fun _ _=>rfl))) (ds_consj (dst_setj (i:=3) sc__law_take.nd (d_opj o_mod (d_ixj x_ixE (d_varj 0) d_intj (fun _ _=>rfl)) (d_varj 1))) (ds_consj (dst_asgj (d_opj o_div (d_ixj x_ixE (d_varj 0) d_intj (fun _ _=>rfl)) (d_varj 1)) (dg_subE (d_varj 0) d_intj)) (ds_onej (dst_retj (d_varj 3))))) ds_nilj) (ds_consj (dst_asgj (d_opj o_mod (d_opj o_add (d_opj o_mul (d_ixj x_ixE (d_varj 0) d_intj (fun _ _=>rfl)) d_intj) d_intj) d_intj) (dg_subE (d_varj 0) d_intj)) (ds_consj (dst_setj (i:=2) sc__law_take.nd (d_opj o_mod (d_opj o_add (d_opj o_add (d_opj o_mul (d_ixj x_ixE (d_varj 0) d_intj (fun _ _=>rfl)) (d_ixj x_ixE (d_varj 0) d_intj (fun _ _=>rfl))) (d_opj o_mul d_intj (d_ixj x_ixE (d_varj 0) d_intj (fun _ _=>rfl)))) d_intj) d_intj)) (ds_consj (dst_setj (i:=2) sc__law_take.nd (d_opj o_mod (d_opj o_add (d_opj o_mul (d_varj 2) (d_varj 2)) (d_opj o_mul d_intj (d_varj 2))) d_intj)) (ds_onej (dst_retj (d_opj o_mod (d_opj o_div (d_varj 2) d_intj) (d_varj 1)))))))),fun ds S k h=>?_⟩)
  · obtain⟨_,_,rfl,_⟩:=h
    rfl
  · obtain⟨a,m,rfl,hm,hb,⟨n,b,hS,hn⟩,q⟩:=h
    have put_dr:∀ (n':Int) (b':Bool),(b'=false->0<=n'/\n' < 2147483647)->Dr a S (put S a (.lst [.int n',.bl b'])):=fun n' b' h'=>
      ⟨⟨n',b',put_same,h'⟩,fun c o z e=>by rw [put_ne z]; exact e⟩
    refine⟨_,_,hS,atI1,?_⟩
    cases b with
    | true=>
      refine⟨_,_,hS,atI0,(show m≠0 by omega),_,_,hS,atI0,dok (by omega) hb,_,_,hS,ixN0,?_⟩
      exact q _ _ (Int.fmod_nonneg_of_pos _ hm) (Int.fmod_lt_of_pos _ hm) (put_dr _ _ fun z=>by cases z)
    | false=>
      obtain⟨n0,n1⟩:=hn rfl
      have b31:=bt31 n0 (by omega)
      refine⟨_,_,hS,atI0,mok (n:=31) b31 (bt31 (by decide) (by decide)),(show (2147483647:Int)≠0 by decide),_,_,hS,ixN0,?_⟩
      have c0:0<=(n*48271+29).fmod 2147483647:=Int.fmod_nonneg_of_pos _ (by decide)
      have c1:(n*48271+29).fmod 2147483647 < 2147483647:=Int.fmod_lt_of_pos _ (by decide)
      have bx:=bt31 c0 (by omega)
      refine⟨_,_,put_same,atI0,_,_,put_same,atI0,mok bx bx,_,_,put_same,atI0,mok (m:=31) (bt31 (by decide) (by decide)) bx,(show (2147483629:Int)≠0 by decide),?_⟩
      have d0:0<=((n*48271+29).fmod 2147483647*(n*48271+29).fmod 2147483647+39373*(n*48271+29).fmod 2147483647+7).fmod 2147483629:=Int.fmod_nonneg_of_pos _ (by decide)
      have d1:((n*48271+29).fmod 2147483647*(n*48271+29).fmod 2147483647+39373*(n*48271+29).fmod 2147483647+7).fmod 2147483629 < 2147483629:=Int.fmod_lt_of_pos _ (by decide)
      have by':=bt31 d0 (by omega)
      refine⟨mok by' by',mok (m:=31) (bt31 (by decide) (by decide)) by',(show (2147483587:Int)≠0 by decide),⟨by decide,by decide +kernel⟩,(show m≠0 by omega),?_⟩
      exact q _ _ (Int.fmod_nonneg_of_pos _ hm) (Int.fmod_lt_of_pos _ hm) (put_dr _ _ fun _=>⟨c0,c1⟩)
theorem gcd_abs (a b:Int):Int.gcd (absI a) (absI b)=Int.gcd a b:=by
  have e:∀ x:Int,(absI x).natAbs=x.natAbs:=fun x=>by unfold absI; split <;> omega
  unfold Int.gcd
  rw [e,e]
def F__law_divisor:DSp:=fun ds S k=>∃ a b,ds=[.int a,.int b]/\k (.int ((Int.gcd a b:Nat):Int)) S
theorem sc__law_divisor:FnScope ["one","other"] ["one","other"] (defScope s__law_divisor):=⟨rfl,rfl,rfl,by decide +kernel,rfl,by decide +kernel,by decide +kernel⟩
theorem ok__law_divisor {P:Program} {w:World} {K:Fg} {mg:Str->Option Value} {base:Heap} {f:Addr} {fd:FuncData} (Fn:Fun K "_law_divisor" "_law_divisor" s__law_divisor f fd) (z_abs:mg "abs"=none):
    FnOk P w K mg base CX0 1 f fd ["one","other"] (spU K F__law_divisor):=by
  refine Fn.okJ sc__law_divisor (fun ds S k h=>?_) (fun cdv A outer s H E hr=>⟨_,(ds_consj (dst_setj (i:=0) sc__law_divisor.nd (d_callBj b_abs rfl z_abs bt_abs (da_consj (d_varj 0) da_nilj))) (ds_consj (dst_setj (i:=1) sc__law_divisor.nd (d_callBj b_abs rfl z_abs bt_abs (da_consj (d_varj 1) da_nilj))) (ds_consj (dst_whilej PassesOwn.never (dt_cmpj o_gt (d_varj 1) d_intj (nomark _)) (ds_onej (dst_parj (i:=0) (j:=1) rfl sc__law_divisor.nd (by decide) (da_consj (d_varj 1) (da_consj (d_opj o_mod (d_varj 0) (d_varj 1)) da_nilj))))) (ds_onej (dst_retj (d_varj 0)))))),fun ds S k h=>?_⟩)
  · obtain⟨_,_,rfl,_⟩:=h
    rfl
  · obtain⟨a,b,rfl,q⟩:=h
    refine⟨fun m L S'=>S'=S/\∃ x y,L=[some (.int x),some (.int y)]/\m=y.natAbs/\0<=x/\0<=y/\Int.gcd x y=Int.gcd a b,⟨_,rfl,absI a,absI b,rfl,rfl,absI_nn a,absI_nn b,gcd_abs a b⟩,?_⟩
    rintro m L S' ⟨rfl,x,y,rfl,rfl,hx,hy,e⟩
    refine ite_dec (fun hl=>⟨fun L' S''=>∃ m',m' < y.natAbs/\S''=S'/\∃ x y,L'=[some (.int x),some (.int y)]/\m'=y.natAbs/\0<=x/\0<=y/\Int.gcd x y=Int.gcd a b,fun _ _ z=>z,by omega,?_⟩) (fun hl=>?_)
    · exact⟨_,fmod_lt x y (by omega),rfl,y,x.fmod y,rfl,rfl,hy,Int.fmod_nonneg_of_pos _ hl,(gcd_fmod x y).trans e⟩
    · have z:y=0:=by omega
      subst z
      have e2:=gcd_zero x
      rw [e,if_neg (by omega)] at e2
      rw [e2] at q
      exact q
def F__law_ratio:DSp:=fun ds S k=>∃ t b,ds=[.int t,.int b]/\b≠0/\Bt 8000 b/\k (fr (Rat.divInt t b)) S
theorem sc__law_ratio:FnScope ["top","bottom","by"] ["top","bottom"] (defScope s__law_ratio):=⟨rfl,rfl,rfl,by decide +kernel,rfl,by decide +kernel,by decide +kernel⟩
theorem ok__law_ratio {P:Program} {w:World} {K:Fg} {mg:Str->Option Value} {base:Heap} {f:Addr} {fd:FuncData} (Fn:Fun K "_law_ratio" "_law_ratio" s__law_ratio f fd) (c__law_divisor:Own P w K mg base "_law_divisor" 1 F__law_divisor):
    FnOk P w K mg base CX0 2 f fd ["top","bottom"] (spU K F__law_ratio):=by
  refine Fn.okJ sc__law_ratio (fun ds S k h=>?_) (fun cdv A outer s H E hr=>⟨_,(ds_consj (dst_setj (i:=2) sc__law_ratio.nd (d_callj c__law_divisor (hr.mono (by decide)) rfl (da_consj (d_varj 0) (da_consj (d_varj 1) da_nilj)))) (ds_consj (dst_ifj (dt_cmpj o_lt (d_varj 1) d_intj (nomark _)) (ds_onej (dst_setj (i:=2) sc__law_ratio.nd (d_opj o_sub d_intj (d_varj 2)))) ds_nilj) (ds_onej (dst_retj (d_tupj (da_consj (d_opj o_div (d_varj 0) (d_varj 2)) (da_consj (d_opj o_div (d_varj 1) (d_varj 2)) da_nilj))))))),fun ds S k h=>?_⟩)
  · obtain⟨_,_,rfl,_⟩:=h
    rfl
  · obtain⟨t,b,rfl,h0,hb,q⟩:=h
    have hg:=gcd_bt (t:=t) h0 hb
    have hs:=shr_ne (t:=t) h0
    have e1:=div_num (t:=t) h0
    have e2:=div_den (t:=t) h0
    have qq:k (.tup [.int (t.fdiv (shr t b)),.int (b.fdiv (shr t b))]) S:=by rw [e1,e2]; exact q
    unfold shr at qq hs
    refine⟨t,b,rfl,ite_dec (fun hl=>?_) (fun hl=>?_)⟩
    · rw [if_pos hl] at qq hs
      rw [<- Int.zero_sub] at qq hs
      have hd:∀ x:Int,CDivB x (0 - ((Int.gcd t b:Nat):Int)):=fun x=>dok hs (by rw [Int.zero_sub]; exact hg.neg)
      exact⟨hd _,hd _,few,qq⟩
    · rw [if_neg hl] at qq hs
      exact⟨dok hs hg,dok hs hg,few,qq⟩
def F__law_times:DSp:=fun ds S k=>∃ (a b c d:Int) (q:Rat),ds=[pr a b,pr c d]/\b*d≠0/\Bt 4000 a/\Bt 4000 b/\Bt 4000 c/\Bt 4000 d/\Rat.divInt (a*c) (b*d)=q/\k (fr q) S
theorem sc__law_times:FnScope ["one","other"] ["one","other"] (defScope s__law_times):=⟨rfl,rfl,rfl,by decide +kernel,rfl,by decide +kernel,by decide +kernel⟩
theorem ok__law_times {P:Program} {w:World} {K:Fg} {mg:Str->Option Value} {base:Heap} {f:Addr} {fd:FuncData} (Fn:Fun K "_law_times" "_law_times" s__law_times f fd) (c__law_ratio:Own P w K mg base "_law_ratio" 2 F__law_ratio):
    FnOk P w K mg base CX0 3 f fd ["one","other"] (spU K F__law_times):=by
  refine Fn.okJ sc__law_times (fun ds S k h=>?_) (fun cdv A outer s H E hr=>⟨_,(ds_onej (dst_retj (d_callj c__law_ratio (hr.mono (by decide)) rfl (da_consj (d_opj o_mul (d_ixj x_ixE (d_varj 0) d_intj (fun _ _=>rfl)) (d_ixj x_ixE (d_varj 1) d_intj (fun _ _=>rfl))) (da_consj (d_opj o_mul (d_ixj x_ixE (d_varj 0) d_intj (fun _ _=>rfl)) (d_ixj x_ixE (d_varj 1) d_intj (fun _ _=>rfl))) da_nilj))))),fun ds S k h=>?_⟩)
  · obtain⟨_,_,_,_,_,rfl,_⟩:=h
    rfl
  · obtain⟨a,b,c,d,_,rfl,h0,h1,h2,h3,h4,rfl,q⟩:=h
    exact⟨mok h1 h3,mok h2 h4,_,_,rfl,h0,(h2.mul h4).mono (by decide),q⟩
def F__law_small:DSp:=fun ds S k=>∃ a,ds=[.ref a]/\SOK S a/\∀ q S',Sd 4 3 q->Dr a S S'->k (fr q) S'
theorem sc__law_small:FnScope ["state"] ["state"] (defScope s__law_small):=⟨rfl,rfl,rfl,by decide +kernel,rfl,by decide +kernel,by decide +kernel⟩
theorem ok__law_small {P:Program} {w:World} {K:Fg} {mg:Str->Option Value} {base:Heap} {f:Addr} {fd:FuncData} (Fn:Fun K "_law_small" "_law_small" s__law_small f fd) (c__law_ratio:Own P w K mg base "_law_ratio" 2 F__law_ratio) (c__law_take:Own P w K mg base "_law_take" 1 F__law_take):
    FnOk P w K mg base CX0 3 f fd ["state"] (spU K F__law_small):=by
  refine Fn.okJ sc__law_small (fun ds S k h=>?_) (fun cdv A outer s H E hr=>⟨_,(ds_onej (dst_retj (d_callj c__law_ratio (hr.mono (by decide)) rfl (da_consj (d_opj o_sub (d_callj c__law_take (hr.mono (by decide)) rfl (da_consj (d_varj 0) (da_consj d_intj da_nilj))) d_intj) (da_consj (d_opj o_add d_intj (d_ixj x_ixE (d_lstj (da_consj d_intj (da_consj d_intj (da_consj (d_callj c__law_take (hr.mono (by decide)) rfl (da_consj (d_varj 0) (da_consj d_intj da_nilj))) da_nilj)))) (d_callj c__law_take (hr.mono (by decide)) rfl (da_consj (d_varj 0) (da_consj d_intj da_nilj))) (fun _ _=>rfl))) da_nilj))))),fun ds S k h=>?_⟩)
  · obtain⟨_,rfl,_⟩:=h
    rfl
  · obtain⟨a,rfl,hS,q⟩:=h
    refine⟨a,19,rfl,by decide,by decide,hS,fun r1 S1 h1 h1' d1=>⟨a,6,rfl,by decide,by decide,d1.1,fun r2 S2 h2 h2' d2=>⟨few,fun p hp=>⟨a,3,rfl,by decide,by decide,d2.1.new hp,fun r3 S3 h3 h3' d3=>?_⟩⟩⟩⟩
    have hp3:=d3.2 p _ (d2.1.ne hp) put_same
    obtain⟨c,hc,hm⟩:=atI_mem (ds:=[.int 0,.int 0,.int r2]) h3 h3'
    have hc2:∃ s:Int,c=.int s/\0<=s/\s < 6:=by
      simp only [List.mem_cons,List.not_mem_nil,or_false] at hm
      rcases hm with rfl | rfl | rfl
      · exact⟨0,rfl,by decide,by decide⟩
      · exact⟨0,rfl,by decide,by decide⟩
      · exact⟨r2,rfl,h2,h2'⟩
    obtain⟨s,rfl,s0,s1⟩:=hc2
    have b1:Bt 4 (r1 - 9):=by unfold Bt; omega
    have b2:Bt 3 (1+s):=by unfold Bt; omega
    exact⟨_,_,hp3,hc,_,_,rfl,by omega,b2.mono (by decide),q _ _ (Sd.divInt b1 b2 (by omega)) (d1.trans (d2.trans ((Dr.new d2.1 hp).trans d3)))⟩
def F__law_above:DSp:=fun ds S k=>∃ a,ds=[.ref a]/\SOK S a/\∀ q S',Sd 4 3 q->Dr a S S'->k (fr q) S'
theorem sc__law_above:FnScope ["state"] ["state"] (defScope s__law_above):=⟨rfl,rfl,rfl,by decide +kernel,rfl,by decide +kernel,by decide +kernel⟩
theorem ok__law_above {P:Program} {w:World} {K:Fg} {mg:Str->Option Value} {base:Heap} {f:Addr} {fd:FuncData} (Fn:Fun K "_law_above" "_law_above" s__law_above f fd) (c__law_ratio:Own P w K mg base "_law_ratio" 2 F__law_ratio) (c__law_take:Own P w K mg base "_law_take" 1 F__law_take):
    FnOk P w K mg base CX0 3 f fd ["state"] (spU K F__law_above):=by
  refine Fn.okJ sc__law_above (fun ds S k h=>?_) (fun cdv A outer s H E hr=>⟨_,(ds_onej (dst_retj (d_callj c__law_ratio (hr.mono (by decide)) rfl (da_consj (d_opj o_add d_intj (d_callj c__law_take (hr.mono (by decide)) rfl (da_consj (d_varj 0) (da_consj d_intj da_nilj)))) (da_consj (d_opj o_add d_intj (d_ixj x_ixE (d_lstj (da_consj d_intj (da_consj d_intj (da_consj (d_callj c__law_take (hr.mono (by decide)) rfl (da_consj (d_varj 0) (da_consj d_intj da_nilj))) da_nilj)))) (d_callj c__law_take (hr.mono (by decide)) rfl (da_consj (d_varj 0) (da_consj d_intj da_nilj))) (fun _ _=>rfl))) da_nilj))))),fun ds S k h=>?_⟩)
  · obtain⟨_,rfl,_⟩:=h
    rfl
  · obtain⟨a,rfl,hS,q⟩:=h
    refine⟨a,12,rfl,by decide,by decide,hS,fun r1 S1 h1 h1' d1=>⟨a,6,rfl,by decide,by decide,d1.1,fun r2 S2 h2 h2' d2=>⟨few,fun p hp=>⟨a,3,rfl,by decide,by decide,d2.1.new hp,fun r3 S3 h3 h3' d3=>?_⟩⟩⟩⟩
    have hp3:=d3.2 p _ (d2.1.ne hp) put_same
    obtain⟨c,hc,hm⟩:=atI_mem (ds:=[.int 0,.int 0,.int r2]) h3 h3'
    have hc2:∃ s:Int,c=.int s/\0<=s/\s < 6:=by
      simp only [List.mem_cons,List.not_mem_nil,or_false] at hm
      rcases hm with rfl | rfl | rfl
      · exact⟨0,rfl,by decide,by decide⟩
      · exact⟨0,rfl,by decide,by decide⟩
      · exact⟨r2,rfl,h2,h2'⟩
    obtain⟨s,rfl,s0,s1⟩:=hc2
    have b1:Bt 4 (1+r1):=by unfold Bt; omega
    have b2:Bt 3 (1+s):=by unfold Bt; omega
    exact⟨_,_,hp3,hc,_,_,rfl,by omega,b2.mono (by decide),q _ _ (Sd.divInt b1 b2 (by omega)) (d1.trans (d2.trans ((Dr.new d2.1 hp).trans d3)))⟩
def B (x:Q):D:=.tup [fr x.1,fr x.2]
theorem lratio_go {S:DH} {k:DK} {t b:Int} {q:Rat} (e:Rat.divInt t b=q) (h0:b≠0) (hb:Bt 8000 b) (h:k (fr q) S):F__law_ratio [.int t,.int b] S k:=by subst e; exact⟨_,_,rfl,h0,hb,h⟩
set_option maxHeartbeats 4000000
def F__law_plus:DSp:=fun ds S k=>∃ (a b c d:Int) (q:Rat),ds=[pr a b,pr c d]/\b*d≠0/\Bt 4000 a/\Bt 4000 b/\Bt 4000 c/\Bt 4000 d/\Rat.divInt (a*d+c*b) (b*d)=q/\k (fr q) S
theorem sc__law_plus:FnScope ["one","other"] ["one","other"] (defScope s__law_plus):=⟨rfl,rfl,rfl,by decide +kernel,rfl,by decide +kernel,by decide +kernel⟩
theorem ok__law_plus {P:Program} {w:World} {K:Fg} {mg:Str->Option Value} {base:Heap} {f:Addr} {fd:FuncData} (Fn:Fun K "_law_plus" "_law_plus" s__law_plus f fd) (c__law_ratio:Own P w K mg base "_law_ratio" 2 F__law_ratio):
    FnOk P w K mg base CX0 3 f fd ["one","other"] (spU K F__law_plus):=by
  refine Fn.okJ sc__law_plus (fun ds S k h=>?_) (fun cdv A outer s H E hr=>⟨_,(ds_onej (dst_retj (d_callj c__law_ratio (hr.mono (by decide)) rfl (da_consj (d_opj o_add (d_opj o_mul (d_ixj x_ixE (d_varj 0) d_intj (fun _ _=>rfl)) (d_ixj x_ixE (d_varj 1) d_intj (fun _ _=>rfl))) (d_opj o_mul (d_ixj x_ixE (d_varj 1) d_intj (fun _ _=>rfl)) (d_ixj x_ixE (d_varj 0) d_intj (fun _ _=>rfl)))) (da_consj (d_opj o_mul (d_ixj x_ixE (d_varj 0) d_intj (fun _ _=>rfl)) (d_ixj x_ixE (d_varj 1) d_intj (fun _ _=>rfl))) da_nilj))))),fun ds S k h=>?_⟩)
  · obtain⟨_,_,_,_,_,rfl,_⟩:=h
    rfl
  · obtain⟨a,b,c,d,q,rfl,h0,h1,h2,h3,h4,e,w⟩:=h
    exact⟨mok h1 h4,mok h3 h2,mok h2 h4,lratio_go e h0 ((h2.mul h4).mono (by decide)) w⟩
def F__law_minus:DSp:=fun ds S k=>∃ p q:Rat,ds=[fr p,fr q]/\Sz 4000 p/\Sz 4000 q/\k (fr (p - q)) S
theorem sc__law_minus:FnScope ["one","other"] ["one","other"] (defScope s__law_minus):=⟨rfl,rfl,rfl,by decide +kernel,rfl,by decide +kernel,by decide +kernel⟩
theorem ok__law_minus {P:Program} {w:World} {K:Fg} {mg:Str->Option Value} {base:Heap} {f:Addr} {fd:FuncData} (Fn:Fun K "_law_minus" "_law_minus" s__law_minus f fd) (c__law_ratio:Own P w K mg base "_law_ratio" 2 F__law_ratio):
    FnOk P w K mg base CX0 3 f fd ["one","other"] (spU K F__law_minus):=by
  refine Fn.okJ sc__law_minus (fun ds S k h=>?_) (fun cdv A outer s H E hr=>⟨_,(ds_onej (dst_retj (d_callj c__law_ratio (hr.mono (by decide)) rfl (da_consj (d_opj o_sub (d_opj o_mul (d_ixj x_ixE (d_varj 0) d_intj (fun _ _=>rfl)) (d_ixj x_ixE (d_varj 1) d_intj (fun _ _=>rfl))) (d_opj o_mul (d_ixj x_ixE (d_varj 1) d_intj (fun _ _=>rfl)) (d_ixj x_ixE (d_varj 0) d_intj (fun _ _=>rfl)))) (da_consj (d_opj o_mul (d_ixj x_ixE (d_varj 0) d_intj (fun _ _=>rfl)) (d_ixj x_ixE (d_varj 1) d_intj (fun _ _=>rfl))) da_nilj))))),fun ds S k h=>?_⟩)
  · obtain⟨_,_,rfl,_⟩:=h
    rfl
  · obtain⟨p,q,rfl,hp,hq,w⟩:=h
    exact⟨mok hp.num hq.den,mok hq.num hp.den,mok hp.den hq.den,lratio_go (sub_of p q) (den_mul_ne p q) ((hp.den.mul hq.den).mono (by decide)) w⟩
set_option maxHeartbeats 4000000
theorem outK {c:List (List Int×Rat)}:outD DIt.k (cvD c)=c.map fun x=>keyD x.1:=by show List.map _ (List.map _ c)=_; rw [List.map_map]; rfl
abbrev sc (t:Rat) (l:List (List Int×Rat)):List (List Int×Rat):=l.map fun p=>(p.1,p.2*t)
theorem pairsD_len {l:List (List Int×D)}:(pairsD l).length=l.length:=List.length_map _
theorem nzloop {S:DH} {p f:Addr} {c:List (List Int×Rat)} {e1:Nat} {k:DK} (hp:S p=none) (hf:S f=some (dTo (cvD c) e1)) (nd:(c.map (·.1)).Nodup) (kk:∀ S2,Ext S S2->S2 p=some (.lst (pairsD (cvD (nz c))))->k (.ref p) S2):
    ∀ (rest don:List (List Int×Rat)) (l0:Option D) (S1:DH),c=don++rest->Ext S S1->S1 p=some (.lst (pairsD (cvD (nz don))))->c.length<=100->
      dCLoop (fun S=>S f=some (dTo (cvD c) e1)) p (dgName 0) (bdIf (dTest (dOp dNe (dOp dIxE (dDGet (dVar 1) (dVar 0)) (dC (.int 0))) (dC (.int 0)))) (dTup (dCons (dVar 0) (dCons (dDGet (dVar 1) (dVar 0)) dNil)))) k (rest.map fun x=>keyD x.1) (pairsD (cvD (nz don))) [l0,some (.ref f)] S1
  | [],don,l0,S1,ec,x1,h1,_=>by
    rw [List.append_nil] at ec
    subst ec
    exact⟨x1 _ _ hf,kk S1 x1 h1⟩
  | q::rest,don,l0,S1,ec,x1,h1,hl=>by
    have f1:=x1 _ _ hf
    have g1:getT (cvD c) q.1=some (fr q.2):=getT_some nd (by rw [ec]; simp)
    have hd:don.length < 100:=by have:=congrArg List.length ec; rw [List.length_append,List.length_cons] at this; omega
    have lz:(nz don).length<=don.length:=List.length_filter_le _ _
    have ec':c=(don++[q])++rest:=by rw [ec]; simp
    refine⟨f1,_,_,q.1,_,f1,rfl,g1,ite_ne (fun h0=>?_) (fun h0=>?_)⟩
    · have q0:q.2≠0:=fun z=>h0 (by rw [z]; rfl)
      refine⟨_,_,q.1,_,f1,rfl,g1,few,h1,?_,?_⟩
      · rw [pairsD_len,kvD_len]
        exact lim (by omega)
      · have ea:pairsD (cvD (nz don))++[D.tup [keyD q.1,fr q.2]]=pairsD (cvD (nz (don++[q]))):=by
          simp [nz,List.filter_append,q0,pairsD,kvD]
        rw [ea]
        exact nzloop hp hf nd kk rest (don++[q]) _ _ ec' (x1.put hp) put_same hl
    · have q0:q.2=0:=Rat.num_eq_zero.mp h0
      have ea:pairsD (cvD (nz don))=pairsD (cvD (nz (don++[q]))):=by
        simp [nz,List.filter_append,q0]
      rw [ea]
      exact nzloop hp hf nd kk rest (don++[q]) _ _ ec' x1 (by rw [h1,ea]) hl
theorem Dr.keep {a p:Addr} {S S':DH} {o:DO} (h:Dr a S S') (n:p≠a) (e:S p=some o):S' p=some o:=h.2 p o n e
def F__law_added:DSp:=fun ds S k=>∃ (a b:Addr) (c c':List (List Int×Rat)) (e e':Nat) (t:Rat),ds=[.ref a,.ref b,fr t]/\S a=some (dTo (cvD c) e)/\S b=some (dTo (cvD c') e')/\Cv 28 900 6 c/\Cv 28 900 6 c'/\Sz 100 t/\∀ S' p ep g,Ext S S'->S p=none->Res (fun k=>gR c k+gR c' k*t) g->S' p=some (dTo (cvD g) ep)->k (.ref p) S'
theorem sc__law_added:FnScope ["one","other","by","found","powers"] ["one","other","by"] (defScope s__law_added):=⟨rfl,rfl,rfl,by decide +kernel,rfl,by decide +kernel,by decide +kernel⟩
theorem ok__law_added {P:Program} {w:World} {K:Fg} {mg:Str->Option Value} {base:Heap} {f:Addr} {fd:FuncData} (Fn:Fun K "_law_added" "_law_added" s__law_added f fd) (c__law_plus:Own P w K mg base "_law_plus" 3 F__law_plus) (c__law_times:Own P w K mg base "_law_times" 3 F__law_times) (z_dict:mg "dict"=none):
    FnOk P w K mg base CX0 4 f fd ["one","other","by"] (spU K F__law_added):=by
  refine Fn.okJ sc__law_added (fun ds S k h=>?_) (fun cdv A outer s H E hr=>⟨_,(ds_consj (dst_setj (i:=3) sc__law_added.nd (d_callTj (b_dict hr) rfl z_dict bt_dict (da_consj (d_varj 0) da_nilj))) (ds_consj (dst_forIj PassesOwn.never rfl (i_keysj (d_varj 1)) (dg_namej (i:=4) sc__law_added.nd) (ds_onej (dst_asgj (d_callj c__law_plus (hr.mono (by decide)) rfl (da_consj (d_get2j hr (d_varj 3) (d_varj 4) (d_tupj (da_consj d_intj (da_consj d_intj da_nilj)))) (da_consj (d_callj c__law_times (hr.mono (by decide)) rfl (da_consj (d_dgetj hr (d_varj 1) (d_varj 4) (fun _ _=>rfl)) (da_consj (d_varj 2) da_nilj))) da_nilj))) (dg_subD hr (d_varj 3) (d_varj 4))))) (ds_onej (dst_retj (d_callTj (b_dict hr) rfl z_dict bt_dict (da_consj (d_compIIfj rfl (compSc (N:=["powers","found"]) (cap:=[none,some 3]) rfl rfl rfl rfl ⟨rfl,trivial⟩ rfl rfl ⟨⟨rfl,.inl rfl,.inl rfl⟩,trivial⟩) (i_keysj (d_varj 3)) (fun _ _ _ _=>(dg_namej (i:=0) (show List.Nodup (["powers","found"]:List Str) from by decide +kernel))) (fun _ _ _ _=>(dt_cmpj o_ne (d_ixj x_ixE (d_dgetj hr (d_varj 1) (d_varj 0) (fun _ _=>rfl)) d_intj (fun _ _=>rfl)) d_intj (nomark _))) (fun _ _ _ _=>(d_tupj (da_consj (d_varj 0) (da_consj (d_dgetj hr (d_varj 1) (d_varj 0) (fun _ _=>rfl)) da_nilj))))) da_nilj)))))),fun ds S k h=>?_⟩)
  · obtain⟨_,_,_,_,_,_,_,rfl,_⟩:=h
    rfl
  · obtain⟨a,b,c,c',e,e',t,rfl,ha,hb,hc,hc',ht,w⟩:=h
    refine .inl ⟨_,_,ha,hc.hash6,fun p hp e1=>⟨_,_,put_keep hp hb,?_⟩⟩
    have nbp:b≠p:=ne_put hb hp
    rw [outK]
    refine loop_ix (fun r L S'=>∃ (don rest f:List (List Int×Rat)) (e3:Nat) (l4:Option D),c'=don++rest/\r=rest.map (fun x=>keyD x.1)/\L=[some (.ref a),some (.ref b),some (fr t),some (.ref p),l4]/\Ext S S'/\S' b=some (dTo (cvD c') e')/\S' p=some (dTo (cvD f) e3)/\Cv (28+don.length) 1901 6 f/\∀ k,gR f k=gR c k+gR don k*t) (fun r L S' ⟨_,_,_,_,_,_,_,_,_,h,_⟩=>h) ?_ ?_ _ _ _ ⟨[],c',c,e1,none,rfl,rfl,rfl,Ext.new hp,put_keep hp hb,put_same,hc.mono (by decide) (by decide) (by decide),fun k=>by rw [show gR [] k=0 from rfl,Rat.zero_mul,Rat.add_zero]⟩
    · rintro d r L S1 N1 ⟨don,rest,f,e3,l4,ec,er,rfl,x1,b1,p1,hf,hg⟩ hN
      cases rest with
      | nil=>cases er
      | cons q rest=>
        cases er
        have mq:q∈c':=by rw [ec]; simp
        have nq:=nd_mid (p:=q) (ec▸hc'.nd)
        have hd:don.length < 28:=by have:=congrArg List.length ec; rw [List.length_append,List.length_cons] at this; have:=hc'.hl; omega
        have s0:Sz 900 (gR f q.1):=by rw [hg,show gR don q.1=0 from gA_none nq,Rat.zero_mul,Rat.add_zero]; exact hc.sz (by decide) _
        have sq:=hc'.hz q mq
        have st:=sq.mul ht
        have g1:getT (cvD c') q.1=some (fr q.2):=getT_some hc'.nd mq
        obtain⟨i,j,ek,i0,j0,i1,j1⟩:=hc'.sm q mq
        obtain⟨f',ef,hf',gf⟩:=hf.put (i:=i) (j:=j) (x:=gR f q.1+q.2*t) i0 j0 i1 j1 (s0.add st)
        rw [<- ek] at ef gf
        refine⟨⟨_,_,p1⟩,few,_,_,q.1,p1,rfl,_,_,q.1,_,b1,rfl,g1,_,_,_,_,_,rfl,den_mul_ne q.2 t,sq.num.mono (by decide),sq.den.mono (by decide),ht.num.mono (by decide),ht.den.mono (by decide),mul_of q.2 t,_,_,_,_,_,congrArg (fun z=>[z,fr (q.2*t)]) (getT_gA (f:=fr) (z:=0)),den_mul_ne (gR f q.1) (q.2*t),s0.num.mono (by decide),s0.den.mono (by decide),st.num.mono (by decide),st.den.mono (by decide),add_of (gR f q.1) (q.2*t),_,_,q.1,p1,rfl,by rw [kvD_len]; exact lim (by have:=hf.hl; omega),fun e4=>hN _ _ ⟨don++[q],rest,f',e4,_,by rw [ec]; simp,rfl,rfl,x1.put hp,by rw [put_ne nbp]; exact b1,by rw [put_same,ef],by rw [List.length_append]; exact hf',fun k=>?_⟩⟩
        rw [gf k,show gR (don++[q]) k=_ from gA_snoc nq k]
        by_cases e:k=q.1
        · rw [if_pos e,if_pos e,hg,e,show gR don q.1=0 from gA_none nq,Rat.zero_mul,Rat.add_zero]
        · rw [if_neg e,if_neg e]
          exact hg k
    · rintro L S1 ⟨don,rest,f,e3,l4,ec,er,rfl,x1,b1,p1,hf,hg⟩
      cases rest with
      | cons q rest=>cases er
      | nil=>
        rw [List.append_nil] at ec
        subst ec
        have:=hf.hl
        have:=hc'.hl
        refine⟨_,_,p1,fun p2 hp2=>?_⟩
        rw [outK]
        refine nzloop (S:=S1) hp2 p1 hf.nd (fun S2 x2 h2=>.inr ⟨_,h2,fun p3 hp3 e5=>?_⟩) f [] none _ rfl (Ext.new hp2) put_same (by omega)
        exact w _ p3 e5 (nz f) ((x1.trans x2).trans (Ext.new hp3)) ((x1.trans x2).none hp3) (Res.of hf hg) (by rw [put_same,mergeT_nd (f:=fr) (nd_filter hf.nd)])
theorem wsz {M t:Int} {n:Nat} {g:Rat} (M0:0 < M) (hM:Bt n M) (ht:Bt n t) (e:(M:Rat)*g=t):Sz n g:=by
  have r0:(M:Rat)≠0:=fun z=>by
    have:M=0:=Rat.intCast_inj.mp (by rw [z]; rfl)
    omega
  have:g=Rat.divInt t M:=by
    rw [Rat.divInt_eq_div,<- e]
    grind
  rw [this]
  exact Sz.divInt ht hM (by omega)
theorem nle {n:Nat} {t:Int} (hn:n<=100) (ht:t.natAbs<=n*2 ^ (500+500)):Bt 1007 t:=by
  unfold Bt
  have h1:n*2 ^ (500+500)<=100*2 ^ (500+500):=Nat.mul_le_mul_right _ hn
  have h2:100*2 ^ (500+500) < 2 ^ 1007:=by decide +kernel
  omega
def F__law_multiplied:DSp:=fun ds S k=>∃ (a b:Addr) (c c':List (List Int×Rat)) (e e':Nat) (B B':Int),ds=[.ref a,.ref b]/\S a=some (dTo (cvD c) e)/\S b=some (dTo (cvD c') e')/\Cv 10 900 3 c/\Cv 10 900 3 c'/\0 < B/\0 < B'/\Bt 300 B/\Bt 300 B'/\Dn B 500 c/\Dn B' 500 c'/\∀ S' p ep g,Ext S S'->S p=none->Res (fun k=>mulF c c' k) g->S' p=some (dTo (cvD g) ep)->k (.ref p) S'
theorem sc__law_multiplied:FnScope ["one","other","found","a","b","c","d","more"] ["one","other"] (defScope s__law_multiplied):=⟨rfl,rfl,rfl,by decide +kernel,rfl,by decide +kernel,by decide +kernel⟩
theorem ok__law_multiplied {P:Program} {w:World} {K:Fg} {mg:Str->Option Value} {base:Heap} {f:Addr} {fd:FuncData} (Fn:Fun K "_law_multiplied" "_law_multiplied" s__law_multiplied f fd) (c__law_times:Own P w K mg base "_law_times" 3 F__law_times) (c__law_plus:Own P w K mg base "_law_plus" 3 F__law_plus) (z_dict:mg "dict"=none):
    FnOk P w K mg base CX0 4 f fd ["one","other"] (spU K F__law_multiplied):=by
  refine Fn.okJ sc__law_multiplied (fun ds S k h=>?_) (fun cdv A outer s H E hr=>⟨_,(ds_consj (dst_setj (i:=2) sc__law_multiplied.nd d_dnewj) (ds_consj (dst_forIj PassesOwn.never rfl (i_keysj (d_varj 0)) (dg_seqE (n:=2) rfl (dgs_consj (dg_namej (i:=3) sc__law_multiplied.nd) (dgs_consj (dg_namej (i:=4) sc__law_multiplied.nd) dgs_nilj))) (ds_onej (dst_forIj PassesOwn.never rfl (i_keysj (d_varj 1)) (dg_seqE (n:=2) rfl (dgs_consj (dg_namej (i:=5) sc__law_multiplied.nd) (dgs_consj (dg_namej (i:=6) sc__law_multiplied.nd) dgs_nilj))) (ds_consj (dst_setj (i:=7) sc__law_multiplied.nd (d_callj c__law_times (hr.mono (by decide)) rfl (da_consj (d_dgetj hr (d_varj 0) (d_tupj (da_consj (d_varj 3) (da_consj (d_varj 4) da_nilj))) (fun _ _=>rfl)) (da_consj (d_dgetj hr (d_varj 1) (d_tupj (da_consj (d_varj 5) (da_consj (d_varj 6) da_nilj))) (fun _ _=>rfl)) da_nilj)))) (ds_onej (dst_asgj (d_callj c__law_plus (hr.mono (by decide)) rfl (da_consj (d_get2j hr (d_varj 2) (d_tupj (da_consj (d_opj o_add (d_varj 3) (d_varj 5)) (da_consj (d_opj o_add (d_varj 4) (d_varj 6)) da_nilj))) (d_tupj (da_consj d_intj (da_consj d_intj da_nilj)))) (da_consj (d_varj 7) da_nilj))) (dg_subD hr (d_varj 2) (d_tupj (da_consj (d_opj o_add (d_varj 3) (d_varj 5)) (da_consj (d_opj o_add (d_varj 4) (d_varj 6)) da_nilj)))))))))) (ds_onej (dst_retj (d_callTj (b_dict hr) rfl z_dict bt_dict (da_consj (d_compIIfj rfl (compSc (N:=["powers","found"]) (cap:=[none,some 2]) rfl rfl rfl rfl ⟨rfl,trivial⟩ rfl rfl ⟨⟨rfl,.inl rfl,.inl rfl⟩,trivial⟩) (i_keysj (d_varj 2)) (fun _ _ _ _=>(dg_namej (i:=0) (show List.Nodup (["powers","found"]:List Str) from by decide +kernel))) (fun _ _ _ _=>(dt_cmpj o_ne (d_ixj x_ixE (d_dgetj hr (d_varj 1) (d_varj 0) (fun _ _=>rfl)) d_intj (fun _ _=>rfl)) d_intj (nomark _))) (fun _ _ _ _=>(d_tupj (da_consj (d_varj 0) (da_consj (d_dgetj hr (d_varj 1) (d_varj 0) (fun _ _=>rfl)) da_nilj))))) da_nilj)))))),fun ds S k h=>?_⟩)
  · obtain⟨_,_,_,_,_,_,_,_,rfl,_⟩:=h
    rfl
  · obtain⟨a,b,c,c',e,e',B1,B2,rfl,ha,hb,hc,hc',B1p,B2p,bB1,bB2,hD,hD',w⟩:=h
    refine fun p hp e0=>⟨_,_,put_keep hp ha,?_⟩
    have nap:a≠p:=ne_put ha hp
    have nbp:b≠p:=ne_put hb hp
    have hl:=hc.hl
    have hl':=hc'.hl
    have z0:∃ t:Int,t.natAbs<=0*2 ^ (500+500)/\((B1*B2:Int):Rat)*0=t:=⟨0,by decide,by rw [Rat.mul_zero]; rfl⟩
    have sG:∀ {g:Rat} {n:Nat},n<=100->(∃ t:Int,t.natAbs<=n*2 ^ (500+500)/\((B1*B2:Int):Rat)*g=t)->Sz 1007 g:=fun {g n} hn ⟨t,ht,et⟩=>wsz (Int.mul_pos B1p B2p) ((bB1.mul bB2).mono (by decide)) (nle hn ht) et
    rw [outK]
    refine loop_ix (fun r L S'=>∃ (don rest g:List (List Int×Rat)) (e1:Nat) (l3 l4 l5 l6 l7:Option D),c=don++rest/\r=rest.map (fun x=>keyD x.1)/\L=[some (.ref a),some (.ref b),some (.ref p),l3,l4,l5,l6,l7]/\Ext S S'/\S' a=some (dTo (cvD c) e)/\S' b=some (dTo (cvD c') e')/\S' p=some (dTo (cvD g) e1)/\Cv (10*don.length) 1500 6 g/\∀ k,gR g k=mulF don c' k) (fun r L S' ⟨_,_,_,_,_,_,_,_,_,_,_,_,_,h,_⟩=>h) ?_ ?_ _ _ _ ⟨[],c,[],e0,none,none,none,none,none,rfl,rfl,rfl,Ext.new hp,put_keep hp ha,put_keep hp hb,put_same,Cv.nil,fun k=>rfl⟩
    · rintro d r L S1 N1 ⟨don,rest,g,e1,l3,l4,l5,l6,l7,ec,er,rfl,x1,a1,b1,p1,hg,gf⟩ hN
      cases rest with
      | nil=>cases er
      | cons q rest=>
        cases er
        obtain⟨k1,v1⟩:=q
        have mq:(k1,v1)∈c:=by rw [ec]; simp
        have hd:don.length < 10:=by have:=congrArg List.length ec; rw [List.length_append,List.length_cons] at this; omega
        obtain⟨i,j,ek,i0,j0,i1,j1⟩:=hc.sm _ mq
        have ek:k1=[i,j]:=ek
        subst ek
        have g1:getT (cvD c) [i,j]=some (fr v1):=getT_some hc.nd mq
        have s1:=hD.sz B1p (bB1.mono (n:=500) (by decide)) (Nat.le_refl _) _ mq
        refine⟨([.int i,.int j],none),rfl,rfl,rfl,_,_,b1,?_⟩
        rw [outK]
        refine loop_ix (fun r L S'=>∃ (don2 rest2 g:List (List Int×Rat)) (e1:Nat) (l5 l6 l7:Option D),c'=don2++rest2/\r=rest2.map (fun x=>keyD x.1)/\L=[some (.ref a),some (.ref b),some (.ref p),some (.int i),some (.int j),l5,l6,l7]/\Ext S S'/\S' a=some (dTo (cvD c) e)/\S' b=some (dTo (cvD c') e')/\S' p=some (dTo (cvD g) e1)/\Cv (10*don.length+don2.length) 1500 6 g/\∀ k,gR g k=rowF ([i,j],v1) don2 k (mulF don c' k)) (fun r L S' ⟨_,_,_,_,_,_,_,_,_,_,_,_,h,_⟩=>h) ?_ ?_ _ _ _ ⟨[],c',g,e1,_,_,_,rfl,rfl,rfl,x1,a1,b1,p1,hg,gf⟩
        · rintro d r L S2 N2 ⟨don2,rest2,g2,e2,m5,m6,m7,ec2,er2,rfl,x2,a2,b2,p2,hg2,gf2⟩ hN2
          cases rest2 with
          | nil=>cases er2
          | cons q2 rest2=>
            cases er2
            obtain⟨k2,v2⟩:=q2
            have mq2:(k2,v2)∈c':=by rw [ec2]; simp
            have hd2:don2.length < 10:=by have:=congrArg List.length ec2; rw [List.length_append,List.length_cons] at this; omega
            obtain⟨i',j',ek2,i0',j0',i1',j1'⟩:=hc'.sm _ mq2
            have ek2:k2=[i',j']:=ek2
            subst ek2
            have g2':getT (cvD c') [i',j']=some (fr v2):=getT_some hc'.nd mq2
            have s2:=hD'.sz B2p (bB2.mono (n:=500) (by decide)) (Nat.le_refl _) _ mq2
            have sm:=s1.mul s2
            have sub:∀ q∈don,∃ t:Int,Bt 500 t/\(B1:Rat)*q.2=t:=fun q hq=>hD q (by rw [ec]; simp [hq])
            have sub2:∀ q∈don2,∃ t:Int,Bt 500 t/\(B2:Rat)*q.2=t:=fun q hq=>hD' q (by rw [ec2]; simp [hq])
            have D1:=fun k=>row_dn (k:=k) (hD _ mq) sub2 (mul_dn (k:=k) hD' sub (n:=0) (s:=0) z0)
            have D2:=fun k=>row_dn (k:=k) (hD _ mq) (l:=don2++[([i',j'],v2)]) (fun q hq=>by
              rcases List.mem_append.mp hq with m | m
              · exact sub2 q m
              · rw [List.mem_singleton.mp m]; exact hD' _ mq2) (mul_dn (k:=k) hD' sub (n:=0) (s:=0) z0)
            have pr:don.length*c'.length<=9*10:=Nat.mul_le_mul (by omega) hl'
            have s0:Sz 1007 (gR g2 [i+i',j+j']):=by rw [gf2]; exact sG (by omega) (D1 _)
            have s9:Sz 1500 (gR g2 [i+i',j+j']+v1*v2):=by
              have e1:gR g2 [i+i',j+j']+v1*v2=rowF ([i,j],v1) (don2++[([i',j'],v2)]) [i+i',j+j'] (mulF don c' [i+i',j+j']):=by
                rw [rowF_snoc,<- gf2]
                show _=gR g2 [i+i',j+j']+(if [i+i',j+j']=[i+i',j+j'] then v1*v2 else 0)
                rw [if_pos rfl]
              rw [e1]
              exact(sG (by rw [List.length_append]; show 0+don.length*c'.length+(don2.length+1)<=100; omega) (D2 _)).mono (by decide)
            obtain⟨g3,eg3,hg3,gf3⟩:=hg2.put (i:=i+i') (j:=j+j') (x:=gR g2 [i+i',j+j']+v1*v2) (by omega) (by omega) (by omega) (by omega) s9
            have s4:=s0.mono (show 1007<=4000 by decide)
            refine⟨([.int i',.int j'],none),rfl,rfl,rfl,few,_,_,[i,j],_,a2,rfl,g1,few,_,_,[i',j'],_,b2,rfl,g2',_,_,_,_,_,rfl,den_mul_ne v1 v2,s1.num.mono (by decide),s1.den.mono (by decide),s2.num.mono (by decide),s2.den.mono (by decide),mul_of v1 v2,⟨_,_,p2⟩,few,few,_,_,[i+i',j+j'],p2,rfl,_,_,_,_,_,congrArg (fun z=>[z,fr (v1*v2)]) (getT_gA (f:=fr) (z:=0)),den_mul_ne (gR g2 [i+i',j+j']) (v1*v2),s4.num,s4.den,sm.num.mono (by decide),sm.den.mono (by decide),add_of (gR g2 [i+i',j+j']) (v1*v2),few,_,_,[i+i',j+j'],p2,rfl,by rw [kvD_len]; exact lim (by have:=hg2.hl; omega),fun e4=>hN2 _ _ ⟨don2++[([i',j'],v2)],rest2,g3,e4,_,_,_,by rw [ec2]; simp,rfl,rfl,x2.put hp,by rw [put_ne nap]; exact a2,by rw [put_ne nbp]; exact b2,by rw [put_same,eg3],by rw [List.length_append]; exact hg3,fun k=>?_⟩⟩
            · rw [gf3 k,rowF_snoc,<- gf2 k]
              unfold tmP
              show _=gR g2 k+(if [i+i',j+j']=k then v1*v2 else 0)
              by_cases e:k=[i+i',j+j']
              · rw [if_pos e,if_pos e.symm,e]
              · rw [if_neg e,if_neg (Ne.symm e),Rat.add_zero]
        · rintro L S2 ⟨don2,rest2,g2,e2,m5,m6,m7,ec2,er2,rfl,x2,a2,b2,p2,hg2,gf2⟩
          cases rest2 with
          | cons q2 rest2=>cases er2
          | nil=>
            rw [List.append_nil] at ec2
            subst ec2
            exact hN _ _ ⟨don++[([i,j],v1)],rest,g2,e2,_,_,_,_,_,by rw [ec]; simp,rfl,rfl,x2,a2,b2,p2,hg2.mono (by rw [List.length_append]; simp; omega) (by decide) (by decide),fun k=>by rw [mulF_snoc]; exact gf2 k⟩
    · rintro L S1 ⟨don,rest,g,e1,l3,l4,l5,l6,l7,ec,er,rfl,x1,a1,b1,p1,hg,gf⟩
      cases rest with
      | cons q rest=>cases er
      | nil=>
        rw [List.append_nil] at ec
        subst ec
        have:=hg.hl
        refine⟨_,_,p1,fun p2 hp2=>?_⟩
        rw [outK]
        refine nzloop (S:=S1) hp2 p1 hg.nd (fun S2 x2 h2=>.inr ⟨_,h2,fun p3 hp3 e5=>?_⟩) g [] none _ rfl (Ext.new hp2) put_same (by omega)
        exact w _ p3 e5 (nz g) ((x1.trans x2).trans (Ext.new hp3)) ((x1.trans x2).none hp3) (Res.of hg gf) (by rw [put_same,mergeT_nd (f:=fr) (nd_filter hg.nd)])
set_option maxHeartbeats 4000000
theorem dItems_ext {S S':DH} {d:D} {q:List D×Option Addr} (x:Ext S S') (h:dItems S d=some q):dItems S' d=some q:=by
  cases d with
  | ref a=>
    simp only [dItems] at h ⊢
    split at h
    · rename_i z; rw [x _ _ z]; exact h
    · cases h
  | _=>exact h
theorem okFor_ext {S S':DH} {q:List D×Option Addr} (x:Ext S S') (h:okFor q S):okFor q S':=by
  obtain⟨ds,o⟩:=q
  cases o with
  | none=>trivial
  | some a=>exact x _ _ h
theorem tyD_ext {S S':DH} {d:D} {t:Ty} (x:Ext S S') (h:tyD S d=some t):tyD S' d=some t:=by
  cases d with
  | ref a=>
    have h:tyR (S a)=some t:=h
    show tyR (S' a)=some t
    cases z:S a with
    | none=>rw [z] at h; cases h
    | some o=>rw [x _ _ z,<- z]; exact h
  | _=>exact h
def leaf:D->Prop
  | .int _=>True | .non=>True | .bl _=>True | .str _=>True | _=>False
def sameP:Nat->DH->D->D->Prop
  | 0,_,_,_=>False
  | n+1,S,f,d=>(leaf d/\f=d)\/∃ (t:Ty) (q r:List D×Option Addr),(t=.tup\/t=.lst)/\tyD S f=some t/\tyD S d=some t/\dItems S f=some q/\dItems S d=some r/\q.1.length=r.1.length/\q.1.length<=1000/\
      ∀ (i:Nat) x y,q.1[i]?=some x->r.1[i]?=some y->sameP n S x y
theorem sameP.ext {S S':DH} (e:Ext S S'):∀ {n:Nat} {f d:D},sameP n S f d->sameP n S' f d
  | 0,_,_,h=>h
  | n+1,_,_,h=>h.elim .inl fun⟨t,q,r,h1,h2,h3,h4,h5,h6,h7,h8⟩=>.inr ⟨t,q,r,h1,tyD_ext e h2,tyD_ext e h3,dItems_ext e h4,dItems_ext e h5,h6,h7,fun i x y a b=>(h8 i x y a b).ext e⟩
def F__law_same:Nat->DSp
  | n=>fun ds S k=>match ds with | [f,d]=>sameP n S f d/\∀ S',Ext S S'->k (.bl true) S' | _=>False
theorem zloop {n:Nat} {S:DH} {p:Addr} {ok:DH->Prop} {k:DK} (hp:S p=none) (hok:∀ S',Ext S S'->ok S') (kk:∀ S2 m',Ext S S2->S2 p=some (.lst (List.map D.bl (List.replicate m' true)))->k (.ref p) S2):
    ∀ (rest:List D) (m:Nat) (l0 l1:Option D) (S1:DH),Ext S S1->S1 p=some (.lst (List.map D.bl (List.replicate m true)))->m+rest.length<=1000->(∀ c∈rest,∃ x y,c=.tup [x,y]/\sameP n S x y)->
      dCLoop ok p (dgSeqE 2 (dgCons (dgName 0) (dgCons (dgName 1) dgNil))) (bdAll (dCall (F__law_same n) (dCons (dVar 0) (dCons (dVar 1) dNil)))) k rest (List.map D.bl (List.replicate m true)) [l0,l1] S1
  | [],m,l0,l1,S1,e,h1,_,_=>⟨hok S1 e,kk S1 m e h1⟩
  | c::rest,m,l0,l1,S1,e,h1,hm,al=>by
    obtain⟨x,y,rfl,h⟩:=al c List.mem_cons_self
    have hm':m+(rest.length+1)<=1000:=hm
    refine⟨hok _ e,([x,y],none),rfl,rfl,?_⟩
    refine⟨rfl,h.ext e,fun S2 e2=>⟨e2 _ _ h1,?_,?_⟩⟩
    · rw [List.length_map,List.length_replicate]
      exact Nat.lt_of_lt_of_le (by omega:m < 1000) (Nat.le_of_ble_eq_true rfl)
    · have ea:List.map D.bl (List.replicate m true)++[D.bl true]=List.map D.bl (List.replicate (m+1) true):=by rw [List.replicate_succ',List.map_append]; rfl
      rw [ea]
      exact zloop hp hok kk rest (m+1) _ _ _ ((e.trans e2).put hp) put_same (by omega) fun c hc=>al c (List.mem_cons_of_mem _ hc)
theorem len_go {S:DH} {f:D} {q:List D×Option Addr} {k:DK} (h:dItems S f=some q) (w:k (.int q.1.length) S):bLenE [f] S k:=by
  cases f with
  | tup ds=>cases h; exact w
  | rl ds=>cases h; exact w
  | ref a=>
    simp only [dItems] at h
    split at h
    · rename_i z; cases h; exact⟨_,z,w⟩
    · cases h
  | _=>cases h
theorem eq_bl (b:Bool):DL.eqT 8 (.bl b) (.bl b)=some true:=by cases b <;> rfl
theorem zero__law_same (ds:List D) (S:DH) (k:DK) (h:F__law_same 0 ds S k):False:=by
  unfold F__law_same at h
  split at h
  · exact h.1
  · exact h
theorem sc__law_same:FnScope ["found","due"] ["found","due"] (defScope s__law_same):=⟨rfl,rfl,rfl,by decide +kernel,rfl,by decide +kernel,by decide +kernel⟩
theorem ok__law_same {P:Program} {w:World} {K:Fg} {mg:Str->Option Value} {base:Heap} {f:Addr} {fd:FuncData} {lm n:Nat} (c_self:Own P w K mg base "_law_same" lm (F__law_same n)) (Fn:Fun K "_law_same" "_law_same" s__law_same f fd) (z_isinstance:mg "isinstance"=none) (z_list:mg "list"=none) (z_tuple:mg "tuple"=none) (z_len:mg "len"=none) (z_all:mg "all"=none) (z_zip:mg "zip"=none) (z_bool:mg "bool"=none):
    FnOk P w K mg base CX0 (lm+1) f fd ["found","due"] (spU K (F__law_same (n+1))):=by
  refine Fn.okJ sc__law_same (fun ds S k h=>?_) (fun cdv A outer s H E hr=>⟨_,(ds_consj (dst_ifj (dt_valj (d_callBj b_isiX rfl z_isinstance bt_isinstance (da_consj (d_varj 1) (da_consj (d_tupj (da_consj (d_tyj (n:=.tup) rfl z_tuple bt_tuple) (da_consj (d_tyj (n:=.lst) rfl z_list bt_list) da_nilj))) da_nilj)))) (ds_consj (dst_ifj (WJ.pt (dw_orj (dt_cmpj (o_neE hr) (d_callBj b_isiX rfl z_isinstance bt_isinstance (da_consj (d_varj 0) (da_consj (d_tyj (n:=.tup) rfl z_tuple bt_tuple) da_nilj))) (d_callBj b_isiX rfl z_isinstance bt_isinstance (da_consj (d_varj 1) (da_consj (d_tyj (n:=.tup) rfl z_tuple bt_tuple) da_nilj))) (nomark _)) (dw_or1j (dt_cmpj (o_neE hr) (d_callBj b_isiX rfl z_isinstance bt_isinstance (da_consj (d_varj 0) (da_consj (d_tyj (n:=.lst) rfl z_list bt_list) da_nilj))) (d_callBj b_isiX rfl z_isinstance bt_isinstance (da_consj (d_varj 1) (da_consj (d_tyj (n:=.lst) rfl z_list bt_list) da_nilj))) (nomark _))))) (ds_onej (dst_retj d_blj)) ds_nilj) (ds_consj (dst_ifj (dt_cmpj (o_neE hr) (d_callBj b_lenE rfl z_len bt_len (da_consj (d_varj 0) da_nilj)) (d_callBj b_lenE rfl z_len bt_len (da_consj (d_varj 1) da_nilj)) (nomark _)) (ds_onej (dst_retj d_blj)) ds_nilj) (ds_onej (dst_retj (d_callBj b_allE rfl z_all bt_all (da_consj (d_compZj rfl (compSc (N:=["one","other"]) (cap:=[none,none]) rfl rfl rfl rfl trivial rfl rfl trivial) rfl z_zip (da_consj (d_varj 0) (da_consj (d_varj 1) da_nilj)) (fun _ _ _ _=>(dg_seqE (n:=2) rfl (dgs_consj (dg_namej (i:=0) (show List.Nodup (["one","other"]:List Str) from by decide +kernel)) (dgs_consj (dg_namej (i:=1) (show List.Nodup (["one","other"]:List Str) from by decide +kernel)) dgs_nilj)))) (fun _ _ _ _=>(d_callj c_self (hr.mono (Nat.le_refl _)) rfl (da_consj (d_varj 0) (da_consj (d_varj 1) da_nilj))))) da_nilj)))))) ds_nilj) (ds_onej (dst_retj (d_andj (d_cmpj (o_eqE hr) (d_varj 0) (d_varj 1) (nomark _)) (d_onej (d_cmpj (o_eqE hr) (d_callBj b_isiX rfl z_isinstance bt_isinstance (da_consj (d_varj 0) (da_consj (d_tyj (n:=.bool) rfl z_bool bt_bool) da_nilj))) (d_callBj b_isiX rfl z_isinstance bt_isinstance (da_consj (d_varj 1) (da_consj (d_tyj (n:=.bool) rfl z_bool bt_bool) da_nilj))) (nomark _))))))),fun ds S k h=>?_⟩)
  · unfold F__law_same at h
    split at h
    · rfl
    · exact h.elim
  · unfold F__law_same at h
    split at h
    · obtain⟨h,w⟩:=h
      rename_i fv dv
      unfold sameP at h
      rcases h with ⟨lf,rfl⟩ | ⟨t,q,r,ht,hf,hd,e1,e2,hl,hz,al⟩
      · have e8:eqT 8 fv fv=some true:=by
          cases fv with
          | int i=>show some (decide (i=i))=some true; simp
          | non=>rfl
          | bl b=>cases b <;> rfl
          | str x=>show some (decide (x=x))=some true; simp
          | _=>exact lf.elim
        obtain⟨t,hd,nt⟩:∃ t,tyD S fv=some t/\[Ty.tup,Ty.lst].any (subT t)=false:=by
          cases fv with
          | int i=>exact⟨_,rfl,rfl⟩
          | non=>exact⟨_,rfl,rfl⟩
          | bl b=>exact⟨_,rfl,rfl⟩
          | str x=>exact⟨_,rfl,rfl⟩
          | _=>exact lf.elim
        refine⟨few,t,[.tup,.lst],hd,rfl,ite_b (fun e=>by rw [nt] at e; cases e) (fun _=>?_)⟩
        refine⟨true,e8,ite_b (fun _=>?_) (fun e=>by cases e)⟩
        refine⟨t,hd,t,hd,?_⟩
        exact⟨true,eq_bl _,w S (Ext.refl S)⟩
      · refine⟨few,t,[.tup,.lst],hd,rfl,ite_b (fun _=>?_) (fun e=>by rcases ht with rfl | rfl <;> cases e)⟩
        refine⟨t,hf,t,hd,true,eq_bl _,ite_b (fun e=>by cases e) (fun _=>⟨t,hf,t,hd,true,eq_bl _,ite_b (fun e=>by cases e) (fun _=>?_)⟩)⟩
        dsimp only [dNext,dSeq,dIfS,dTest,dOp,dCall,dCons,dVar,dNil,List.map_cons,List.map_nil,List.cons_append,List.nil_append,List.getElem?_cons_zero,List.getElem?_cons_succ]
        refine len_go e1 ?_
        refine len_go e2 ?_
        refine⟨true,?_,ite_b (fun e=>by cases e) (fun _=>?_)⟩
        · rw [hl]
          show some ((_:Int) == _)=some true
          simp
        · refine⟨q,r,e1,e2,fun p hp=>?_⟩
          refine zloop (S:=S) hp (fun S' e=>⟨okFor_ext e (ok_self e1),okFor_ext e (ok_self e2)⟩) (fun S2 m e h=>?_) _ 0 none none _ (Ext.new hp) put_same ?_ ?_
          · refine⟨(List.map D.bl (List.replicate m true),some p),List.replicate m true,by simp only [dItems,h],rfl,?_⟩
            have ea:(List.replicate m true).all id=true:=by simp
            rw [ea]
            exact w S2 e
          · unfold zipD
            rw [List.length_zipWith]
            omega
          · intro c hc
            obtain⟨i,hi,rfl⟩:=List.mem_iff_getElem.mp hc
            unfold zipD at hi ⊢
            rw [List.length_zipWith] at hi
            rw [List.getElem_zipWith]
            exact⟨_,_,rfl,al i _ _ (List.getElem?_eq_getElem _) (List.getElem?_eq_getElem _)⟩
    · exact h.elim
theorem rc__law_same {P:Program} {w:World} {K:Fg} {mg:Str->Option Value} {base:Heap} {f:Addr} {fd:FuncData} (Fn:Fun K "_law_same" "_law_same" s__law_same f fd) (hm:mg "_law_same"=some (.ref f)) (hb:Binds K fd ["found","due"] []) (z_isinstance:mg "isinstance"=none) (z_list:mg "list"=none) (z_tuple:mg "tuple"=none) (z_len:mg "len"=none) (z_all:mg "all"=none) (z_zip:mg "zip"=none) (z_bool:mg "bool"=none):∀ n,FnOk P w K mg base CX0 n f fd ["found","due"] (spU K (F__law_same n))
  | 0=>⟨fun _ _ _ _ ⟨ds,S,k,_,_,h,_⟩=>(zero__law_same ds S k h).elim,fun _ _ _ _ _ _ _ _ _ _ _ _ _ ⟨ds,S,k,_,_,h,_⟩=>(zero__law_same ds S k h).elim⟩
  | n+1=>ok__law_same (Own.mk' Fn (rc__law_same Fn hm hb z_isinstance z_list z_tuple z_len z_all z_zip z_bool n) hm hb) Fn z_isinstance z_list z_tuple z_len z_all z_zip z_bool
set_option maxHeartbeats 4000000
theorem pr_dvd:∀ {qs:List Rat} {m:Int},m ∣ qs.foldl (fun a q=>a*(q.den:Int)) m/\∀ q∈qs,(q.den:Int) ∣ qs.foldl (fun a q=>a*(q.den:Int)) m
  | [],m=>⟨Int.dvd_refl m,fun q h=>nomatch h⟩
  | q::qs,m=>by
    obtain⟨a,b⟩:=pr_dvd (qs:=qs) (m:=m*(q.den:Int))
    refine⟨Int.dvd_trans (Int.dvd_mul_right m _) a,fun p hp=>?_⟩
    rcases List.mem_cons.mp hp with e | m'
    · rw [e]
      exact Int.dvd_trans ⟨m,Int.mul_comm m _⟩ a
    · exact b p m'
theorem pr_bt {w:Nat}:∀ {qs:List Rat} {m:Int} {n:Nat},0 < m->Bt n m->(∀ q∈qs,Bt w (q.den:Int))->0 < qs.foldl (fun a q=>a*(q.den:Int)) m/\Bt (n+w*qs.length) (qs.foldl (fun a q=>a*(q.den:Int)) m)
  | [],_,_,h0,h,_=>⟨h0,h⟩
  | q::qs,m,n,h0,h,hq=>by
    obtain⟨a,b⟩:=pr_bt (qs:=qs) (Int.mul_pos h0 (den_p q)) (h.mul (hq q List.mem_cons_self)) fun p hp=>hq p (List.mem_cons_of_mem _ hp)
    refine⟨a,b.mono ?_⟩
    rw [List.length_cons,Nat.mul_add]
    omega
theorem toploop {S:DH} {p f:Addr} {c:List (List Int×Rat)} {e1:Nat} {B:Int} {k:DK} (hp:S p=none) (hf:S f=some (dTo (cvD c) e1)) (nd:(c.map (·.1)).Nodup) (hz:∀ p∈c,Sz 4000 p.2) (bB:Bt 8000 B) (kk:∀ S2,Ext S S2->S2 p=some (.lst (pairsD (tpD (c.map fun x=>(x.1,topI B x.2)))))->k (.ref p) S2):
    ∀ (rest don:List (List Int×Rat)) (l0:Option D) (S1:DH),c=don++rest->Ext S S1->S1 p=some (.lst (pairsD (tpD (don.map fun x=>(x.1,topI B x.2)))))->c.length<=100->
      dCLoop (fun S=>S f=some (dTo (cvD c) e1)) p (dgName 0) (bdAll (dTup (dCons (dVar 0) (dCons (dOp dMul (dOp dIxE (dDGet (dVar 2) (dVar 0)) (dC (.int 0))) (dOp dDiv (dVar 1) (dOp dIxE (dDGet (dVar 2) (dVar 0)) (dC (.int 1))))) dNil)))) k (rest.map fun x=>keyD x.1) (pairsD (tpD (don.map fun x=>(x.1,topI B x.2)))) [l0,some (.int B),some (.ref f)] S1
  | [],don,l0,S1,ec,x1,h1,_=>by
    rw [List.append_nil] at ec
    subst ec
    exact⟨x1 _ _ hf,kk S1 x1 h1⟩
  | q::rest,don,l0,S1,ec,x1,h1,hl=>by
    have f1:=x1 _ _ hf
    have mq:q∈c:=by rw [ec]; simp
    have g1:getT (cvD c) q.1=some (fr q.2):=getT_some nd mq
    have hd:don.length < 100:=by have:=congrArg List.length ec; rw [List.length_append,List.length_cons] at this; omega
    have ec':c=(don++[q])++rest:=by rw [ec]; simp
    have sq:=hz q mq
    refine⟨f1,_,_,q.1,_,f1,rfl,g1,_,_,q.1,_,f1,rfl,g1,dok (by have:=den_p q.2; omega) sq.den,mok sq.num (bB.le (HM.natAbs_fdiv_le _ _)),few,h1,?_,?_⟩
    · rw [pairsD_len,kvD_len,List.length_map]
      exact lim (by omega)
    · have ea:pairsD (tpD (don.map fun x=>(x.1,topI B x.2)))++[D.tup [keyD q.1,.int (topI B q.2)]]=pairsD (tpD ((don++[q]).map fun x=>(x.1,topI B x.2))):=by
        simp [pairsD,kvD]
      show dCLoop _ _ _ _ _ _ (pairsD (tpD (don.map fun x=>(x.1,topI B x.2)))++[D.tup [keyD q.1,.int (topI B q.2)]]) _ (put S1 p (.lst (pairsD (tpD (don.map fun x=>(x.1,topI B x.2)))++[D.tup [keyD q.1,.int (topI B q.2)]])))
      rw [ea]
      exact toploop hp hf nd hz bB kk rest (don++[q]) _ _ ec' (x1.put hp) put_same hl
theorem nrmloop {S:DH} {p f:Addr} {ts:List (List Int×Int)} {e1:Nat} {g:Int} {k:DK} (hp:S p=none) (hf:S f=some (dTo (tpD ts) e1)) (nd:(ts.map (·.1)).Nodup) (g0:g≠0) (gb:Bt 8000 g) (kk:∀ S2,Ext S S2->S2 p=some (.lst (pairsD (nmD (ts.map fun x=>(x.1,x.2.fdiv g)))))->k (.ref p) S2):
    ∀ (rest don:List (List Int×Int)) (l0:Option D) (S1:DH),ts=don++rest->Ext S S1->S1 p=some (.lst (pairsD (nmD (don.map fun x=>(x.1,x.2.fdiv g)))))->ts.length<=100->
      dCLoop (fun S=>S f=some (dTo (tpD ts) e1)) p (dgName 0) (bdAll (dTup (dCons (dVar 0) (dCons (dTup (dCons (dOp dDiv (dDGet (dVar 2) (dVar 0)) (dVar 1)) (dCons (dC (.int 1)) dNil))) dNil)))) k (rest.map fun x=>keyD x.1) (pairsD (nmD (don.map fun x=>(x.1,x.2.fdiv g)))) [l0,some (.int g),some (.ref f)] S1
  | [],don,l0,S1,ec,x1,h1,_=>by
    rw [List.append_nil] at ec
    subst ec
    exact⟨x1 _ _ hf,kk S1 x1 h1⟩
  | q::rest,don,l0,S1,ec,x1,h1,hl=>by
    have f1:=x1 _ _ hf
    have mq:q∈ts:=by rw [ec]; simp
    have g1:getT (tpD ts) q.1=some (.int q.2):=getT_some nd mq
    have hd:don.length < 100:=by have:=congrArg List.length ec; rw [List.length_append,List.length_cons] at this; omega
    have ec':ts=(don++[q])++rest:=by rw [ec]; simp
    refine⟨f1,_,_,q.1,_,f1,rfl,g1,dok g0 gb,few,few,h1,?_,?_⟩
    · rw [pairsD_len,kvD_len,List.length_map]
      exact lim (by omega)
    · have ea:pairsD (nmD (don.map fun x=>(x.1,x.2.fdiv g)))++[D.tup [keyD q.1,.tup [.int (q.2.fdiv g),.int 1]]]=pairsD (nmD ((don++[q]).map fun x=>(x.1,x.2.fdiv g))):=by
        simp [pairsD,kvD]
      show dCLoop _ _ _ _ _ _ (pairsD (nmD (don.map fun x=>(x.1,x.2.fdiv g)))++[D.tup [keyD q.1,.tup [.int (q.2.fdiv g),.int 1]]]) _ (put S1 p (.lst (pairsD (nmD (don.map fun x=>(x.1,x.2.fdiv g)))++[D.tup [keyD q.1,.tup [.int (q.2.fdiv g),.int 1]]])))
      rw [ea]
      exact nrmloop hp hf nd g0 gb kk rest (don++[q]) _ _ ec' (x1.put hp) put_same hl
def F__law_normal:DSp:=fun ds S k=>∃ (a:Addr) (c:List (List Int×Rat)) (ep:Nat),ds=[.ref a]/\S a=some (dTo (cvD c) ep)/\(c.map (·.1)).Nodup/\c.length<=28/\(∀ p∈c,∃ i j,p.1=[i,j])/\(∀ p∈c,p.2≠0/\Sz 600 p.2/\Bt 250 (p.2.den:Int))/\(c=[]->∀ S',Ext S S'->k .non S')/\(c≠[]->∀ S' p ep' ns,Ext S S'->Nrm c ns->S' p=some (dTo (nmD ns) ep')->k (.ref p) S')
theorem sc__law_normal:FnScope ["curve","whole","powers","numbers","by"] ["curve"] (defScope s__law_normal):=⟨rfl,rfl,rfl,by decide +kernel,rfl,by decide +kernel,by decide +kernel⟩
theorem ok__law_normal {P:Program} {w:World} {K:Fg} {mg:Str->Option Value} {base:Heap} {f:Addr} {fd:FuncData} (Fn:Fun K "_law_normal" "_law_normal" s__law_normal f fd) (c__law_divisor:Own P w K mg base "_law_divisor" 1 F__law_divisor) (z_dict:mg "dict"=none) (z_max:mg "max"=none):
    FnOk P w K mg base CX0 2 f fd ["curve"] (spU K F__law_normal):=by
  refine Fn.okJ sc__law_normal (fun ds S k h=>?_) (fun cdv A outer s H E hr=>⟨_,(ds_consj (dst_ifj (dt_cmpj (o_eqDD hr) (d_varj 0) d_dnewj (nomark _)) (ds_onej (dst_retj d_nonj)) ds_nilj) (ds_consj (dst_setj (i:=1) sc__law_normal.nd d_intj) (ds_consj (dst_forIj PassesOwn.never rfl (i_keysj (d_varj 0)) (dg_namej (i:=2) sc__law_normal.nd) (ds_onej (dst_setj (i:=1) sc__law_normal.nd (d_opj o_mul (d_varj 1) (d_ixj x_ixE (d_dgetj hr (d_varj 0) (d_varj 2) (fun _ _=>rfl)) d_intj (fun _ _=>rfl)))))) (ds_consj (dst_setj (i:=3) sc__law_normal.nd (d_callTj (b_dict hr) rfl z_dict bt_dict (da_consj (d_compIj rfl (compSc (N:=["powers","whole","curve"]) (cap:=[none,some 1,some 0]) rfl rfl rfl rfl ⟨rfl,rfl,trivial⟩ rfl rfl ⟨⟨rfl,.inl rfl,.inl rfl⟩,⟨rfl,.inl rfl,.inl rfl⟩,trivial⟩) (i_keysj (d_varj 0)) (fun _ _ _ _=>(dg_namej (i:=0) (show List.Nodup (["powers","whole","curve"]:List Str) from by decide +kernel))) (fun _ _ _ _=>(d_tupj (da_consj (d_varj 0) (da_consj (d_opj o_mul (d_ixj x_ixE (d_dgetj hr (d_varj 2) (d_varj 0) (fun _ _=>rfl)) d_intj (fun _ _=>rfl)) (d_opj o_div (d_varj 1) (d_ixj x_ixE (d_dgetj hr (d_varj 2) (d_varj 0) (fun _ _=>rfl)) d_intj (fun _ _=>rfl)))) da_nilj))))) da_nilj))) (ds_consj (dst_setj (i:=4) sc__law_normal.nd d_intj) (ds_consj (dst_forIj PassesOwn.never rfl (i_keysj (d_varj 3)) (dg_namej (i:=2) sc__law_normal.nd) (ds_onej (dst_setj (i:=4) sc__law_normal.nd (d_callj c__law_divisor (hr.mono (by decide)) rfl (da_consj (d_varj 4) (da_consj (d_dgetj hr (d_varj 3) (d_varj 2) (fun _ _=>rfl)) da_nilj)))))) (ds_consj (dst_ifj (dt_cmpj o_lt (d_dgetj hr (d_varj 3) (d_callBj (b_maxD hr) rfl z_max bt_max (da_consj (d_varj 3) da_nilj)) (fun _ _=>rfl)) d_intj (nomark _)) (ds_onej (dst_setj (i:=4) sc__law_normal.nd (d_opj o_sub d_intj (d_varj 4)))) ds_nilj) (ds_onej (dst_retj (d_callTj (b_dict hr) rfl z_dict bt_dict (da_consj (d_compIj rfl (compSc (N:=["powers","by","numbers"]) (cap:=[none,some 4,some 3]) rfl rfl rfl rfl ⟨rfl,rfl,trivial⟩ rfl rfl ⟨⟨rfl,.inl rfl,.inl rfl⟩,⟨rfl,.inl rfl,.inl rfl⟩,trivial⟩) (i_keysj (d_varj 3)) (fun _ _ _ _=>(dg_namej (i:=0) (show List.Nodup (["powers","by","numbers"]:List Str) from by decide +kernel))) (fun _ _ _ _=>(d_tupj (da_consj (d_varj 0) (da_consj (d_tupj (da_consj (d_opj o_div (d_dgetj hr (d_varj 2) (d_varj 0) (fun _ _=>rfl)) (d_varj 1)) (da_consj d_intj da_nilj))) da_nilj))))) da_nilj))))))))))),fun ds S k h=>?_⟩)
  · obtain⟨_,_,_,rfl,_⟩:=h
    rfl
  · obtain⟨a,c,ep,rfl,ha,nd,hl,two,hz,w0,w⟩:=h
    by_cases ne:c=[]
    · subst ne
      exact fun q hq e0=>⟨_,_,[],e0,true,put_keep hq ha,put_same,.inr ⟨rfl,rfl⟩,w0 rfl _ (Ext.new hq)⟩
    have w:=w ne
    have l0:(cvD c).length≠0:=by rw [kvD_len]; exact fun z=>ne (List.length_eq_zero_iff.mp z)
    have sz:∀ r∈c.map (·.2),Bt 250 (r.den:Int):=fun r hr=>by
      obtain⟨x,hx,rfl⟩:=List.mem_map.mp hr
      exact(hz x hx).2.2
    obtain⟨B0,bB⟩:=pr_bt (m:=1) (n:=1) (by decide) (by decide) sz
    have dv:=(pr_dvd (qs:=c.map (·.2)) (m:=1)).2
    rw [List.length_map] at bB
    have bB':Bt 7001 ((c.map (·.2)).foldl (fun a q=>a*(q.den:Int)) 1):=bB.mono (by omega)
    have dv':∀ p∈c,(p.2.den:Int) ∣ (c.map (·.2)).foldl (fun a q=>a*(q.den:Int)) 1:=fun p hp=>dv p.2 (List.mem_map.mpr ⟨p,hp,rfl⟩)
    refine fun q hq e0=>⟨_,_,[],e0,false,put_keep hq ha,put_same,.inl ⟨l0,rfl⟩,_,_,put_keep hq ha,?_⟩
    have x0:Ext S (put S q (dTo [] e0)):=Ext.new hq
    have a0:put S q (dTo [] e0) a=some (dTo (cvD c) ep):=put_keep hq ha
    generalize put S q (dTo [] e0)=T at x0 a0 ⊢
    have eo:outD DIt.k (cvD c)=c.map fun x=>keyD x.1:=by show List.map _ (List.map _ c)=_; rw [List.map_map]; rfl
    rw [eo]
    refine loop_ix (fun r L S'=>S'=T/\∃ (don rest:List (List Int×Rat)) (m:Int) (n:Nat) (l2:Option D),c=don++rest/\r=rest.map (fun x=>keyD x.1)/\L=[some (.ref a),some (.int m),l2,none,none]/\(rest.map (·.2)).foldl (fun a q=>a*(q.den:Int)) m=(c.map (·.2)).foldl (fun a q=>a*(q.den:Int)) 1/\Bt n m/\n+250*rest.length<=7001) (fun r L S' ⟨e,_⟩=>by rw [e]; exact a0) ?_ ?_ _ _ _ ⟨rfl,[],c,1,1,none,rfl,rfl,rfl,rfl,by decide,by omega⟩
    · rintro d r L S1 N1 ⟨rfl,don,rest,m,n,l2,ec,er,rfl,em,bm,hn⟩ hN
      cases rest with
      | nil=>cases er
      | cons q rest=>
        cases er
        have mq:q∈c:=by rw [ec]; simp
        have hn:n+250*(rest.length+1)<=7001:=hn
        exact⟨_,_,q.1,_,a0,rfl,getT_some nd mq,mok bm (hz q mq).2.2 (by omega),hN _ _ ⟨rfl,don++[q],rest,_,n+250,_,by rw [ec]; simp,rfl,rfl,em,bm.mul (hz q mq).2.2,by omega⟩⟩
    · rintro L S1 ⟨rfl,don,rest,m,n,l2,ec,er,rfl,em,bm,hn⟩
      cases rest with
      | cons q rest=>cases er
      | nil=>
        have em:m=(c.map (·.2)).foldl (fun a q=>a*(q.den:Int)) 1:=em
        rw [<- em] at B0 bB' dv'
        clear ec er em bm hn bB dv don
        have top0:∀ p∈c,topI m p.2≠0:=fun p hp z=>by
          have e:=topI_eq (dv' p hp)
          rw [z] at e
          have b0:(m:Rat)≠0:=fun y=>by
            have:m=0:=Rat.intCast_inj.mp (by rw [y]; rfl)
            omega
          have e2:(m:Rat)*p.2=0:=by rw [<- e]; rfl
          rcases Rat.mul_eq_zero.mp e2 with y | y
          · exact b0 y
          · exact(hz p hp).1 y
        refine⟨_,_,a0,fun p1 hp1=>?_⟩
        rw [eo]
        refine toploop (S:=S1) hp1 a0 nd (fun p hp=>(hz p hp).2.1.mono (by decide)) (bB'.mono (by decide)) (fun S2 x2 h2=>.inr ⟨_,h2,fun p2 hp2 e2=>?_⟩) c [] none _ rfl (Ext.new hp1) put_same (by omega)
        have tk:(c.map fun x=>(x.1,topI m x.2)).map (·.1)=c.map (·.1):=by rw [List.map_map]; rfl
        have ndt:((c.map fun x=>(x.1,topI m x.2)).map (·.1)).Nodup:=by rw [tk]; exact nd
        have y2:put S2 p2 (dTo (mergeT [] (tpD (c.map fun x=>(x.1,topI m x.2)))) e2) p2=some (dTo (tpD (c.map fun x=>(x.1,topI m x.2))) e2):=by rw [put_same,mergeT_nd (f:=D.int) ndt]
        have x3:Ext S (put S2 p2 (dTo (mergeT [] (tpD (c.map fun x=>(x.1,topI m x.2)))) e2)):=(x0.trans x2).trans (Ext.new hp2)
        have w':∀ S' p ep' g,Ext S S'->g≠0->(∀ p∈c.map fun x=>(x.1,topI m x.2),g ∣ p.2)->(∀ d:Int,(∀ p∈c.map fun x=>(x.1,topI m x.2),d ∣ p.2)->d ∣ g)->(∃ x∈c.map fun x=>(x.1,topI m x.2),(∀ q∈c.map fun x=>(x.1,topI m x.2),gtP q.1 x.1=false)/\0 < x.2.fdiv g)->S' p=some (dTo (nmD ((c.map fun x=>(x.1,topI m x.2)).map fun x=>(x.1,x.2.fdiv g))) ep')->k (.ref p) S':=fun S3 p3 e3 g x3 g0 gd gm gs h3=>by
          have n1:Nrm c (c.map fun p=>(p.1,(topI m p.2).fdiv g)):=nrm_of (by omega) dv' g0 (fun p hp=>gd (p.1,topI m p.2) (List.mem_map.mpr ⟨p,hp,rfl⟩)) (fun d hd=>gm d fun p hp=>by
              obtain⟨x,hx,rfl⟩:=List.mem_map.mp hp
              exact hd x hx) (by
              obtain⟨m,hm,mx,pos⟩:=gs
              obtain⟨x,hx,rfl⟩:=List.mem_map.mp hm
              exact⟨x,hx,fun q hq=>mx (q.1,topI _ q.2) (List.mem_map.mpr ⟨q,hq,rfl⟩),pos⟩)
          rw [List.map_map] at h3
          exact w S3 p3 e3 _ x3 n1 h3
        have two':∀ p∈c.map fun x=>(x.1,topI m x.2),∃ i j,p.1=[i,j]:=fun p hp=>by
          obtain⟨x,hx,rfl⟩:=List.mem_map.mp hp
          exact two x hx
        have hz':∀ p∈c.map fun x=>(x.1,topI m x.2),p.2≠0/\Bt 8000 p.2:=fun p hp=>by
          obtain⟨x,hx,rfl⟩:=List.mem_map.mp hp
          exact⟨top0 x hx,(((hz x hx).2.1.num).mul (bB'.le (HM.natAbs_fdiv_le _ _))).mono (by decide)⟩
        have ne':(c.map fun x=>(x.1,topI m x.2))≠[]:=fun z=>ne (List.map_eq_nil_iff.mp z)
        have hl':(c.map fun x=>(x.1,topI m x.2)).length<=100:=by rw [List.length_map]; omega
        refine⟨_,_,y2,?_⟩
        generalize put S2 p2 (dTo (mergeT [] (tpD (c.map fun x=>(x.1,topI m x.2)))) e2)=T2 at y2 x3 ⊢
        clear w top0 dv' bB' B0 tk h2
        generalize (c.map fun x=>(x.1,topI m x.2))=ts at ndt y2 w' two' hz' ne' hl' ⊢
        have eo2:outD DIt.k (tpD ts)=ts.map fun x=>keyD x.1:=by show List.map _ (List.map _ ts)=_; rw [List.map_map]; rfl
        rw [eo2]
        refine loop_ix (fun r L S'=>S'=T2/\∃ (don rest:List (List Int×Int)) (g:Int) (l2:Option D),ts=don++rest/\r=rest.map (fun x=>keyD x.1)/\L=[some (.ref a),some (.int m),l2,some (.ref p2),some (.int g)]/\Gp don g) (fun r L S' ⟨e,_⟩=>by rw [e]; exact y2) ?_ ?_ _ _ _ ⟨rfl,[],ts,0,l2,rfl,rfl,rfl,Gp.nil⟩
        · rintro d r L S3 N1 ⟨rfl,don,rest,g,l2,ec,er,rfl,hg⟩ hN
          cases rest with
          | nil=>cases er
          | cons q rest=>
            cases er
            exact⟨_,_,q.1,_,y2,rfl,getT_some ndt (by rw [ec]; simp),_,_,rfl,hN _ _ ⟨rfl,don++[q],rest,_,_,by rw [ec]; simp,rfl,rfl,hg.snoc⟩⟩
        · rintro L S3 ⟨rfl,don,rest,g,l2,ec,er,rfl,hg⟩
          cases rest with
          | cons q rest=>cases er
          | nil=>
            rw [List.append_nil] at ec
            subst ec
            have rest:∀ g':Int,g'≠0->(∀ p∈ts,g' ∣ p.2)->(∀ d:Int,(∀ p∈ts,d ∣ p.2)->d ∣ g')->(∃ m∈ts,(∀ q∈ts,gtP q.1 m.1=false)/\0 < m.2.fdiv g')->
                dCall bDict (dCons (dCompI [none,some 4,some 3] (srcD (dVar 3) (outD DIt.k)) (dgName 0) (bdAll (dTup (dCons (dVar 0) (dCons (dTup (dCons (dOp dDiv (dDGet (dVar 2) (dVar 0)) (dVar 1)) (dCons (dC (D.int 1)) dNil))) dNil))))) dNil) [some (D.ref a),some (D.int m),l2,some (D.ref p2),some (D.int g')] S3 k:=by
              intro g' g0 gd gm gs
              have gb:Bt 8000 g':=by
                obtain⟨m,hm,_⟩:=gs
                exact dvd_bt (gd m hm) (hz' m hm).1 (hz' m hm).2
              refine⟨_,_,y2,fun p4 hp4=>?_⟩
              rw [eo2]
              refine nrmloop (S:=S3) hp4 y2 ndt g0 gb (fun S5 x5 h5=>.inr ⟨_,h5,fun p6 hp6 e6=>?_⟩) ts [] none _ rfl (Ext.new hp4) put_same hl'
              have ndn:((ts.map fun x=>(x.1,x.2.fdiv g')).map (·.1)).Nodup:=by rw [List.map_map]; exact ndt
              exact w' _ p6 e6 g' ((x3.trans x5).trans (Ext.new hp6)) g0 gd gm gs (by rw [put_same,mergeT_nd (f:=fun n:Int=>D.tup [.int n,.int 1]) ndn])
            have mk:∀ m∈tpD ts,∃ x∈ts,m=(x.1,D.int x.2):=fun m hm=>by
              obtain⟨x,hx,rfl⟩:=List.mem_map.mp hm
              exact⟨x,hx,rfl⟩
            refine⟨_,_,y2,fun z=>ne' (List.map_eq_nil_iff.mp z),fun m hm=>?_,fun m hm mx=>?_⟩
            · obtain⟨x,hx,rfl⟩:=mk m hm
              exact two' x hx
            · obtain⟨x,hx,rfl⟩:=mk m hm
              have g0:g≠0:=fun z=>by
                have:=hg.dv x hx
                rw [z] at this
                exact(hz' x hx).1 (Int.zero_dvd.mp this)
              have mx':∀ q∈ts,gtP q.1 x.1=false:=fun q hq=>mx (q.1,.int q.2) (List.mem_map.mpr ⟨q,hq,rfl⟩)
              have gn:=hg.nn
              have r1:=fun neg:x.2 < 0=>rest (0 - g) (by omega) (fun p hp=>by rw [Int.zero_sub]; exact Int.neg_dvd.mpr (hg.dv p hp)) (fun d hd=>by rw [Int.zero_sub]; exact Int.dvd_neg.mpr (hg.mx d hd)) ⟨x,hx,mx',sgn_ok (by rw [Int.zero_sub]; exact Int.neg_dvd.mpr (hg.dv x hx)) (hz' x hx).1 ⟨fun _=>by omega,fun z=>by omega⟩⟩
              have r2:=fun pos:¬ x.2 < 0=>rest g g0 hg.dv hg.mx ⟨x,hx,mx',sgn_ok (hg.dv x hx) (hz' x hx).1 ⟨fun z=>absurd z pos,fun _=>by omega⟩⟩
              exact⟨_,_,x.1,_,y2,rfl,getT_some ndt hx,ite_dec r1 r2⟩
set_option maxHeartbeats 4000000
theorem same_int {n:Nat} {S:DH} {i:Int}:sameP (n+1) S (.int i) (.int i):=.inl ⟨trivial,rfl⟩
theorem same_tup {n:Nat} {S:DH} {xs:List D} (hl:xs.length<=1000) (h:∀ x∈xs,sameP n S x x):sameP (n+1) S (.tup xs) (.tup xs):=
  .inr ⟨.tup,(xs,none),(xs,none),.inl rfl,rfl,rfl,rfl,rfl,rfl,hl,fun i x y a b=>by
    rw [a] at b
    cases b
    exact h x (List.mem_of_getElem? a)⟩
theorem same_two {n:Nat} {S:DH} {i j:Int}:sameP (n+2) S (.tup [.int i,.int j]) (.tup [.int i,.int j]):=same_tup (by show 2<=1000; decide) fun x hx=>by
  simp only [List.mem_cons,List.not_mem_nil,or_false] at hx
  rcases hx with rfl | rfl <;> exact same_int
theorem kloop {S:DH} {p f:Addr} {l:List (List Int×D)} {e1:Nat} {k:DK} (hp:S p=none) (hf:S f=some (dTo l e1)) (two:∀ p∈l,∃ i j,p.1=[i,j]) (kk:∀ S2,Ext S S2->S2 p=some (.lst [])->k (.ref p) S2):
    ∀ (rest:List (List Int×D)) (l0:Option D) (S1:DH),(∀ p∈rest,p∈l)->Ext S S1->S1 p=some (.lst [])->
      dCLoop (fun S=>S f=some (dTo l e1)) p (dgName 0) (bdIf (dNotT (dTest (dCall (F__law_same 8) (dCons (dVar 0) (dCons (dTup (dCons (dOp dIxE (dVar 0) (dC (.int 0))) (dCons (dOp dIxE (dVar 0) (dC (.int 1))) dNil))) dNil))))) (dVar 0)) k (outD DIt.k rest) [] [l0] S1
  | [],l0,S1,_,x1,h1=>⟨x1 _ _ hf,kk S1 x1 h1⟩
  | q::rest,l0,S1,hr,x1,h1=>by
    obtain⟨i,j,e⟩:=two q (hr q List.mem_cons_self)
    show dCLoop _ _ _ _ _ (keyD q.1::outD DIt.k rest) _ _ _
    rw [e]
    refine⟨x1 _ _ hf,few,same_two (n:=6),fun S2 x2=>ite_b (fun z=>by cases z) (fun _=>?_)⟩
    exact kloop hp hf two kk rest _ _ (fun p hp=>hr p (List.mem_cons_of_mem _ hp)) (x1.trans x2) (x2 _ _ h1)
def F__law_alike:DSp:=fun ds S k=>∃ (a b:Addr) (ns ns':List (List Int×Rat)) (e1 e2:Nat),ds=[.ref a,.ref b]/\S a=some (dTo (cvD ns) e1)/\S b=some (dTo (cvD ns') e2)/\ns.length=ns'.length/\(ns.map (·.1)).Nodup/\(ns'.map (·.1)).Nodup/\(∀ p∈ns',p∈ns)/\(∀ p∈ns,∃ i j,p.1=[i,j])/\∀ S',Ext S S'->k (.bl true) S'
theorem sc__law_alike:FnScope ["found","due","powers"] ["found","due"] (defScope s__law_alike):=⟨rfl,rfl,rfl,by decide +kernel,rfl,by decide +kernel,by decide +kernel⟩
theorem ok__law_alike {P:Program} {w:World} {K:Fg} {mg:Str->Option Value} {base:Heap} {f:Addr} {fd:FuncData} (Fn:Fun K "_law_alike" "_law_alike" s__law_alike f fd) (c__law_same:Own P w K mg base "_law_same" 8 (F__law_same 8)) (z_len:mg "len"=none) (z_isinstance:mg "isinstance"=none) (z_dict:mg "dict"=none):
    FnOk P w K mg base CX0 9 f fd ["found","due"] (spU K F__law_alike):=by
  refine Fn.okJ sc__law_alike (fun ds S k h=>?_) (fun cdv A outer s H E hr=>⟨_,(ds_consj (dst_ifj (WJ.pt (dw_orj (dt_notj (dt_valj (d_callBj b_isiD rfl z_isinstance bt_isinstance (da_consj (d_varj 0) (da_consj (d_tyj (n:=.dic) rfl z_dict bt_dict) da_nilj))))) (dw_or1j (dt_cmpj (o_neL hr) (d_callBj b_lenD rfl z_len bt_len (da_consj (d_varj 0) da_nilj)) (d_callBj b_lenD rfl z_len bt_len (da_consj (d_varj 1) da_nilj)) (nomark _))))) (ds_onej (dst_retj d_blj)) ds_nilj) (ds_consj (dst_forIj PassesOwn.never rfl (i_keysj (d_varj 1)) (dg_namej (i:=2) sc__law_alike.nd) (ds_onej (dst_ifj (WJ.pt (dw_orj (dt_cmpj (o_notInD hr) (d_varj 2) (d_varj 0) (by with_unfolding_all rfl)) (dw_or1j (dt_notj (dt_valj (d_callj c__law_same (hr.mono (by decide)) rfl (da_consj (d_dgetj hr (d_varj 0) (d_varj 2) (fun _ _=>rfl)) (da_consj (d_dgetj hr (d_varj 1) (d_varj 2) (fun _ _=>rfl)) da_nilj)))))))) (ds_onej (dst_retj d_blj)) ds_nilj))) (ds_onej (dst_retj (d_cmpj (o_eqX hr) (d_compIIfj rfl (compSc (N:=["powers"]) (cap:=[none]) rfl rfl rfl rfl trivial rfl rfl trivial) (i_keysj (d_varj 0)) (fun _ _ _ _=>(dg_namej (i:=0) (show List.Nodup (["powers"]:List Str) from by decide +kernel))) (fun _ _ _ _=>(dt_notj (dt_valj (d_callj c__law_same (hr.mono (by decide)) rfl (da_consj (d_varj 0) (da_consj (d_tupj (da_consj (d_ixj x_ixE (d_varj 0) d_intj (fun _ _=>rfl)) (da_consj (d_ixj x_ixE (d_varj 0) d_intj (fun _ _=>rfl)) da_nilj))) da_nilj)))))) (fun _ _ _ _=>(d_varj 0))) (d_lstj da_nilj) (nomark _)))))),fun ds S k h=>?_⟩)
  · obtain⟨_,_,_,_,_,_,rfl,_⟩:=h
    rfl
  · obtain⟨a,b,ns,ns',e1,e2,rfl,ha,hb,hl,nd,nd',sub,two,w⟩:=h
    have el:((cvD ns).length:Int)=((cvD ns').length:Int):=by rw [kvD_len,kvD_len,hl]
    refine⟨_,_,ha,_,_,ha,_,_,hb,true,by rw [el]; show some ((_:Int) == _)=some true; simp,_,_,hb,?_⟩
    have eo:outD DIt.k (cvD ns')=ns'.map fun x=>keyD x.1:=by show List.map _ (List.map _ ns')=_; rw [List.map_map]; rfl
    rw [eo]
    refine loop_ix (fun r L S'=>∃ (rest:List (List Int×Rat)) (l2:Option D),(∀ p∈rest,p∈ns')/\r=rest.map (fun x=>keyD x.1)/\L=[some (.ref a),some (.ref b),l2]/\Ext S S') (fun r L S' ⟨_,_,_,_,_,x⟩=>x _ _ hb) ?_ ?_ _ _ _ ⟨ns',none,fun _ h=>h,rfl,rfl,Ext.refl S⟩
    · rintro d r L S1 N1 ⟨rest,l2,hr,er,rfl,x1⟩ hN
      cases rest with
      | nil=>cases er
      | cons q rest=>
        cases er
        have m1:=hr q List.mem_cons_self
        have g1:getT (cvD ns) q.1=some (fr q.2):=getT_some nd (sub q m1)
        have g2:getT (cvD ns') q.1=some (fr q.2):=getT_some nd' m1
        refine⟨_,_,q.1,x1 _ _ ha,rfl,ite_b (fun z=>?_) (fun _=>?_)⟩
        · rw [g1] at z
          cases z
        · exact⟨_,_,q.1,_,x1 _ _ ha,rfl,g1,_,_,q.1,_,x1 _ _ hb,rfl,g2,same_two (n:=6),fun S2 x2=>hN _ _ ⟨rest,_,fun p hp=>hr p (List.mem_cons_of_mem _ hp),rfl,rfl,x1.trans x2⟩⟩
    · rintro L S1 ⟨rest,l2,hr,er,rfl,x1⟩
      refine⟨_,_,x1 _ _ ha,fun p hp=>kloop hp (x1 _ _ ha) (fun q hq=>?_) (fun S2 x2 h2=>⟨few,fun p2 hp2=>⟨[],[],true,put_keep hp2 h2,put_same,rfl,rfl,w _ ((x1.trans x2).trans (Ext.new hp2))⟩⟩) _ none _ (fun _ h=>h) (Ext.new hp) put_same⟩
      obtain⟨x,hx,rfl⟩:=List.mem_map.mp hq
      exact two x hx
theorem eq_int {n:Nat} {i j:Int}:eqT n (.int i) (.int j)=some (i == j):=by cases n <;> rfl
theorem eq_fr {n:Nat} {p q:Rat}:eqT (n+1) (fr p) (fr q)=some (decide (p=q)):=by
  show eqTs (eqT n) [.int p.num,.int (p.den:Int)] [.int q.num,.int (q.den:Int)]=_
  show(match eqT n (.int p.num) (.int q.num),(match eqT n (.int (p.den:Int)) (.int (q.den:Int)),some true with | some a,some b=>some (a && b) | _,_=>none) with | some a,some b=>some (a && b) | _,_=>none)=_
  rw [eq_int,eq_int]
  show some ((p.num == q.num) && (((p.den:Int) == (q.den:Int)) && true))=_
  congr 1
  rw [Bool.and_true,Bool.eq_iff_iff]
  simp only [Bool.and_eq_true,beq_iff_eq,decide_eq_true_eq]
  exact⟨fun ⟨a,b⟩=>Rat.ext a (by exact_mod_cast b),fun h=>by subst h; exact⟨rfl,rfl⟩⟩
theorem eq_two {n:Nat} {a b c d:D} {p q:Bool} (h1:eqT n a c=some p) (h2:eqT n b d=some q):eqT (n+1) (.tup [a,b]) (.tup [c,d])=some (p && q):=by
  show(match eqT n a c,(match eqT n b d,some true with | some a,some b=>some (a && b) | _,_=>none) with | some a,some b=>some (a && b) | _,_=>none)=_
  rw [h1,h2]
  show some (p && (q && true))=_
  rw [Bool.and_true]
def cvN (ns:List (List Int×Int)):List (List Int×Rat):=ns.map fun p=>(p.1,(p.2:Rat))
theorem nm_cv {ns:List (List Int×Int)}:nmD ns=cvD (cvN ns):=by
  show _=List.map _ (List.map _ ns)
  rw [List.map_map]
  rfl
theorem cvN_keys {ns:List (List Int×Int)}:(cvN ns).map (·.1)=ns.map (·.1):=by
  unfold cvN
  rw [List.map_map]
  rfl
theorem cvN_sub {ns ns':List (List Int×Int)} (h:∀ p∈ns,p∈ns'):∀ p∈cvN ns,p∈cvN ns':=fun p hp=>by
  obtain⟨q,hq,rfl⟩:=List.mem_map.mp hp
  exact List.mem_map.mpr ⟨q,h q hq,rfl⟩
set_option maxHeartbeats 4000000
structure Fr (z:Cp):Prop where
  ox:Sd 4 3 z.ox
  oy:Sd 4 3 z.oy
  px:Sd 5 3 z.px
  py:Sd 4 3 z.py
  cr:Sd 4 3 z.cr
  al:Sd 4 3 z.al
  le:Sd 4 3 z.le
def cpD (z:Cp):D:=.tup [W z.ox z.oy,W z.px z.py,fr z.cr,.tup [fr z.s0,fr z.s1],W z.al z.le]
theorem seq_ifx {c:DT} {t e b2:DS} {M:DEnds} {L:Lo} {S:DH} (P:Lo->DH->Prop) (h2:∀ L S,P L S->b2 M L S) (h1:(∀ L S,P L S->b2 M L S)->dIfS c t e {M with nx:=b2 M} L S):dSeq (dIfS c t e) b2 M L S:=h1 h2
def F__law_four_rods:DSp:=fun ds S k=>∃ a,ds=[.ref a]/\SOK S a/\∀ z S',Fr z->Sd 8 3 z.s0->Sd 8 3 z.s1->Dr a S S'->k (cpD z) S'
theorem sc__law_four_rods:FnScope ["state","one","other","squares","places"] ["state"] (defScope s__law_four_rods):=⟨rfl,rfl,rfl,by decide +kernel,rfl,by decide +kernel,by decide +kernel⟩
theorem ok__law_four_rods {P:Program} {w:World} {K:Fg} {mg:Str->Option Value} {base:Heap} {f:Addr} {fd:FuncData} (Fn:Fun K "_law_four_rods" "_law_four_rods" s__law_four_rods f fd) (c__law_small:Own P w K mg base "_law_small" 3 F__law_small) (c__law_plus:Own P w K mg base "_law_plus" 3 F__law_plus) (c__law_times:Own P w K mg base "_law_times" 3 F__law_times) (c__law_above:Own P w K mg base "_law_above" 3 F__law_above) (c__law_take:Own P w K mg base "_law_take" 1 F__law_take):
    FnOk P w K mg base CX0 4 f fd ["state"] (spU K F__law_four_rods):=by
  refine Fn.okJ sc__law_four_rods (fun ds S k h=>?_) (fun cdv A outer s H E hr=>⟨_,(ds_consj (dst_setj (i:=1) sc__law_four_rods.nd (d_tupj (da_consj (d_callj c__law_small (hr.mono (by decide)) rfl (da_consj (d_varj 0) da_nilj)) (da_consj (d_callj c__law_small (hr.mono (by decide)) rfl (da_consj (d_varj 0) da_nilj)) da_nilj)))) (ds_consj (dst_setj (i:=2) sc__law_four_rods.nd (d_tupj (da_consj (d_callj c__law_small (hr.mono (by decide)) rfl (da_consj (d_varj 0) da_nilj)) (da_consj (d_callj c__law_small (hr.mono (by decide)) rfl (da_consj (d_varj 0) da_nilj)) da_nilj)))) (ds_consj (dst_ifj (dt_cmpj (o_eqX hr) (d_varj 1) (d_varj 2) (nomark _)) (ds_onej (dst_setj (i:=2) sc__law_four_rods.nd (d_tupj (da_consj (d_callj c__law_plus (hr.mono (by decide)) rfl (da_consj (d_ixj x_ixF (d_varj 2) d_intj (fun _ _=>rfl)) (da_consj (d_tupj (da_consj d_intj (da_consj d_intj da_nilj))) da_nilj))) (da_consj (d_ixj x_ixF (d_varj 2) d_intj (fun _ _=>rfl)) da_nilj))))) ds_nilj) (ds_consj (dst_setj (i:=3) sc__law_four_rods.nd (d_tupj (da_consj (d_callj c__law_times (hr.mono (by decide)) rfl (da_consj (d_callj c__law_above (hr.mono (by decide)) rfl (da_consj (d_varj 0) da_nilj)) (da_consj (d_tupj (da_consj d_intj (da_consj d_intj da_nilj))) da_nilj))) (da_consj (d_callj c__law_times (hr.mono (by decide)) rfl (da_consj (d_callj c__law_above (hr.mono (by decide)) rfl (da_consj (d_varj 0) da_nilj)) (da_consj (d_tupj (da_consj d_intj (da_consj d_intj da_nilj))) da_nilj))) da_nilj)))) (ds_consj (dst_setj (i:=4) sc__law_four_rods.nd (d_lstj (da_consj (d_tupj (da_consj (d_callj c__law_small (hr.mono (by decide)) rfl (da_consj (d_varj 0) da_nilj)) (da_consj (d_callj c__law_small (hr.mono (by decide)) rfl (da_consj (d_varj 0) da_nilj)) da_nilj))) (da_consj (d_tupj (da_consj (d_tupj (da_consj d_intj (da_consj d_intj da_nilj))) (da_consj (d_tupj (da_consj d_intj (da_consj d_intj da_nilj))) da_nilj))) (da_consj (d_tupj (da_consj (d_tupj (da_consj d_intj (da_consj d_intj da_nilj))) (da_consj (d_callj c__law_small (hr.mono (by decide)) rfl (da_consj (d_varj 0) da_nilj)) da_nilj))) (da_consj (d_tupj (da_consj (d_tupj (da_consj d_intj (da_consj d_intj da_nilj))) (da_consj (d_tupj (da_consj d_intj (da_consj d_intj da_nilj))) da_nilj))) da_nilj)))))) (ds_onej (dst_retj (d_tupj (da_consj (d_varj 1) (da_consj (d_varj 2) (da_consj (d_callj c__law_above (hr.mono (by decide)) rfl (da_consj (d_varj 0) da_nilj)) (da_consj (d_varj 3) (da_consj (d_ixj x_ixF (d_varj 4) (d_callj c__law_take (hr.mono (by decide)) rfl (da_consj (d_varj 0) (da_consj d_intj da_nilj))) (fun _ _=>rfl)) da_nilj))))))))))))),fun ds S k h=>?_⟩)
  · obtain⟨_,rfl,_⟩:=h
    rfl
  · obtain⟨a,rfl,hS,w⟩:=h
    refine⟨a,rfl,hS,fun ox S1 hox d1=>⟨a,rfl,d1.1,fun oy S2 hoy d2=>⟨few,a,rfl,d2.1,fun px S3 hpx d3=>⟨a,rfl,d3.1,fun py S4 hpy d4=>⟨few,?_⟩⟩⟩⟩⟩
    dsimp only
    refine seq_ifx (fun L S'=>S'=S4/\∃ px',L=[some (.ref a),some (W ox oy),some (W px' py),none,none]/\Sd 5 3 px') ?_ (fun go=>?_)
    rotate_left
    · refine⟨_,eq_two (n:=7) (eq_fr (n:=6)) (eq_fr (n:=6)),ite_b (fun _=>?_) (fun _=>go [some (.ref a),some (W ox oy),some (W px py),none,none] _ ⟨rfl,px,rfl,hpx.num.mono (by decide),hpx.den⟩)⟩
      have n1:(px.den:Int)*1≠0:=by have:=den_p px; omega
      have b1:Bt 5 (px.num*1+1*(px.den:Int)):=by
        have h1:=hpx.num
        have h2:=hpx.den
        unfold Bt at*
        omega
      have b2:Bt 3 ((px.den:Int)*1):=by rw [Int.mul_one]; exact hpx.den
      exact⟨_,rfl,few,_,_,1,1,_,rfl,n1,hpx.num.mono (by decide),hpx.den.mono (by decide),by decide,by decide,rfl,_,rfl,few,go [some (.ref a),some (W ox oy),some (W _ py),none,none] _ ⟨rfl,_,rfl,Sd.divInt b1 b2 n1⟩⟩
    rintro L S' ⟨rfl,px',rfl,hpx'⟩
    have D4:=d1.trans (d2.trans (d3.trans d4))
    have nine:∀ {q:Rat},Sd 4 3 q->(q.den:Int)*1≠0/\Sd 8 3 (Rat.divInt (q.num*9) ((q.den:Int)*1)):=fun {q} hq=>by
      have n1:(q.den:Int)*1≠0:=by have:=den_p q; omega
      exact⟨n1,Sd.divInt (hq.num.mul (show Bt 4 9 by decide)) (by rw [Int.mul_one]; exact hq.den) n1⟩
    refine⟨a,rfl,d4.1,fun s0 S5 hs0 d5=>⟨few,_,_,9,1,_,rfl,(nine hs0).1,hs0.num.mono (by decide),hs0.den.mono (by decide),by decide,by decide,rfl,a,rfl,d5.1,fun s1 S6 hs1 d6=>⟨few,_,_,9,1,_,rfl,(nine hs1).1,hs1.num.mono (by decide),hs1.den.mono (by decide),by decide,by decide,rfl,few,?_⟩⟩⟩
    refine⟨a,rfl,d6.1,fun al S7 hal d7=>⟨a,rfl,d7.1,fun le S8 hle d8=>⟨few,few,few,few,few,a,rfl,d8.1,fun le2 S9 hle2 d9=>⟨few,few,few,few,few,fun l hl=>?_⟩⟩⟩⟩
    have D9:=D4.trans (d5.trans (d6.trans (d7.trans (d8.trans d9))))
    refine⟨a,rfl,d9.1.new hl,fun cr Sa hcr da=>⟨a,4,rfl,by decide,by decide,da.1,fun r Sb r0 r1 db=>?_⟩⟩
    have yl:=db.keep (d9.1.ne hl) (da.keep (d9.1.ne hl) (put_same (S:=S9) (a:=l) (o:=.lst [W al le,.tup [.tup [.int 1,.int 2],.tup [.int 0,.int 1]],.tup [.tup [.int 0,.int 1],fr le2],.tup [.tup [.int 1,.int 1],.tup [.int 0,.int 1]]])))
    obtain⟨c,hc,hm⟩:=atI_mem (ds:=[W al le,.tup [.tup [.int 1,.int 2],.tup [.int 0,.int 1]],.tup [.tup [.int 0,.int 1],fr le2],.tup [.tup [.int 1,.int 1],.tup [.int 0,.int 1]]]) r0 r1
    obtain⟨al',le',rfl,ha',hl'⟩:∃ al' le':Rat,c=W al' le'/\Sd 4 3 al'/\Sd 4 3 le':=by
      simp only [List.mem_cons,List.not_mem_nil,or_false] at hm
      have z0:Sd 4 3 (0:Rat):=⟨by decide,by decide⟩
      rcases hm with rfl | rfl | rfl | rfl
      · exact⟨al,le,rfl,hal,hle⟩
      · exact⟨⟨1,2,by decide,by decide⟩,0,rfl,⟨by decide,by decide⟩,z0⟩
      · exact⟨0,le2,rfl,z0,hle2⟩
      · exact⟨1,0,rfl,⟨by decide,by decide⟩,z0⟩
    have Dq:=D9.trans ((Dr.new d9.1 hl).trans (da.trans db))
    exact⟨_,_,yl,hc,few,w ⟨ox,oy,px',py,cr,_,_,al',le'⟩ Sb ⟨hox,hoy,hpx',hpy,hcr,ha',hl'⟩ (nine hs0).2 (nine hs1).2 Dq⟩
theorem wf_ln {a b r:Rat} {M:Int} {T:Nat} (ha:∃ t:Int,Bt T t/\(M:Rat)*a=t) (hb:∃ t:Int,Bt T t/\(M:Rat)*b=t) (hr:∃ t:Int,Bt T t/\(M:Rat)*r=t):Wf 1 M T (gR (ln3 a b r)):=⟨fun k n=>by
  rw [gR_ln3] at n
  by_cases h1:k=[1,0]
  · exact⟨1,0,h1,by decide,by decide,by decide⟩
  by_cases h2:k=[0,1]
  · exact⟨0,1,h2,by decide,by decide,by decide⟩
  by_cases h3:k=[0,0]
  · exact⟨0,0,h3,by decide,by decide,by decide⟩
  rw [if_neg h1,if_neg h2,if_neg h3] at n
  exact absurd rfl n,fun k=>by
  rw [gR_ln3]
  split
  · exact ha
  split
  · exact hb
  split
  · exact hr
  · exact⟨0,HM.Bt.zero,by rw [Rat.mul_zero]; rfl⟩⟩
theorem dn_one {x:Rat} {n:Nat} (h:Sz n x):∃ t:Int,Bt n t/\((x.den:Int):Rat)*1=t:=⟨x.den,h.den,Rat.mul_one _⟩
theorem dn_zero {M:Int} {n:Nat}:∃ t:Int,Bt n t/\(M:Rat)*0=t:=⟨0,HM.Bt.zero,by rw [Rat.mul_zero]; rfl⟩
theorem dn_neg {x:Rat} {n:Nat} (h:Sz n x):∃ t:Int,Bt n t/\((x.den:Int):Rat)*-x=t:=⟨-x.num,h.num.neg',by
  have d:=den_mulq x
  rw [Rat.intCast_neg,<- d]
  grind⟩
theorem L3.ok {a b r:Rat} {g:List (List Int×Rat)} {M:Int} {T:Nat} (h:L3 a b r g) (w:Wf 1 M T (gR (ln3 a b r))) (M0:0 < M) (bM:Bt 200 M) (hT:T<=390):Ok 1 M (gR (ln3 a b r)) g:=⟨h.res,w.mono hT,by decide,M0,bM⟩
def F__law_rounds:DSp:=fun ds S k=>∃ (a b:Addr) (c c':List (List Int×Rat)) (e e':Nat) (x y u v q s:Rat),ds=[.ref a,.ref b,fr q,W u v,fr s]/\S a=some (dTo (cvD c) e)/\S b=some (dTo (cvD c') e')/\L3 1 0 (-x) c/\L3 0 1 (-y) c'/\Sz 30 x/\Sz 30 y/\Sz 8 u/\Sz 8 v/\Sz 31 q/\Sz 30 s/\∀ S' p ep g,Ext S S'->S p=none->Res (gR (cr5 x y (s - (u*u+v*v)*q))) g->S' p=some (dTo (cvD g) ep)->k (.ref p) S'
theorem sc__law_rounds:FnScope ["first","second","square","numbers","off","found","more"] ["first","second","square","numbers","off"] (defScope s__law_rounds):=⟨rfl,rfl,rfl,by decide +kernel,rfl,by decide +kernel,by decide +kernel⟩
theorem ok__law_rounds {P:Program} {w:World} {K:Fg} {mg:Str->Option Value} {base:Heap} {f:Addr} {fd:FuncData} (Fn:Fun K "_law_rounds" "_law_rounds" s__law_rounds f fd) (c__law_added:Own P w K mg base "_law_added" 4 F__law_added) (c__law_multiplied:Own P w K mg base "_law_multiplied" 4 F__law_multiplied) (c__law_plus:Own P w K mg base "_law_plus" 3 F__law_plus) (c__law_times:Own P w K mg base "_law_times" 3 F__law_times) (c__law_minus:Own P w K mg base "_law_minus" 3 F__law_minus):
    FnOk P w K mg base CX0 5 f fd ["first","second","square","numbers","off"] (spU K F__law_rounds):=by
  refine Fn.okJ sc__law_rounds (fun ds S k h=>?_) (fun cdv A outer s H E hr=>⟨_,(ds_consj (dst_setj (i:=5) sc__law_rounds.nd (d_callj c__law_added (hr.mono (by decide)) rfl (da_consj (d_callj c__law_multiplied (hr.mono (by decide)) rfl (da_consj (d_varj 0) (da_consj (d_varj 0) da_nilj))) (da_consj (d_callj c__law_multiplied (hr.mono (by decide)) rfl (da_consj (d_varj 1) (da_consj (d_varj 1) da_nilj))) (da_consj (d_tupj (da_consj d_intj (da_consj d_intj da_nilj))) da_nilj))))) (ds_consj (dst_setj (i:=6) sc__law_rounds.nd (d_callj c__law_plus (hr.mono (by decide)) rfl (da_consj (d_callj c__law_times (hr.mono (by decide)) rfl (da_consj (d_ixj x_ixE (d_varj 3) d_intj (fun _ _=>rfl)) (da_consj (d_ixj x_ixE (d_varj 3) d_intj (fun _ _=>rfl)) da_nilj))) (da_consj (d_callj c__law_times (hr.mono (by decide)) rfl (da_consj (d_ixj x_ixE (d_varj 3) d_intj (fun _ _=>rfl)) (da_consj (d_ixj x_ixE (d_varj 3) d_intj (fun _ _=>rfl)) da_nilj))) da_nilj)))) (ds_onej (dst_retj (d_callj c__law_added (hr.mono (by decide)) rfl (da_consj (d_varj 5) (da_consj (d_dispj hr (pj_cons (d_tupj (da_consj d_intj (da_consj d_intj da_nilj))) (d_tupj (da_consj d_intj (da_consj d_intj da_nilj))) pj_nil)) (da_consj (d_callj c__law_minus (hr.mono (by decide)) rfl (da_consj (d_callj c__law_times (hr.mono (by decide)) rfl (da_consj (d_varj 6) (da_consj (d_varj 2) da_nilj))) (da_consj (d_varj 4) da_nilj))) da_nilj)))))))),fun ds S k h=>?_⟩)
  · obtain⟨_,_,_,_,_,_,_,_,_,_,_,_,rfl,_⟩:=h
    rfl
  · obtain⟨a,b,c,c',e,e',x,y,u,v,q,s,rfl,ha,hb,hc,hc',hx,hy,hu,hv,hq,hs,w⟩:=h
    have o1:Sz 1 (1:Rat):=⟨by decide,by decide⟩
    have z1:Sz 1 (0:Rat):=⟨by decide,by decide⟩
    have okc:=hc.ok (wf_ln (dn_one hx) dn_zero (dn_neg hx)) (den_p x) (hx.den.mono (by decide)) (by decide)
    have okc':=hc'.ok (wf_ln dn_zero (dn_one hy) (dn_neg hy)) (den_p y) (hy.den.mono (by decide)) (by decide)
    refine⟨a,a,c,c,e,e,_,_,rfl,ha,ha,okc.cv,okc.cv,okc.M0,okc.M0,okc.bM.mono (by decide),okc.bM.mono (by decide),okc.dn,okc.dn,fun S1 p1 e1 g1 x1 n1 r1 h1=>?_⟩
    refine⟨b,b,c',c',e',e',_,_,rfl,x1 _ _ hb,x1 _ _ hb,okc'.cv,okc'.cv,okc'.M0,okc'.M0,okc'.bM.mono (by decide),okc'.bM.mono (by decide),okc'.dn,okc'.dn,fun S2 p2 e2 g2 x2 n2 r2 h2=>?_⟩
    have t1:S6 1 0 0 (-(x+x)) 0 (x*x) g1:=⟨r1.congr fun k=>by
      rw [hc.mul hc k]
      congr 2 <;> grind⟩
    have t2:S6 0 1 0 0 (-(y+y)) (y*y) g2:=⟨r2.congr fun k=>by
      rw [hc'.mul hc' k]
      congr 2 <;> grind⟩
    have v1:=(t1.cv (m:=900) (o1.mono (by decide)) (z1.mono (by decide)) (z1.mono (by decide)) ((hx.add hx).neg.mono (by decide)) (z1.mono (by decide)) ((hx.mul hx).mono (by decide))).mono (n':=28) (m':=900) (b':=6) (by decide) (by decide) (by decide)
    have v2:=(t2.cv (m:=900) (z1.mono (by decide)) (o1.mono (by decide)) (z1.mono (by decide)) (z1.mono (by decide)) ((hy.add hy).neg.mono (by decide)) ((hy.mul hy).mono (by decide))).mono (n':=28) (m':=900) (b':=6) (by decide) (by decide) (by decide)
    refine⟨few,p1,p2,g1,g2,e1,e2,1,rfl,x2 _ _ h1,h2,v1,v2,o1.mono (by decide),fun S3 p3 e3 g3 x3 n3 r3 h3=>?_⟩
    have t3:=t1.plus t2 r3
    have sw:=(hu.mul hu).add (hv.mul hv)
    have sq:=sw.mul hq
    have st:=sq.sub hs
    have v3:=(t3.cv (m:=900) ((o1.add (z1.mul o1)).mono (by decide)) ((z1.add (o1.mul o1)).mono (by decide)) ((z1.add (z1.mul o1)).mono (by decide)) (((hx.add hx).neg.add (z1.mul o1)).mono (by decide)) ((z1.add ((hy.add hy).neg.mul o1)).mono (by decide)) (((hx.mul hx).add ((hy.mul hy).mul o1)).mono (by decide))).mono (n':=28) (m':=900) (b':=6) (by decide) (by decide) (by decide)
    have X3:=(x1.trans x2).trans x3
    refine⟨_,_,_,_,_,rfl,den_mul_ne (u) (u),(hu).num.mono (by decide),(hu).den.mono (by decide),(hu).num.mono (by decide),(hu).den.mono (by decide),mul_of (u) (u),_,_,_,_,_,rfl,den_mul_ne (v) (v),(hv).num.mono (by decide),(hv).den.mono (by decide),(hv).num.mono (by decide),(hv).den.mono (by decide),mul_of (v) (v),_,_,_,_,_,rfl,den_mul_ne (u*u) (v*v),(hu.mul hu).num.mono (by decide),(hu.mul hu).den.mono (by decide),(hv.mul hv).num.mono (by decide),(hv.mul hv).den.mono (by decide),add_of (u*u) (v*v),fun q5 hq5 e5=>⟨few,few,e5,cvD [([0,0],1)],put_same,rfl,by show 1<=15; decide,fun e6=>?_⟩⟩
    have x6:Ext S3 (put (put S3 q5 (dTo [] e5)) q5 (dTo (mergeT [] (cvD [([0,0],1)])) e6)):=(Ext.new hq5).put hq5
    have y6:put (put S3 q5 (dTo [] e5)) q5 (dTo (mergeT [] (cvD [([0,0],1)])) e6) q5=some (dTo (cvD [([0,0],1)]) e6):=put_same
    generalize put (put S3 q5 (dTo [] e5)) q5 (dTo (mergeT [] (cvD [([0,0],1)])) e6)=S6' at x6 y6 ⊢
    have c15:Cv 28 900 6 [([0,0],1)]:=⟨by decide,by decide,fun p hp=>by
      simp only [List.mem_cons,List.not_mem_nil,or_false] at hp
      subst hp
      exact⟨_,_,rfl,by decide,by decide,by decide,by decide⟩,fun p hp=>by
      simp only [List.mem_cons,List.not_mem_nil,or_false] at hp
      subst hp
      exact o1.mono (by decide)⟩
    refine⟨_,_,_,_,_,rfl,den_mul_ne (u*u+v*v) (q),(sw).num.mono (by decide),(sw).den.mono (by decide),(hq).num.mono (by decide),(hq).den.mono (by decide),mul_of (u*u+v*v) (q),_,_,rfl,sq.mono (by decide),hs.mono (by decide),p3,q5,g3,[([0,0],1)],e3,e6,_,rfl,x6 _ _ h3,y6,v3,c15,st.mono (by decide),fun S7 p7 e7 g7 x7 n7 r7 h7=>?_⟩
    have X7:=X3.trans x6
    refine w S7 p7 e7 g7 (X7.trans x7) (X7.none n7) ((t3.more r7).res.congr fun k=>?_) h7
    rw [<- six_cr]
    congr 2 <;> grind
theorem cv_one {i j:Int} {v:Rat} (i0:0<=i) (j0:0<=j) (i1:i<=6) (j1:j<=6) (hv:Sz 900 v):Cv 28 900 6 [([i,j],v)]:=⟨by simp,by show 1<=28; decide,fun p hp=>by
  simp only [List.mem_cons,List.not_mem_nil,or_false] at hp
  subst hp
  exact⟨_,_,rfl,i0,j0,i1,j1⟩,fun p hp=>by
  simp only [List.mem_cons,List.not_mem_nil,or_false] at hp
  subst hp
  exact hv⟩
theorem gR_none1 {k q:List Int} {x:Rat} (h:k≠q):gR [(q,x)] k=0:=gA_none (by simp only [List.map_cons,List.map_nil,List.mem_cons,List.not_mem_nil,or_false]; exact h)
theorem L3.nx {x:Rat} {g:List (List Int×Rat)} (h:Res (fun k=>gR [([1,0],1)] k+gR [([0,0],x)] k*-1) g):L3 1 0 (-x) g:=⟨h.congr fun k=>by
  rw [gR_ln3]
  by_cases h1:k=[1,0]
  · subst h1
    rw [if_pos rfl,show gR [([1,0],1)] [1,0]=1 from rfl,show gR [([0,0],x)] [1,0]=0 from rfl]
    grind
  rw [if_neg h1,gR_none1 h1]
  by_cases h3:k=[0,0]
  · subst h3
    rw [if_neg (by decide),if_pos rfl,show gR [([0,0],x)] [0,0]=x from rfl]
    grind
  rw [gR_none1 h3,if_neg h3]
  split <;> grind⟩
theorem L3.ny {x:Rat} {g:List (List Int×Rat)} (h:Res (fun k=>gR [([0,1],1)] k+gR [([0,0],x)] k*-1) g):L3 0 1 (-x) g:=⟨h.congr fun k=>by
  rw [gR_ln3]
  by_cases h1:k=[0,1]
  · subst h1
    rw [if_neg (by decide),if_pos rfl,show gR [([0,1],1)] [0,1]=1 from rfl,show gR [([0,0],x)] [0,1]=0 from rfl]
    grind
  rw [gR_none1 h1,if_neg h1]
  by_cases h3:k=[0,0]
  · subst h3
    rw [if_neg (by decide),if_pos rfl,show gR [([0,0],x)] [0,0]=x from rfl]
    grind
  rw [gR_none1 h3,if_neg h3]
  split <;> grind⟩
theorem L3.to {a b r a' b' r':Rat} {g:List (List Int×Rat)} (h:L3 a b r g) (e1:a=a') (e2:b=b') (e3:r=r'):Res (gR (ln3 a' b' r')) g:=by
  subst e1 e2 e3
  exact h.res
def F__law_coupler:DSp:=fun ds S k=>∃ (z:Cp) (M1 M2:Int),ds=[W z.ox z.oy,W z.px z.py,fr z.cr,.tup [fr z.s0,fr z.s1],W z.al z.le]/\CpOk z M1 M2/\∀ S' p ep g,Ext S S'->Res z.U g->(∃ gx gy gv,Res z.X gx/\Res z.Y gy/\Res z.V gv)->S' p=some (dTo (cvD g) ep)->k (.ref p) S'
theorem sc__law_coupler:FnScope ["one","other","crank","squares","place","rest","near","fixed","lesser","a","b","d","e","c","f","one_sum","other_sum","whole","found","along","left"] ["one","other","crank","squares","place"] (defScope s__law_coupler):=⟨rfl,rfl,rfl,by decide +kernel,rfl,by decide +kernel,by decide +kernel⟩
theorem ok__law_coupler {P:Program} {w:World} {K:Fg} {mg:Str->Option Value} {base:Heap} {f:Addr} {fd:FuncData} (Fn:Fun K "_law_coupler" "_law_coupler" s__law_coupler f fd) (c__law_minus:Own P w K mg base "_law_minus" 3 F__law_minus) (c__law_added:Own P w K mg base "_law_added" 4 F__law_added) (c__law_rounds:Own P w K mg base "_law_rounds" 5 F__law_rounds) (c__law_times:Own P w K mg base "_law_times" 3 F__law_times) (c__law_multiplied:Own P w K mg base "_law_multiplied" 4 F__law_multiplied):
    FnOk P w K mg base CX0 6 f fd ["one","other","crank","squares","place"] (spU K F__law_coupler):=by
  refine Fn.okJ sc__law_coupler (fun ds S k h=>?_) (fun cdv A outer s H E hr=>⟨_,(ds_consj (dst_asgj (d_varj 4) (dg_seqE (n:=2) rfl (dgs_consj (dg_namej (i:=19) sc__law_coupler.nd) (dgs_consj (dg_namej (i:=20) sc__law_coupler.nd) dgs_nilj)))) (ds_consj (dst_setj (i:=5) sc__law_coupler.nd (d_callj c__law_minus (hr.mono (by decide)) rfl (da_consj (d_tupj (da_consj d_intj (da_consj d_intj da_nilj))) (da_consj (d_varj 19) da_nilj)))) (ds_consj (dst_setj (i:=6) sc__law_coupler.nd (d_lstj da_nilj)) (ds_consj (dst_forEj PassesOwn.never rfl (d_tupj (da_consj (d_varj 0) (da_consj (d_varj 1) da_nilj))) (dg_namej (i:=7) sc__law_coupler.nd) (ds_consj (dst_exprj (d_appj (d_varj 6) (d_callj c__law_added (hr.mono (by decide)) rfl (da_consj (d_dispj hr (pj_cons (d_tupj (da_consj d_intj (da_consj d_intj da_nilj))) (d_tupj (da_consj d_intj (da_consj d_intj da_nilj))) pj_nil)) (da_consj (d_dispj hr (pj_cons (d_tupj (da_consj d_intj (da_consj d_intj da_nilj))) (d_ixj x_ixE (d_varj 7) d_intj (fun _ _=>rfl)) pj_nil)) (da_consj (d_tupj (da_consj (d_unj o_neg d_intj) (da_consj d_intj da_nilj))) da_nilj)))))) (ds_onej (dst_exprj (d_appj (d_varj 6) (d_callj c__law_added (hr.mono (by decide)) rfl (da_consj (d_dispj hr (pj_cons (d_tupj (da_consj d_intj (da_consj d_intj da_nilj))) (d_tupj (da_consj d_intj (da_consj d_intj da_nilj))) pj_nil)) (da_consj (d_dispj hr (pj_cons (d_tupj (da_consj d_intj (da_consj d_intj da_nilj))) (d_ixj x_ixE (d_varj 7) d_intj (fun _ _=>rfl)) pj_nil)) (da_consj (d_tupj (da_consj (d_unj o_neg d_intj) (da_consj d_intj da_nilj))) da_nilj))))))))) (ds_consj (dst_setj (i:=8) sc__law_coupler.nd (d_callj c__law_minus (hr.mono (by decide)) rfl (da_consj (d_tupj (da_consj d_intj (da_consj d_intj da_nilj))) (da_consj (d_varj 20) da_nilj)))) (ds_consj (dst_setj (i:=9) sc__law_coupler.nd (d_callj c__law_added (hr.mono (by decide)) rfl (da_consj (d_callj c__law_added (hr.mono (by decide)) rfl (da_consj d_dnewj (da_consj (d_ixj x_ixE (d_varj 6) d_intj (fun _ _=>rfl)) (da_consj (d_varj 19) da_nilj)))) (da_consj (d_ixj x_ixE (d_varj 6) d_intj (fun _ _=>rfl)) (da_consj (d_varj 20) da_nilj))))) (ds_consj (dst_setj (i:=10) sc__law_coupler.nd (d_callj c__law_added (hr.mono (by decide)) rfl (da_consj (d_callj c__law_added (hr.mono (by decide)) rfl (da_consj d_dnewj (da_consj (d_ixj x_ixE (d_varj 6) d_intj (fun _ _=>rfl)) (da_consj (d_varj 19) da_nilj)))) (da_consj (d_ixj x_ixE (d_varj 6) d_intj (fun _ _=>rfl)) (da_consj (d_varj 8) da_nilj))))) (ds_consj (dst_setj (i:=11) sc__law_coupler.nd (d_callj c__law_added (hr.mono (by decide)) rfl (da_consj (d_callj c__law_added (hr.mono (by decide)) rfl (da_consj d_dnewj (da_consj (d_ixj x_ixE (d_varj 6) d_intj (fun _ _=>rfl)) (da_consj (d_varj 20) da_nilj)))) (da_consj (d_ixj x_ixE (d_varj 6) d_intj (fun _ _=>rfl)) (da_consj (d_callj c__law_minus (hr.mono (by decide)) rfl (da_consj (d_tupj (da_consj d_intj (da_consj d_intj da_nilj))) (da_consj (d_varj 5) da_nilj))) da_nilj))))) (ds_consj (dst_setj (i:=12) sc__law_coupler.nd (d_callj c__law_added (hr.mono (by decide)) rfl (da_consj (d_callj c__law_added (hr.mono (by decide)) rfl (da_consj d_dnewj (da_consj (d_ixj x_ixE (d_varj 6) d_intj (fun _ _=>rfl)) (da_consj (d_varj 8) da_nilj)))) (da_consj (d_ixj x_ixE (d_varj 6) d_intj (fun _ _=>rfl)) (da_consj (d_callj c__law_minus (hr.mono (by decide)) rfl (da_consj (d_tupj (da_consj d_intj (da_consj d_intj da_nilj))) (da_consj (d_varj 5) da_nilj))) da_nilj))))) (ds_consj (dst_setj (i:=13) sc__law_coupler.nd (d_callj c__law_rounds (hr.mono (by decide)) rfl (da_consj (d_ixj x_ixE (d_varj 6) d_intj (fun _ _=>rfl)) (da_consj (d_ixj x_ixE (d_varj 6) d_intj (fun _ _=>rfl)) (da_consj (d_ixj x_ixE (d_varj 3) d_intj (fun _ _=>rfl)) (da_consj (d_tupj (da_consj (d_varj 19) (da_consj (d_varj 20) da_nilj))) (da_consj (d_callj c__law_times (hr.mono (by decide)) rfl (da_consj (d_varj 2) (da_consj (d_varj 2) da_nilj))) da_nilj))))))) (ds_consj (dst_setj (i:=14) sc__law_coupler.nd (d_callj c__law_rounds (hr.mono (by decide)) rfl (da_consj (d_ixj x_ixE (d_varj 6) d_intj (fun _ _=>rfl)) (da_consj (d_ixj x_ixE (d_varj 6) d_intj (fun _ _=>rfl)) (da_consj (d_ixj x_ixE (d_varj 3) d_intj (fun _ _=>rfl)) (da_consj (d_tupj (da_consj (d_varj 5) (da_consj (d_varj 20) da_nilj))) (da_consj (d_ixj x_ixE (d_varj 3) d_intj (fun _ _=>rfl)) da_nilj))))))) (ds_consj (dst_setj (i:=15) sc__law_coupler.nd (d_callj c__law_added (hr.mono (by decide)) rfl (da_consj (d_callj c__law_multiplied (hr.mono (by decide)) rfl (da_consj (d_varj 13) (da_consj (d_varj 12) da_nilj))) (da_consj (d_callj c__law_multiplied (hr.mono (by decide)) rfl (da_consj (d_varj 14) (da_consj (d_varj 10) da_nilj))) (da_consj (d_tupj (da_consj (d_unj o_neg d_intj) (da_consj d_intj da_nilj))) da_nilj))))) (ds_consj (dst_setj (i:=16) sc__law_coupler.nd (d_callj c__law_added (hr.mono (by decide)) rfl (da_consj (d_callj c__law_multiplied (hr.mono (by decide)) rfl (da_consj (d_varj 9) (da_consj (d_varj 14) da_nilj))) (da_consj (d_callj c__law_multiplied (hr.mono (by decide)) rfl (da_consj (d_varj 11) (da_consj (d_varj 13) da_nilj))) (da_consj (d_tupj (da_consj (d_unj o_neg d_intj) (da_consj d_intj da_nilj))) da_nilj))))) (ds_consj (dst_setj (i:=17) sc__law_coupler.nd (d_callj c__law_added (hr.mono (by decide)) rfl (da_consj (d_callj c__law_multiplied (hr.mono (by decide)) rfl (da_consj (d_varj 9) (da_consj (d_varj 12) da_nilj))) (da_consj (d_callj c__law_multiplied (hr.mono (by decide)) rfl (da_consj (d_varj 11) (da_consj (d_varj 10) da_nilj))) (da_consj (d_tupj (da_consj (d_unj o_neg d_intj) (da_consj d_intj da_nilj))) da_nilj))))) (ds_consj (dst_setj (i:=18) sc__law_coupler.nd (d_callj c__law_added (hr.mono (by decide)) rfl (da_consj (d_callj c__law_multiplied (hr.mono (by decide)) rfl (da_consj (d_varj 15) (da_consj (d_varj 15) da_nilj))) (da_consj (d_callj c__law_multiplied (hr.mono (by decide)) rfl (da_consj (d_varj 16) (da_consj (d_varj 16) da_nilj))) (da_consj (d_tupj (da_consj d_intj (da_consj d_intj da_nilj))) da_nilj))))) (ds_onej (dst_retj (d_callj c__law_added (hr.mono (by decide)) rfl (da_consj (d_varj 18) (da_consj (d_callj c__law_multiplied (hr.mono (by decide)) rfl (da_consj (d_varj 17) (da_consj (d_varj 17) da_nilj))) (da_consj (d_callj c__law_times (hr.mono (by decide)) rfl (da_consj (d_tupj (da_consj (d_unj o_neg d_intj) (da_consj d_intj da_nilj))) (da_consj (d_ixj x_ixE (d_varj 3) d_intj (fun _ _=>rfl)) da_nilj))) da_nilj))))))))))))))))))))),fun ds S k h=>?_⟩)
  · obtain⟨_,_,_,rfl,_⟩:=h
    rfl
  · obtain⟨z,M1,M2,rfl,h,w⟩:=h
    have o1:Sz 1 (1:Rat):=⟨by decide,by decide⟩
    have z1:Sz 1 (0:Rat):=⟨by decide,by decide⟩
    have m1:Sz 100 (-1:Rat):=⟨by decide,by decide⟩
    have O1:=o1.mono (show 1<=900 by decide)
    have Z1:=z1.mono (show 1<=900 by decide)
    have sr:=o1.sub h.al
    refine⟨([fr z.al,fr z.le],none),rfl,rfl,rfl,few,1,z.al,rfl,o1.mono (by decide),h.al.mono (by decide),few,fun na hna=>⟨few,_,rfl,trivial,?_⟩⟩
    have X0:Ext S (put S na (.lst [])):=Ext.new hna
    have N0:put S na (.lst []) na=some (.lst []):=put_same
    generalize put S na (.lst [])=S0 at X0 N0 ⊢
    refine⟨⟨_,N0⟩,fun q1 hq1 a1=>⟨few,few,a1,cvD [([1,0],1)],put_same,rfl,by show 1<=15; decide,fun b1=>?_⟩⟩
    have XA1:Ext S0 (put (put S0 q1 (dTo [] a1)) q1 (dTo (mergeT [] (cvD [([1,0],1)])) b1)):=(Ext.new hq1).put hq1
    have HA1:put (put S0 q1 (dTo [] a1)) q1 (dTo (mergeT [] (cvD [([1,0],1)])) b1) q1=some (dTo (cvD [([1,0],1)]) b1):=put_same
    generalize put (put S0 q1 (dTo [] a1)) q1 (dTo (mergeT [] (cvD [([1,0],1)])) b1)=T1 at XA1 HA1 ⊢
    refine fun r1 hr1 c1=>⟨few,c1,cvD [([0,0],z.ox)],put_same,rfl,by show 1<=15; decide,fun d1=>?_⟩
    have XB1:Ext T1 (put (put T1 r1 (dTo [] c1)) r1 (dTo (mergeT [] (cvD [([0,0],z.ox)])) d1)):=(Ext.new hr1).put hr1
    have HB1:put (put T1 r1 (dTo [] c1)) r1 (dTo (mergeT [] (cvD [([0,0],z.ox)])) d1) r1=some (dTo (cvD [([0,0],z.ox)]) d1):=put_same
    generalize put (put T1 r1 (dTo [] c1)) r1 (dTo (mergeT [] (cvD [([0,0],z.ox)])) d1)=R1 at XB1 HB1 ⊢
    refine⟨few,q1,r1,_,_,b1,d1,-1,rfl,XB1 _ _ HA1,HB1,cv_one (by decide) (by decide) (by decide) (by decide) O1,cv_one (by decide) (by decide) (by decide) (by decide) (h.ox.mono (by decide)),m1,fun V1 p1 e1 g1 XC1 NC1 G1 HC1=>⟨_,XC1 _ _ (XB1 _ _ (XA1 _ _ N0)),lim (by show 0<=100; decide),?_⟩⟩
    have XD1:Ext S0 V1:=(XA1.trans XB1).trans XC1
    have X1:Ext S (put V1 na (.lst ([]++[D.ref p1]))):=(X0.trans XD1).put hna
    have N1:put V1 na (.lst ([]++[D.ref p1])) na=some (.lst ([]++[D.ref p1])):=put_same
    have ne1:p1≠na:=fun q=>by rw [q,XD1 _ _ N0] at HC1; cases HC1
    have H1_1:put V1 na (.lst ([]++[D.ref p1])) p1=some (dTo (cvD g1) e1):=by rw [put_ne ne1]; exact HC1
    generalize put V1 na (.lst ([]++[D.ref p1]))=S1 at X1 N1 H1_1 ⊢
    have K1:=L3.nx G1
    clear HA1 HB1
    refine⟨⟨_,N1⟩,fun q2 hq2 a2=>⟨few,few,a2,cvD [([0,1],1)],put_same,rfl,by show 1<=15; decide,fun b2=>?_⟩⟩
    have XA2:Ext S1 (put (put S1 q2 (dTo [] a2)) q2 (dTo (mergeT [] (cvD [([0,1],1)])) b2)):=(Ext.new hq2).put hq2
    have HA2:put (put S1 q2 (dTo [] a2)) q2 (dTo (mergeT [] (cvD [([0,1],1)])) b2) q2=some (dTo (cvD [([0,1],1)]) b2):=put_same
    generalize put (put S1 q2 (dTo [] a2)) q2 (dTo (mergeT [] (cvD [([0,1],1)])) b2)=T2 at XA2 HA2 ⊢
    refine fun r2 hr2 c2=>⟨few,c2,cvD [([0,0],z.oy)],put_same,rfl,by show 1<=15; decide,fun d2=>?_⟩
    have XB2:Ext T2 (put (put T2 r2 (dTo [] c2)) r2 (dTo (mergeT [] (cvD [([0,0],z.oy)])) d2)):=(Ext.new hr2).put hr2
    have HB2:put (put T2 r2 (dTo [] c2)) r2 (dTo (mergeT [] (cvD [([0,0],z.oy)])) d2) r2=some (dTo (cvD [([0,0],z.oy)]) d2):=put_same
    generalize put (put T2 r2 (dTo [] c2)) r2 (dTo (mergeT [] (cvD [([0,0],z.oy)])) d2)=R2 at XB2 HB2 ⊢
    refine⟨few,q2,r2,_,_,b2,d2,-1,rfl,XB2 _ _ HA2,HB2,cv_one (by decide) (by decide) (by decide) (by decide) O1,cv_one (by decide) (by decide) (by decide) (by decide) (h.oy.mono (by decide)),m1,fun V2 p2 e2 g2 XC2 NC2 G2 HC2=>⟨_,XC2 _ _ (XB2 _ _ (XA2 _ _ N1)),lim (by show 1<=100; decide),?_⟩⟩
    have XD2:Ext S1 V2:=(XA2.trans XB2).trans XC2
    have X2:Ext S (put V2 na (.lst (([]++[D.ref p1])++[D.ref p2]))):=(X1.trans XD2).put hna
    have N2:put V2 na (.lst (([]++[D.ref p1])++[D.ref p2])) na=some (.lst (([]++[D.ref p1])++[D.ref p2])):=put_same
    have ne2:p2≠na:=fun q=>by rw [q,XD2 _ _ N1] at HC2; cases HC2
    have H2_2:put V2 na (.lst (([]++[D.ref p1])++[D.ref p2])) p2=some (dTo (cvD g2) e2):=by rw [put_ne ne2]; exact HC2
    have H1_2:put V2 na (.lst (([]++[D.ref p1])++[D.ref p2])) p1=some (dTo (cvD g1) e1):=by rw [put_ne ne1]; exact XD2 _ _ H1_1
    generalize put V2 na (.lst (([]++[D.ref p1])++[D.ref p2]))=S2 at X2 N2 H1_2 H2_2 ⊢
    have K2:=L3.ny G2
    clear HA2 HB2
    refine⟨trivial,⟨_,N2⟩,fun q3 hq3 a3=>⟨few,few,a3,cvD [([1,0],1)],put_same,rfl,by show 1<=15; decide,fun b3=>?_⟩⟩
    have XA3:Ext S2 (put (put S2 q3 (dTo [] a3)) q3 (dTo (mergeT [] (cvD [([1,0],1)])) b3)):=(Ext.new hq3).put hq3
    have HA3:put (put S2 q3 (dTo [] a3)) q3 (dTo (mergeT [] (cvD [([1,0],1)])) b3) q3=some (dTo (cvD [([1,0],1)]) b3):=put_same
    generalize put (put S2 q3 (dTo [] a3)) q3 (dTo (mergeT [] (cvD [([1,0],1)])) b3)=T3 at XA3 HA3 ⊢
    refine fun r3 hr3 c3=>⟨few,c3,cvD [([0,0],z.px)],put_same,rfl,by show 1<=15; decide,fun d3=>?_⟩
    have XB3:Ext T3 (put (put T3 r3 (dTo [] c3)) r3 (dTo (mergeT [] (cvD [([0,0],z.px)])) d3)):=(Ext.new hr3).put hr3
    have HB3:put (put T3 r3 (dTo [] c3)) r3 (dTo (mergeT [] (cvD [([0,0],z.px)])) d3) r3=some (dTo (cvD [([0,0],z.px)]) d3):=put_same
    generalize put (put T3 r3 (dTo [] c3)) r3 (dTo (mergeT [] (cvD [([0,0],z.px)])) d3)=R3 at XB3 HB3 ⊢
    refine⟨few,q3,r3,_,_,b3,d3,-1,rfl,XB3 _ _ HA3,HB3,cv_one (by decide) (by decide) (by decide) (by decide) O1,cv_one (by decide) (by decide) (by decide) (by decide) (h.px.mono (by decide)),m1,fun V3 p3 e3 g3 XC3 NC3 G3 HC3=>⟨_,XC3 _ _ (XB3 _ _ (XA3 _ _ N2)),lim (by show 2<=100; decide),?_⟩⟩
    have XD3:Ext S2 V3:=(XA3.trans XB3).trans XC3
    have X3:Ext S (put V3 na (.lst ((([]++[D.ref p1])++[D.ref p2])++[D.ref p3]))):=(X2.trans XD3).put hna
    have N3:put V3 na (.lst ((([]++[D.ref p1])++[D.ref p2])++[D.ref p3])) na=some (.lst ((([]++[D.ref p1])++[D.ref p2])++[D.ref p3])):=put_same
    have ne3:p3≠na:=fun q=>by rw [q,XD3 _ _ N2] at HC3; cases HC3
    have H3_3:put V3 na (.lst ((([]++[D.ref p1])++[D.ref p2])++[D.ref p3])) p3=some (dTo (cvD g3) e3):=by rw [put_ne ne3]; exact HC3
    have H1_3:put V3 na (.lst ((([]++[D.ref p1])++[D.ref p2])++[D.ref p3])) p1=some (dTo (cvD g1) e1):=by rw [put_ne ne1]; exact XD3 _ _ H1_2
    have H2_3:put V3 na (.lst ((([]++[D.ref p1])++[D.ref p2])++[D.ref p3])) p2=some (dTo (cvD g2) e2):=by rw [put_ne ne2]; exact XD3 _ _ H2_2
    generalize put V3 na (.lst ((([]++[D.ref p1])++[D.ref p2])++[D.ref p3]))=S3 at X3 N3 H1_3 H2_3 H3_3 ⊢
    have K3:=L3.nx G3
    clear HA3 HB3
    refine⟨⟨_,N3⟩,fun q4 hq4 a4=>⟨few,few,a4,cvD [([0,1],1)],put_same,rfl,by show 1<=15; decide,fun b4=>?_⟩⟩
    have XA4:Ext S3 (put (put S3 q4 (dTo [] a4)) q4 (dTo (mergeT [] (cvD [([0,1],1)])) b4)):=(Ext.new hq4).put hq4
    have HA4:put (put S3 q4 (dTo [] a4)) q4 (dTo (mergeT [] (cvD [([0,1],1)])) b4) q4=some (dTo (cvD [([0,1],1)]) b4):=put_same
    generalize put (put S3 q4 (dTo [] a4)) q4 (dTo (mergeT [] (cvD [([0,1],1)])) b4)=T4 at XA4 HA4 ⊢
    refine fun r4 hr4 c4=>⟨few,c4,cvD [([0,0],z.py)],put_same,rfl,by show 1<=15; decide,fun d4=>?_⟩
    have XB4:Ext T4 (put (put T4 r4 (dTo [] c4)) r4 (dTo (mergeT [] (cvD [([0,0],z.py)])) d4)):=(Ext.new hr4).put hr4
    have HB4:put (put T4 r4 (dTo [] c4)) r4 (dTo (mergeT [] (cvD [([0,0],z.py)])) d4) r4=some (dTo (cvD [([0,0],z.py)]) d4):=put_same
    generalize put (put T4 r4 (dTo [] c4)) r4 (dTo (mergeT [] (cvD [([0,0],z.py)])) d4)=R4 at XB4 HB4 ⊢
    refine⟨few,q4,r4,_,_,b4,d4,-1,rfl,XB4 _ _ HA4,HB4,cv_one (by decide) (by decide) (by decide) (by decide) O1,cv_one (by decide) (by decide) (by decide) (by decide) (h.py.mono (by decide)),m1,fun V4 p4 e4 g4 XC4 NC4 G4 HC4=>⟨_,XC4 _ _ (XB4 _ _ (XA4 _ _ N3)),lim (by show 3<=100; decide),?_⟩⟩
    have XD4:Ext S3 V4:=(XA4.trans XB4).trans XC4
    have X4:Ext S (put V4 na (.lst (((([]++[D.ref p1])++[D.ref p2])++[D.ref p3])++[D.ref p4]))):=(X3.trans XD4).put hna
    have N4:put V4 na (.lst (((([]++[D.ref p1])++[D.ref p2])++[D.ref p3])++[D.ref p4])) na=some (.lst (((([]++[D.ref p1])++[D.ref p2])++[D.ref p3])++[D.ref p4])):=put_same
    have ne4:p4≠na:=fun q=>by rw [q,XD4 _ _ N3] at HC4; cases HC4
    have H4_4:put V4 na (.lst (((([]++[D.ref p1])++[D.ref p2])++[D.ref p3])++[D.ref p4])) p4=some (dTo (cvD g4) e4):=by rw [put_ne ne4]; exact HC4
    have H1_4:put V4 na (.lst (((([]++[D.ref p1])++[D.ref p2])++[D.ref p3])++[D.ref p4])) p1=some (dTo (cvD g1) e1):=by rw [put_ne ne1]; exact XD4 _ _ H1_3
    have H2_4:put V4 na (.lst (((([]++[D.ref p1])++[D.ref p2])++[D.ref p3])++[D.ref p4])) p2=some (dTo (cvD g2) e2):=by rw [put_ne ne2]; exact XD4 _ _ H2_3
    have H3_4:put V4 na (.lst (((([]++[D.ref p1])++[D.ref p2])++[D.ref p3])++[D.ref p4])) p3=some (dTo (cvD g3) e3):=by rw [put_ne ne3]; exact XD4 _ _ H3_3
    generalize put V4 na (.lst (((([]++[D.ref p1])++[D.ref p2])++[D.ref p3])++[D.ref p4]))=S4 at X4 N4 H1_4 H2_4 H3_4 H4_4 ⊢
    have K4:=L3.ny G4
    clear HA4 HB4
    have N:S4 na=some (.lst [.ref p1,.ref p2,.ref p3,.ref p4]):=N4
    have H1:=H1_4
    have H2:=H2_4
    have H3:=H3_4
    have H4:=H4_4
    have X:=X4
    clear X0 N0 X1 N1 X2 N2 X3 N3 X4 N4 H1_1 H1_2 H2_2 H1_3 H2_3 H3_3 H1_4 H2_4 H3_4 H4_4 HC1 HC2 HC3 HC4
    have C1:=(K1.cv (m:=900) O1 Z1 (h.ox.neg.mono (by decide))).mono (n':=28) (m':=900) (b':=6) (by decide) (by decide) (by decide)
    have C2:=(K2.cv (m:=900) Z1 O1 (h.oy.neg.mono (by decide))).mono (n':=28) (m':=900) (b':=6) (by decide) (by decide) (by decide)
    have C3:=(K3.cv (m:=900) O1 Z1 (h.px.neg.mono (by decide))).mono (n':=28) (m':=900) (b':=6) (by decide) (by decide) (by decide)
    have C4:=(K4.cv (m:=900) Z1 O1 (h.py.neg.mono (by decide))).mono (n':=28) (m':=900) (b':=6) (by decide) (by decide) (by decide)
    have sl:=z1.sub h.le
    have st:=z1.sub sr
    have wA:=h.wA.mono (show 60<=390 by decide)
    have wB:=h.wB.mono (show 60<=390 by decide)
    have wD:=h.wD.mono (show 60<=390 by decide)
    have wE:=h.wE.mono (show 60<=390 by decide)
    have bM1:=h.b1.mono (show 18<=200 by decide)
    have bM2:=h.b2.mono (show 72<=200 by decide)
    refine⟨trivial,?_⟩
    dsimp only
    refine(id ?_:dSeq (dSet 8 _) _ _ [some (W z.ox z.oy),some (W z.px z.py),some (fr z.cr),some (.tup [fr z.s0,fr z.s1]),some (W z.al z.le),some (fr (1 - z.al)),some (.ref na),some (W z.px z.py),none,none,none,none,none,none,none,none,none,none,none,some (fr z.al),some (fr z.le)] S4)
    refine⟨few,0,z.le,rfl,z1.mono (by decide),h.le.mono (by decide),?_⟩
    dsimp only
    refine(id ?_:dSeq (dSet 9 _) _ _ [some (W z.ox z.oy),some (W z.px z.py),some (fr z.cr),some (.tup [fr z.s0,fr z.s1]),some (W z.al z.le),some (fr (1 - z.al)),some (.ref na),some (W z.px z.py),some (fr (0 - z.le)),none,none,none,none,none,none,none,none,none,none,some (fr z.al),some (fr z.le)] S4)
    refine fun q hq c=>⟨_,_,put_keep hq N,rfl,q,p1,[],g1,c,e1,z.al,rfl,put_same,put_keep hq H1,(Cv.nil (m:=1) (b:=1)).mono (by decide) (by decide) (by decide),C1,h.al.mono (by decide),fun U1 u1 f1 v1 Y1 Z G1 J1=>?_⟩
    have Y:=(Ext.new hq).trans Y1
    have N:=Y _ _ N
    have H1:=Y _ _ H1
    have H2:=Y _ _ H2
    have H3:=Y _ _ H3
    have H4:=Y _ _ H4
    have X:=X.trans Y
    have Ka:=K1.times G1
    have Ca:=(Ka.cv (m:=900) ((o1.mul h.al).mono (by decide)) ((z1.mul h.al).mono (by decide)) ((h.ox.neg.mul h.al).mono (by decide))).mono (n':=28) (m':=900) (b':=6) (by decide) (by decide) (by decide)
    refine⟨_,_,N,rfl,u1,p2,v1,g2,f1,e2,z.le,rfl,J1,H2,Ca,C2,h.le.mono (by decide),fun U2 pA eA gA Y2 Z2 G2 HA=>?_⟩
    have okA:Ok 1 M1 z.A gA:=⟨(Ka.plus K2 G2).to (by grind) (by grind) (by grind),wA,by decide,h.p1,bM1⟩
    have N:=Y2 _ _ N
    have H1:=Y2 _ _ H1
    have H2:=Y2 _ _ H2
    have H3:=Y2 _ _ H3
    have H4:=Y2 _ _ H4
    have X:=X.trans Y2
    clear Ka Ca Y Y1 Y2 Z Z2 G1 G2 J1 hq
    dsimp only
    refine(id ?_:dSeq (dSet 10 _) _ _ [some (W z.ox z.oy),some (W z.px z.py),some (fr z.cr),some (.tup [fr z.s0,fr z.s1]),some (W z.al z.le),some (fr (1 - z.al)),some (.ref na),some (W z.px z.py),some (fr (0 - z.le)),some (.ref pA),none,none,none,none,none,none,none,none,none,some (fr z.al),some (fr z.le)] U2)
    refine fun q hq c=>⟨_,_,put_keep hq N,rfl,q,p2,[],g2,c,e2,z.al,rfl,put_same,put_keep hq H2,(Cv.nil (m:=1) (b:=1)).mono (by decide) (by decide) (by decide),C2,h.al.mono (by decide),fun U1 u1 f1 v1 Y1 Z G1 J1=>?_⟩
    have Y:=(Ext.new hq).trans Y1
    have N:=Y _ _ N
    have H1:=Y _ _ H1
    have H2:=Y _ _ H2
    have H3:=Y _ _ H3
    have H4:=Y _ _ H4
    have HA:=Y _ _ HA
    have X:=X.trans Y
    have Ka:=K2.times G1
    have Ca:=(Ka.cv (m:=900) ((z1.mul h.al).mono (by decide)) ((o1.mul h.al).mono (by decide)) ((h.oy.neg.mul h.al).mono (by decide))).mono (n':=28) (m':=900) (b':=6) (by decide) (by decide) (by decide)
    refine⟨_,_,N,rfl,u1,p1,v1,g1,f1,e1,0 - z.le,rfl,J1,H1,Ca,C1,sl.mono (by decide),fun U2 pB eB gB Y2 Z2 G2 HB=>?_⟩
    have okB:Ok 1 M1 z.B gB:=⟨(Ka.plus K1 G2).to (by grind) (by grind) (by grind),wB,by decide,h.p1,bM1⟩
    have N:=Y2 _ _ N
    have H1:=Y2 _ _ H1
    have H2:=Y2 _ _ H2
    have H3:=Y2 _ _ H3
    have H4:=Y2 _ _ H4
    have HA:=Y2 _ _ HA
    have X:=X.trans Y2
    clear Ka Ca Y Y1 Y2 Z Z2 G1 G2 J1 hq
    dsimp only
    refine(id ?_:dSeq (dSet 11 _) _ _ [some (W z.ox z.oy),some (W z.px z.py),some (fr z.cr),some (.tup [fr z.s0,fr z.s1]),some (W z.al z.le),some (fr (1 - z.al)),some (.ref na),some (W z.px z.py),some (fr (0 - z.le)),some (.ref pA),some (.ref pB),none,none,none,none,none,none,none,none,some (fr z.al),some (fr z.le)] U2)
    refine fun q hq c=>⟨_,_,put_keep hq N,rfl,q,p4,[],g4,c,e4,z.le,rfl,put_same,put_keep hq H4,(Cv.nil (m:=1) (b:=1)).mono (by decide) (by decide) (by decide),C4,h.le.mono (by decide),fun U1 u1 f1 v1 Y1 Z G1 J1=>?_⟩
    have Y:=(Ext.new hq).trans Y1
    have N:=Y _ _ N
    have H1:=Y _ _ H1
    have H2:=Y _ _ H2
    have H3:=Y _ _ H3
    have H4:=Y _ _ H4
    have HA:=Y _ _ HA
    have HB:=Y _ _ HB
    have X:=X.trans Y
    have Ka:=K4.times G1
    have Ca:=(Ka.cv (m:=900) ((z1.mul h.le).mono (by decide)) ((o1.mul h.le).mono (by decide)) ((h.py.neg.mul h.le).mono (by decide))).mono (n':=28) (m':=900) (b':=6) (by decide) (by decide) (by decide)
    refine⟨_,_,N,rfl,few,0,1 - z.al,rfl,z1.mono (by decide),sr.mono (by decide),u1,p3,v1,g3,f1,e3,0 - (1 - z.al),rfl,J1,H3,Ca,C3,st.mono (by decide),fun U2 pD eD gD Y2 Z2 G2 HD=>?_⟩
    have okD:Ok 1 M1 z.D gD:=⟨(Ka.plus K3 G2).to (by grind) (by grind) (by grind),wD,by decide,h.p1,bM1⟩
    have N:=Y2 _ _ N
    have H1:=Y2 _ _ H1
    have H2:=Y2 _ _ H2
    have H3:=Y2 _ _ H3
    have H4:=Y2 _ _ H4
    have HA:=Y2 _ _ HA
    have HB:=Y2 _ _ HB
    have X:=X.trans Y2
    clear Ka Ca Y Y1 Y2 Z Z2 G1 G2 J1 hq
    dsimp only
    refine(id ?_:dSeq (dSet 12 _) _ _ [some (W z.ox z.oy),some (W z.px z.py),some (fr z.cr),some (.tup [fr z.s0,fr z.s1]),some (W z.al z.le),some (fr (1 - z.al)),some (.ref na),some (W z.px z.py),some (fr (0 - z.le)),some (.ref pA),some (.ref pB),some (.ref pD),none,none,none,none,none,none,none,some (fr z.al),some (fr z.le)] U2)
    refine fun q hq c=>⟨_,_,put_keep hq N,rfl,q,p3,[],g3,c,e3,0 - z.le,rfl,put_same,put_keep hq H3,(Cv.nil (m:=1) (b:=1)).mono (by decide) (by decide) (by decide),C3,sl.mono (by decide),fun U1 u1 f1 v1 Y1 Z G1 J1=>?_⟩
    have Y:=(Ext.new hq).trans Y1
    have N:=Y _ _ N
    have H1:=Y _ _ H1
    have H2:=Y _ _ H2
    have H3:=Y _ _ H3
    have H4:=Y _ _ H4
    have HA:=Y _ _ HA
    have HB:=Y _ _ HB
    have HD:=Y _ _ HD
    have X:=X.trans Y
    have Ka:=K3.times G1
    have Ca:=(Ka.cv (m:=900) ((o1.mul sl).mono (by decide)) ((z1.mul sl).mono (by decide)) ((h.px.neg.mul sl).mono (by decide))).mono (n':=28) (m':=900) (b':=6) (by decide) (by decide) (by decide)
    refine⟨_,_,N,rfl,few,0,1 - z.al,rfl,z1.mono (by decide),sr.mono (by decide),u1,p4,v1,g4,f1,e4,0 - (1 - z.al),rfl,J1,H4,Ca,C4,st.mono (by decide),fun U2 pE eE gE Y2 Z2 G2 HE=>?_⟩
    have okE:Ok 1 M1 z.E gE:=⟨(Ka.plus K4 G2).to (by grind) (by grind) (by grind),wE,by decide,h.p1,bM1⟩
    have N:=Y2 _ _ N
    have H1:=Y2 _ _ H1
    have H2:=Y2 _ _ H2
    have H3:=Y2 _ _ H3
    have H4:=Y2 _ _ H4
    have HA:=Y2 _ _ HA
    have HB:=Y2 _ _ HB
    have HD:=Y2 _ _ HD
    have X:=X.trans Y2
    clear Ka Ca Y Y1 Y2 Z Z2 G1 G2 J1 hq
    dsimp only
    refine(id ?_:dSeq (dSet 13 _) _ _ [some (W z.ox z.oy),some (W z.px z.py),some (fr z.cr),some (.tup [fr z.s0,fr z.s1]),some (W z.al z.le),some (fr (1 - z.al)),some (.ref na),some (W z.px z.py),some (fr (0 - z.le)),some (.ref pA),some (.ref pB),some (.ref pD),some (.ref pE),none,none,none,none,none,none,some (fr z.al),some (fr z.le)] U2)
    have sc:=h.cr.mul h.cr
    refine⟨_,_,N,rfl,_,_,N,rfl,few,_,_,_,_,_,rfl,den_mul_ne z.cr z.cr,h.cr.num.mono (by decide),h.cr.den.mono (by decide),h.cr.num.mono (by decide),h.cr.den.mono (by decide),mul_of z.cr z.cr,p1,p2,g1,g2,e1,e2,z.ox,z.oy,z.al,z.le,z.s0,_,rfl,H1,H2,K1,K2,h.ox,h.oy,h.al.mono (by decide),h.le.mono (by decide),h.s0,sc.mono (by decide),fun U1 pC eC gC Y Z G HC=>?_⟩
    have okC:Ok 2 M2 z.C gC:=⟨G,h.wC.mono (by decide),by decide,h.p2,bM2⟩
    have N:=Y _ _ N
    have H1:=Y _ _ H1
    have H2:=Y _ _ H2
    have H3:=Y _ _ H3
    have H4:=Y _ _ H4
    have HA:=Y _ _ HA
    have HB:=Y _ _ HB
    have HD:=Y _ _ HD
    have HE:=Y _ _ HE
    have X:=X.trans Y
    clear Y Z G
    dsimp only
    refine(id ?_:dSeq (dSet 14 _) _ _ [some (W z.ox z.oy),some (W z.px z.py),some (fr z.cr),some (.tup [fr z.s0,fr z.s1]),some (W z.al z.le),some (fr (1 - z.al)),some (.ref na),some (W z.px z.py),some (fr (0 - z.le)),some (.ref pA),some (.ref pB),some (.ref pD),some (.ref pE),some (.ref pC),none,none,none,none,none,some (fr z.al),some (fr z.le)] U1)
    refine⟨_,_,N,rfl,_,_,N,rfl,few,p3,p4,g3,g4,e3,e4,z.px,z.py,1 - z.al,z.le,z.s0,z.s1,rfl,H3,H4,K3,K4,h.px,h.py,sr.mono (by decide),h.le.mono (by decide),h.s0,h.s1,fun U2 pF eF gF Y Z G HF=>?_⟩
    have okF:Ok 2 M2 z.F gF:=⟨G.congr fun k=>by
      show gR (cr5 _ _ _) k=gR (cr5 _ _ _) k
      congr 2
      grind,h.wF.mono (by decide),by decide,h.p2,bM2⟩
    have N:=Y _ _ N
    have H1:=Y _ _ H1
    have H2:=Y _ _ H2
    have H3:=Y _ _ H3
    have H4:=Y _ _ H4
    have HA:=Y _ _ HA
    have HB:=Y _ _ HB
    have HD:=Y _ _ HD
    have HE:=Y _ _ HE
    have HC:=Y _ _ HC
    dsimp only
    refine(id ?_:dSeq (dSet 15 _) _ _ [some (W z.ox z.oy),some (W z.px z.py),some (fr z.cr),some (.tup [fr z.s0,fr z.s1]),some (W z.al z.le),some (fr (1 - z.al)),some (.ref na),some (W z.px z.py),some (fr (0 - z.le)),some (.ref pA),some (.ref pB),some (.ref pD),some (.ref pE),some (.ref pC),some (.ref pF),none,none,none,none,some (fr z.al),some (fr z.le)] U2)
    have X:=X.trans Y
    clear Y Z G N H1 H2 H3 H4 C1 C2 C3 C4 K1 K2 K3 K4
    refine⟨pC,pE,gC,gE,eC,eE,_,_,rfl,HC,HE,okC.cv,okE.cv,okC.M0,okE.M0,okC.bM.mono (by decide),okE.bM.mono (by decide),okC.dn,okE.dn,fun U pP eP gP Y Z G HP=>?_⟩
    obtain⟨RP,VP⟩:=okC.prod okE G
    have HA:=Y _ _ HA
    have HB:=Y _ _ HB
    have HD:=Y _ _ HD
    have HE:=Y _ _ HE
    have HC:=Y _ _ HC
    have HF:=Y _ _ HF
    have X:=X.trans Y
    clear Y Z G
    refine⟨pF,pB,gF,gB,eF,eB,_,_,rfl,HF,HB,okF.cv,okB.cv,okF.M0,okB.M0,okF.bM.mono (by decide),okB.bM.mono (by decide),okF.dn,okB.dn,fun U pQ eQ gQ Y Z G HQ=>?_⟩
    obtain⟨RQ,VQ⟩:=okF.prod okB G
    have HA:=Y _ _ HA
    have HB:=Y _ _ HB
    have HD:=Y _ _ HD
    have HE:=Y _ _ HE
    have HC:=Y _ _ HC
    have HF:=Y _ _ HF
    have HP:=Y _ _ HP
    have X:=X.trans Y
    clear Y Z G
    refine⟨few,pP,pQ,gP,gQ,eP,eQ,-1,rfl,HP,HQ,VP.mono (by decide) (by decide) (by decide),VQ.mono (by decide) (by decide) (by decide),m1,fun U pWX eWX gWX Y Z G HWX=>?_⟩
    have HA:=Y _ _ HA
    have HB:=Y _ _ HB
    have HD:=Y _ _ HD
    have HE:=Y _ _ HE
    have HC:=Y _ _ HC
    have HF:=Y _ _ HF
    have HP:=Y _ _ HP
    have HQ:=Y _ _ HQ
    have X:=X.trans Y
    have rX:Res z.X gWX:=G.congr fun k=>by
      rw [show gR gP k=_ from RP.at_ k,show gR gQ k=_ from RQ.at_ k]
      show _=mulφ z.C z.E k - mulφ z.F z.B k
      grind
    clear Y Z G RP RQ VP VQ HP HQ
    dsimp only
    refine(id ?_:dSeq (dSet 16 _) _ _ [some (W z.ox z.oy),some (W z.px z.py),some (fr z.cr),some (.tup [fr z.s0,fr z.s1]),some (W z.al z.le),some (fr (1 - z.al)),some (.ref na),some (W z.px z.py),some (fr (0 - z.le)),some (.ref pA),some (.ref pB),some (.ref pD),some (.ref pE),some (.ref pC),some (.ref pF),some (.ref pWX),none,none,none,some (fr z.al),some (fr z.le)] U)
    refine⟨pA,pF,gA,gF,eA,eF,_,_,rfl,HA,HF,okA.cv,okF.cv,okA.M0,okF.M0,okA.bM.mono (by decide),okF.bM.mono (by decide),okA.dn,okF.dn,fun U pP eP gP Y Z G HP=>?_⟩
    obtain⟨RP,VP⟩:=okA.prod okF G
    have HA:=Y _ _ HA
    have HB:=Y _ _ HB
    have HD:=Y _ _ HD
    have HE:=Y _ _ HE
    have HC:=Y _ _ HC
    have HF:=Y _ _ HF
    have HWX:=Y _ _ HWX
    have X:=X.trans Y
    clear Y Z G
    refine⟨pD,pC,gD,gC,eD,eC,_,_,rfl,HD,HC,okD.cv,okC.cv,okD.M0,okC.M0,okD.bM.mono (by decide),okC.bM.mono (by decide),okD.dn,okC.dn,fun U pQ eQ gQ Y Z G HQ=>?_⟩
    obtain⟨RQ,VQ⟩:=okD.prod okC G
    have HA:=Y _ _ HA
    have HB:=Y _ _ HB
    have HD:=Y _ _ HD
    have HE:=Y _ _ HE
    have HC:=Y _ _ HC
    have HF:=Y _ _ HF
    have HWX:=Y _ _ HWX
    have HP:=Y _ _ HP
    have X:=X.trans Y
    clear Y Z G
    refine⟨few,pP,pQ,gP,gQ,eP,eQ,-1,rfl,HP,HQ,VP.mono (by decide) (by decide) (by decide),VQ.mono (by decide) (by decide) (by decide),m1,fun U pWY eWY gWY Y Z G HWY=>?_⟩
    have HA:=Y _ _ HA
    have HB:=Y _ _ HB
    have HD:=Y _ _ HD
    have HE:=Y _ _ HE
    have HC:=Y _ _ HC
    have HF:=Y _ _ HF
    have HWX:=Y _ _ HWX
    have HP:=Y _ _ HP
    have HQ:=Y _ _ HQ
    have X:=X.trans Y
    have rY:Res z.Y gWY:=G.congr fun k=>by
      rw [show gR gP k=_ from RP.at_ k,show gR gQ k=_ from RQ.at_ k]
      show _=mulφ z.A z.F k - mulφ z.D z.C k
      grind
    clear Y Z G RP RQ VP VQ HP HQ
    dsimp only
    refine(id ?_:dSeq (dSet 17 _) _ _ [some (W z.ox z.oy),some (W z.px z.py),some (fr z.cr),some (.tup [fr z.s0,fr z.s1]),some (W z.al z.le),some (fr (1 - z.al)),some (.ref na),some (W z.px z.py),some (fr (0 - z.le)),some (.ref pA),some (.ref pB),some (.ref pD),some (.ref pE),some (.ref pC),some (.ref pF),some (.ref pWX),some (.ref pWY),none,none,some (fr z.al),some (fr z.le)] U)
    refine⟨pA,pE,gA,gE,eA,eE,_,_,rfl,HA,HE,okA.cv,okE.cv,okA.M0,okE.M0,okA.bM.mono (by decide),okE.bM.mono (by decide),okA.dn,okE.dn,fun U pP eP gP Y Z G HP=>?_⟩
    obtain⟨RP,VP⟩:=okA.prod okE G
    have HA:=Y _ _ HA
    have HB:=Y _ _ HB
    have HD:=Y _ _ HD
    have HE:=Y _ _ HE
    have HC:=Y _ _ HC
    have HF:=Y _ _ HF
    have HWX:=Y _ _ HWX
    have HWY:=Y _ _ HWY
    have X:=X.trans Y
    clear Y Z G
    refine⟨pD,pB,gD,gB,eD,eB,_,_,rfl,HD,HB,okD.cv,okB.cv,okD.M0,okB.M0,okD.bM.mono (by decide),okB.bM.mono (by decide),okD.dn,okB.dn,fun U pQ eQ gQ Y Z G HQ=>?_⟩
    obtain⟨RQ,VQ⟩:=okD.prod okB G
    have HA:=Y _ _ HA
    have HB:=Y _ _ HB
    have HD:=Y _ _ HD
    have HE:=Y _ _ HE
    have HC:=Y _ _ HC
    have HF:=Y _ _ HF
    have HWX:=Y _ _ HWX
    have HWY:=Y _ _ HWY
    have HP:=Y _ _ HP
    have X:=X.trans Y
    clear Y Z G
    refine⟨few,pP,pQ,gP,gQ,eP,eQ,-1,rfl,HP,HQ,VP.mono (by decide) (by decide) (by decide),VQ.mono (by decide) (by decide) (by decide),m1,fun U pWV eWV gWV Y Z G HWV=>?_⟩
    have HA:=Y _ _ HA
    have HB:=Y _ _ HB
    have HD:=Y _ _ HD
    have HE:=Y _ _ HE
    have HC:=Y _ _ HC
    have HF:=Y _ _ HF
    have HWX:=Y _ _ HWX
    have HWY:=Y _ _ HWY
    have HP:=Y _ _ HP
    have HQ:=Y _ _ HQ
    have X:=X.trans Y
    have rV:Res z.V gWV:=G.congr fun k=>by
      rw [show gR gP k=_ from RP.at_ k,show gR gQ k=_ from RQ.at_ k]
      show _=mulφ z.A z.E k - mulφ z.D z.B k
      grind
    clear Y Z G RP RQ VP VQ HP HQ
    dsimp only
    refine(id ?_:dSeq (dSet 18 _) _ _ [some (W z.ox z.oy),some (W z.px z.py),some (fr z.cr),some (.tup [fr z.s0,fr z.s1]),some (W z.al z.le),some (fr (1 - z.al)),some (.ref na),some (W z.px z.py),some (fr (0 - z.le)),some (.ref pA),some (.ref pB),some (.ref pD),some (.ref pE),some (.ref pC),some (.ref pF),some (.ref pWX),some (.ref pWY),some (.ref pWV),none,some (fr z.al),some (fr z.le)] U)
    have okWX:=h.okX rX
    have okWY:=h.okY rY
    have okWV:=h.okV rV
    clear HA HB HC HD HE HF
    refine⟨pWX,pWX,gWX,gWX,eWX,eWX,_,_,rfl,HWX,HWX,okWX.cv,okWX.cv,okWX.M0,okWX.M0,okWX.bM.mono (by decide),okWX.bM.mono (by decide),okWX.dn,okWX.dn,fun U pP eP gP Y Z G HP=>?_⟩
    obtain⟨RP,VP⟩:=okWX.prod okWX G
    have HWX:=Y _ _ HWX
    have HWY:=Y _ _ HWY
    have HWV:=Y _ _ HWV
    have X:=X.trans Y
    clear Y Z G
    refine⟨pWY,pWY,gWY,gWY,eWY,eWY,_,_,rfl,HWY,HWY,okWY.cv,okWY.cv,okWY.M0,okWY.M0,okWY.bM.mono (by decide),okWY.bM.mono (by decide),okWY.dn,okWY.dn,fun U pQ eQ gQ Y Z G HQ=>?_⟩
    obtain⟨RQ,VQ⟩:=okWY.prod okWY G
    have HWX:=Y _ _ HWX
    have HWY:=Y _ _ HWY
    have HWV:=Y _ _ HWV
    have HP:=Y _ _ HP
    have X:=X.trans Y
    clear Y Z G
    refine⟨few,pP,pQ,gP,gQ,eP,eQ,1,rfl,HP,HQ,VP.mono (by decide) (by decide) (by decide),VQ.mono (by decide) (by decide) (by decide),o1.mono (by decide),fun U pT eT gT Y Z G HT=>?_⟩
    have HWX:=Y _ _ HWX
    have HWY:=Y _ _ HWY
    have HWV:=Y _ _ HWV
    have HP:=Y _ _ HP
    have HQ:=Y _ _ HQ
    have X:=X.trans Y
    have rT:Res (fun k=>mulφ z.X z.X k+mulφ z.Y z.Y k) gT:=G.congr fun k=>by rw [show gR gP k=_ from RP.at_ k,show gR gQ k=_ from RQ.at_ k,Rat.mul_one]
    have bNN:Bt 280 (M2*M1*(M2*M1)):=((h.b2.mul h.b1).mul (h.b2.mul h.b1)).mono (by decide)
    have NN0:0 < M2*M1*(M2*M1):=Int.mul_pos okWX.M0 okWX.M0
    have VT:Cv 28 900 6 gT:=rT.cv (h.wS rX rY) NN0 (bNN.mono (by decide)) (by decide) (by decide) (by decide)
    clear Y Z G
    dsimp only
    refine(id ?_:dRet _ _ [some (W z.ox z.oy),some (W z.px z.py),some (fr z.cr),some (.tup [fr z.s0,fr z.s1]),some (W z.al z.le),some (fr (1 - z.al)),some (.ref na),some (W z.px z.py),some (fr (0 - z.le)),some (.ref pA),some (.ref pB),some (.ref pD),some (.ref pE),some (.ref pC),some (.ref pF),some (.ref pWX),some (.ref pWY),some (.ref pWV),some (.ref pT),some (fr z.al),some (fr z.le)] U)
    refine⟨pWV,pWV,gWV,gWV,eWV,eWV,_,_,rfl,HWV,HWV,okWV.cv,okWV.cv,okWV.M0,okWV.M0,okWV.bM.mono (by decide),okWV.bM.mono (by decide),okWV.dn,okWV.dn,fun U pO eO gO Y Z G HO=>?_⟩
    obtain⟨RO,VO⟩:=okWV.prod okWV G
    have HWX:=Y _ _ HWX
    have HWY:=Y _ _ HWY
    have HWV:=Y _ _ HWV
    have HP:=Y _ _ HP
    have HQ:=Y _ _ HQ
    have HT:=Y _ _ HT
    have X:=X.trans Y
    clear Y Z G
    have s4:Sz 3 (-4:Rat):=⟨by decide,by decide⟩
    refine⟨few,_,_,_,_,_,rfl,den_mul_ne (-4) z.s0,s4.num.mono (by decide),s4.den.mono (by decide),h.s0.num.mono (by decide),h.s0.den.mono (by decide),mul_of (-4) z.s0,pT,pO,gT,gO,eT,eO,_,rfl,HT,HO,VT,VO.mono (by decide) (by decide) (by decide),(s4.mul h.s0).mono (by decide),fun U p e g Y Z G H9=>?_⟩
    refine w U p e g (X.trans Y) (G.congr fun k=>?_) ⟨gWX,gWY,gWV,rX,rY,rV⟩ H9
    rw [show gR gT k=_ from rT.at_ k,show gR gO k=_ from RO.at_ k]
    show _=(mulφ z.X z.X k+mulφ z.Y z.Y k) - mulφ z.V z.V k*(4*z.s0)
    grind
set_option maxHeartbeats 4000000
def Dz (M:Int) (T:Nat) (q:Rat):Prop:=∃ t:Int,Bt T t/\(M:Rat)*q=t
theorem Dz.mono {M:Int} {T T':Nat} {q:Rat} (h:Dz M T q) (hT:T<=T'):Dz M T' q:=by
  obtain⟨t,bt,e⟩:=h
  exact⟨t,bt.mono hT,e⟩
theorem Dz.add {M:Int} {T:Nat} {p q:Rat} (h:Dz M T p) (h':Dz M T q):Dz M (T+1) (p+q):=by
  obtain⟨t,bt,e⟩:=h
  obtain⟨t',bt',e'⟩:=h'
  exact⟨t+t',bt.add1 bt',by rw [Rat.mul_add,e,e',Rat.intCast_add]⟩
theorem Dz.neg {M:Int} {T:Nat} {p:Rat} (h:Dz M T p):Dz M T (-p):=by
  obtain⟨t,bt,e⟩:=h
  exact⟨-t,bt.neg',by rw [Rat.intCast_neg,<- e]; grind⟩
theorem Dz.sub {M:Int} {T:Nat} {p q:Rat} (h:Dz M T p) (h':Dz M T q):Dz M (T+1) (p - q):=by
  rw [show p - q=p+-q by grind]
  exact h.add h'.neg
theorem Dz.one {M:Int} {T:Nat} (h:Bt T M):Dz M T 1:=⟨M,h,Rat.mul_one _⟩
theorem Dz.num {M m:Int} {n s T:Nat} {q:Rat} (e:M=(q.den:Int)*m) (hn:Bt n q.num) (hm:Bt s m) (hT:n+s<=T):Dz M T q:=⟨q.num*m,(hn.mul hm).mono hT,by
  have d:=den_mulq q
  rw [e,Rat.intCast_mul,Rat.intCast_mul,<- d]
  grind⟩
theorem Dz.prod {M m:Int} {n n' s T:Nat} {p q:Rat} (e:M=(p.den:Int)*(q.den:Int)*m) (hn:Bt n p.num) (hn':Bt n' q.num) (hm:Bt s m) (hT:n+n'+s<=T):Dz M T (p*q):=⟨p.num*q.num*m,((hn.mul hn').mul hm).mono hT,by
  have d:=den_mulq p
  have d':=den_mulq q
  rw [e,Rat.intCast_mul,Rat.intCast_mul,Rat.intCast_mul,Rat.intCast_mul,<- d,<- d']
  grind⟩
theorem Dz.prod3 {M m:Int} {n n' n2 s T:Nat} {p q r:Rat} (e:M=(p.den:Int)*(q.den:Int)*(r.den:Int)*m) (hn:Bt n p.num) (hn':Bt n' q.num) (hn2:Bt n2 r.num) (hm:Bt s m) (hT:n+n'+n2+s<=T):Dz M T (p*q*r):=⟨p.num*q.num*r.num*m,(((hn.mul hn').mul hn2).mul hm).mono hT,by
  have d:=den_mulq p
  have d':=den_mulq q
  have d2:=den_mulq r
  rw [e,Rat.intCast_mul,Rat.intCast_mul,Rat.intCast_mul,Rat.intCast_mul,Rat.intCast_mul,Rat.intCast_mul,<- d,<- d',<- d2]
  grind⟩
theorem wf_cr {x y s:Rat} {M:Int} {T:Nat} (h1:Dz M T 1) (ha:Dz M T (-(x+x))) (hb:Dz M T (-(y+y))) (hr:Dz M T (x*x+y*y - s)):Wf 2 M T (gR (cr5 x y s)):=⟨fun k n=>by
  rw [<- six_cr,gR_six] at n
  by_cases e1:k=[2,0]
  · exact⟨2,0,e1,by decide,by decide,by decide⟩
  by_cases e2:k=[0,2]
  · exact⟨0,2,e2,by decide,by decide,by decide⟩
  by_cases e3:k=[1,1]
  · exact⟨1,1,e3,by decide,by decide,by decide⟩
  by_cases e4:k=[1,0]
  · exact⟨1,0,e4,by decide,by decide,by decide⟩
  by_cases e5:k=[0,1]
  · exact⟨0,1,e5,by decide,by decide,by decide⟩
  by_cases e6:k=[0,0]
  · exact⟨0,0,e6,by decide,by decide,by decide⟩
  rw [if_neg e1,if_neg e2,if_neg e3,if_neg e4,if_neg e5,if_neg e6] at n
  exact absurd rfl n,fun k=>by
  have z:Dz M T 0:=⟨0,HM.Bt.zero,by rw [Rat.mul_zero]; rfl⟩
  rw [<- six_cr,gR_six]
  split
  · exact h1
  split
  · exact h1
  split
  · exact z
  split
  · exact ha
  split
  · exact hb
  split
  · exact hr
  · exact z⟩
theorem cp_fac {M1 M2 R a b c d e f e0 k e1:Int} (m1:M1=a*b*c*d*(e*f)) (m2:M2=M1*M1*(e0*(k*k)*e1)):
    M2=a*(b*c*d*(e*f)*M1*(e0*(k*k)*e1))/\M2=b*(a*c*d*(e*f)*M1*(e0*(k*k)*e1))/\M2=c*(a*b*d*(e*f)*M1*(e0*(k*k)*e1))/\M2=d*(a*b*c*(e*f)*M1*(e0*(k*k)*e1))/\
    M2=a*a*(b*c*d*(e*f)*(b*c*d*(e*f))*(e0*(k*k)*e1))/\M2=b*b*(a*c*d*(e*f)*(a*c*d*(e*f))*(e0*(k*k)*e1))/\M2=c*c*(a*b*d*(e*f)*(a*b*d*(e*f))*(e0*(k*k)*e1))/\M2=d*d*(a*b*c*(e*f)*(a*b*c*(e*f))*(e0*(k*k)*e1))/\
    M2=k*k*(M1*M1*(e0*e1))/\M2=e1*(M1*M1*(e0*(k*k)))/\M2=e0*(M1*M1*(k*k*e1))/\M2=e*e0*(a*b*c*d*f*M1*(k*k*e1))/\
    M2=e*e*e0*(a*b*c*d*f*(a*b*c*d*f)*(k*k*e1))/\M2=f*f*e0*(a*b*c*d*e*(a*b*c*d*e)*(k*k*e1))/\
    M2*M2=M1*M1*e0*(M1*M1*(e0*(k*k*(k*k))*(e1*e1))):=by
  subst m2
  refine⟨?_,?_,?_,?_,?_,?_,?_,?_,by grind,by grind,by grind,?_,?_,?_,by grind⟩ <;> (subst m1; grind)
theorem cp_ok {z:Cp} (h:Fr z) (h0:Sd 31 24 z.s0) (h1:Sd 30 6 z.s1):∃ M1 M2,CpOk z M1 M2:=by
  have D1:=h.ox.den
  have D2:=h.oy.den
  have D3:=h.px.den
  have D4:=h.py.den
  have D5:=h.al.den
  have D6:=h.le.den
  have Dc:=h.cr.den
  have E0:=h0.den
  have E1:=h1.den
  have q1:=den_p z.ox
  have q2:=den_p z.oy
  have q3:=den_p z.px
  have q4:=den_p z.py
  have q5:=den_p z.al
  have q6:=den_p z.le
  have qc:=den_p z.cr
  have r0:=den_p z.s0
  have r1:=den_p z.s1
  have M1e:∃ M1:Int,M1=(z.ox.den:Int)*z.oy.den*z.px.den*z.py.den*(z.al.den*z.le.den):=⟨_,rfl⟩
  obtain⟨M1,m1⟩:=M1e
  have p1:0 < M1:=by rw [m1]; exact Int.mul_pos (Int.mul_pos (Int.mul_pos (Int.mul_pos q1 q2) q3) q4) (Int.mul_pos q5 q6)
  have b1:Bt 18 M1:=by rw [m1]; exact(((D1.mul D2).mul D3).mul D4).mul (D5.mul D6)
  have M2e:∃ M2:Int,M2=M1*M1*(z.s0.den*(z.cr.den*z.cr.den)*z.s1.den):=⟨_,rfl⟩
  obtain⟨M2,m2⟩:=M2e
  have p2:0 < M2:=by rw [m2]; exact Int.mul_pos (Int.mul_pos p1 p1) (Int.mul_pos (Int.mul_pos r0 (Int.mul_pos qc qc)) r1)
  have b2:Bt 72 M2:=by rw [m2]; exact((b1.mul b1).mul ((E0.mul (Dc.mul Dc)).mul E1)).mono (by decide)
  have al1:Dz M1 40 z.al:=Dz.num (m:=(z.ox.den:Int)*z.oy.den*z.px.den*z.py.den*z.le.den) (by rw [m1]; grind) h.al.num ((((D1.mul D2).mul D3).mul D4).mul D6) (by decide)
  have le1:Dz M1 40 z.le:=Dz.num (m:=(z.ox.den:Int)*z.oy.den*z.px.den*z.py.den*z.al.den) (by rw [m1]; grind) h.le.num ((((D1.mul D2).mul D3).mul D4).mul D5) (by decide)
  have o1:Dz M1 40 1:=Dz.one (b1.mono (by decide))
  have x1:Dz M1 40 z.px:=Dz.num (m:=(z.ox.den:Int)*z.oy.den*z.py.den*(z.al.den*z.le.den)) (by rw [m1]; grind) h.px.num (((D1.mul D2).mul D4).mul (D5.mul D6)) (by decide)
  have y1:Dz M1 40 z.py:=Dz.num (m:=(z.ox.den:Int)*z.oy.den*z.px.den*(z.al.den*z.le.den)) (by rw [m1]; grind) h.py.num (((D1.mul D2).mul D3).mul (D5.mul D6)) (by decide)
  have oxal:Dz M1 40 (z.ox*z.al):=Dz.prod (m:=(z.oy.den:Int)*z.px.den*z.py.den*z.le.den) (by rw [m1]; grind) h.ox.num h.al.num (((D2.mul D3).mul D4).mul D6) (by decide)
  have oxle:Dz M1 40 (z.ox*z.le):=Dz.prod (m:=(z.oy.den:Int)*z.px.den*z.py.den*z.al.den) (by rw [m1]; grind) h.ox.num h.le.num (((D2.mul D3).mul D4).mul D5) (by decide)
  have oyal:Dz M1 40 (z.oy*z.al):=Dz.prod (m:=(z.ox.den:Int)*z.px.den*z.py.den*z.le.den) (by rw [m1]; grind) h.oy.num h.al.num (((D1.mul D3).mul D4).mul D6) (by decide)
  have oyle:Dz M1 40 (z.oy*z.le):=Dz.prod (m:=(z.ox.den:Int)*z.px.den*z.py.den*z.al.den) (by rw [m1]; grind) h.oy.num h.le.num (((D1.mul D3).mul D4).mul D5) (by decide)
  have pxal:Dz M1 40 (z.px*z.al):=Dz.prod (m:=(z.ox.den:Int)*z.oy.den*z.py.den*z.le.den) (by rw [m1]; grind) h.px.num h.al.num (((D1.mul D2).mul D4).mul D6) (by decide)
  have pxle:Dz M1 40 (z.px*z.le):=Dz.prod (m:=(z.ox.den:Int)*z.oy.den*z.py.den*z.al.den) (by rw [m1]; grind) h.px.num h.le.num (((D1.mul D2).mul D4).mul D5) (by decide)
  have pyal:Dz M1 40 (z.py*z.al):=Dz.prod (m:=(z.ox.den:Int)*z.oy.den*z.px.den*z.le.den) (by rw [m1]; grind) h.py.num h.al.num (((D1.mul D2).mul D3).mul D6) (by decide)
  have pyle:Dz M1 40 (z.py*z.le):=Dz.prod (m:=(z.ox.den:Int)*z.oy.den*z.px.den*z.al.den) (by rw [m1]; grind) h.py.num h.le.num (((D1.mul D2).mul D3).mul D5) (by decide)
  obtain⟨f1,f2,f3,f4,f5,f6,f7,f8,f9,f10,f11,f12,f13,f14,f15⟩:=cp_fac (R:=0) m1 m2
  have R36:Bt 36 ((z.s0.den:Int)*(z.cr.den*z.cr.den)*z.s1.den):=((E0.mul (Dc.mul Dc)).mul E1).mono (by decide)
  have K12:Bt 12 ((z.cr.den:Int)*z.cr.den*z.s1.den):=((Dc.mul Dc).mul E1).mono (by decide)
  have o2:Dz M2 100 1:=Dz.one (b2.mono (by decide))
  have ox2:Dz M2 100 z.ox:=Dz.num f1 h.ox.num (((((D2.mul D3).mul D4).mul (D5.mul D6)).mul b1).mul R36) (by decide)
  have oy2:Dz M2 100 z.oy:=Dz.num f2 h.oy.num (((((D1.mul D3).mul D4).mul (D5.mul D6)).mul b1).mul R36) (by decide)
  have px2:Dz M2 100 z.px:=Dz.num f3 h.px.num (((((D1.mul D2).mul D4).mul (D5.mul D6)).mul b1).mul R36) (by decide)
  have py2:Dz M2 100 z.py:=Dz.num f4 h.py.num (((((D1.mul D2).mul D3).mul (D5.mul D6)).mul b1).mul R36) (by decide)
  have oxx:Dz M2 100 (z.ox*z.ox):=Dz.prod f5 h.ox.num h.ox.num (((((D2.mul D3).mul D4).mul (D5.mul D6)).mul (((D2.mul D3).mul D4).mul (D5.mul D6))).mul R36) (by decide)
  have oyy:Dz M2 100 (z.oy*z.oy):=Dz.prod f6 h.oy.num h.oy.num (((((D1.mul D3).mul D4).mul (D5.mul D6)).mul (((D1.mul D3).mul D4).mul (D5.mul D6))).mul R36) (by decide)
  have pxx:Dz M2 100 (z.px*z.px):=Dz.prod f7 h.px.num h.px.num (((((D1.mul D2).mul D4).mul (D5.mul D6)).mul (((D1.mul D2).mul D4).mul (D5.mul D6))).mul R36) (by decide)
  have pyy:Dz M2 100 (z.py*z.py):=Dz.prod f8 h.py.num h.py.num (((((D1.mul D2).mul D3).mul (D5.mul D6)).mul (((D1.mul D2).mul D3).mul (D5.mul D6))).mul R36) (by decide)
  have crr:Dz M2 100 (z.cr*z.cr):=Dz.prod f9 h.cr.num h.cr.num ((b1.mul b1).mul (E0.mul E1)) (by decide)
  have s1z:Dz M2 110 z.s1:=Dz.num f10 h1.num ((b1.mul b1).mul (E0.mul (Dc.mul Dc))) (by decide)
  have s0z:Dz M2 110 z.s0:=Dz.num f11 h0.num ((b1.mul b1).mul K12) (by decide)
  have als:Dz M2 110 (z.al*z.s0):=Dz.prod f12 h.al.num h0.num ((((((D1.mul D2).mul D3).mul D4).mul D6).mul b1).mul K12) (by decide)
  have aas:Dz M2 110 (z.al*z.al*z.s0):=Dz.prod3 f13 h.al.num h.al.num h0.num ((((((D1.mul D2).mul D3).mul D4).mul D6).mul ((((D1.mul D2).mul D3).mul D4).mul D6)).mul K12) (by decide)
  have lls:Dz M2 110 (z.le*z.le*z.s0):=Dz.prod3 f14 h.le.num h.le.num h0.num ((((((D1.mul D2).mul D3).mul D4).mul D5).mul ((((D1.mul D2).mul D3).mul D4).mul D5)).mul K12) (by decide)
  refine⟨M1,M2,⟨h.ox.sz (by decide) (by decide),h.oy.sz (by decide) (by decide),h.px.sz (by decide) (by decide),h.py.sz (by decide) (by decide),h.cr.sz (by decide) (by decide),h0.sz (by decide) (by decide),h1.sz (by decide) (by decide),h.al.sz (by decide) (by decide),h.le.sz (by decide) (by decide),p1,p2,b1,b2,?_,?_,?_,?_,?_,?_,⟨_,f15,((b1.mul b1).mul ((E0.mul ((Dc.mul Dc).mul (Dc.mul Dc))).mul (E1.mul E1))).mono (by decide)⟩⟩⟩
  · exact wf_ln (al1.mono (by decide)) (le1.mono (by decide)) ((oxal.add oyle).neg.mono (by decide))
  · refine wf_ln (le1.neg.mono (by decide)) (al1.mono (by decide)) ?_
    rw [show -(z.ox*-z.le+z.oy*z.al)=z.ox*z.le - z.oy*z.al by grind]
    exact(oxle.sub oyal).mono (by decide)
  · refine wf_ln ((al1.sub o1).mono (by decide)) (le1.mono (by decide)) ?_
    rw [show -(z.px*(z.al - 1)+z.py*z.le)=z.px - z.px*z.al - z.py*z.le by grind]
    exact((x1.sub pxal).sub (pyle.mono (by decide))).mono (by decide)
  · refine wf_ln (le1.neg.mono (by decide)) ((al1.sub o1).mono (by decide)) ?_
    rw [show -(z.px*-z.le+z.py*(z.al - 1))=z.px*z.le - z.py*z.al+z.py by grind]
    exact((pxle.sub pyal).add (y1.mono (by decide))).mono (by decide)
  · refine wf_cr (o2.mono (by decide)) ((ox2.add ox2).neg.mono (by decide)) ((oy2.add oy2).neg.mono (by decide)) ?_
    rw [show z.ox*z.ox+z.oy*z.oy - (z.cr*z.cr - (z.al*z.al+z.le*z.le)*z.s0)=(z.ox*z.ox+z.oy*z.oy - z.cr*z.cr)+(z.al*z.al*z.s0+z.le*z.le*z.s0) by grind]
    exact((((oxx.add oyy).sub (crr.mono (by decide))).mono (T':=111) (by decide)).add (aas.add lls)).mono (by decide)
  · refine wf_cr (o2.mono (by decide)) ((px2.add px2).neg.mono (by decide)) ((py2.add py2).neg.mono (by decide)) ?_
    rw [show z.px*z.px+z.py*z.py - (z.s1 - ((z.al - 1)*(z.al - 1)+z.le*z.le)*z.s0)=((z.px*z.px+z.py*z.py)+(z.al*z.al*z.s0+z.le*z.le*z.s0))+((z.s0 - z.s1) - (z.al*z.s0+z.al*z.s0)) by grind]
    exact((((pxx.add pyy).mono (T':=111) (by decide)).add (aas.add lls)).add ((s0z.sub s1z).sub (als.add als))).mono (by decide)
set_option maxHeartbeats 4000000
def F_law:DSp:=fun ds S k=>∃ ns:List Int,ds=[.rl (List.map D.int ns)]/\ns.length<=63/\∀ S',k (.bl true) S'
theorem sc_law:FnScope ["script","k","state","due","one","other","crank","squares","place","apart","first","second"] ["script"] (defScope s_law):=⟨rfl,rfl,rfl,by decide +kernel,rfl,by decide +kernel,by decide +kernel⟩
theorem ok_law {P:Program} {w:World} {K:Fg} {mg:Str->Option Value} {base:Heap} {f:Addr} {fd:FuncData} (Fn:Fun K "law" "law" s_law f fd) (c__law_state:Own P w K mg base "_law_state" 2 F__law_state) (c__law_four_rods:Own P w K mg base "_law_four_rods" 4 F__law_four_rods) (c__law_take:Own P w K mg base "_law_take" 1 F__law_take) (c__law_minus:Own P w K mg base "_law_minus" 3 F__law_minus) (c__law_plus:Own P w K mg base "_law_plus" 3 F__law_plus) (c__law_times:Own P w K mg base "_law_times" 3 F__law_times) (c__law_normal:Own P w K mg base "_law_normal" 2 F__law_normal) (c__law_coupler:Own P w K mg base "_law_coupler" 6 F__law_coupler) (c__law_alike:Own P w K mg base "_law_alike" 9 F__law_alike) (c_coupler_curve:Own P w K mg base "coupler_curve" 7 F_coupler_curve) (z_range:mg "range"=none) (z_max:mg "max"=none) (z_min:mg "min"=none) (z_len:mg "len"=none):
    FnOk P w K mg base CX0 10 f fd ["script"] (spU K F_law):=by
  refine Fn.okJ sc_law (fun ds S k h=>?_) (fun cdv A outer s H E hr=>⟨_,(ds_consj (dst_forRj PassesOwn.never rfl rfl z_range (da_consj (d_callBj b_max rfl z_max bt_max (da_consj d_intj (da_consj (d_callBj b_min rfl z_min bt_min (da_consj (d_callBj b_lenE rfl z_len bt_len (da_consj (d_varj 0) da_nilj)) (da_consj d_intj da_nilj))) da_nilj))) da_nilj) (dg_namej (i:=1) sc_law.nd) (ds_consj (dst_setj (i:=2) sc_law.nd (d_callj c__law_state (hr.mono (by decide)) rfl (da_consj (d_varj 0) (da_consj (d_varj 1) da_nilj)))) (ds_consj (dst_asgj (d_callj c__law_four_rods (hr.mono (by decide)) rfl (da_consj (d_varj 2) da_nilj)) (dg_seqE (n:=5) rfl (dgs_consj (dg_namej (i:=4) sc_law.nd) (dgs_consj (dg_namej (i:=5) sc_law.nd) (dgs_consj (dg_namej (i:=6) sc_law.nd) (dgs_consj (dg_namej (i:=7) sc_law.nd) (dgs_consj (dg_namej (i:=8) sc_law.nd) dgs_nilj))))))) (ds_consj (dst_ifj (dt_cmpj (o_eqX hr) (d_callj c__law_take (hr.mono (by decide)) rfl (da_consj (d_varj 2) (da_consj d_intj da_nilj))) d_intj (nomark _)) (ds_consj (dst_parj (i:=10) (j:=11) rfl sc_law.nd (by decide) (da_consj (d_callj c__law_minus (hr.mono (by decide)) rfl (da_consj (d_ixj x_ixE (d_varj 5) d_intj (fun _ _=>rfl)) (da_consj (d_ixj x_ixE (d_varj 4) d_intj (fun _ _=>rfl)) da_nilj))) (da_consj (d_callj c__law_minus (hr.mono (by decide)) rfl (da_consj (d_ixj x_ixE (d_varj 5) d_intj (fun _ _=>rfl)) (da_consj (d_ixj x_ixE (d_varj 4) d_intj (fun _ _=>rfl)) da_nilj))) da_nilj))) (ds_consj (dst_setj (i:=9) sc_law.nd (d_callj c__law_plus (hr.mono (by decide)) rfl (da_consj (d_callj c__law_times (hr.mono (by decide)) rfl (da_consj (d_varj 10) (da_consj (d_varj 10) da_nilj))) (da_consj (d_callj c__law_times (hr.mono (by decide)) rfl (da_consj (d_varj 11) (da_consj (d_varj 11) da_nilj))) da_nilj)))) (ds_onej (dst_setj (i:=7) sc_law.nd (d_tupj (da_consj (d_varj 9) (da_consj (d_callj c__law_times (hr.mono (by decide)) rfl (da_consj (d_varj 6) (da_consj (d_varj 6) da_nilj))) da_nilj))))))) ds_nilj) (ds_consj (dst_setj (i:=3) sc_law.nd (d_callj c__law_normal (hr.mono (by decide)) rfl (da_consj (d_callj c__law_coupler (hr.mono (by decide)) rfl (da_consj (d_varj 4) (da_consj (d_varj 5) (da_consj (d_varj 6) (da_consj (d_varj 7) (da_consj (d_varj 8) da_nilj)))))) da_nilj))) (ds_onej (dst_ifj (dt_notj (dt_valj (d_callj c__law_alike (hr.mono (by decide)) rfl (da_consj (d_callj c_coupler_curve (hr.mono (by decide)) rfl (da_consj (d_varj 4) (da_consj (d_varj 5) (da_consj (d_varj 6) (da_consj (d_varj 7) (da_consj (d_varj 8) da_nilj)))))) (da_consj (d_varj 3) da_nilj))))) (ds_onej (dst_retj d_blj)) ds_nilj))))))) (ds_onej (dst_retj d_blj))),fun ds S k h=>?_⟩)
  · obtain⟨_,rfl,_⟩:=h
    rfl
  · obtain⟨ns,rfl,hl,w⟩:=h
    have hb:∀ z:Int,0<=z->z<=63->-(2 ^ 62)<=z/\z < 2 ^ 62:=fun z _ _=>by omega
    refine⟨hb _ (by split <;> (try split) <;> omega) (by rw [List.length_map]; split <;> (try split) <;> omega),?_⟩
    refine loop_all (P:=fun d=>∃ i:Int,d=.int i/\0<=i) (fun L S'=>(∃ r1 r2 r3 r4 r5 r6 r7 r8 r9 r10 r11,L=[some (.rl (List.map D.int ns)),r1,r2,r3,r4,r5,r6,r7,r8,r9,r10,r11])) (fun _ _ _=>trivial) ?_ (fun L S' _=>w S') _ ?_ _ _ ⟨_,_,_,_,_,_,_,_,_,_,_,rfl⟩
    · rintro d L S1 Nx ⟨i,rfl,hi⟩ ⟨r1,r2,r3,r4,r5,r6,r7,r8,r9,r10,r11,rfl⟩ hN
      refine⟨ns,i,rfl,hi,fun p n0 b hp hnb=>?_⟩
      have hS:SOK (put S1 p (.lst [.int n0,.bl b])) p:=⟨n0,b,put_same,hnb⟩
      generalize put S1 p (.lst [.int n0,.bl b])=T1 at hS ⊢
      refine⟨p,rfl,hS,fun z T2 hz h0 h1 d2=>⟨([W z.ox z.oy,W z.px z.py,fr z.cr,.tup [fr z.s0,fr z.s1],W z.al z.le],none),rfl,rfl,rfl,?_⟩⟩
      dsimp only
      refine seq_ifx (fun L S'=>∃ (z:Cp) (m3 m9 m10 m11:Option D),L=[some (.rl (List.map D.int ns)),some (.int i),some (.ref p),m3,some (W z.ox z.oy),some (W z.px z.py),some (fr z.cr),some (.tup [fr z.s0,fr z.s1]),some (W z.al z.le),m9,m10,m11]/\Fr z/\Sd 31 24 z.s0/\Sd 30 6 z.s1) ?_ (fun go=>?_)
      rotate_left
      · refine⟨p,5,rfl,by decide,by decide,d2.1,fun r T3 r0 r1' d3=>⟨_,eq_int,ite_b (fun _=>?_) (fun _=>go [some (.rl (List.map D.int ns)),some (.int i),some (.ref p),r3,some (W z.ox z.oy),some (W z.px z.py),some (fr z.cr),some (.tup [fr z.s0,fr z.s1]),some (W z.al z.le),r9,r10,r11] T3 ⟨z,_,_,_,_,rfl,hz,⟨h0.num.mono (by decide),h0.den.mono (by decide)⟩,⟨h1.num.mono (by decide),h1.den.mono (by decide)⟩⟩)⟩⟩
        have a1:Sd 9 6 (z.px - z.ox):=by
          rw [<- sub_of]
          refine Sd.divInt ?_ (hz.px.den.mul hz.ox.den) (den_mul_ne _ _)
          have q1:Bt 8 (z.px.num*z.ox.den):=hz.px.num.mul hz.ox.den
          have q2:Bt 7 (z.ox.num*z.px.den):=hz.ox.num.mul hz.px.den
          unfold Bt at*
          omega
        have a2:Sd 8 6 (z.py - z.oy):=by
          rw [<- sub_of]
          refine Sd.divInt ?_ (hz.py.den.mul hz.oy.den) (den_mul_ne _ _)
          have q1:Bt 7 (z.py.num*z.oy.den):=hz.py.num.mul hz.oy.den
          have q2:Bt 7 (z.oy.num*z.py.den):=hz.oy.num.mul hz.py.den
          unfold Bt at*
          omega
        have a3:Sd 18 12 ((z.px - z.ox)*(z.px - z.ox)):=by
          rw [<- mul_of]
          exact Sd.divInt (a1.num.mul a1.num) (a1.den.mul a1.den) (den_mul_ne _ _)
        have a4:Sd 16 12 ((z.py - z.oy)*(z.py - z.oy)):=by
          rw [<- mul_of]
          exact Sd.divInt (a2.num.mul a2.num) (a2.den.mul a2.den) (den_mul_ne _ _)
        have a5:Sd 31 24 ((z.px - z.ox)*(z.px - z.ox)+(z.py - z.oy)*(z.py - z.oy)):=by
          rw [<- add_of]
          exact Sd.divInt (((a3.num.mul a4.den).add (a4.num.mul a3.den)).mono (by decide)) (a3.den.mul a4.den) (den_mul_ne _ _)
        have a6:Sd 8 6 (z.cr*z.cr):=by
          rw [<- mul_of]
          exact Sd.divInt (hz.cr.num.mul hz.cr.num) (hz.cr.den.mul hz.cr.den) (den_mul_ne _ _)
        refine⟨z.px,z.ox,rfl,hz.px.sz (by decide) (by decide),hz.ox.sz (by decide) (by decide),z.py,z.oy,rfl,hz.py.sz (by decide) (by decide),hz.oy.sz (by decide) (by decide),_,_,_,_,_,rfl,den_mul_ne (z.px - z.ox) (z.px - z.ox),(a1).num.mono (by decide),(a1).den.mono (by decide),(a1).num.mono (by decide),(a1).den.mono (by decide),mul_of (z.px - z.ox) (z.px - z.ox),_,_,_,_,_,rfl,den_mul_ne (z.py - z.oy) (z.py - z.oy),(a2).num.mono (by decide),(a2).den.mono (by decide),(a2).num.mono (by decide),(a2).den.mono (by decide),mul_of (z.py - z.oy) (z.py - z.oy),_,_,_,_,_,rfl,den_mul_ne ((z.px - z.ox)*(z.px - z.ox)) ((z.py - z.oy)*(z.py - z.oy)),(a3).num.mono (by decide),(a3).den.mono (by decide),(a4).num.mono (by decide),(a4).den.mono (by decide),add_of ((z.px - z.ox)*(z.px - z.ox)) ((z.py - z.oy)*(z.py - z.oy)),_,_,_,_,_,rfl,den_mul_ne (z.cr) (z.cr),(hz.cr).num.mono (by decide),(hz.cr).den.mono (by decide),(hz.cr).num.mono (by decide),(hz.cr).den.mono (by decide),mul_of (z.cr) (z.cr),few,?_⟩
        exact go [some (.rl (List.map D.int ns)),some (.int i),some (.ref p),r3,some (W z.ox z.oy),some (W z.px z.py),some (fr z.cr),some (.tup [fr ((z.px - z.ox)*(z.px - z.ox)+(z.py - z.oy)*(z.py - z.oy)),fr (z.cr*z.cr)]),some (W z.al z.le),some (fr ((z.px - z.ox)*(z.px - z.ox)+(z.py - z.oy)*(z.py - z.oy))),some (fr (z.px - z.ox)),some (fr (z.py - z.oy))] T3 ⟨{z with s0:=(z.px - z.ox)*(z.px - z.ox)+(z.py - z.oy)*(z.py - z.oy),s1:=z.cr*z.cr},_,_,_,_,rfl,⟨hz.ox,hz.oy,hz.px,hz.py,hz.cr,hz.al,hz.le⟩,a5,⟨a6.num.mono (by decide),a6.den⟩⟩
      · rintro L S' ⟨z,m3,m9,m10,m11,rfl,hz,h0,h1⟩
        obtain⟨M1,M2,ok⟩:=cp_ok hz h0 h1
        refine⟨z,M1,M2,rfl,ok,fun S3 p3 e3 g3 x3 R3 ⟨gx,gy,gv,rx,ry,rv⟩ h3=>?_⟩
        have wU:=ok.wU rx ry rv
        have ne:g3≠[]:=fun e=>by
          have:([6,0],(1:Rat))∈g3:=R3.mem.mpr ⟨by decide,ok.top rx ry rv⟩
          rw [e] at this
          cases this
        have N0:0 < M2*M1*(M2*M1):=Int.mul_pos (Int.mul_pos ok.p2 ok.p1) (Int.mul_pos ok.p2 ok.p1)
        have bN:Bt 180 (M2*M1*(M2*M1)):=(ok.b2.mul ok.b1).mul (ok.b2.mul ok.b1)
        have D3:=R3.dn wU
        refine⟨p3,g3,e3,rfl,h3,R3.nd,R3.len wU,R3.two,fun q hq=>⟨R3.n0 q hq,D3.sz N0 (bN.mono (by decide)) (by decide) q hq,(dvd_bt (D3.dv (by omega) q.2 (List.mem_map.mpr ⟨q,hq,rfl⟩)) (by omega) bN).mono (by decide)⟩,fun e=>absurd e ne,fun _ S4 p4 e4 ns4 x4 hn4 h4=>?_⟩
        refine⟨z,M1,M2,rfl,ok,fun S5 p5 e5 g5 ns5 x5 R5 hn5 h5=>?_⟩
        have h4':=x5 _ _ h4
        rw [nm_cv] at h5 h4'
        obtain⟨la,sub⟩:=R5.alike R3
        obtain⟨_,sub'⟩:=R3.alike R5
        have k5:=congrArg List.length hn5.keys
        have k4:=congrArg List.length hn4.keys
        rw [List.length_map,List.length_map] at k5 k4
        refine⟨p5,p4,cvN ns5,cvN ns4,e5,e4,rfl,h5,h4',by unfold cvN; rw [List.length_map,List.length_map]; omega,by rw [cvN_keys,hn5.keys]; exact R5.nd,by rw [cvN_keys,hn4.keys]; exact R3.nd,cvN_sub (nrm_uniq (s:=1) hn5 hn4 (by decide) R5.two R3.two (fun q hq=>by rw [Rat.one_mul]; exact sub' q hq) (fun q hq=>⟨q.2,sub q hq,by rw [Rat.one_mul]⟩) R5.nd R3.nd),fun q hq=>?_,fun S6 x6=>ite_nb (fun z=>by cases z) (fun _=>hN _ _ ⟨_,_,_,_,_,_,_,_,_,_,_,rfl⟩)⟩
        have m:q.1∈(cvN ns5).map (·.1):=List.mem_map.mpr ⟨q,hq,rfl⟩
        rw [cvN_keys,hn5.keys] at m
        obtain⟨y,hy,e⟩:=List.mem_map.mp m
        rw [<- e]
        exact R5.two y hy
    · intro d hd
      obtain⟨z,_,rfl⟩:=List.mem_map.mp hd
      exact⟨_,rfl,by omega⟩
theorem law_ask (ns:List Int) (h:ns.length<=63):F_law [.rl (List.map D.int ns)] (fun _=>none) (fun d _=>d=.bl true):=⟨ns,rfl,h,fun _=>rfl⟩
end My
def PySem.W.Fast.tw14183127452551490922:Unit:=()
def PySem.W.Fast.tw2827899666888844482:Unit:=()
def PySem.W.Fast.tw14472393155944332573:Unit:=()
def PySem.W.Fast.tw13347355401011088538:Unit:=()
def PySem.W.Fast.tw8023143637946098535:Unit:=()
def PySem.W.Fast.tw10806225421384239140:Unit:=()
def PySem.W.Fast.tw12717075044626286575:Unit:=()
def PySem.W.Fast.tw86260335932822041:Unit:=()
def PySem.W.Fast.tw4924936175783544605:Unit:=()
def PySem.W.Fast.tw18061095836650658441:Unit:=()
def PySem.W.Fast.tw14318346474814953320:Unit:=()
def PySem.W.Fast.tw1546241477679927399:Unit:=()
namespace My
open PySem PySem.Spec PyProof.Rows L2 DL HM
set_option maxHeartbeats 4000000
theorem all_mk {l:PySem.W.OpenLaw} {w:World} {K:Fg} {h:Heap} {mg:Str->Option Value} {fa:Addr} (X:K.In h) (G:h.Ns mainGlobals mg) (hfa:mg "law"=some (.ref fa))
    {f1:Addr} {od1 an1:Option Addr} {sl1:Array (Option Value)} {oc1 kV1 dc1 pm1 cd1 ct1:Value}
    {f2:Addr} {od2 an2:Option Addr} {sl2:Array (Option Value)} {oc2 kV2 dc2 pm2 cd2 ct2:Value}
    {f3:Addr} {od3 an3:Option Addr} {sl3:Array (Option Value)} {oc3 kV3 dc3 pm3 cd3 ct3:Value}
    {f4:Addr} {od4 an4:Option Addr} {sl4:Array (Option Value)} {oc4 kV4 dc4 pm4 cd4 ct4:Value}
    {f5:Addr} {od5 an5:Option Addr} {sl5:Array (Option Value)} {oc5 kV5 dc5 pm5 cd5 ct5:Value}
    {f6:Addr} {od6 an6:Option Addr} {sl6:Array (Option Value)} {oc6 kV6 dc6 pm6 cd6 ct6:Value}
    {f7:Addr} {od7 an7:Option Addr} {sl7:Array (Option Value)} {oc7 kV7 dc7 pm7 cd7 ct7:Value}
    {f8:Addr} {od8 an8:Option Addr} {sl8:Array (Option Value)} {oc8 kV8 dc8 pm8 cd8 ct8:Value}
    {f9:Addr} {od9 an9:Option Addr} {sl9:Array (Option Value)} {oc9 kV9 dc9 pm9 cd9 ct9:Value}
    {f10:Addr} {od10 an10:Option Addr} {sl10:Array (Option Value)} {oc10 kV10 dc10 pm10 cd10 ct10:Value}
    {f11:Addr} {od11 an11:Option Addr} {sl11:Array (Option Value)} {oc11 kV11 dc11 pm11 cd11 ct11:Value}
    {f12:Addr} {od12 an12:Option Addr} {sl12:Array (Option Value)} {oc12 kV12 dc12 pm12 cd12 ct12:Value}
    {f13:Addr} {od13 an13:Option Addr} {sl13:Array (Option Value)} {oc13 kV13 dc13 pm13 cd13 ct13:Value}
    {f14:Addr} {od14 an14:Option Addr} {sl14:Array (Option Value)} {oc14 kV14 dc14 pm14 cd14 ct14:Value}
    {f15:Addr} {od15 an15:Option Addr} {sl15:Array (Option Value)} {oc15 kV15 dc15 pm15 cd15 ct15:Value}
    {f16:Addr} {od16 an16:Option Addr} {sl16:Array (Option Value)} {oc16 kV16 dc16 pm16 cd16 ct16:Value}
    {f17:Addr} {od17 an17:Option Addr} {sl17:Array (Option Value)} {oc17 kV17 dc17 pm17 cd17 ct17:Value}
    {f18:Addr} {od18 an18:Option Addr} {sl18:Array (Option Value)} {oc18 kV18 dc18 pm18 cd18 ct18:Value}
    {f19:Addr} {od19 an19:Option Addr} {sl19:Array (Option Value)} {oc19 kV19 dc19 pm19 cd19 ct19:Value}
    {f20:Addr} {od20 an20:Option Addr} {sl20:Array (Option Value)} {oc20 kV20 dc20 pm20 cd20 ct20:Value}
    {f21:Addr} {od21 an21:Option Addr} {sl21:Array (Option Value)} {oc21 kV21 dc21 pm21 cd21 ct21:Value}
    {f22:Addr} {od22 an22:Option Addr} {sl22:Array (Option Value)} {oc22 kV22 dc22 pm22 cd22 ct22:Value}
    {f23:Addr} {od23 an23:Option Addr} {sl23:Array (Option Value)} {oc23 kV23 dc23 pm23 cd23 ct23:Value}
    {f24:Addr} {od24 an24:Option Addr} {sl24:Array (Option Value)} {oc24 kV24 dc24 pm24 cd24 ct24:Value}
    {f25:Addr} {od25 an25:Option Addr} {sl25:Array (Option Value)} {oc25 kV25 dc25 pm25 cd25 ct25:Value}
    {f26:Addr} {od26 an26:Option Addr} {sl26:Array (Option Value)} {oc26 kV26 dc26 pm26 cd26 ct26:Value}
    {f27:Addr} {od27 an27:Option Addr} {sl27:Array (Option Value)} {oc27 kV27 dc27 pm27 cd27 ct27:Value}
    {f28:Addr} {od28 an28:Option Addr} {sl28:Array (Option Value)} {oc28 kV28 dc28 pm28 cd28 ct28:Value}
    {f29:Addr} {od29 an29:Option Addr} {sl29:Array (Option Value)} {oc29 kV29 dc29 pm29 cd29 ct29:Value}
    {f30:Addr} {od30 an30:Option Addr} {sl30:Array (Option Value)} {oc30 kV30 dc30 pm30 cd30 ct30:Value}
    {f31:Addr} {od31 an31:Option Addr} {sl31:Array (Option Value)} {oc31 kV31 dc31 pm31 cd31 ct31:Value}
    {f32:Addr} {od32 an32:Option Addr} {sl32:Array (Option Value)} {oc32 kV32 dc32 pm32 cd32 ct32:Value}
    {f33:Addr} {od33 an33:Option Addr} {sl33:Array (Option Value)} {oc33 kV33 dc33 pm33 cd33 ct33:Value}
    {f34:Addr} {od34 an34:Option Addr} {sl34:Array (Option Value)} {oc34 kV34 dc34 pm34 cd34 ct34:Value}
    {f35:Addr} {od35 an35:Option Addr} {sl35:Array (Option Value)} {oc35 kV35 dc35 pm35 cd35 ct35:Value}
    {f36:Addr} {od36 an36:Option Addr} {sl36:Array (Option Value)} {oc36 kV36 dc36 pm36 cd36 ct36:Value}
    {f37:Addr} {od37 an37:Option Addr} {sl37:Array (Option Value)} {oc37 kV37 dc37 pm37 cd37 ct37:Value}
    {f38:Addr} {od38 an38:Option Addr} {sl38:Array (Option Value)} {oc38 kV38 dc38 pm38 cd38 ct38:Value}
    {f39:Addr} {od39 an39:Option Addr} {sl39:Array (Option Value)} {oc39 kV39 dc39 pm39 cd39 ct39:Value}
    {f40:Addr} {od40 an40:Option Addr} {sl40:Array (Option Value)} {oc40 kV40 dc40 pm40 cd40 ct40:Value}
    {f41:Addr} {od41 an41:Option Addr} {sl41:Array (Option Value)} {oc41 kV41 dc41 pm41 cd41 ct41:Value}
    {f42:Addr} {od42 an42:Option Addr} {sl42:Array (Option Value)} {oc42 kV42 dc42 pm42 cd42 ct42:Value}
    {p_ONE:Addr} {od_ONE:Option Addr} {sl_ONE:Array (Option Value)} {n_ONE:Nat} {t0_ONE t1_ONE:Tok}
    {p_NOUGHT:Addr} {od_NOUGHT:Option Addr} {sl_NOUGHT:Array (Option Value)} {n_NOUGHT:Nat} {t0_NOUGHT t1_NOUGHT:Tok}
    (a1:PySem.W.nsIn K mainGlobals "common_divisor"=some (some (.ref f1))) (l1:K.lookup f1=some ⟨oc1,od1,.func (PySem.W.fnOf "common_divisor" "common_divisor" (defArgs s_common_divisor) (defBody s_common_divisor) (defScope s_common_divisor) .none kV1 dc1 pm1 an1 cd1 ct1),sl1⟩) (e1:PySem.W.codeIn K cd1 "common_divisor"=true) (k1:PySem.W.keepIn K (.ref f1)=true)
    (a2:PySem.W.nsIn K mainGlobals "ratio"=some (some (.ref f2))) (l2:K.lookup f2=some ⟨oc2,od2,.func (PySem.W.fnOf "ratio" "ratio" (defArgs s_ratio) (defBody s_ratio) (defScope s_ratio) .none kV2 dc2 pm2 an2 cd2 ct2),sl2⟩) (e2:PySem.W.codeIn K cd2 "ratio"=true) (k2:PySem.W.keepIn K (.ref f2)=true)
    (a3:PySem.W.nsIn K mainGlobals "plus"=some (some (.ref f3))) (l3:K.lookup f3=some ⟨oc3,od3,.func (PySem.W.fnOf "plus" "plus" (defArgs s_plus) (defBody s_plus) (defScope s_plus) .none kV3 dc3 pm3 an3 cd3 ct3),sl3⟩) (e3:PySem.W.codeIn K cd3 "plus"=true) (k3:PySem.W.keepIn K (.ref f3)=true)
    (a4:PySem.W.nsIn K mainGlobals "minus"=some (some (.ref f4))) (l4:K.lookup f4=some ⟨oc4,od4,.func (PySem.W.fnOf "minus" "minus" (defArgs s_minus) (defBody s_minus) (defScope s_minus) .none kV4 dc4 pm4 an4 cd4 ct4),sl4⟩) (e4:PySem.W.codeIn K cd4 "minus"=true) (k4:PySem.W.keepIn K (.ref f4)=true)
    (a5:PySem.W.nsIn K mainGlobals "times"=some (some (.ref f5))) (l5:K.lookup f5=some ⟨oc5,od5,.func (PySem.W.fnOf "times" "times" (defArgs s_times) (defBody s_times) (defScope s_times) .none kV5 dc5 pm5 an5 cd5 ct5),sl5⟩) (e5:PySem.W.codeIn K cd5 "times"=true) (k5:PySem.W.keepIn K (.ref f5)=true)
    (a6:PySem.W.nsIn K mainGlobals "negative"=some (some (.ref f6))) (l6:K.lookup f6=some ⟨oc6,od6,.func (PySem.W.fnOf "negative" "negative" (defArgs s_negative) (defBody s_negative) (defScope s_negative) .none kV6 dc6 pm6 an6 cd6 ct6),sl6⟩) (e6:PySem.W.codeIn K cd6 "negative"=true) (k6:PySem.W.keepIn K (.ref f6)=true)
    (a7:PySem.W.nsIn K mainGlobals "product_of_ways"=some (some (.ref f7))) (l7:K.lookup f7=some ⟨oc7,od7,.func (PySem.W.fnOf "product_of_ways" "product_of_ways" (defArgs s_product_of_ways) (defBody s_product_of_ways) (defScope s_product_of_ways) .none kV7 dc7 pm7 an7 cd7 ct7),sl7⟩) (e7:PySem.W.codeIn K cd7 "product_of_ways"=true) (k7:PySem.W.keepIn K (.ref f7)=true)
    (a8:PySem.W.nsIn K mainGlobals "without_noughts"=some (some (.ref f8))) (l8:K.lookup f8=some ⟨oc8,od8,.func (PySem.W.fnOf "without_noughts" "without_noughts" (defArgs s_without_noughts) (defBody s_without_noughts) (defScope s_without_noughts) .none kV8 dc8 pm8 an8 cd8 ct8),sl8⟩) (e8:PySem.W.codeIn K cd8 "without_noughts"=true) (k8:PySem.W.keepIn K (.ref f8)=true)
    (a9:PySem.W.nsIn K mainGlobals "common_multiple"=some (some (.ref f9))) (l9:K.lookup f9=some ⟨oc9,od9,.func (PySem.W.fnOf "common_multiple" "common_multiple" (defArgs s_common_multiple) (defBody s_common_multiple) (defScope s_common_multiple) .none kV9 dc9 pm9 an9 cd9 ct9),sl9⟩) (e9:PySem.W.codeIn K cd9 "common_multiple"=true) (k9:PySem.W.keepIn K (.ref f9)=true)
    (a10:PySem.W.nsIn K mainGlobals "common_bottom"=some (some (.ref f10))) (l10:K.lookup f10=some ⟨oc10,od10,.func (PySem.W.fnOf "common_bottom" "common_bottom" (defArgs s_common_bottom) (defBody s_common_bottom) (defScope s_common_bottom) .none kV10 dc10 pm10 an10 cd10 ct10),sl10⟩) (e10:PySem.W.codeIn K cd10 "common_bottom"=true) (k10:PySem.W.keepIn K (.ref f10)=true)
    (a11:PySem.W.nsIn K mainGlobals "tops_over"=some (some (.ref f11))) (l11:K.lookup f11=some ⟨oc11,od11,.func (PySem.W.fnOf "tops_over" "tops_over" (defArgs s_tops_over) (defBody s_tops_over) (defScope s_tops_over) .none kV11 dc11 pm11 an11 cd11 ct11),sl11⟩) (e11:PySem.W.codeIn K cd11 "tops_over"=true) (k11:PySem.W.keepIn K (.ref f11)=true)
    (a12:PySem.W.nsIn K mainGlobals "normal_of_tops"=some (some (.ref f12))) (l12:K.lookup f12=some ⟨oc12,od12,.func (PySem.W.fnOf "normal_of_tops" "normal_of_tops" (defArgs s_normal_of_tops) (defBody s_normal_of_tops) (defScope s_normal_of_tops) .none kV12 dc12 pm12 an12 cd12 ct12),sl12⟩) (e12:PySem.W.codeIn K cd12 "normal_of_tops"=true) (k12:PySem.W.keepIn K (.ref f12)=true)
    (a13:PySem.W.nsIn K mainGlobals "normal"=some (some (.ref f13))) (l13:K.lookup f13=some ⟨oc13,od13,.func (PySem.W.fnOf "normal" "normal" (defArgs s_normal) (defBody s_normal) (defScope s_normal) .none kV13 dc13 pm13 an13 cd13 ct13),sl13⟩) (e13:PySem.W.codeIn K cd13 "normal"=true) (k13:PySem.W.keepIn K (.ref f13)=true)
    (a14:PySem.W.nsIn K mainGlobals "line_from"=some (some (.ref f14))) (l14:K.lookup f14=some ⟨oc14,od14,.func (PySem.W.fnOf "line_from" "line_from" (defArgs s_line_from) (defBody s_line_from) (defScope s_line_from) .none kV14 dc14 pm14 an14 cd14 ct14),sl14⟩) (e14:PySem.W.codeIn K cd14 "line_from"=true) (k14:PySem.W.keepIn K (.ref f14)=true)
    (a15:PySem.W.nsIn K mainGlobals "round_about"=some (some (.ref f15))) (l15:K.lookup f15=some ⟨oc15,od15,.func (PySem.W.fnOf "round_about" "round_about" (defArgs s_round_about) (defBody s_round_about) (defScope s_round_about) .none kV15 dc15 pm15 an15 cd15 ct15),sl15⟩) (e15:PySem.W.codeIn K cd15 "round_about"=true) (k15:PySem.W.keepIn K (.ref f15)=true)
    (a16:PySem.W.nsIn K mainGlobals "curve_plus"=some (some (.ref f16))) (l16:K.lookup f16=some ⟨oc16,od16,.func (PySem.W.fnOf "curve_plus" "curve_plus" (defArgs s_curve_plus) (defBody s_curve_plus) (defScope s_curve_plus) .none kV16 dc16 pm16 an16 cd16 ct16),sl16⟩) (e16:PySem.W.codeIn K cd16 "curve_plus"=true) (k16:PySem.W.keepIn K (.ref f16)=true)
    (a17:PySem.W.nsIn K mainGlobals "curve_grown"=some (some (.ref f17))) (l17:K.lookup f17=some ⟨oc17,od17,.func (PySem.W.fnOf "curve_grown" "curve_grown" (defArgs s_curve_grown) (defBody s_curve_grown) (defScope s_curve_grown) .none kV17 dc17 pm17 an17 cd17 ct17),sl17⟩) (e17:PySem.W.codeIn K cd17 "curve_grown"=true) (k17:PySem.W.keepIn K (.ref f17)=true)
    (a18:PySem.W.nsIn K mainGlobals "curve_minus"=some (some (.ref f18))) (l18:K.lookup f18=some ⟨oc18,od18,.func (PySem.W.fnOf "curve_minus" "curve_minus" (defArgs s_curve_minus) (defBody s_curve_minus) (defScope s_curve_minus) .none kV18 dc18 pm18 an18 cd18 ct18),sl18⟩) (e18:PySem.W.codeIn K cd18 "curve_minus"=true) (k18:PySem.W.keepIn K (.ref f18)=true)
    (a19:PySem.W.nsIn K mainGlobals "product_of_tops"=some (some (.ref f19))) (l19:K.lookup f19=some ⟨oc19,od19,.func (PySem.W.fnOf "product_of_tops" "product_of_tops" (defArgs s_product_of_tops) (defBody s_product_of_tops) (defScope s_product_of_tops) .none kV19 dc19 pm19 an19 cd19 ct19),sl19⟩) (e19:PySem.W.codeIn K cd19 "product_of_tops"=true) (k19:PySem.W.keepIn K (.ref f19)=true)
    (a20:PySem.W.nsIn K mainGlobals "curve_times"=some (some (.ref f20))) (l20:K.lookup f20=some ⟨oc20,od20,.func (PySem.W.fnOf "curve_times" "curve_times" (defArgs s_curve_times) (defBody s_curve_times) (defScope s_curve_times) .none kV20 dc20 pm20 an20 cd20 ct20),sl20⟩) (e20:PySem.W.codeIn K cd20 "curve_times"=true) (k20:PySem.W.keepIn K (.ref f20)=true)
    (a21:PySem.W.nsIn K mainGlobals "difference_of_products"=some (some (.ref f21))) (l21:K.lookup f21=some ⟨oc21,od21,.func (PySem.W.fnOf "difference_of_products" "difference_of_products" (defArgs s_difference_of_products) (defBody s_difference_of_products) (defScope s_difference_of_products) .none kV21 dc21 pm21 an21 cd21 ct21),sl21⟩) (e21:PySem.W.codeIn K cd21 "difference_of_products"=true) (k21:PySem.W.keepIn K (.ref f21)=true)
    (a22:PySem.W.nsIn K mainGlobals "rod_curves"=some (some (.ref f22))) (l22:K.lookup f22=some ⟨oc22,od22,.func (PySem.W.fnOf "rod_curves" "rod_curves" (defArgs s_rod_curves) (defBody s_rod_curves) (defScope s_rod_curves) .none kV22 dc22 pm22 an22 cd22 ct22),sl22⟩) (e22:PySem.W.codeIn K cd22 "rod_curves"=true) (k22:PySem.W.keepIn K (.ref f22)=true)
    (a23:PySem.W.nsIn K mainGlobals "coupler_curve"=some (some (.ref f23))) (l23:K.lookup f23=some ⟨oc23,od23,.func (PySem.W.fnOf "coupler_curve" "coupler_curve" (defArgs s_coupler_curve) (defBody s_coupler_curve) (defScope s_coupler_curve) .none kV23 dc23 pm23 an23 cd23 ct23),sl23⟩) (e23:PySem.W.codeIn K cd23 "coupler_curve"=true) (k23:PySem.W.keepIn K (.ref f23)=true)
    (a24:PySem.W.nsIn K mainGlobals "_law_cell_at"=some (some (.ref f24))) (l24:K.lookup f24=some ⟨oc24,od24,.func (PySem.W.fnOf "_law_cell_at" "_law_cell_at" (defArgs s__law_cell_at) (defBody s__law_cell_at) (defScope s__law_cell_at) .none kV24 dc24 pm24 an24 cd24 ct24),sl24⟩) (e24:PySem.W.codeIn K cd24 "_law_cell_at"=true) (k24:PySem.W.keepIn K (.ref f24)=true)
    (a25:PySem.W.nsIn K mainGlobals "_law_state"=some (some (.ref f25))) (l25:K.lookup f25=some ⟨oc25,od25,.func (PySem.W.fnOf "_law_state" "_law_state" (defArgs s__law_state) (defBody s__law_state) (defScope s__law_state) .none kV25 dc25 pm25 an25 cd25 ct25),sl25⟩) (e25:PySem.W.codeIn K cd25 "_law_state"=true) (k25:PySem.W.keepIn K (.ref f25)=true)
    (a26:PySem.W.nsIn K mainGlobals "_law_take"=some (some (.ref f26))) (l26:K.lookup f26=some ⟨oc26,od26,.func (PySem.W.fnOf "_law_take" "_law_take" (defArgs s__law_take) (defBody s__law_take) (defScope s__law_take) .none kV26 dc26 pm26 an26 cd26 ct26),sl26⟩) (e26:PySem.W.codeIn K cd26 "_law_take"=true) (k26:PySem.W.keepIn K (.ref f26)=true)
    (a27:PySem.W.nsIn K mainGlobals "_law_divisor"=some (some (.ref f27))) (l27:K.lookup f27=some ⟨oc27,od27,.func (PySem.W.fnOf "_law_divisor" "_law_divisor" (defArgs s__law_divisor) (defBody s__law_divisor) (defScope s__law_divisor) .none kV27 dc27 pm27 an27 cd27 ct27),sl27⟩) (e27:PySem.W.codeIn K cd27 "_law_divisor"=true) (k27:PySem.W.keepIn K (.ref f27)=true)
    (a28:PySem.W.nsIn K mainGlobals "_law_ratio"=some (some (.ref f28))) (l28:K.lookup f28=some ⟨oc28,od28,.func (PySem.W.fnOf "_law_ratio" "_law_ratio" (defArgs s__law_ratio) (defBody s__law_ratio) (defScope s__law_ratio) .none kV28 dc28 pm28 an28 cd28 ct28),sl28⟩) (e28:PySem.W.codeIn K cd28 "_law_ratio"=true) (k28:PySem.W.keepIn K (.ref f28)=true)
    (a29:PySem.W.nsIn K mainGlobals "_law_times"=some (some (.ref f29))) (l29:K.lookup f29=some ⟨oc29,od29,.func (PySem.W.fnOf "_law_times" "_law_times" (defArgs s__law_times) (defBody s__law_times) (defScope s__law_times) .none kV29 dc29 pm29 an29 cd29 ct29),sl29⟩) (e29:PySem.W.codeIn K cd29 "_law_times"=true) (k29:PySem.W.keepIn K (.ref f29)=true)
    (a30:PySem.W.nsIn K mainGlobals "_law_small"=some (some (.ref f30))) (l30:K.lookup f30=some ⟨oc30,od30,.func (PySem.W.fnOf "_law_small" "_law_small" (defArgs s__law_small) (defBody s__law_small) (defScope s__law_small) .none kV30 dc30 pm30 an30 cd30 ct30),sl30⟩) (e30:PySem.W.codeIn K cd30 "_law_small"=true) (k30:PySem.W.keepIn K (.ref f30)=true)
    (a31:PySem.W.nsIn K mainGlobals "_law_above"=some (some (.ref f31))) (l31:K.lookup f31=some ⟨oc31,od31,.func (PySem.W.fnOf "_law_above" "_law_above" (defArgs s__law_above) (defBody s__law_above) (defScope s__law_above) .none kV31 dc31 pm31 an31 cd31 ct31),sl31⟩) (e31:PySem.W.codeIn K cd31 "_law_above"=true) (k31:PySem.W.keepIn K (.ref f31)=true)
    (a32:PySem.W.nsIn K mainGlobals "_law_plus"=some (some (.ref f32))) (l32:K.lookup f32=some ⟨oc32,od32,.func (PySem.W.fnOf "_law_plus" "_law_plus" (defArgs s__law_plus) (defBody s__law_plus) (defScope s__law_plus) .none kV32 dc32 pm32 an32 cd32 ct32),sl32⟩) (e32:PySem.W.codeIn K cd32 "_law_plus"=true) (k32:PySem.W.keepIn K (.ref f32)=true)
    (a33:PySem.W.nsIn K mainGlobals "_law_minus"=some (some (.ref f33))) (l33:K.lookup f33=some ⟨oc33,od33,.func (PySem.W.fnOf "_law_minus" "_law_minus" (defArgs s__law_minus) (defBody s__law_minus) (defScope s__law_minus) .none kV33 dc33 pm33 an33 cd33 ct33),sl33⟩) (e33:PySem.W.codeIn K cd33 "_law_minus"=true) (k33:PySem.W.keepIn K (.ref f33)=true)
    (a34:PySem.W.nsIn K mainGlobals "_law_added"=some (some (.ref f34))) (l34:K.lookup f34=some ⟨oc34,od34,.func (PySem.W.fnOf "_law_added" "_law_added" (defArgs s__law_added) (defBody s__law_added) (defScope s__law_added) .none kV34 dc34 pm34 an34 cd34 ct34),sl34⟩) (e34:PySem.W.codeIn K cd34 "_law_added"=true) (k34:PySem.W.keepIn K (.ref f34)=true)
    (a35:PySem.W.nsIn K mainGlobals "_law_multiplied"=some (some (.ref f35))) (l35:K.lookup f35=some ⟨oc35,od35,.func (PySem.W.fnOf "_law_multiplied" "_law_multiplied" (defArgs s__law_multiplied) (defBody s__law_multiplied) (defScope s__law_multiplied) .none kV35 dc35 pm35 an35 cd35 ct35),sl35⟩) (e35:PySem.W.codeIn K cd35 "_law_multiplied"=true) (k35:PySem.W.keepIn K (.ref f35)=true)
    (a36:PySem.W.nsIn K mainGlobals "_law_same"=some (some (.ref f36))) (l36:K.lookup f36=some ⟨oc36,od36,.func (PySem.W.fnOf "_law_same" "_law_same" (defArgs s__law_same) (defBody s__law_same) (defScope s__law_same) .none kV36 dc36 pm36 an36 cd36 ct36),sl36⟩) (e36:PySem.W.codeIn K cd36 "_law_same"=true) (k36:PySem.W.keepIn K (.ref f36)=true)
    (a37:PySem.W.nsIn K mainGlobals "_law_normal"=some (some (.ref f37))) (l37:K.lookup f37=some ⟨oc37,od37,.func (PySem.W.fnOf "_law_normal" "_law_normal" (defArgs s__law_normal) (defBody s__law_normal) (defScope s__law_normal) .none kV37 dc37 pm37 an37 cd37 ct37),sl37⟩) (e37:PySem.W.codeIn K cd37 "_law_normal"=true) (k37:PySem.W.keepIn K (.ref f37)=true)
    (a38:PySem.W.nsIn K mainGlobals "_law_alike"=some (some (.ref f38))) (l38:K.lookup f38=some ⟨oc38,od38,.func (PySem.W.fnOf "_law_alike" "_law_alike" (defArgs s__law_alike) (defBody s__law_alike) (defScope s__law_alike) .none kV38 dc38 pm38 an38 cd38 ct38),sl38⟩) (e38:PySem.W.codeIn K cd38 "_law_alike"=true) (k38:PySem.W.keepIn K (.ref f38)=true)
    (a39:PySem.W.nsIn K mainGlobals "_law_four_rods"=some (some (.ref f39))) (l39:K.lookup f39=some ⟨oc39,od39,.func (PySem.W.fnOf "_law_four_rods" "_law_four_rods" (defArgs s__law_four_rods) (defBody s__law_four_rods) (defScope s__law_four_rods) .none kV39 dc39 pm39 an39 cd39 ct39),sl39⟩) (e39:PySem.W.codeIn K cd39 "_law_four_rods"=true) (k39:PySem.W.keepIn K (.ref f39)=true)
    (a40:PySem.W.nsIn K mainGlobals "_law_rounds"=some (some (.ref f40))) (l40:K.lookup f40=some ⟨oc40,od40,.func (PySem.W.fnOf "_law_rounds" "_law_rounds" (defArgs s__law_rounds) (defBody s__law_rounds) (defScope s__law_rounds) .none kV40 dc40 pm40 an40 cd40 ct40),sl40⟩) (e40:PySem.W.codeIn K cd40 "_law_rounds"=true) (k40:PySem.W.keepIn K (.ref f40)=true)
    (a41:PySem.W.nsIn K mainGlobals "_law_coupler"=some (some (.ref f41))) (l41:K.lookup f41=some ⟨oc41,od41,.func (PySem.W.fnOf "_law_coupler" "_law_coupler" (defArgs s__law_coupler) (defBody s__law_coupler) (defScope s__law_coupler) .none kV41 dc41 pm41 an41 cd41 ct41),sl41⟩) (e41:PySem.W.codeIn K cd41 "_law_coupler"=true) (k41:PySem.W.keepIn K (.ref f41)=true)
    (a42:PySem.W.nsIn K mainGlobals "law"=some (some (.ref f42))) (l42:K.lookup f42=some ⟨oc42,od42,.func (PySem.W.fnOf "law" "law" (defArgs s_law) (defBody s_law) (defScope s_law) .none kV42 dc42 pm42 an42 cd42 ct42),sl42⟩) (e42:PySem.W.codeIn K cd42 "law"=true) (k42:PySem.W.keepIn K (.ref f42)=true)
    (ag_ONE:PySem.W.nsIn K mainGlobals "ONE"=some (some (.ref p_ONE))) (lg_ONE:K.lookup p_ONE=some ⟨.type "tuple",od_ONE,.seq #[.int 1 t0_ONE,.int 1 t1_ONE] n_ONE,sl_ONE⟩)
    (ag_NOUGHT:PySem.W.nsIn K mainGlobals "NOUGHT"=some (some (.ref p_NOUGHT))) (lg_NOUGHT:K.lookup p_NOUGHT=some ⟨.type "tuple",od_NOUGHT,.seq #[.int 0 t0_NOUGHT,.int 1 t1_NOUGHT] n_NOUGHT,sl_NOUGHT⟩)
    (y_abs:PySem.W.nsIn K mainGlobals "abs"=some none) (y_max:PySem.W.nsIn K mainGlobals "max"=some none) (y_len:PySem.W.nsIn K mainGlobals "len"=some none) (y_list:PySem.W.nsIn K mainGlobals "list"=some none) (y_dict:PySem.W.nsIn K mainGlobals "dict"=some none) (y_isinstance:PySem.W.nsIn K mainGlobals "isinstance"=some none) (y_tuple:PySem.W.nsIn K mainGlobals "tuple"=some none) (y_all:PySem.W.nsIn K mainGlobals "all"=some none) (y_zip:PySem.W.nsIn K mainGlobals "zip"=some none) (y_bool:PySem.W.nsIn K mainGlobals "bool"=some none) (y_range:PySem.W.nsIn K mainGlobals "range"=some none) (y_min:PySem.W.nsIn K mainGlobals "min"=some none):
    ∃ fd:FuncData,(∀ (s:Shared) (v:Value),BindsTo s fd ⟨[v],[]⟩ [("script",v)])/\∀ base:Heap,K.In base->base.Ns mainGlobals mg->FnOk l.prog w K mg base CX0 10 fa fd ["script"] (spU K F_law):=by
  have e:=hfa.symm.trans (PySem.W.mg_of X G a42)
  cases e
  have z_abs:=PySem.W.mg_none_of X G y_abs
  have z_max:=PySem.W.mg_none_of X G y_max
  have z_len:=PySem.W.mg_none_of X G y_len
  have z_list:=PySem.W.mg_none_of X G y_list
  have z_dict:=PySem.W.mg_none_of X G y_dict
  have z_isinstance:=PySem.W.mg_none_of X G y_isinstance
  have z_tuple:=PySem.W.mg_none_of X G y_tuple
  have z_all:=PySem.W.mg_none_of X G y_all
  have z_zip:=PySem.W.mg_none_of X G y_zip
  have z_bool:=PySem.W.mg_none_of X G y_bool
  have z_range:=PySem.W.mg_none_of X G y_range
  have z_min:=PySem.W.mg_none_of X G y_min
  have g_ONE:GTup K mg "ONE" [1,1]:=⟨p_ONE,_,_,_,PySem.W.mg_of X G ag_ONE,lg_ONE,rfl,rfl,Nat.le_of_ble_eq_true rfl,.cons ⟨_,rfl⟩ (.cons ⟨_,rfl⟩ (.nil))⟩
  have g_NOUGHT:GTup K mg "NOUGHT" [0,1]:=⟨p_NOUGHT,_,_,_,PySem.W.mg_of X G ag_NOUGHT,lg_NOUGHT,rfl,rfl,Nat.le_of_ble_eq_true rfl,.cons ⟨_,rfl⟩ (.cons ⟨_,rfl⟩ (.nil))⟩
  have F1:=fun_mk (st:=s_common_divisor) l1 e1 k1
  have b1:=F1.binds (ps:=["one","other"]) fun _ _ _ _ _ _ us hl=>match us,hl with | [_,_],_=>rfl
  have F2:=fun_mk (st:=s_ratio) l2 e2 k2
  have b2:=F2.binds (ps:=["top","bottom"]) fun _ _ _ _ _ _ us hl=>match us,hl with | [_,_],_=>rfl
  have F3:=fun_mk (st:=s_plus) l3 e3 k3
  have b3:=F3.binds (ps:=["one","other"]) fun _ _ _ _ _ _ us hl=>match us,hl with | [_,_],_=>rfl
  have F4:=fun_mk (st:=s_minus) l4 e4 k4
  have b4:=F4.binds (ps:=["one","other"]) fun _ _ _ _ _ _ us hl=>match us,hl with | [_,_],_=>rfl
  have F5:=fun_mk (st:=s_times) l5 e5 k5
  have b5:=F5.binds (ps:=["one","other"]) fun _ _ _ _ _ _ us hl=>match us,hl with | [_,_],_=>rfl
  have F6:=fun_mk (st:=s_negative) l6 e6 k6
  have b6:=F6.binds (ps:=["one"]) fun _ _ _ _ _ _ us hl=>match us,hl with | [_],_=>rfl
  have F7:=fun_mk (st:=s_product_of_ways) l7 e7 k7
  have b7:=F7.binds (ps:=["one","other"]) fun _ _ _ _ _ _ us hl=>match us,hl with | [_,_],_=>rfl
  have F8:=fun_mk (st:=s_without_noughts) l8 e8 k8
  have b8:=F8.binds (ps:=["sums"]) fun _ _ _ _ _ _ us hl=>match us,hl with | [_],_=>rfl
  have F9:=fun_mk (st:=s_common_multiple) l9 e9 k9
  have b9:=F9.binds (ps:=["one","other"]) fun _ _ _ _ _ _ us hl=>match us,hl with | [_,_],_=>rfl
  have F10:=fun_mk (st:=s_common_bottom) l10 e10 k10
  have b10:=F10.binds (ps:=["fractions"]) fun _ _ _ _ _ _ us hl=>match us,hl with | [_],_=>rfl
  have F11:=fun_mk (st:=s_tops_over) l11 e11 k11
  have b11:=F11.binds (ps:=["curve","bottom"]) fun _ _ _ _ _ _ us hl=>match us,hl with | [_,_],_=>rfl
  have F12:=fun_mk (st:=s_normal_of_tops) l12 e12 k12
  have b12:=F12.binds (ps:=["tops"]) fun _ _ _ _ _ _ us hl=>match us,hl with | [_],_=>rfl
  have F13:=fun_mk (st:=s_normal) l13 e13 k13
  have b13:=F13.binds (ps:=["curve"]) fun _ _ _ _ _ _ us hl=>match us,hl with | [_],_=>rfl
  have F14:=fun_mk (st:=s_line_from) l14 e14 k14
  have b14:=F14.binds (ps:=["place","across"]) fun _ _ _ _ _ _ us hl=>match us,hl with | [_,_],_=>rfl
  have F15:=fun_mk (st:=s_round_about) l15 e15 k15
  have b15:=F15.binds (ps:=["place","square"]) fun _ _ _ _ _ _ us hl=>match us,hl with | [_,_],_=>rfl
  have F16:=fun_mk (st:=s_curve_plus) l16 e16 k16
  have b16:=F16.binds (ps:=["one","other"]) fun _ _ _ _ _ _ us hl=>match us,hl with | [_,_],_=>rfl
  have F17:=fun_mk (st:=s_curve_grown) l17 e17 k17
  have b17:=F17.binds (ps:=["curve","by"]) fun _ _ _ _ _ _ us hl=>match us,hl with | [_,_],_=>rfl
  have F18:=fun_mk (st:=s_curve_minus) l18 e18 k18
  have b18:=F18.binds (ps:=["one","other"]) fun _ _ _ _ _ _ us hl=>match us,hl with | [_,_],_=>rfl
  have F19:=fun_mk (st:=s_product_of_tops) l19 e19 k19
  have b19:=F19.binds (ps:=["one","other"]) fun _ _ _ _ _ _ us hl=>match us,hl with | [_,_],_=>rfl
  have F20:=fun_mk (st:=s_curve_times) l20 e20 k20
  have b20:=F20.binds (ps:=["one","other"]) fun _ _ _ _ _ _ us hl=>match us,hl with | [_,_],_=>rfl
  have F21:=fun_mk (st:=s_difference_of_products) l21 e21 k21
  have b21:=F21.binds (ps:=["one","other","third","fourth"]) fun _ _ _ _ _ _ us hl=>match us,hl with | [_,_,_,_],_=>rfl
  have F22:=fun_mk (st:=s_rod_curves) l22 e22 k22
  have b22:=F22.binds (ps:=["place","way","coupler","square"]) fun _ _ _ _ _ _ us hl=>match us,hl with | [_,_,_,_],_=>rfl
  have F23:=fun_mk (st:=s_coupler_curve) l23 e23 k23
  have b23:=F23.binds (ps:=["one","other","crank","squares","place"]) fun _ _ _ _ _ _ us hl=>match us,hl with | [_,_,_,_,_],_=>rfl
  have F24:=fun_mk (st:=s__law_cell_at) l24 e24 k24
  have b24:=F24.binds (ps:=["script","k"]) fun _ _ _ _ _ _ us hl=>match us,hl with | [_,_],_=>rfl
  have F25:=fun_mk (st:=s__law_state) l25 e25 k25
  have b25:=F25.binds (ps:=["script","k"]) fun _ _ _ _ _ _ us hl=>match us,hl with | [_,_],_=>rfl
  have F26:=fun_mk (st:=s__law_take) l26 e26 k26
  have b26:=F26.binds (ps:=["state","many"]) fun _ _ _ _ _ _ us hl=>match us,hl with | [_,_],_=>rfl
  have F27:=fun_mk (st:=s__law_divisor) l27 e27 k27
  have b27:=F27.binds (ps:=["one","other"]) fun _ _ _ _ _ _ us hl=>match us,hl with | [_,_],_=>rfl
  have F28:=fun_mk (st:=s__law_ratio) l28 e28 k28
  have b28:=F28.binds (ps:=["top","bottom"]) fun _ _ _ _ _ _ us hl=>match us,hl with | [_,_],_=>rfl
  have F29:=fun_mk (st:=s__law_times) l29 e29 k29
  have b29:=F29.binds (ps:=["one","other"]) fun _ _ _ _ _ _ us hl=>match us,hl with | [_,_],_=>rfl
  have F30:=fun_mk (st:=s__law_small) l30 e30 k30
  have b30:=F30.binds (ps:=["state"]) fun _ _ _ _ _ _ us hl=>match us,hl with | [_],_=>rfl
  have F31:=fun_mk (st:=s__law_above) l31 e31 k31
  have b31:=F31.binds (ps:=["state"]) fun _ _ _ _ _ _ us hl=>match us,hl with | [_],_=>rfl
  have F32:=fun_mk (st:=s__law_plus) l32 e32 k32
  have b32:=F32.binds (ps:=["one","other"]) fun _ _ _ _ _ _ us hl=>match us,hl with | [_,_],_=>rfl
  have F33:=fun_mk (st:=s__law_minus) l33 e33 k33
  have b33:=F33.binds (ps:=["one","other"]) fun _ _ _ _ _ _ us hl=>match us,hl with | [_,_],_=>rfl
  have F34:=fun_mk (st:=s__law_added) l34 e34 k34
  have b34:=F34.binds (ps:=["one","other","by"]) fun _ _ _ _ _ _ us hl=>match us,hl with | [_,_,_],_=>rfl
  have F35:=fun_mk (st:=s__law_multiplied) l35 e35 k35
  have b35:=F35.binds (ps:=["one","other"]) fun _ _ _ _ _ _ us hl=>match us,hl with | [_,_],_=>rfl
  have F36:=fun_mk (st:=s__law_same) l36 e36 k36
  have b36:=F36.binds (ps:=["found","due"]) fun _ _ _ _ _ _ us hl=>match us,hl with | [_,_],_=>rfl
  have F37:=fun_mk (st:=s__law_normal) l37 e37 k37
  have b37:=F37.binds (ps:=["curve"]) fun _ _ _ _ _ _ us hl=>match us,hl with | [_],_=>rfl
  have F38:=fun_mk (st:=s__law_alike) l38 e38 k38
  have b38:=F38.binds (ps:=["found","due"]) fun _ _ _ _ _ _ us hl=>match us,hl with | [_,_],_=>rfl
  have F39:=fun_mk (st:=s__law_four_rods) l39 e39 k39
  have b39:=F39.binds (ps:=["state"]) fun _ _ _ _ _ _ us hl=>match us,hl with | [_],_=>rfl
  have F40:=fun_mk (st:=s__law_rounds) l40 e40 k40
  have b40:=F40.binds (ps:=["first","second","square","numbers","off"]) fun _ _ _ _ _ _ us hl=>match us,hl with | [_,_,_,_,_],_=>rfl
  have F41:=fun_mk (st:=s__law_coupler) l41 e41 k41
  have b41:=F41.binds (ps:=["one","other","crank","squares","place"]) fun _ _ _ _ _ _ us hl=>match us,hl with | [_,_,_,_,_],_=>rfl
  have F42:=fun_mk (st:=s_law) l42 e42 k42
  have b42:=F42.binds (ps:=["script"]) fun _ _ _ _ _ _ us hl=>match us,hl with | [_],_=>rfl
  refine⟨PySem.W.fnOf "law" "law" (defArgs s_law) (defBody s_law) (defScope s_law) .none kV42 dc42 pm42 an42 cd42 ct42,fun s v=>.of_eq rfl,fun base _ _=>?_⟩
  have c_common_divisor:Own l.prog w K mg base "common_divisor" 1 F_common_divisor:=Own.mk' F1 (ok_common_divisor F1 z_abs) (PySem.W.mg_of X G a1) b1
  have c_ratio:Own l.prog w K mg base "ratio" 2 F_ratio:=Own.mk' F2 (ok_ratio F2 c_common_divisor) (PySem.W.mg_of X G a2) b2
  have c_plus:Own l.prog w K mg base "plus" 3 F_plus:=Own.mk' F3 (ok_plus F3 c_ratio) (PySem.W.mg_of X G a3) b3
  have c_minus:Own l.prog w K mg base "minus" 3 F_minus:=Own.mk' F4 (ok_minus F4 c_ratio) (PySem.W.mg_of X G a4) b4
  have c_times:Own l.prog w K mg base "times" 3 F_times:=Own.mk' F5 (ok_times F5 c_ratio) (PySem.W.mg_of X G a5) b5
  have c_negative:Own l.prog w K mg base "negative" 1 F_negative:=Own.mk' F6 (ok_negative F6) (PySem.W.mg_of X G a6) b6
  have c_product_of_ways:Own l.prog w K mg base "product_of_ways" 4 F_product_of_ways:=Own.mk' F7 (ok_product_of_ways F7 c_plus c_times) (PySem.W.mg_of X G a7) b7
  have c_without_noughts:Own l.prog w K mg base "without_noughts" 1 F_without_noughts:=Own.mk' F8 (ok_without_noughts F8) (PySem.W.mg_of X G a8) b8
  have c_common_multiple:Own l.prog w K mg base "common_multiple" 2 F_common_multiple:=Own.mk' F9 (ok_common_multiple F9 c_common_divisor) (PySem.W.mg_of X G a9) b9
  have c_common_bottom:Own l.prog w K mg base "common_bottom" 3 F_common_bottom:=Own.mk' F10 (ok_common_bottom F10 c_common_multiple) (PySem.W.mg_of X G a10) b10
  have c_tops_over:Own l.prog w K mg base "tops_over" 1 F_tops_over:=Own.mk' F11 (ok_tops_over F11) (PySem.W.mg_of X G a11) b11
  have c_normal_of_tops:Own l.prog w K mg base "normal_of_tops" 2 F_normal_of_tops:=Own.mk' F12 (ok_normal_of_tops F12 c_common_divisor z_max) (PySem.W.mg_of X G a12) b12
  have c_normal:Own l.prog w K mg base "normal" 4 F_normal:=Own.mk' F13 (ok_normal F13 c_normal_of_tops c_tops_over c_common_bottom z_len z_list) (PySem.W.mg_of X G a13) b13
  have c_line_from:Own l.prog w K mg base "line_from" 5 F_line_from:=Own.mk' F14 (ok_line_from F14 c_without_noughts c_negative c_product_of_ways) (PySem.W.mg_of X G a14) b14
  have c_round_about:Own l.prog w K mg base "round_about" 5 F_round_about:=Own.mk' F15 (ok_round_about F15 c_plus c_minus c_product_of_ways c_without_noughts c_negative g_ONE) (PySem.W.mg_of X G a15) b15
  have c_curve_plus:Own l.prog w K mg base "curve_plus" 4 F_curve_plus:=Own.mk' F16 (ok_curve_plus F16 c_plus c_without_noughts z_dict g_NOUGHT) (PySem.W.mg_of X G a16) b16
  have c_curve_grown:Own l.prog w K mg base "curve_grown" 4 F_curve_grown:=Own.mk' F17 (ok_curve_grown F17 c_times c_without_noughts) (PySem.W.mg_of X G a17) b17
  have c_curve_minus:Own l.prog w K mg base "curve_minus" 5 F_curve_minus:=Own.mk' F18 (ok_curve_minus F18 c_curve_plus c_curve_grown c_negative g_ONE) (PySem.W.mg_of X G a18) b18
  have c_product_of_tops:Own l.prog w K mg base "product_of_tops" 1 F_product_of_tops:=Own.mk' F19 (ok_product_of_tops F19) (PySem.W.mg_of X G a19) b19
  have c_curve_times:Own l.prog w K mg base "curve_times" 4 F_curve_times:=Own.mk' F20 (ok_curve_times F20 c_common_bottom c_product_of_tops c_tops_over c_ratio c_without_noughts z_list) (PySem.W.mg_of X G a20) b20
  have c_difference_of_products:Own l.prog w K mg base "difference_of_products" 6 F_difference_of_products:=Own.mk' F21 (ok_difference_of_products F21 c_curve_minus c_curve_times) (PySem.W.mg_of X G a21) b21
  have c_rod_curves:Own l.prog w K mg base "rod_curves" 6 F_rod_curves:=Own.mk' F22 (ok_rod_curves F22 c_line_from c_negative c_round_about c_minus c_times c_product_of_ways) (PySem.W.mg_of X G a22) b22
  have c_coupler_curve:Own l.prog w K mg base "coupler_curve" 7 F_coupler_curve:=Own.mk' F23 (ok_coupler_curve F23 c_rod_curves c_times c_minus c_difference_of_products c_curve_plus c_curve_times c_normal c_curve_minus c_curve_grown g_ONE) (PySem.W.mg_of X G a23) b23
  have c__law_cell_at:Own l.prog w K mg base "_law_cell_at" 1 F__law_cell_at:=Own.mk' F24 (ok__law_cell_at F24 z_len) (PySem.W.mg_of X G a24) b24
  have c__law_state:Own l.prog w K mg base "_law_state" 2 F__law_state:=Own.mk' F25 (ok__law_state F25 c__law_cell_at) (PySem.W.mg_of X G a25) b25
  have c__law_take:Own l.prog w K mg base "_law_take" 1 F__law_take:=Own.mk' F26 (ok__law_take F26) (PySem.W.mg_of X G a26) b26
  have c__law_divisor:Own l.prog w K mg base "_law_divisor" 1 F__law_divisor:=Own.mk' F27 (ok__law_divisor F27 z_abs) (PySem.W.mg_of X G a27) b27
  have c__law_ratio:Own l.prog w K mg base "_law_ratio" 2 F__law_ratio:=Own.mk' F28 (ok__law_ratio F28 c__law_divisor) (PySem.W.mg_of X G a28) b28
  have c__law_times:Own l.prog w K mg base "_law_times" 3 F__law_times:=Own.mk' F29 (ok__law_times F29 c__law_ratio) (PySem.W.mg_of X G a29) b29
  have c__law_small:Own l.prog w K mg base "_law_small" 3 F__law_small:=Own.mk' F30 (ok__law_small F30 c__law_ratio c__law_take) (PySem.W.mg_of X G a30) b30
  have c__law_above:Own l.prog w K mg base "_law_above" 3 F__law_above:=Own.mk' F31 (ok__law_above F31 c__law_ratio c__law_take) (PySem.W.mg_of X G a31) b31
  have c__law_plus:Own l.prog w K mg base "_law_plus" 3 F__law_plus:=Own.mk' F32 (ok__law_plus F32 c__law_ratio) (PySem.W.mg_of X G a32) b32
  have c__law_minus:Own l.prog w K mg base "_law_minus" 3 F__law_minus:=Own.mk' F33 (ok__law_minus F33 c__law_ratio) (PySem.W.mg_of X G a33) b33
  have c__law_added:Own l.prog w K mg base "_law_added" 4 F__law_added:=Own.mk' F34 (ok__law_added F34 c__law_plus c__law_times z_dict) (PySem.W.mg_of X G a34) b34
  have c__law_multiplied:Own l.prog w K mg base "_law_multiplied" 4 F__law_multiplied:=Own.mk' F35 (ok__law_multiplied F35 c__law_times c__law_plus z_dict) (PySem.W.mg_of X G a35) b35
  have c__law_same:Own l.prog w K mg base "_law_same" 8 (F__law_same 8):=Own.mk' F36 (rc__law_same F36 (PySem.W.mg_of X G a36) b36 z_isinstance z_list z_tuple z_len z_all z_zip z_bool 8) (PySem.W.mg_of X G a36) b36
  have c__law_normal:Own l.prog w K mg base "_law_normal" 2 F__law_normal:=Own.mk' F37 (ok__law_normal F37 c__law_divisor z_dict z_max) (PySem.W.mg_of X G a37) b37
  have c__law_alike:Own l.prog w K mg base "_law_alike" 9 F__law_alike:=Own.mk' F38 (ok__law_alike F38 c__law_same z_len z_isinstance z_dict) (PySem.W.mg_of X G a38) b38
  have c__law_four_rods:Own l.prog w K mg base "_law_four_rods" 4 F__law_four_rods:=Own.mk' F39 (ok__law_four_rods F39 c__law_small c__law_plus c__law_times c__law_above c__law_take) (PySem.W.mg_of X G a39) b39
  have c__law_rounds:Own l.prog w K mg base "_law_rounds" 5 F__law_rounds:=Own.mk' F40 (ok__law_rounds F40 c__law_added c__law_multiplied c__law_plus c__law_times c__law_minus) (PySem.W.mg_of X G a40) b40
  have c__law_coupler:Own l.prog w K mg base "_law_coupler" 6 F__law_coupler:=Own.mk' F41 (ok__law_coupler F41 c__law_minus c__law_added c__law_rounds c__law_times c__law_multiplied) (PySem.W.mg_of X G a41) b41
  exact ok_law F42 c__law_state c__law_four_rods c__law_take c__law_minus c__law_plus c__law_times c__law_normal c__law_coupler c__law_alike c_coupler_curve z_range z_max z_min z_len
theorem walk {l:PySem.W.OpenLaw} {q:Program} {loose:List Str} {XP:(Str->Option Value)->Heap->Prop} {YP:World->Heap->Prop} {d:DefRec} {K:Params->Fg} (hn:l.most=some 63) (hdf:d.params.defaults=[])
    (hY:∀ (w:World) (h:Heap),YP w h->(K w.params).In h)
    (F:∀ (w:World) (mg:Str->Option Value) (fa:Addr) (h:Heap),(K w.params).In h->h.Ns mainGlobals mg->mg d.name=some (.ref fa)->
      ∃ fd:FuncData,(∀ (s:Shared) (u:Value),BindsTo s fd ⟨[u],[]⟩ [("script",u)])/\∀ base:Heap,(K w.params).In base->base.Ns mainGlobals mg->FnOk l.prog w (K w.params) mg base CX0 10 fa fd ["script"] (spU (K w.params) F_law)):
    PySem.W.WalkO q loose XP YP l.row.toRowW d [] (fun f vs=>PySem.call f vs):=
  L2.walk_of (n:=63) (k:=10) (x:="script") (CX:=fun _=>CX0) (sp:=fun w=>spU (K w.params) F_law) hn (by decide) hdf ⟨rfl,by decide,by decide⟩ hY F
    (fun w H a ns hl ho hS=>DL.law_up ho hS (law_ask ns hl)) fun _ _ _ _ _ z=>z
end My
open PySem PySem.W PyProof.Rows
set_option maxRecDepth 100000 in
set_option maxHeartbeats 0 in
theorem PySem.Challenge.cw_hingedraw_k64_curves_of_pens_holds : PySem.Challenge.rw_hingedraw_k64_curves_of_pens.Holds := by
  w_on; o_law; k_head; (case hw=>w_witness2)
  k_fill
  refine My.walk (l := PySem.Challenge.rw_hingedraw_k64_curves_of_pens) rfl rfl (fun w h Y => PySem.W.kIn_of Y) ?F
  case F=>
    intro w mg fa h KX G hmg
    refine' My.all_mk KX G hmg ?a1 ?l1 ?e1 ?k1 ?a2 ?l2 ?e2 ?k2 ?a3 ?l3 ?e3 ?k3 ?a4 ?l4 ?e4 ?k4 ?a5 ?l5 ?e5 ?k5 ?a6 ?l6 ?e6 ?k6 ?a7 ?l7 ?e7 ?k7 ?a8 ?l8 ?e8 ?k8 ?a9 ?l9 ?e9 ?k9 ?a10 ?l10 ?e10 ?k10 ?a11 ?l11 ?e11 ?k11 ?a12 ?l12 ?e12 ?k12 ?a13 ?l13 ?e13 ?k13 ?a14 ?l14 ?e14 ?k14 ?a15 ?l15 ?e15 ?k15 ?a16 ?l16 ?e16 ?k16 ?a17 ?l17 ?e17 ?k17 ?a18 ?l18 ?e18 ?k18 ?a19 ?l19 ?e19 ?k19 ?a20 ?l20 ?e20 ?k20 ?a21 ?l21 ?e21 ?k21 ?a22 ?l22 ?e22 ?k22 ?a23 ?l23 ?e23 ?k23 ?a24 ?l24 ?e24 ?k24 ?a25 ?l25 ?e25 ?k25 ?a26 ?l26 ?e26 ?k26 ?a27 ?l27 ?e27 ?k27 ?a28 ?l28 ?e28 ?k28 ?a29 ?l29 ?e29 ?k29 ?a30 ?l30 ?e30 ?k30 ?a31 ?l31 ?e31 ?k31 ?a32 ?l32 ?e32 ?k32 ?a33 ?l33 ?e33 ?k33 ?a34 ?l34 ?e34 ?k34 ?a35 ?l35 ?e35 ?k35 ?a36 ?l36 ?e36 ?k36 ?a37 ?l37 ?e37 ?k37 ?a38 ?l38 ?e38 ?k38 ?a39 ?l39 ?e39 ?k39 ?a40 ?l40 ?e40 ?k40 ?a41 ?l41 ?e41 ?k41 ?a42 ?l42 ?e42 ?k42 ?ag_ONE ?lg_ONE ?ag_NOUGHT ?lg_NOUGHT ?y_abs ?y_max ?y_len ?y_list ?y_dict ?y_isinstance ?y_tuple ?y_all ?y_zip ?y_bool ?y_range ?y_min
    (case a1=>k_is)
    (case l1=>k_is)
    (case e1=>k_is)
    (case k1=>k_is)
    (case a2=>k_is)
    (case l2=>k_is)
    (case e2=>k_is)
    (case k2=>k_is)
    (case a3=>k_is)
    (case l3=>k_is)
    (case e3=>k_is)
    (case k3=>k_is)
    (case a4=>k_is)
    (case l4=>k_is)
    (case e4=>k_is)
    (case k4=>k_is)
    (case a5=>k_is)
    (case l5=>k_is)
    (case e5=>k_is)
    (case k5=>k_is)
    (case a6=>k_is)
    (case l6=>k_is)
    (case e6=>k_is)
    (case k6=>k_is)
    (case a7=>k_is)
    (case l7=>k_is)
    (case e7=>k_is)
    (case k7=>k_is)
    (case a8=>k_is)
    (case l8=>k_is)
    (case e8=>k_is)
    (case k8=>k_is)
    (case a9=>k_is)
    (case l9=>k_is)
    (case e9=>k_is)
    (case k9=>k_is)
    (case a10=>k_is)
    (case l10=>k_is)
    (case e10=>k_is)
    (case k10=>k_is)
    (case a11=>k_is)
    (case l11=>k_is)
    (case e11=>k_is)
    (case k11=>k_is)
    (case a12=>k_is)
    (case l12=>k_is)
    (case e12=>k_is)
    (case k12=>k_is)
    (case a13=>k_is)
    (case l13=>k_is)
    (case e13=>k_is)
    (case k13=>k_is)
    (case a14=>k_is)
    (case l14=>k_is)
    (case e14=>k_is)
    (case k14=>k_is)
    (case a15=>k_is)
    (case l15=>k_is)
    (case e15=>k_is)
    (case k15=>k_is)
    (case a16=>k_is)
    (case l16=>k_is)
    (case e16=>k_is)
    (case k16=>k_is)
    (case a17=>k_is)
    (case l17=>k_is)
    (case e17=>k_is)
    (case k17=>k_is)
    (case a18=>k_is)
    (case l18=>k_is)
    (case e18=>k_is)
    (case k18=>k_is)
    (case a19=>k_is)
    (case l19=>k_is)
    (case e19=>k_is)
    (case k19=>k_is)
    (case a20=>k_is)
    (case l20=>k_is)
    (case e20=>k_is)
    (case k20=>k_is)
    (case a21=>k_is)
    (case l21=>k_is)
    (case e21=>k_is)
    (case k21=>k_is)
    (case a22=>k_is)
    (case l22=>k_is)
    (case e22=>k_is)
    (case k22=>k_is)
    (case a23=>k_is)
    (case l23=>k_is)
    (case e23=>k_is)
    (case k23=>k_is)
    (case a24=>k_is)
    (case l24=>k_is)
    (case e24=>k_is)
    (case k24=>k_is)
    (case a25=>k_is)
    (case l25=>k_is)
    (case e25=>k_is)
    (case k25=>k_is)
    (case a26=>k_is)
    (case l26=>k_is)
    (case e26=>k_is)
    (case k26=>k_is)
    (case a27=>k_is)
    (case l27=>k_is)
    (case e27=>k_is)
    (case k27=>k_is)
    (case a28=>k_is)
    (case l28=>k_is)
    (case e28=>k_is)
    (case k28=>k_is)
    (case a29=>k_is)
    (case l29=>k_is)
    (case e29=>k_is)
    (case k29=>k_is)
    (case a30=>k_is)
    (case l30=>k_is)
    (case e30=>k_is)
    (case k30=>k_is)
    (case a31=>k_is)
    (case l31=>k_is)
    (case e31=>k_is)
    (case k31=>k_is)
    (case a32=>k_is)
    (case l32=>k_is)
    (case e32=>k_is)
    (case k32=>k_is)
    (case a33=>k_is)
    (case l33=>k_is)
    (case e33=>k_is)
    (case k33=>k_is)
    (case a34=>k_is)
    (case l34=>k_is)
    (case e34=>k_is)
    (case k34=>k_is)
    (case a35=>k_is)
    (case l35=>k_is)
    (case e35=>k_is)
    (case k35=>k_is)
    (case a36=>k_is)
    (case l36=>k_is)
    (case e36=>k_is)
    (case k36=>k_is)
    (case a37=>k_is)
    (case l37=>k_is)
    (case e37=>k_is)
    (case k37=>k_is)
    (case a38=>k_is)
    (case l38=>k_is)
    (case e38=>k_is)
    (case k38=>k_is)
    (case a39=>k_is)
    (case l39=>k_is)
    (case e39=>k_is)
    (case k39=>k_is)
    (case a40=>k_is)
    (case l40=>k_is)
    (case e40=>k_is)
    (case k40=>k_is)
    (case a41=>k_is)
    (case l41=>k_is)
    (case e41=>k_is)
    (case k41=>k_is)
    (case a42=>k_is)
    (case l42=>k_is)
    (case e42=>k_is)
    (case k42=>k_is)
    (case ag_ONE=>k_is)
    (case lg_ONE=>k_is)
    (case ag_NOUGHT=>k_is)
    (case lg_NOUGHT=>k_is)
    (case y_abs=>k_is)
    (case y_max=>k_is)
    (case y_len=>k_is)
    (case y_list=>k_is)
    (case y_dict=>k_is)
    (case y_isinstance=>k_is)
    (case y_tuple=>k_is)
    (case y_all=>k_is)
    (case y_zip=>k_is)
    (case y_bool=>k_is)
    (case y_range=>k_is)
    (case y_min=>k_is)
