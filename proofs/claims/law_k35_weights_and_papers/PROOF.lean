import PyProof.Rows.All
import Wide.All
import OpenK.AllK
import Wide.FinOn
import Lean
import PyProof.EqAt
import PyProof.EqKinds
import PyProof.TupleCall
import PySem.Challenge.RW_hingedraw_k35_weights_and_papers
set_option Elab.async false
set_option linter.all false
set_option maxRecDepth 100000
set_option Elab.async false
set_option linter.all false
set_option maxRecDepth 100000
namespace L2
open PySem PySem.Spec PyProof.Rows
abbrev Key:=Sum Int Str
def keyIs:Key->Value->Bool
  | .inl k,v=>Value.isInt k v
  | .inr x,v=>Value.isStrOf x v
def keyH (w:World):Key->Int
  | .inl k=>hashInt k
  | .inr x=>hashStr w x
theorem keyIs_shape:∀ {k:Key} {v:Value},keyIs k v=true->(∃ i t,k=Sum.inl i/\v=Value.int i t)\/(∃ x t,k=Sum.inr x/\v=Value.str x t)
  | .inl i,v,h=>by
    obtain⟨t,e⟩:=Value.isInt_shape (k:=i) (v:=v) h
    exact .inl ⟨i,t,rfl,e⟩
  | .inr x,v,h=>by
    obtain⟨t,e⟩:=Value.isStrOf_shape (x:=x) (v:=v) h
    exact .inr ⟨x,t,rfl,e⟩
theorem key_ll (a b:Int):decide ((Sum.inl a:Key)=Sum.inl b)=(a == b):=by
  by_cases e:a=b
  · subst e; simp
  · have h:¬ (Sum.inl a:Key)=Sum.inl b:=fun q=>e (Sum.inl.inj q)
    rw [decide_eq_false h]
    exact(beq_eq_false_iff_ne.mpr e).symm
theorem key_rr (a b:Str):decide ((Sum.inr a:Key)=Sum.inr b)=decide (a=b):=by
  by_cases e:a=b
  · subst e; simp
  · have h:¬ (Sum.inr a:Key)=Sum.inr b:=fun q=>e (Sum.inr.inj q)
    rw [decide_eq_false h,decide_eq_false e]
theorem key_lr (a:Int) (b:Str):decide ((Sum.inl a:Key)=Sum.inr b)=false:=decide_eq_false (fun q=>nomatch q)
theorem key_rl (a:Str) (b:Int):decide ((Sum.inr a:Key)=Sum.inl b)=false:=decide_eq_false (fun q=>nomatch q)
def mixKind (prog:Program) (w:World):PySem.KeyKind prog w Key where
  is:=keyIs
  hash:=keyH w
  inj:=fun v a b ha hb=>by
    rcases keyIs_shape ha with ⟨i,t,rfl,rfl⟩ | ⟨x,t,rfl,rfl⟩
    · rcases keyIs_shape hb with ⟨j,u,rfl,e⟩ | ⟨y,u,rfl,e⟩
      · injection e with e1 _; rw [e1]
      · exact nomatch e
    · rcases keyIs_shape hb with ⟨j,u,rfl,e⟩ | ⟨y,u,rfl,e⟩
      · exact nomatch e
      · injection e with e1 _; rw [e1]
  byValue:=fun k v h=>by
    rcases keyIs_shape h with ⟨i,t,rfl,rfl⟩ | ⟨x,t,rfl,rfl⟩ <;> rfl
  pyHash:=fun hv h=>by
    rcases keyIs_shape hv with ⟨i,t,rfl,rfl⟩ | ⟨x,t,rfl,rfl⟩
    · exact wpAny_pyHash_int h
    · exact wpAny_pyHash_str h
  eqBool:=fun hu hv h=>by
    rcases keyIs_shape hu with ⟨i,t,rfl,rfl⟩ | ⟨x,t,rfl,rfl⟩
    · rcases keyIs_shape hv with ⟨j,u,rfl,rfl⟩ | ⟨y,u,rfl,rfl⟩
      · rw [key_ll] at h; exact wpAny_eqBool_int h
      · rw [key_lr] at h; exact SeqAt.EqAt.int_str i t y u _ _ _ _ h
    · rcases keyIs_shape hv with ⟨j,u,rfl,rfl⟩ | ⟨y,u,rfl,rfl⟩
      · rw [key_rl] at h; exact SeqAt.EqAt.str_int x t j u _ _ _ _ h
      · rw [key_rr] at h; exact wpAny_eqBool_str h
  «strs»:=fun k x t v h=>by
    rcases keyIs_shape h with ⟨i,u,rfl,e⟩ | ⟨y,u,rfl,e⟩
    · exact nomatch e
    · injection e with e1 _
      subst e1
      cases v <;> rfl
inductive V where
  | non | bl (b:Bool) | int (i:Int) | str (x:Str) | byt (b:Array UInt8) | flt (b:UInt64) | ref (a:Addr) | ty (n:String)
  deriving DecidableEq
def RelV:V->Value->Prop
  | .non,u=>u=Value.none
  | .bl b,u=>u=Value.bool b
  | .int i,u=>∃ t,u=Value.int i t
  | .str x,u=>∃ t,u=Value.str x t
  | .byt b,u=>∃ t,u=Value.bytes b t
  | .flt b,u=>∃ t,u=Value.float b t
  | .ref a,u=>u=Value.ref a
  | .ty n,u=>u=Value.type n
abbrev Vals:List V->List Value->Prop:=Paired RelV
theorem Vals.length {xs:List V} {us:List Value} (r:Vals xs us):xs.length=us.length:=Paired.length r
theorem Vals.get:∀ {xs:List V} {us:List Value} {i:Nat} {x:V},Vals xs us->xs[i]?=some x->∃ u,us[i]?=some u/\RelV x u
  | _,_,_,_,.nil,e=>by simp at e
  | _,_,0,_,.cons r _,e=>by simp at e; subst e; exact⟨_,rfl,r⟩
  | _,_,i+1,x,.cons _ t,e=>by
    obtain⟨u,h1,h2⟩:=Vals.get (i:=i) (x:=x) t (by simpa using e)
    exact⟨u,by simpa using h1,h2⟩
theorem Vals.set {x:V} {u:Value} (r:RelV x u):∀ {xs:List V} {us:List Value} (i:Nat),Vals xs us->Vals (xs.set i x) (us.set i u)
  | _,_,_,.nil=>.nil
  | _,_,0,.cons _ t=>.cons r t
  | _,_,i+1,.cons q t=>.cons q (Vals.set r i t)
theorem Vals.append:∀ {xs ys:List V} {us ws:List Value},Vals xs us->Vals ys ws->Vals (xs++ys) (us++ws)
  | _,_,_,_,.nil,s=>s
  | _,_,_,_,.cons r t,s=>.cons r (Vals.append t s)
theorem Vals.take:∀ {xs:List V} {us:List Value} (n:Nat),Vals xs us->Vals (xs.take n) (us.take n)
  | _,_,0,_=>.nil
  | _,_,_+1,.nil=>.nil
  | _,_,n+1,.cons r t=>.cons r (Vals.take n t)
theorem Vals.drop:∀ {xs:List V} {us:List Value} (n:Nat),Vals xs us->Vals (xs.drop n) (us.drop n)
  | _,_,0,r=>r
  | _,_,_+1,.nil=>.nil
  | _,_,n+1,.cons _ t=>Vals.drop n t
def RelO:Option V->Option Value->Prop
  | some v,some u=>RelV v u
  | none,none=>True
  | _,_=>False
def KV {κ:Type}:List (κ×V)->List (κ×Value)->Prop:=Paired fun(p:κ×V) (q:κ×Value)=>p.1=q.1/\RelV p.2 q.2
def kV:Key->V
  | .inl i=>.int i
  | .inr x=>.str x
inductive HO where
  | lst (xs:List V)
  | tup (xs:List V)
  | dK (kvs:List (Key×V)) | dT (kvs:List (List Key×V))
  | set (S:Int->Bool) (n:Nat)
  | ins (C dx:Addr) (fs:List (Str×V))
  | own (x:Addr)
  | xd (fs:List (Str×V))
  | met (f x:Addr)
  | rng (lo hi:Int)
  | frz (o:Obj) (u:HO)
  | tbl (ps:Array Value)
  | ext (φ:Heap->Prop)
abbrev Hp:=Addr->Option HO
def upd (H:Hp) (a:Addr) (o:HO):Hp:=fun b=>if b=a then some o else H b
theorem upd_same {H:Hp} {a:Addr} {o:HO}:upd H a o a=some o:=by unfold upd; rw [if_pos rfl]
theorem upd_ne {H:Hp} {a b:Addr} {o:HO} (h:b≠a):upd H a o b=H b:=by unfold upd; rw [if_neg h]
theorem ne_of_none {H:Hp} {a b:Addr} {o:HO} (h:H a=some o) (h':H b=none):a≠b:=by
  intro e; subst e; rw [h] at h'; cases h'
section
variable (P:Program) (w:World)
def ObjOk (H:Hp) (h:Heap) (a:Addr):HO->Prop
  | .lst xs=>xs.length<=sizeLine/\∃ (its:List Value) (n:Nat),Vals xs its/\h.get? a=some {cls:=.type "list",data:=.seq its.toArray n}
  | .tup xs=>xs.length<=sizeLine/\∃ its:List Value,Vals xs its/\IsTup h a its.toArray
  | .dK kvs=>kvs.length<=sizeLine/\(a == sysModules)=false/\∃ vs,KV kvs vs/\h.DictOf (mixKind P w) a vs
  | .dT kvs=>kvs.length<=sizeLine/\(a == sysModules)=false/\∃ xs:List (List Key×Addr×Value),
      Paired (fun (p:List Key×V) (q:List Key×Addr×Value)=>p.1=q.1/\H q.2.1=some (.tup (p.1.map kV))/\RelV p.2 q.2.2) kvs xs/\
      ∃ o es ep,h.get? a=some o/\o.ExactDict/\o.data=.dict es ep/\es.toList=xs.map (entryOfKey (tupleKind (mixKind P w)))/\(xs.map (·.1)).Nodup
  | .set S n=>h.SetOf (intKind P w) a S n
  | .ins C dx fs=>H dx=some (.own a)/\fs.length<=1000/\dx≠a/\h.get? a=some (PySem.W.instObj C dx)/\
      ∃ mA,h.Ns1 dx mA/\(∀ f,RelO (fs.lookup f) (mA f))/\PySem.Within mA (fs.map (·.1))
  | .own _=>∃ o,h.get? a=some o
  | .xd fs=>∃ mA,h.Ns1 a mA/\∀ f,RelO (fs.lookup f) (mA f)
  | .rng lo hi=>∃ t u v,h.get? a=some {cls:=.type "range",data:=.fields #[.int lo t,.int hi u,.int 1 v]}
  | .frz o u=>h.get? a=some o/\ObjOk H h a u
  | .tbl ps=>h.get? a=some {cls:=.none,data:=.fields ps}
  | .met f x=>h.get? a=some (PySem.W.methodObj (.ref f) (.ref x))
  | .ext φ=>φ h/\(∃ o,h.get? a=some o)/\∀ h1 h2:Heap,φ h1->(∀ o,h1.get? a=some o->h2.get? a=some o)->φ h2
def HOk (H:Hp) (h:Heap):Prop:=∀ a o,H a=some o->ObjOk P w H h a o
end
section
variable {P:Program} {w:World} {H H':Hp} {h h':Heap} {a:Addr} {o:HO}
theorem ObjOk.lt (x:ObjOk P w H h a o):a < h.objs.size:=by
  cases o with
  | lst xs=>obtain⟨_,_,_,_,e⟩:=x; exact Heap.lt_size e
  | tup xs=>obtain⟨_,_,_,p⟩:=x; exact p.lt
  | dK kvs=>obtain⟨_,_,_,_,o,_,_,e,_⟩:=x; exact Heap.lt_size e
  | dT kvs=>obtain⟨_,_,_,_,o,_,_,e,_⟩:=x; exact Heap.lt_size e
  | set S n=>obtain⟨o,_,_,_,e,_⟩:=x; exact Heap.lt_size e
  | ins C dx fs=>obtain⟨_,_,_,e,_⟩:=x; exact Heap.lt_size e
  | own y=>obtain⟨_,e⟩:=x; exact Heap.lt_size e
  | xd fs=>obtain⟨_,⟨_,_,_,e,_⟩,_⟩:=x; exact Heap.lt_size e
  | rng lo hi=>obtain⟨_,_,_,e⟩:=x; exact Heap.lt_size e
  | frz ob u=>obtain⟨e,_⟩:=x; exact Heap.lt_size e
  | tbl ps=>exact Heap.lt_size (show h.get? a=some _ from x)
  | met f y=>exact Heap.lt_size (show h.get? a=some _ from x)
  | ext φ=>obtain⟨_,⟨_,e⟩,_⟩:=x; exact Heap.lt_size e
theorem Paired.mapP {α β:Type} {F G:α->β->Prop}:∀ {l₁:List α} {l₂:List β},Paired F l₁ l₂->(∀ a b,F a b->G a b)->Paired G l₁ l₂
  | _,_,.nil,_=>.nil
  | _,_,.cons r t,f=>.cons (f _ _ r) (Paired.mapP t f)
theorem ObjOk.stay (x:ObjOk P w H h a o) (k:∀ b u,(b=a\/H b=some (.own a))->h.get? b=some u->h'.get? b=some u)
    (ho:∀ b,H b=some (.own a)->H' b=some (.own a)) (ht:∀ b xs,H b=some (.tup xs)->H' b=some (.tup xs)):ObjOk P w H' h' a o:=by
  induction o with
  | lst xs=>obtain⟨z,its,n,r,e⟩:=x; exact⟨z,its,n,r,k _ _ (.inl rfl) e⟩
  | tup xs=>obtain⟨z,its,r,ob,e,c⟩:=x; exact⟨z,its,r,ob,k _ _ (.inl rfl) e,c⟩
  | dK kvs=>obtain⟨z,y,vs,r,ob,es,ep,e,c⟩:=x; exact⟨z,y,vs,r,ob,es,ep,k _ _ (.inl rfl) e,c⟩
  | dT kvs=>
    obtain⟨z,y,xs,r,ob,es,ep,e,c⟩:=x
    exact⟨z,y,xs,Paired.mapP r fun p q z=>⟨z.1,ht _ _ z.2.1,z.2.2⟩,ob,es,ep,k _ _ (.inl rfl) e,c⟩
  | set S n=>obtain⟨ob,es,ep,t,e,c⟩:=x; exact⟨ob,es,ep,t,k _ _ (.inl rfl) e,c⟩
  | ins C dx fs=>
    obtain⟨d,z,ne,e,mA,⟨od,es,ep,e2,c⟩,r⟩:=x
    exact⟨ho _ d,z,ne,k _ _ (.inl rfl) e,mA,⟨od,es,ep,k _ _ (.inr d) e2,c⟩,r⟩
  | own y=>obtain⟨ob,e⟩:=x; exact⟨ob,k _ _ (.inl rfl) e⟩
  | xd fs=>obtain⟨mA,⟨od,es,ep,e,c⟩,r⟩:=x; exact⟨mA,⟨od,es,ep,k _ _ (.inl rfl) e,c⟩,r⟩
  | rng lo hi=>obtain⟨t,u,v,e⟩:=x; exact⟨t,u,v,k _ _ (.inl rfl) e⟩
  | frz ob u ih=>obtain⟨e,q⟩:=x; exact⟨k _ _ (.inl rfl) e,ih q⟩
  | tbl ps=>
    have e:h.get? a=some {cls:=.none,data:=.fields ps}:=x
    show h'.get? a=some {cls:=.none,data:=.fields ps}
    exact k a _ (.inl rfl) e
  | met f y=>
    have e:h.get? a=some (PySem.W.methodObj (.ref f) (.ref y)):=x
    show h'.get? a=some (PySem.W.methodObj (.ref f) (.ref y))
    exact k a _ (.inl rfl) e
  | ext φ=>obtain⟨p,⟨o,e⟩,st⟩:=x; exact⟨st _ _ p fun o q=>k _ _ (.inl rfl) q,⟨o,k _ _ (.inl rfl) e⟩,st⟩
theorem HOk.lt (x:HOk P w H h) (e:H a=some o):a < h.objs.size:=(x a o e).lt
theorem HOk.fresh (x:HOk P w H h) (e:h.objs.size<=a):H a=none:=by
  cases q:H a with
  | none=>rfl
  | some u=>exact absurd (Nat.lt_of_lt_of_le (x.lt q) e) (Nat.lt_irrefl _)
theorem HOk.kept (x:HOk P w H h) (k:∀ b u,h.get? b=some u->h'.get? b=some u):HOk P w H h':=fun a o e=>
  (x a o e).stay (fun b u _ q=>k b u q) (fun _ q=>q) fun _ _ q=>q
theorem HOk.laid (x:HOk P w H h) (k:∀ b u,h.get? b=some u->h'.get? b=some u) (hp:h.objs.size<=a) (new:ObjOk P w (upd H a o) h' a o):HOk P w (upd H a o) h':=fun b u e=>by
  have hn:=x.fresh hp
  by_cases hb:b=a
  · subst hb; rw [upd_same] at e; cases e; exact new
  · rw [upd_ne hb] at e
    exact(x b u e).stay (fun c v _ q=>k c v q) (fun c q=>by rw [upd_ne (ne_of_none q hn)]; exact q) fun c xs q=>by rw [upd_ne (ne_of_none q hn)]; exact q
end
def Rd (H:Hp) (a:Addr) (u:HO):Prop:=H a=some u\/∃ o,H a=some (.frz o u)
theorem Rd.ok {P:Program} {w:World} {H:Hp} {h:Heap} {a:Addr} {u:HO} (r:Rd H a u) (x:HOk P w H h):ObjOk P w H h a u:=by
  rcases r with r | ⟨o,r⟩
  · exact x a u r
  · obtain⟨_,q⟩:=x a _ r
    exact q
def Mut:Option HO->Prop
  | some (.lst _)=>True
  | some (.dK _)=>True
  | some (.dT _)=>True
  | some (.set _ _)=>True
  | some (.ins _ _ _)=>True
  | some (.ext _)=>True
  | _=>False
section
variable {P:Program} {w:World} {H:Hp} {h h':Heap} {x e:Addr} {o':HO}
theorem HOk.write (ok:HOk P w H h) (mu:Mut (H x)) (he:e=x\/H e=some (.own x)) (k:∀ b u,b≠e->h.get? b=some u->h'.get? b=some u) (heo:∃ u,h'.get? e=some u)
    (new:ObjOk P w (upd H x o') h' x o'):HOk P w (upd H x o') h':=fun b u q=>by
  have nown:∀ c y,H c=some (.own y)->c≠x:=fun c y r z=>by subst z; rw [r] at mu; exact mu
  have ntup:∀ c xs,H c=some (.tup xs)->c≠x:=fun c xs r z=>by subst z; rw [r] at mu; exact mu
  by_cases hb:b=x
  · subst hb; rw [upd_same] at q; cases q; exact new
  · rw [upd_ne hb] at q
    by_cases hbe:b=e
    · have q':H b=some (.own x):=by
        rcases he with z | z
        · exact absurd (hbe.trans z) hb
        · rw [hbe]; exact z
      rw [q] at q'; cases q'
      obtain⟨v,hv⟩:=heo
      exact⟨v,by rw [hbe]; exact hv⟩
    · refine(ok b u q).stay (fun c v hc r=>k c v ?_ r) (fun c r=>by rw [upd_ne (nown c b r)]; exact r) fun c xs r=>by rw [upd_ne (ntup c xs r)]; exact r
      rcases hc with rfl | hc
      · exact hbe
      · rintro rfl
        rcases he with z | z
        · exact nown c b hc z
        · rw [hc] at z; cases z; exact hb rfl
end
structure Un (fs ex:List Addr) (H H':Hp) (h h':Heap):Prop where
  keep:∀ b o,h.get? b=some o->H b=none->b∉fs->b∉ex->h'.get? b=some o
  slot:∀ b o,h.get? b=some o->H b=none->b∈fs->b∉ex->∃ sl,h'.get? b=some {o with slots:=sl}
  free:∀ b o,h.get? b=some o->H b=none->b∉ex->H' b=none
  there:∀ b o,h.get? b=some o->b∉ex->∃ o',h'.get? b=some o'
  tups:∀ b xs,H b=some (.tup xs)->H' b=some (.tup xs)
  frzs:∀ b o u,H b=some (.frz o u)->H' b=some (.frz o u)
  tbls:∀ b ps,H b=some (.tbl ps)->∃ more,H' b=some (.tbl (ps++more))
section
variable {fs fs' ex ex':List Addr} {H H1 H2:Hp} {h h1 h2 h':Heap} {a x e:Addr} {o:HO}
theorem Un.any (u:Un fs ex H H1 h h1) {b:Addr} {ob:Obj} (q:h.get? b=some ob) (n:H b=none) (hx:b∉ex):∃ sl,h1.get? b=some {ob with slots:=sl}:=by
  by_cases hb:b∈fs
  · exact u.slot b ob q n hb hx
  · exact⟨ob.slots,u.keep b ob q n hb hx⟩
theorem Un.trans (a:Un fs ex H H1 h h1) (b:Un fs ex H1 H2 h1 h2):Un fs ex H H2 h h2 where
  keep:=fun c ob q n hc hx=>b.keep c ob (a.keep c ob q n hc hx) (a.free c ob q n hx) hc hx
  slot:=fun c ob q n hc hx=>by
    obtain⟨sl,e1⟩:=a.slot c ob q n hc hx
    obtain⟨sl',e2⟩:=b.slot c _ e1 (a.free c ob q n hx) hc hx
    exact⟨sl',e2⟩
  free:=fun c ob q n hx=>by
    obtain⟨o',e1⟩:=a.there c ob q hx
    exact b.free c o' e1 (a.free c ob q n hx) hx
  there:=fun c ob q hx=>by
    obtain⟨o',e1⟩:=a.there c ob q hx
    exact b.there c o' e1 hx
  tups:=fun c xs q=>b.tups c xs (a.tups c xs q)
  frzs:=fun c ob xs q=>b.frzs c ob xs (a.frzs c ob xs q)
  tbls:=fun c ps q=>by
    obtain⟨m1,e1⟩:=a.tbls c ps q
    obtain⟨m2,e2⟩:=b.tbls c _ e1
    exact⟨m1++m2,by rw [e2,Array.append_assoc]⟩
theorem Un.kept (k:∀ b u,h.get? b=some u->h'.get? b=some u):Un fs ex H H h h':=
  ⟨fun b ob q _ _ _=>k b ob q,fun b ob q _ _ _=>⟨ob.slots,k b ob q⟩,fun _ _ _ n _=>n,fun b ob q _=>⟨ob,k b ob q⟩,fun _ _ q=>q,fun _ _ _ q=>q,fun _ ps q=>⟨#[],by rw [q]; simp⟩⟩
theorem Un.refl:Un fs ex H H h h:=Un.kept fun _ _ q=>q
theorem Un.laid (k:∀ b u,h.get? b=some u->h'.get? b=some u) (hp:h.objs.size<=a) (hn:H a=none):Un fs ex H (upd H a o) h h' where
  keep:=fun b u q _ _ _=>k b u q
  slot:=fun b u q _ _ _=>⟨u.slots,k b u q⟩
  free:=fun b u q n _=>by rw [upd_ne (Nat.ne_of_lt (Nat.lt_of_lt_of_le (Heap.lt_size q) hp))]; exact n
  there:=fun b u q _=>⟨u,k b u q⟩
  tups:=fun b xs q=>by rw [upd_ne (ne_of_none q hn)]; exact q
  frzs:=fun b u xs q=>by rw [upd_ne (ne_of_none q hn)]; exact q
  tbls:=fun b ps q=>⟨#[],by rw [upd_ne (ne_of_none q hn),q]; simp⟩
theorem Un.write (mu:Mut (H x)) (he:e=x\/H e=some (.own x)) (k:∀ b u,b≠e->h.get? b=some u->h'.get? b=some u) (heo:∃ u,h'.get? e=some u):Un fs ex H (upd H x o) h h':=by
  have hx:∀ b,H b=none->b≠x:=fun b n z=>by subst z; rw [n] at mu; exact mu
  have hb:∀ b,H b=none->b≠e:=fun b n z=>by
    subst z
    rcases he with r | r
    · exact hx b n r
    · rw [n] at r; cases r
  have hm:∀ b u,H b=some u->¬ Mut (some u)->b≠x:=fun b u q nm z=>by subst z; rw [q] at mu; exact nm mu
  refine⟨fun b u q n _ _=>k b u (hb b n) q,fun b u q n _ _=>⟨u.slots,k b u (hb b n) q⟩,fun b u q n _=>by rw [upd_ne (hx b n)]; exact n,fun b u q _=>?_,
    fun b xs q=>by rw [upd_ne (hm b _ q fun z=>z)]; exact q,fun b u xs q=>by rw [upd_ne (hm b _ q fun z=>z)]; exact q,fun b ps q=>⟨#[],by rw [upd_ne (hm b _ q fun z=>z),q]; simp⟩⟩
  by_cases hbe:b=e
  · subst hbe; exact heo
  · exact⟨u,k b u hbe q⟩
end
def trk (h:Heap) (H:Hp):List Addr:=(List.range h.objs.size).filter fun a=>(H a).isSome
def hidT (h:Heap) (H:Hp):Heap:=PySem.W.hideAll h (trk h H)
theorem hidT_size (h:Heap) (H:Hp):(hidT h H).objs.size=h.objs.size:=PySem.W.hideAll_size _ _
theorem hidT_get {h:Heap} {H:Hp} {b:Addr} {o:Obj} (e:h.get? b=some o) (n:H b=none):(hidT h H).get? b=some o:=
  PySem.W.hideAll_get _ e fun hm=>by
    have q:(H b).isSome=true:=(List.mem_filter.mp hm).2
    rw [n] at q; simp at q
theorem of_hidT {h:Heap} {H:Hp} {b:Addr} {o:Obj} (e:(hidT h H).get? b=some o):h.get? b=some o/\H b=none:=by
  have e':h.get? b=some o:=PySem.W.of_hideAll (trk h H) e
  refine⟨e',?_⟩
  cases q:H b with
  | none=>rfl
  | some x=>
    have hm:b∈trk h H:=List.mem_filter.mpr ⟨List.mem_range.mpr (Heap.lt_size e'),by simp [q]⟩
    have z:(hidT h H).get? b=none:=PySem.W.hideAll_none (trk h H) hm
    rw [z] at e; cases e
def allNews (g h:Heap) (L:Addr):List (Addr×Obj):=(List.range h.objs.size).filterMap fun a=>if a=L\/(g.get? a).isSome=true then none else(h.get? a).map fun o=>(a,o)
def rest (g h:Heap) (L d:Addr):List (Addr×Obj):=(allNews g h L).filter fun p=>decide (p.1≠d)
structure Mod (K:PySem.W.Frag) (mg:Str->Option Value) (base:Heap):Prop where
  kin:K.In base
  glob:base.Ns mainGlobals mg
  blt:∃ mb,base.Ns builtinsNs mb/\∀ x:Str,x≠"__name__"->mb x=bootBuiltins x
  nolimit:base.NoLimit
structure Cx where
  prog:Program
  w:World
  K:PySem.W.Frag
  mg:Str->Option Value
  base:Heap
  A:Around
  N:List Str
  s₀:Shared
  H₀:Hp
  env:Env
  outer:List Env
  stack:List Env
  ex:List Addr
  fn:Str->Bool
  calm:Bool
  pn:List (Addr×Obj)
  xe:Value->Shared->Prop
def frs (l:List Env):List Addr:=l.filterMap (·.frame)
abbrev Cx.fs (X:Cx):List Addr:=frs X.outer
def Vis (sc:Scope) (x:Str):Prop:=sc.names.lookup x=some .local\/sc.names.lookup x=some .cell\/sc.names.lookup x=some .free
def Loc (sc:Scope) (x:Str):Prop:=sc.names.lookup x=some .local\/sc.names.lookup x=some .cell
def Look (env:Env) (h:Heap) (m:Str->Option Value) (x:Str) (u:Value):Prop:=
  (env.kindOf x=some .local/\m x=some u)\/((env.kindOf x=some .cell\/env.kindOf x=some .free)/\∃ c,env.cells.lookup x=some c/\h.IsCell c (some u))
structure Cx.Ok (X:Cx):Prop where
  mod:Mod X.K X.mg X.base
  kind:X.env.scope.kind=.function
  glob:X.env.globals=mainGlobals
  blt:X.env.builtins=builtinsNs
  above:X.s₀.heap.objs.size<=X.env.locals
  inj:∀ x y c,X.env.cells.lookup x=some c->X.env.cells.lookup y=some c->x=y
  has:∀ x,(X.env.kindOf x=some .cell\/X.env.kindOf x=some .free)->∃ c,X.env.cells.lookup x=some c
  cab:∀ x c,X.fn x=true->X.env.cells.lookup x=some c->X.s₀.heap.objs.size<=c
  hd:X.calm=true->X.A.handled=none
  frames:X.A.frames=some X.stack
  stk:X.stack=X.outer\/(X.stack=X.env::X.outer/\X.env.frame=some X.env.locals)
  exf:∀ b∈X.ex,b≠X.env.locals/\∀ x c,X.env.cells.lookup x=some c->c≠b
  bs:∀ b o,X.base.get? b=some o->X.s₀.heap.get? b=some o/\X.H₀ b=none
  bsz:X.base.objs.size<=X.s₀.heap.objs.size
  noex:∀ b o,X.base.get? b=some o->b∉X.ex
  exfs:∀ b∈X.ex,b∉X.fs
  funs:X.s₀.heap.FunFrames X.base X.outer
  frf:∀ b∈X.fs,X.H₀ b=none
structure Inv (X:Cx) (pins:List (Addr×Obj)) (σ:List (Option V)) (H:Hp) (s:Shared):Prop where
  ok:X.Ok
  os:s.os=X.s₀.os
  bare:AllBare s.gens
  base:Un X.fs X.ex X.H₀ H X.s₀.heap s.heap
  loc:∃ m,s.heap.Ns X.env.locals m/\∀ (i:Nat) (x:Str) (v:V),X.N[i]?=some x->σ[i]?=some (some v)->Vis X.env.scope x->∃ u,RelV v u/\Look X.env s.heap m x u
  cell:∀ x c,X.env.cells.lookup x=some c->∃ v,s.heap.IsCell c v
  free:H X.env.locals=none
  freeC:∀ x c,X.env.cells.lookup x=some c->H c=none
  pin:∀ p∈X.pn++pins,s.heap.get? p.1=some p.2/\H p.1=none/\p.1≠X.env.locals/\p.1∉X.fs/\∀ v,p.2.data≠.cell v
  hok:HOk X.prog X.w H s.heap
  len:σ.length=X.N.length
section
variable {X:Cx} {pins:List (Addr×Obj)} {σ:List (Option V)} {H H':Hp} {s:Shared} {h':Heap}
theorem Cx.Ok.nofr (ok:X.Ok) {b:Addr} {o:Obj} (e:X.base.get? b=some o):b∉X.fs:=fun hb=>by
  have:=(ok.funs.mem hb).1
  rw [e] at this; cases this
theorem Inv.bs (I:Inv X pins σ H s):∀ b o,X.base.get? b=some o->s.heap.get? b=some o/\H b=none:=fun b o e=>
  ⟨I.base.keep b o (I.ok.bs b o e).1 (I.ok.bs b o e).2 (I.ok.nofr e) (I.ok.noex b o e),I.base.free b o (I.ok.bs b o e).1 (I.ok.bs b o e).2 (I.ok.noex b o e)⟩
theorem Inv.bk (I:Inv X pins σ H s):∀ b o,X.base.get? b=some o->s.heap.get? b=some o:=fun b o e=>(I.bs b o e).1
theorem Inv.mod (I:Inv X pins σ H s):Mod X.K X.mg X.base:=I.ok.mod
theorem Inv.kIn (I:Inv X pins σ H s):X.K.In s.heap:=I.ok.mod.kin.keeps I.bk
theorem Inv.lt (I:Inv X pins σ H s):X.env.locals < s.heap.objs.size:=let ⟨_,hn,_⟩:=I.loc; hn.lt
theorem Inv.sz (I:Inv X pins σ H s):X.s₀.heap.objs.size<=s.heap.objs.size:=Nat.le_trans I.ok.above (Nat.le_of_lt I.lt)
theorem Inv.nofs (I:Inv X pins σ H s) {a:Addr} (h:s.heap.objs.size<=a):a∉X.fs:=fun hb=>by
  obtain⟨_,o,ho,_⟩:=I.ok.funs.mem hb
  exact absurd (Nat.lt_of_lt_of_le (Heap.lt_size ho) (Nat.le_trans I.sz h)) (Nat.lt_irrefl _)
theorem Inv.cne (I:Inv X pins σ H s):∀ x c,X.env.cells.lookup x=some c->c≠X.env.locals:=fun x c e z=>by
  obtain⟨v,o,ho,hd⟩:=I.cell x c e
  obtain⟨m,⟨o',es,ep,ho',hd',_⟩,_⟩:=I.loc
  rw [z,ho'] at ho; cases ho; rw [hd'] at hd; cases hd
theorem Inv.funs (I:Inv X pins σ H s):s.heap.FunFrames X.base X.outer:=by
  have all:∀ (l:List Env),(∀ b∈frs l,b∈X.fs)->X.s₀.heap.FunFrames X.base l->s.heap.FunFrames X.base l:=by
    intro l
    induction l with
    | nil=>intro _ _; trivial
    | cons env r ih=>
      intro hs hl
      obtain⟨hk,⟨L,o,hf,hn,ho,hd⟩,hr⟩:=hl
      have hL:L∈X.fs:=hs L (by unfold frs; rw [List.filterMap_cons,hf]; exact List.mem_cons_self)
      obtain⟨sl,e⟩:=I.base.slot L o ho (I.ok.frf L hL) hL fun z=>I.ok.exfs L z hL
      exact⟨hk,⟨L,_,hf,hn,e,hd⟩,ih (fun b hb=>hs b (by unfold frs; rw [List.filterMap_cons,hf]; exact List.mem_cons_of_mem _ hb)) hr⟩
  exact all X.outer (fun _ hb=>hb) I.ok.funs
theorem Inv.stack (I:Inv X pins σ H s):s.heap.FunFrames X.base X.stack:=by
  rcases I.ok.stk with e | ⟨e,hf⟩
  · rw [e]; exact I.funs
  · rw [e]
    obtain⟨m,hn,_⟩:=I.loc
    refine .cons (by rw [I.ok.kind]; decide) hf hn ?_ I.funs
    exact Heap.get?_none_of_le (Nat.le_trans I.ok.bsz I.ok.above)
theorem Inv.stkSub (I:Inv X pins σ H s):∀ b∈frs X.stack,b∈X.env.locals::X.fs:=fun b hb=>by
  rcases I.ok.stk with e | ⟨e,hf⟩
  · rw [e] at hb; exact List.mem_cons_of_mem _ hb
  · rw [e] at hb
    unfold frs at hb
    rw [List.filterMap_cons,hf] at hb
    exact hb
theorem Inv.stkFree (I:Inv X pins σ H s):∀ b∈frs X.stack,H b=none:=fun b hb=>by
  rcases List.mem_cons.mp (I.stkSub b hb) with e | hb
  · rw [e]; exact I.free
  · obtain⟨_,o,ho,_⟩:=I.ok.funs.mem hb
    exact I.base.free b o ho (I.ok.frf b hb) fun z=>I.ok.exfs b z hb
theorem Inv.step {g':Array GenState} {t':Nat} {d':Drawn} {ch:List Addr} (I:Inv X pins σ H s)
    (hch:∀ b∈ch,(b∈X.ex\/X.s₀.heap.objs.size<=b)/\b≠X.env.locals/\(∀ x c,X.env.cells.lookup x=some c->c≠b)/\∀ p∈X.pn++pins,p.1≠b)
    (keep:∀ b o,b≠X.env.locals->b∉X.fs->b∉ch->s.heap.get? b=some o->H b=none->h'.get? b=some o)
    (slot:∀ b o,b≠X.env.locals->b∈X.fs->b∉ch->s.heap.get? b=some o->H b=none->∃ sl,h'.get? b=some {o with slots:=sl}) (free:∀ b o,b∉ch->s.heap.get? b=some o->H b=none->H' b=none)
    (there:∀ b o,b∉ch->s.heap.get? b=some o->∃ o',h'.get? b=some o')
    (tups:∀ b xs,H b=some (.tup xs)->H' b=some (.tup xs)) (frzs:∀ b o u,H b=some (.frz o u)->H' b=some (.frz o u)) (tbls:∀ b ps,H b=some (.tbl ps)->∃ more,H' b=some (.tbl (ps++more)))
    (ns:∀ m,s.heap.Ns X.env.locals m->h'.Ns X.env.locals m) (hok:HOk X.prog X.w H' h') (hg:AllBare g'):
    Inv X pins σ H' {s with heap:=h',gens:=g',drawn:=d',toks:=t'}:=by
  have neL:∀ b o,X.s₀.heap.get? b=some o->b≠X.env.locals:=fun b o e=>Nat.ne_of_lt (Nat.lt_of_lt_of_le (Heap.lt_size e) I.ok.above)
  have neC:∀ b o,X.s₀.heap.get? b=some o->b∉X.ex->b∉ch:=fun b o e hx hb=>by
    rcases(hch b hb).1 with z | z
    · exact hx z
    · exact absurd (Nat.lt_of_lt_of_le (Heap.lt_size e) z) (Nat.lt_irrefl _)
  have cellK:∀ x c,X.env.cells.lookup x=some c->∀ v,s.heap.IsCell c v->h'.IsCell c v:=fun x c e v ⟨o,ho,hd⟩=>by
    have nch:c∉ch:=fun z=>(hch c z).2.2.1 x c e rfl
    by_cases hc:c∈X.fs
    · obtain⟨sl,q⟩:=slot c o (I.cne x c e) hc nch ho (I.freeC x c e)
      exact⟨_,q,hd⟩
    · exact⟨o,keep c o (I.cne x c e) hc nch ho (I.freeC x c e),hd⟩
  refine⟨I.ok,I.os,hg,⟨fun b o e n hb hx=>?_,fun b o e n hb hx=>?_,fun b o e n hx=>?_,fun b o e hx=>?_,fun b xs e=>tups b xs (I.base.tups b xs e),fun b o xs e=>frzs b o xs (I.base.frzs b o xs e),fun b ps e=>?_⟩,?_,fun x c e=>?_,?_,fun x c e=>?_,fun p hp=>?_,hok,I.len⟩
  · exact keep b o (neL b o e) hb (neC b o e hx) (I.base.keep b o e n hb hx) (I.base.free b o e n hx)
  · obtain⟨sl,e1⟩:=I.base.slot b o e n hb hx
    obtain⟨sl',e2⟩:=slot b _ (neL b o e) hb (neC b o e hx) e1 (I.base.free b o e n hx)
    exact⟨sl',e2⟩
  · obtain⟨o',e1⟩:=I.base.there b o e hx
    exact free b o' (neC b o e hx) e1 (I.base.free b o e n hx)
  · obtain⟨o',e1⟩:=I.base.there b o e hx
    exact there b o' (neC b o e hx) e1
  · obtain⟨m1,e1⟩:=I.base.tbls b ps e
    obtain⟨m2,e2⟩:=tbls b _ e1
    exact⟨m1++m2,by rw [e2,Array.append_assoc]⟩
  · obtain⟨m,hn,hl⟩:=I.loc
    refine⟨m,ns m hn,fun i x v e1 e2 e3=>?_⟩
    obtain⟨u,r,l⟩:=hl i x v e1 e2 e3
    refine⟨u,r,?_⟩
    rcases l with l | ⟨k,c,e,z⟩
    · exact .inl l
    · exact .inr ⟨k,c,e,cellK x c e _ z⟩
  · obtain⟨v,z⟩:=I.cell x c e
    exact⟨v,cellK x c e v z⟩
  · obtain⟨m,⟨o,_,_,ho,_⟩,_⟩:=I.loc
    exact free _ o (fun z=>(hch _ z).2.1 rfl) ho I.free
  · obtain⟨v,o,ho,hd⟩:=I.cell x c e
    exact free c o (fun z=>(hch c z).2.2.1 x c e rfl) ho (I.freeC x c e)
  · obtain⟨e,n,ne,nf,d⟩:=I.pin p hp
    have nch:p.1∉ch:=fun z=>(hch p.1 z).2.2.2 p hp rfl
    exact⟨keep p.1 p.2 ne nf nch e n,free p.1 p.2 nch e n,ne,nf,d⟩
theorem Inv.un {t':Nat} (I:Inv X pins σ H s) (u:Un X.fs [] H H' s.heap h') (hok:HOk X.prog X.w H' h'):Inv X pins σ H' {s with heap:=h',toks:=t'}:=by
  obtain⟨m,⟨o,es,ep,ho,r⟩,_⟩:=id I.loc
  obtain⟨sl,hL⟩:=u.any ho I.free (by simp)
  exact I.step (g':=s.gens) (d':=s.drawn) (ch:=[]) (fun _ z=>nomatch z) (fun b o _ hb _ e n=>u.keep b o e n hb (by simp)) (fun b o _ hb _ e n=>u.slot b o e n hb (by simp)) (fun b o _ e n=>u.free b o e n (by simp)) (fun b o _ e=>u.there b o e (by simp)) u.tups u.frzs u.tbls (fun m' hm=>by
    obtain⟨o',es',ep',ho',r'⟩:=hm
    rw [ho] at ho'; cases ho'
    exact⟨_,es',ep',hL,r'⟩) hok I.bare
theorem Inv.call {g':Array GenState} {t':Nat} {d':Drawn} {ch:List Addr} (I:Inv X pins σ H s) (u:Un (frs X.stack) ch H H' s.heap h') (hok:HOk X.prog X.w H' h') (hg:AllBare g')
    (hch:∀ b∈ch,(b∈X.ex\/X.s₀.heap.objs.size<=b)/\b≠X.env.locals/\(∀ x c,X.env.cells.lookup x=some c->c≠b)/\∀ p∈X.pn++pins,p.1≠b):
    Inv X pins σ H' {s with heap:=h',gens:=g',drawn:=d',toks:=t'}:=by
  obtain⟨m,⟨o,es,ep,ho,r⟩,_⟩:=id I.loc
  obtain⟨sl,hL⟩:=u.any ho I.free fun z=>(hch _ z).2.1 rfl
  exact I.step (ch:=ch) hch (fun b o hL hb hc e n=>u.keep b o e n (fun z=>(List.mem_cons.mp (I.stkSub b z)).elim hL hb) hc) (fun b o _ _ hc e n=>u.any e n hc) (fun b o hc e n=>u.free b o e n hc) (fun b o hc e=>u.there b o e hc) u.tups u.frzs u.tbls (fun m' hm=>by
    obtain⟨o',es',ep',ho',r'⟩:=hm
    rw [ho] at ho'; cases ho'
    exact⟨_,es',ep',hL,r'⟩) hok hg
theorem Inv.turned {t':Nat} {it:Addr} (I:Inv X pins σ H s) (k:∀ b o,b≠it->s.heap.get? b=some o->h'.get? b=some o) (hn:H it=none) (hL:it≠X.env.locals)
    (h1:it∈X.ex\/X.s₀.heap.objs.size<=it) (h2:∀ x c,X.env.cells.lookup x=some c->c≠it) (h3:∀ p∈X.pn++pins,p.1≠it):Inv X pins σ H {s with heap:=h',toks:=t'}:=by
  have nit:∀ b u,H b=some u->b≠it:=fun b u e z=>by rw [z,hn] at e; cases e
  refine I.step (g':=s.gens) (d':=s.drawn) (ch:=[it]) (fun b hb=>?_) (fun b o _ _ hc e _=>k b o (fun z=>hc (by simp [z])) e) (fun b o _ _ hc e _=>⟨o.slots,k b o (fun z=>hc (by simp [z])) e⟩) (fun _ _ _ _ n=>n)
    (fun b o hc e=>⟨o,k b o (fun z=>hc (by simp [z])) e⟩) (fun _ _ e=>e) (fun _ _ _ e=>e) (fun b ps e=>⟨#[],by rw [e]; simp⟩) (fun m hm=>?_) (fun b u e=>?_) I.bare
  · have e:b=it:=by simpa using hb
    subst e
    exact⟨h1,hL,h2,h3⟩
  · obtain⟨o,es,ep,ho,r⟩:=hm
    exact⟨o,es,ep,k _ o (Ne.symm hL) ho,r⟩
  · refine(I.hok b u e).stay (fun c v hc q=>k c v ?_ q) (fun _ q=>q) fun _ _ q=>q
    rcases hc with z | z
    · rw [z]; exact nit b u e
    · exact nit c _ z
theorem Inv.tok (I:Inv X pins σ H s) (t:Nat):Inv X pins σ H {s with toks:=t}:=I.un (h':=s.heap) (t':=t) Un.refl I.hok
theorem Inv.kept {t':Nat} (I:Inv X pins σ H s) (k:∀ b u,s.heap.get? b=some u->h'.get? b=some u):Inv X pins σ H {s with heap:=h',toks:=t'}:=I.un (Un.kept k) (I.hok.kept k)
theorem Inv.laid {a:Addr} {o:HO} {t':Nat} (I:Inv X pins σ H s) (k:∀ b u,s.heap.get? b=some u->h'.get? b=some u) (hp:s.heap.objs.size<=a) (new:ObjOk X.prog X.w (upd H a o) h' a o):
    Inv X pins σ (upd H a o) {s with heap:=h',toks:=t'}:=I.un (Un.laid k hp (I.hok.fresh hp)) (I.hok.laid k hp new)
theorem Inv.write {x e:Addr} {o:HO} {t':Nat} (I:Inv X pins σ H s) (mu:Mut (H x)) (he:e=x\/H e=some (.own x)) (k:∀ b u,b≠e->s.heap.get? b=some u->h'.get? b=some u) (heo:∃ u,h'.get? e=some u)
    (new:ObjOk X.prog X.w (upd H x o) h' x o):Inv X pins σ (upd H x o) {s with heap:=h',toks:=t'}:=I.un (Un.write mu he k heo) (I.hok.write mu he k heo new)
theorem Inv.pins_of {pins':List (Addr×Obj)} (I:Inv X pins σ H s) (h:∀ p∈pins',s.heap.get? p.1=some p.2/\H p.1=none/\p.1≠X.env.locals/\p.1∉X.fs/\∀ v,p.2.data≠.cell v):Inv X pins' σ H s:=
  ⟨I.ok,I.os,I.bare,I.base,I.loc,I.cell,I.free,I.freeC,fun p hp=>(List.mem_append.mp hp).elim (fun z=>I.pin p (List.mem_append_left _ z)) (h p),I.hok,I.len⟩
theorem nodup_ix {N:List Str} (hN:N.Nodup) {i j:Nat} {x:Str} (a:N[i]?=some x) (b:N[j]?=some x):i=j:=by
  obtain⟨h1,e1⟩:=List.getElem?_eq_some_iff.mp a
  obtain⟨h2,e2⟩:=List.getElem?_eq_some_iff.mp b
  exact(List.getElem_inj hN).mp (e1.trans e2.symm)
theorem store_ok2 {M:Model} {A:Around} {E:Value->Shared->Prop} {i:Nat} {x:Str} {v:V} {u:Value} {Q:Unit->Shared->Prop} (I:Inv X pins σ H s) (hN:X.N.Nodup) (hi:X.N[i]?=some x) (hx:Loc X.env.scope x) (r:RelV v u)
    (h:∀ s',Inv X pins (σ.set i (some v)) H s'->(∃ a,Heap.SameBut a s.heap s'.heap/\(a=X.env.locals\/X.env.cells.lookup x=some a))->Q () s') (hf:X.fn x=true\/X.env.scope.names.lookup x=some .local:=by first | exact .inl rfl | exact .inr rfl | assumption):wpAny M A (storeName X.env x u) Q E s:=by
  obtain⟨m,hn,hl⟩:=id I.loc
  have hcls:(X.env.scope.kind == .class || (X.env.scope.kind == .module && X.env.locals != X.env.globals))=false:=by rw [I.ok.kind]; rfl
  have hiσ:i < σ.length:=by rw [I.len]; exact(List.getElem?_eq_some_iff.mp hi).1
  have cne:=I.cne
  have tracked:∀ {a:Addr} {h':Heap},(∃ o,s.heap.get? a=some o/\H a=none)->Heap.SameBut a s.heap h'->HOk X.prog X.w H h':=fun {a h'} ha hs b ob e=>by
    obtain⟨_,_,hfree⟩:=ha
    refine(I.hok b ob e).stay (fun c w' hc q=>(hs.2 c ?_).trans q) (fun _ q=>q) fun _ _ q=>q
    rintro rfl
    rcases hc with rfl | hc
    · rw [hfree] at e; cases e
    · rw [hfree] at hc; cases hc
  rcases hx with hk | hk
  · refine wpAny_storeName_local hk hn (fun h' hn' hs=>?_) hcls
    obtain⟨oL,_,_,hoL,_⟩:=id hn
    refine h _ ⟨I.ok,I.os,I.bare,⟨fun b o e n hb hx=>?_,fun b o e n hb hx=>?_,I.base.free,fun b o e hx=>?_,I.base.tups,I.base.frzs,I.base.tbls⟩,⟨_,hn',fun j y v' e1 e2 e3=>?_⟩,fun y c e=>?_,I.free,I.freeC,fun p hp=>?_,tracked ⟨oL,hoL,I.free⟩ hs,by simpa using I.len⟩ ⟨_,hs,.inl rfl⟩
    · exact(hs.2 b (Nat.ne_of_lt (Nat.lt_of_lt_of_le (Heap.lt_size e) I.ok.above))).trans (I.base.keep b o e n hb hx)
    · obtain⟨sl,e1⟩:=I.base.slot b o e n hb hx
      exact⟨sl,(hs.2 b (Nat.ne_of_lt (Nat.lt_of_lt_of_le (Heap.lt_size e) I.ok.above))).trans e1⟩
    · obtain⟨o',e1⟩:=I.base.there b o e hx
      exact⟨o',(hs.2 b (Nat.ne_of_lt (Nat.lt_of_lt_of_le (Heap.lt_size e) I.ok.above))).trans e1⟩
    · by_cases hj:j=i
      · subst hj
        rw [hi] at e1; cases e1
        rw [List.getElem?_set_self hiσ] at e2
        cases e2
        exact⟨u,r,.inl ⟨hk,by simp⟩⟩
      · rw [List.getElem?_set_ne (Ne.symm hj)] at e2
        obtain⟨u',r',q⟩:=hl j y v' e1 e2 e3
        refine⟨u',r',?_⟩
        rcases q with ⟨k,e⟩ | ⟨k,c,e,z⟩
        · refine .inl ⟨k,?_⟩
          have:y≠x:=fun e=>hj (nodup_ix hN e1 (e▸hi))
          simp [this,e]
        · exact .inr ⟨k,c,e,z.sameBut hs (cne y c e)⟩
    · obtain⟨w',z⟩:=I.cell y c e
      exact⟨w',z.sameBut hs (cne y c e)⟩
    · obtain⟨e,n,ne,nf,d⟩:=I.pin p hp
      exact⟨(hs.2 p.1 ne).trans e,n,ne,nf,d⟩
  · have hfn:X.fn x=true:=by
      rcases hf with z | z
      · exact z
      · rw [z] at hk; cases hk
    obtain⟨c,hc⟩:=I.ok.has x (.inl hk)
    obtain⟨w',z⟩:=I.cell x c hc
    refine wpAny_storeName_cell I.ok.kind hk hc z (fun h' hc' hs=>?_)
    obtain⟨oc,hoc,hocd⟩:=id z
    refine h {s with heap:=h'} ⟨I.ok,I.os,I.bare,⟨fun b o e n hb hx=>?_,fun b o e n hb hx=>?_,I.base.free,fun b o e hx=>?_,I.base.tups,I.base.frzs,I.base.tbls⟩,⟨m,hn.sameBut hs (Ne.symm (cne x c hc)),fun j y v' e1 e2 e3=>?_⟩,fun y c' e=>?_,I.free,I.freeC,fun p hp=>?_,tracked ⟨oc,hoc,I.freeC x c hc⟩ hs,by simpa using I.len⟩ ⟨c,hs,.inr hc⟩
    · exact(hs.2 b (Nat.ne_of_lt (Nat.lt_of_lt_of_le (Heap.lt_size e) (I.ok.cab x c hfn hc)))).trans (I.base.keep b o e n hb hx)
    · obtain⟨sl,e1⟩:=I.base.slot b o e n hb hx
      exact⟨sl,(hs.2 b (Nat.ne_of_lt (Nat.lt_of_lt_of_le (Heap.lt_size e) (I.ok.cab x c hfn hc)))).trans e1⟩
    · obtain⟨o',e1⟩:=I.base.there b o e hx
      exact⟨o',(hs.2 b (Nat.ne_of_lt (Nat.lt_of_lt_of_le (Heap.lt_size e) (I.ok.cab x c hfn hc)))).trans e1⟩
    · by_cases hj:j=i
      · subst hj
        rw [hi] at e1; cases e1
        rw [List.getElem?_set_self hiσ] at e2
        cases e2
        exact⟨u,r,.inr ⟨.inl hk,c,hc,hc'⟩⟩
      · rw [List.getElem?_set_ne (Ne.symm hj)] at e2
        obtain⟨u',r',q⟩:=hl j y v' e1 e2 e3
        refine⟨u',r',?_⟩
        rcases q with q | ⟨k,c',e,z'⟩
        · exact .inl q
        · refine .inr ⟨k,c',e,z'.sameBut hs ?_⟩
          rintro rfl
          exact hj (nodup_ix hN e1 (I.ok.inj _ _ _ e hc▸hi))
    · by_cases hcc:c'=c
      · subst hcc; exact⟨_,hc'⟩
      · obtain⟨w2,z2⟩:=I.cell y c' e
        exact⟨w2,z2.sameBut hs hcc⟩
    · obtain⟨e,n,ne,nf,d⟩:=I.pin p hp
      refine⟨(hs.2 p.1 ?_).trans e,n,ne,nf,d⟩
      intro q
      rw [q,hoc] at e
      have q':oc=p.2:=Option.some.inj e
      exact d w' (by rw [<- q']; exact hocd)
theorem store_ok {M:Model} {A:Around} {E:Value->Shared->Prop} {i:Nat} {x:Str} {v:V} {u:Value} {Q:Unit->Shared->Prop} (I:Inv X pins σ H s) (hN:X.N.Nodup) (hi:X.N[i]?=some x) (hx:Loc X.env.scope x) (r:RelV v u)
    (h:∀ s',Inv X pins (σ.set i (some v)) H s'->Q () s') (hf:X.fn x=true\/X.env.scope.names.lookup x=some .local:=by first | exact .inl rfl | exact .inr rfl | assumption):wpAny M A (storeName X.env x u) Q E s:=
  store_ok2 I hN hi hx r (fun s' I' _=>h s' I') hf
theorem Inv.call' {s':Shared} {ch:List Addr} (I:Inv X pins σ H s) (ho:s'.os=s.os) (u:Un (frs X.stack) ch H H' s.heap s'.heap) (hok:HOk X.prog X.w H' s'.heap) (hg:AllBare s'.gens)
    (hch:∀ b∈ch,(b∈X.ex\/X.s₀.heap.objs.size<=b)/\b≠X.env.locals/\(∀ x c,X.env.cells.lookup x=some c->c≠b)/\∀ p∈X.pn++pins,p.1≠b):Inv X pins σ H' s':=by
  obtain⟨h',g',d',t',o'⟩:=s'
  have e:o'=s.os:=ho
  subst e
  exact I.call (g':=g') (t':=t') (d':=d') u hok hg hch
end
abbrev XK:=Value->Option Addr->Hp->Prop
abbrev St:=List (Option V)
abbrev VK:=V->Hp->Prop
abbrev TE:=St->Hp->VK->Prop
abbrev TT:=St->Hp->(Bool->Hp->Prop)->Prop
abbrev TA:=St->Hp->(List V->Hp->Prop)->Prop
structure Ends where
  nx:St->Hp->Prop
  rt:VK
  bk:St->Hp->Prop:=fun _ _=>False
  ct:St->Hp->Prop:=fun _ _=>False
abbrev TS:=Ends->St->Hp->Prop
def EP (X:Cx) (pins:List (Addr×Obj)) (σ:St) (Q:VK) (u:Value) (s':Shared):Prop:=∃ v H',Inv X pins σ H' s'/\RelV v u/\Q v H'
def TP (X:Cx) (pins:List (Addr×Obj)) (σ:St) (Q:Bool->Hp->Prop) (b:Bool) (s':Shared):Prop:=∃ H',Inv X pins σ H' s'/\Q b H'
def AP (X:Cx) (pins:List (Addr×Obj)) (σ:St) (Q:List V->Hp->Prop) (us:List Value) (s':Shared):Prop:=∃ vs H',Inv X pins σ H' s'/\Vals vs us/\Q vs H'
def SP (X:Cx) (pins:List (Addr×Obj)) (D:Ends) (f:Flow) (s':Shared):Prop:=
  match f with
  | .next=>∃ σ' H',Inv X pins σ' H' s'/\D.nx σ' H'
  | .brk=>∃ σ' H',Inv X pins σ' H' s'/\D.bk σ' H'
  | .cont=>∃ σ' H',Inv X pins σ' H' s'/\D.ct σ' H'
  | .ret u=>∃ v σ' H',Inv X pins σ' H' s'/\RelV v u/\D.rt v H'
def PE (X:Cx) (e:Expr) (t:TE):Prop:=
  ∀ (pins:List (Addr×Obj)) (s:Shared) (σ:St) (H:Hp) (Q:VK),Inv X pins σ H s->t σ H Q->wpAny (model X.prog X.w) X.A (eval e X.env) (EP X pins σ Q) X.xe s
def PT (X:Cx) (e:Expr) (t:TT):Prop:=
  ∀ (pins:List (Addr×Obj)) (s:Shared) (σ:St) (H:Hp) (Q:Bool->Hp->Prop),Inv X pins σ H s->t σ H Q->wpAny (model X.prog X.w) X.A (isTrue e X.env (eval e X.env)) (TP X pins σ Q) X.xe s
def PW (X:Cx) (e:Expr) (t:TT):Prop:=
  ∀ (whole:Sem Value) (pins:List (Addr×Obj)) (s:Shared) (σ:St) (H:Hp) (Q:Bool->Hp->Prop),Inv X pins σ H s->t σ H Q->wpAny (model X.prog X.w) X.A (isTrue e X.env whole) (TP X pins σ Q) X.xe s
theorem PW.pt {X:Cx} {e:Expr} {t:TT} (h:PW X e t):PT X e t:=h _
def PA (X:Cx) (es:List Expr) (t:TA):Prop:=
  ∀ (pos:Pos) (pins:List (Addr×Obj)) (s:Shared) (σ:St) (H:Hp) (Q:List V->Hp->Prop),Inv X pins σ H s->t σ H Q->wpAny (model X.prog X.w) X.A (spliced (backTo pos (starEach es X.env))) (AP X pins σ Q) X.xe s
def PS (X:Cx) (st:Stmt) (t:TS):Prop:=
  ∀ (pins:List (Addr×Obj)) (s:Shared) (σ:St) (H:Hp) (D:Ends),Inv X pins σ H s->t D σ H->wpAny (model X.prog X.w) X.A (exec st X.env) (SP X pins D) X.xe s
def PSs (X:Cx) (st:List Stmt) (t:TS):Prop:=
  ∀ (pins:List (Addr×Obj)) (s:Shared) (σ:St) (H:Hp) (D:Ends),Inv X pins σ H s->t D σ H->wpAny (model X.prog X.w) X.A (execs st X.env) (SP X pins D) X.xe s
theorem thn {α:Type} {t:Sem α} {Q Q':α->Shared->Prop} {M:Model} {A:Around} {E:Value->Shared->Prop} {s:Shared} (h:wpAny M A t Q E s) (hQ:∀ a s,Q a s->Q' a s):wpAny M A t Q' E s:=wpAny_mono h hQ fun _ _ x=>x
section
variable {X:Cx}
def tVar (i:Nat):TE:=fun σ H Q=>∃ v,σ[i]?=some (some v)/\Q v H
def tC (v:V):TE:=fun _ H Q=>Q v H
theorem pe_var {i:Nat} {x:Str} {pos:Pos} (hN:X.N[i]?=some x) (hv:Vis X.env.scope x) (hd:(x == ("__debug__":Str))=false:=by decide) (hcd:(x == ("__classdict__":Str))=false:=by decide):PE X (.Name x pos) (tVar i):=by
  intro pins s σ H Q I h
  obtain⟨v,e,h⟩:=h
  obtain⟨m,hn,hl⟩:=I.loc
  obtain⟨u,r,l⟩:=hl i x v hN e hv
  have fin:EP X pins σ Q u s:=⟨v,H,I,r,h⟩
  rcases l with ⟨hk,hm⟩ | ⟨hk,c,hc,hcell⟩
  · exact wpAny_Name (wpAny_loadName_local I.ok.kind hk hn hm fin) hd
  · rcases hk with hk | hk
    · exact wpAny_Name (wpAny_loadName_cell I.ok.kind hk hc hcell fin) hd
    · exact wpAny_Name (wpAny_loadName_free I.ok.kind hk hc hcell fin hcd) hd
theorem pe_int {i j pos}:PE X (.Constant (.int i) j pos) (tC (.int i)):=fun _ _ _ H _ I h=>wpAny_Constant_int ⟨.int i,H,I.tok _,⟨_,rfl⟩,h⟩
theorem pe_bl {b j pos}:PE X (.Constant (.bool b) j pos) (tC (.bl b)):=fun _ _ _ H _ I h=>Constant_bool ⟨.bl b,H,I,rfl,h⟩
theorem pe_non {j pos}:PE X (.Constant .none j pos) (tC .non):=fun _ _ _ H _ I h=>Constant_none ⟨.non,H,I,rfl,h⟩
theorem pe_str {x j pos}:PE X (.Constant (.str x) j pos) (tC (.str x)):=fun _ _ _ H _ I h=>Calls.Constant_str ⟨.str x,H,I.tok _,⟨_,rfl⟩,h⟩
def Gl (X:Cx) (x:Str):Prop:=X.env.kindOf x=some .globalImplicit
theorem ld_glob {E:Value->Shared->Prop} {pins:List (Addr×Obj)} {s:Shared} {σ:St} {H:Hp} {x:Str} {u:Value} {pos:Pos} {Q:Value->Shared->Prop} (I:Inv X pins σ H s) (hg:Gl X x) (hm:X.mg x=some u) (h:Q u s)
    (hd:(x == ("__debug__":Str))=false:=by decide):wpAny (model X.prog X.w) X.A (eval (.Name x pos) X.env) Q E s:=
  Calls.Name_function_global I.ok.kind hg (Calls.loadGlobal_global (by rw [I.ok.glob]; exact I.mod.glob.keeps I.bk) hm h) hd
theorem ld_blt {E:Value->Shared->Prop} {pins:List (Addr×Obj)} {s:Shared} {σ:St} {H:Hp} {x:Str} {u:Value} {pos:Pos} {Q:Value->Shared->Prop} (I:Inv X pins σ H s) (hg:Gl X x) (hm:X.mg x=none) (hv:bootBuiltins x=some u) (h:Q u s)
    (hn:x≠"__name__":=by decide) (hd:(x == ("__debug__":Str))=false:=by decide):wpAny (model X.prog X.w) X.A (eval (.Name x pos) X.env) Q E s:=by
  obtain⟨mb,h1,h2⟩:=I.mod.blt
  exact Calls.Name_function_global I.ok.kind hg (Calls.loadGlobal_builtin (by rw [I.ok.glob]; exact I.mod.glob.keeps I.bk) hm (by rw [I.ok.blt]; exact h1.keeps I.bk) ((h2 x hn).trans hv) h) hd
theorem pe_glob {x:Str} {v:V} {u:Value} {pos:Pos} (hg:Gl X x) (hm:X.mg x=some u) (r:RelV v u) (hd:(x == ("__debug__":Str))=false:=by decide):PE X (.Name x pos) (tC v):=
  fun _ _ _ H _ I h=>ld_glob I hg hm ⟨v,H,I,r,h⟩ hd
theorem pe_bltn {x:Str} {v:V} {u:Value} {pos:Pos} (hg:Gl X x) (hm:X.mg x=none) (hv:bootBuiltins x=some u) (r:RelV v u) (hn:x≠"__name__":=by decide) (hd:(x == ("__debug__":Str))=false:=by decide):PE X (.Name x pos) (tC v):=
  fun _ _ _ H _ I h=>ld_blt I hg hm hv ⟨v,H,I,r,h⟩ hn hd
variable {a b:Expr} {ta tb:TE} {pos:Pos}
def tB (t:TE):TT:=fun σ H Q=>t σ H fun x H1=>∃ c,x=.bl c/\Q c H1
theorem pt_val {e:Expr} {t:TE} (h:PE X e t) (he:∀ whole,isTrue e X.env whole=(do let v <- whole; standAt e.pos; holding [v] (truthy v)):=by intro _; rfl):PT X e (tB t):=by
  intro pins s σ H Q I hw
  refine isTrue_plain (thn (h pins s σ H _ I hw) fun v s1 ⟨x,H1,I1,r1,q1⟩=>?_) (he _)
  obtain⟨d,rfl,q⟩:=q1
  cases r1
  exact wpAny_truthy_bool ⟨H1,I1,q⟩
variable {tA tB':TT} {rest:List Expr}
def tAnd (t u:TT):TT:=fun σ H Q=>t σ H fun c H1=>if c=true then u σ H1 Q else Q false H1
def tOr (t u:TT):TT:=fun σ H Q=>t σ H fun c H1=>if c=true then Q true H1 else u σ H1 Q
def tNot (t:TT):TT:=fun σ H Q=>t σ H fun c H1=>Q (!c) H1
theorem pw_and1 (ha:PT X a tA):PW X (.BoolOp .And [a] pos) tA:=by
  intro wh pins s σ H Q I h
  refine isTrue_and (thn (ha pins s σ H Q I h) fun c s1 e=>?_)
  cases c with
  | true=>exact isTrue_and_nil e
  | false=>exact e
theorem pw_or1 (ha:PT X a tA):PW X (.BoolOp .Or [a] pos) tA:=by
  intro wh pins s σ H Q I h
  refine isTrue_or (thn (ha pins s σ H Q I h) fun c s1 e=>?_)
  cases c with
  | false=>exact isTrue_or_nil e
  | true=>exact e
theorem pw_and (ha:PT X a tA) (hb:PW X (.BoolOp .And (b::rest) pos) tB'):PW X (.BoolOp .And (a::b::rest) pos) (tAnd tA tB'):=by
  intro wh pins s σ H Q I h
  refine isTrue_and (thn (ha pins s σ H _ I h) fun c s1 ⟨H1,I1,q1⟩=>?_)
  cases c with
  | true=>exact hb wh pins s1 σ H1 Q I1 q1
  | false=>exact⟨H1,I1,q1⟩
theorem pw_or (ha:PT X a tA) (hb:PW X (.BoolOp .Or (b::rest) pos) tB'):PW X (.BoolOp .Or (a::b::rest) pos) (tOr tA tB'):=by
  intro wh pins s σ H Q I h
  refine isTrue_or (thn (ha pins s σ H _ I h) fun c s1 ⟨H1,I1,q1⟩=>?_)
  cases c with
  | true=>exact⟨H1,I1,q1⟩
  | false=>exact hb wh pins s1 σ H1 Q I1 q1
theorem pt_not (ha:PT X a tA):PT X (.UnaryOp .Not a pos) (tNot tA):=by
  intro pins s σ H Q I h
  exact isTrue_not (ha pins s σ H (fun c H1=>Q (!c) H1) I h)
end
def SqL (K:PySem.W.Frag) (H:Hp) (a:Addr) (xs:List V):Prop:=
  Rd H a (.lst xs)\/
    ∃ (o:Obj) (its:Array Value) (n:Nat),K.lookup a=some o/\o.cls=.type "list"/\o.dict=none/\o.data=.seq its n/\its.size<=sizeLine/\Vals xs its.toList
def SqT (K:PySem.W.Frag) (H:Hp) (a:Addr) (xs:List V):Prop:=
  Rd H a (.tup xs)\/
    ∃ (o:Obj) (its:Array Value) (n:Nat),K.lookup a=some o/\o.cls=.type "tuple"/\o.data=.seq its n/\its.size<=sizeLine/\Vals xs its.toList
def absV:Value->Option V
  | .none=>some .non
  | .bool b=>some (.bl b)
  | .int i _=>some (.int i)
  | .str x _=>some (.str x)
  | .bytes b _=>some (.byt b)
  | .float b _=>some (.flt b)
  | .ref a=>some (.ref a)
  | .type n=>some (.ty n)
  | _=>none
theorem RelV.abs {x:V} {u:Value} (r:RelV x u):absV u=some x:=by
  cases x with
  | non=>cases r; rfl
  | bl _=>cases r; rfl
  | int _=>obtain⟨t,rfl⟩:=r; rfl
  | str _=>obtain⟨t,rfl⟩:=r; rfl
  | byt _=>obtain⟨t,rfl⟩:=r; rfl
  | flt _=>obtain⟨t,rfl⟩:=r; rfl
  | ref _=>cases r; rfl
  | ty _=>cases r; rfl
theorem RelV.inj {x y:V} {u:Value} (r:RelV x u) (q:RelV y u):x=y:=Option.some.inj (r.abs.symm.trans q.abs)
theorem Vals.inj:∀ {xs ys:List V} {us:List Value},Vals xs us->Vals ys us->xs=ys
  | _,_,_,.nil,.nil=>rfl
  | _,_,_,.cons r t,.cons r' t'=>by rw [r.inj r',Vals.inj t t']
section
variable {X:Cx} {pins:List (Addr×Obj)} {σ:St} {H:Hp} {s:Shared} {a:Addr} {xs ys:List V}
theorem SqL.of {K:PySem.W.Frag} (h:H a=some (.lst xs)):SqL K H a xs:=.inl (.inl h)
theorem SqT.of {K:PySem.W.Frag} (h:H a=some (.tup xs)):SqT K H a xs:=.inl (.inl h)
theorem Inv.list (I:Inv X pins σ H s) (h:SqL X.K H a xs):∃ its:List Value,Vals xs its/\PlainL s.heap a its.toArray/\xs.length<=sizeLine:=by
  rcases h with h | ⟨o,its,n,hk,hc,hd,hs,hz,r⟩
  · obtain⟨z,its,n,r,e⟩:=h.ok I.hok
    exact⟨its,r,⟨_,n,e,rfl,rfl,rfl⟩,z⟩
  · refine⟨its.toList,r,⟨o,n,I.kIn a o hk,hc,hd,by simpa using hs⟩,?_⟩
    have e:=r.length
    simp only [Array.length_toList] at e
    omega
theorem Inv.tuple (I:Inv X pins σ H s) (h:SqT X.K H a xs):∃ its:List Value,Vals xs its/\IsTup s.heap a its.toArray/\xs.length<=sizeLine:=by
  rcases h with h | ⟨o,its,n,hk,hc,hs,hz,r⟩
  · obtain⟨z,its,r,p⟩:=h.ok I.hok
    exact⟨its,r,p,z⟩
  · refine⟨its.toList,r,⟨o,I.kIn a o hk,hc,n,by simpa using hs⟩,?_⟩
    have e:=r.length
    simp only [Array.length_toList] at e
    omega
theorem Inv.list_inj (I:Inv X pins σ H s) (h:SqL X.K H a xs) (h':SqL X.K H a ys):xs=ys:=by
  obtain⟨its,r,⟨o,n,e,_,_,d⟩,_⟩:=I.list h
  obtain⟨its',r',⟨o',n',e',_,_,d'⟩,_⟩:=I.list h'
  rw [e] at e'; cases e'
  rw [d] at d'
  injection d' with d1 _
  have:its=its':=by simpa using congrArg Array.toList d1
  subst this
  exact r.inj r'
theorem Inv.tuple_inj (I:Inv X pins σ H s) (h:SqT X.K H a xs) (h':SqT X.K H a ys):xs=ys:=by
  obtain⟨its,r,⟨o,e,_,n,d⟩,_⟩:=I.tuple h
  obtain⟨its',r',⟨o',e',_,n',d'⟩,_⟩:=I.tuple h'
  rw [e] at e'; cases e'
  rw [d] at d'
  injection d' with d1 _
  have:its=its':=by simpa using congrArg Array.toList d1
  subst this
  exact r.inj r'
end
abbrev Cx.wish (X:Cx) (E:Value->Shared->Prop):Cx:={X with xe:=E}
abbrev Cx.nox (X:Cx):Cx:=X.wish fun _ _=>False
theorem Cx.Ok.wish {X:Cx} (ok:X.Ok) (E:Value->Shared->Prop):(X.wish E).Ok:=
  ⟨ok.mod,ok.kind,ok.glob,ok.blt,ok.above,ok.inj,ok.has,ok.cab,ok.hd,ok.frames,ok.stk,ok.exf,ok.bs,ok.bsz,ok.noex,ok.exfs,ok.funs,ok.frf⟩
theorem Cx.Ok.unwish {X:Cx} {E:Value->Shared->Prop} (ok:(X.wish E).Ok):X.Ok:=
  ⟨ok.mod,ok.kind,ok.glob,ok.blt,ok.above,ok.inj,ok.has,ok.cab,ok.hd,ok.frames,ok.stk,ok.exf,ok.bs,ok.bsz,ok.noex,ok.exfs,ok.funs,ok.frf⟩
section
variable {X:Cx} {pins:List (Addr×Obj)} {σ:St} {H:Hp} {s:Shared} {E:Value->Shared->Prop}
theorem Inv.wish (I:Inv X pins σ H s) (E:Value->Shared->Prop):Inv (X.wish E) pins σ H s:=⟨I.ok.wish E,I.os,I.bare,I.base,I.loc,I.cell,I.free,I.freeC,I.pin,I.hok,I.len⟩
theorem Inv.unwish (I:Inv (X.wish E) pins σ H s):Inv X pins σ H s:=⟨I.ok.unwish,I.os,I.bare,I.base,I.loc,I.cell,I.free,I.freeC,I.pin,I.hok,I.len⟩
theorem SP.unwish {D:Ends} {f:Flow} {s':Shared} (h:SP (X.wish E) pins D f s'):SP X pins D f s':=by
  cases f with
  | next=>obtain⟨σ',H',I,q⟩:=h; exact⟨σ',H',I.unwish,q⟩
  | brk=>obtain⟨σ',H',I,q⟩:=h; exact⟨σ',H',I.unwish,q⟩
  | cont=>obtain⟨σ',H',I,q⟩:=h; exact⟨σ',H',I.unwish,q⟩
  | ret u=>obtain⟨v,σ',H',I,r,q⟩:=h; exact⟨v,σ',H',I.unwish,r,q⟩
theorem PSs.nox {st:List Stmt} {t:TS} (h:PSs X.nox st t):PSs X st t:=fun pins s σ H D I hw=>
  wpAny_mono (h pins s σ H D (I.wish _) hw) (fun _ _ q=>q.unwish) fun _ _ z=>False.elim z
end
section
variable {X:Cx} {st:Stmt} {rest:List Stmt} {t u:TS} {e:Expr} {te:TE} {pos:Pos}
def tNext:TS:=fun D σ H=>D.nx σ H
def tSeq (t u:TS):TS:=fun D σ H=>t {D with nx:=u D} σ H
theorem pss_nil:PSs X [] tNext:=fun _ _ σ H _ I h=>wpAny_execs_nil ⟨σ,H,I,h⟩
theorem pss_cons (h1:PS X st t) (h2:PSs X rest u):PSs X (st::rest) (tSeq t u):=by
  intro pins s σ H D I h
  refine wpAny_execs_cons (thn (h1 pins s σ H {D with nx:=u D} I h) fun f s1 q=>?_)
  cases f with
  | next=>
    obtain⟨σ',H',I',q⟩:=q
    exact h2 pins s1 σ' H' D I' q
  | ret v=>exact q
  | brk=>exact q
  | cont=>exact q
theorem pss_one (h1:PS X st t):PSs X [st] t:=by
  intro pins s σ H D I h
  refine wpAny_execs_cons (thn (h1 pins s σ H D I h) fun f s1 q=>?_)
  cases f with
  | next=>exact wpAny_execs_nil q
  | ret v=>exact q
  | brk=>exact q
  | cont=>exact q
theorem Inv.quiet {pins:List (Addr×Obj)} {σ:St} {H:Hp} {s:Shared} (I:Inv X pins σ H s):interactive X.env=false:=by simp [interactive,I.ok.kind]
def tDrop (te:TE):TS:=fun D σ H=>te σ H fun _ H1=>D.nx σ H1
theorem ps_expr (he:PE X e te) (hs:swapsWith e none pos.line X.env=pure false:=by rfl):PS X (.Expr e pos) (tDrop te):=by
  intro pins s σ H D I h
  exact wpAny_Expr_any (thn (he pins s σ H _ I h) fun v s1 ⟨x,H1,I1,r1,q1⟩=>⟨σ,H1,I1,q1⟩) I.quiet hs
def tRet (te:TE):TS:=fun D σ H=>te σ H D.rt
theorem ps_ret (he:PE X e te):PS X (.Return (some e) pos) (tRet te):=by
  intro pins s σ H D I h
  exact wpAny_Return_some (thn (he pins s σ H _ I h) fun v s1 ⟨x,H1,I1,r1,q1⟩=>⟨x,σ,H1,I1,r1,q1⟩)
def tIfS (c:TT) (t u:TS):TS:=fun D σ H=>c σ H fun b H1=>if b=true then t D σ H1 else u D σ H1
theorem ps_if {c:Expr} {a b:List Stmt} {tc:TT} (hc:PT X c tc) (ha:PSs X a t) (hb:PSs X b u):PS X (.If c a b pos) (tIfS tc t u):=by
  intro pins s σ H D I h
  refine wpAny_If (thn (hc pins s σ H _ I h) fun d s1 ⟨H1,I1,q1⟩=>?_)
  cases d with
  | true=>exact ha pins s1 σ H1 D I1 q1
  | false=>exact hb pins s1 σ H1 D I1 q1
def tNever:TS:=fun _ _ _=>False
theorem ps_never:PS X st tNever:=fun _ _ _ _ _ _ h=>h.elim
end
abbrev TG:=V->St->Hp->(St->Hp->Prop)->Prop
abbrev TGs:=List V->St->Hp->(St->Hp->Prop)->Prop
def PG (X:Cx) (target:Expr) (t:TG):Prop:=
  ∀ (pins:List (Addr×Obj)) (s:Shared) (σ:St) (H:Hp) (v:V) (u:Value) (Q:St->Hp->Prop),Inv X pins σ H s->RelV v u->t v σ H Q->
    wpAny (model X.prog X.w) X.A (assign target X.env u) (fun _ s'=>∃ σ' H',Inv X pins σ' H' s'/\Q σ' H') X.xe s
def PGs (X:Cx) (ts:List Expr) (t:TGs):Prop:=
  ∀ (pins:List (Addr×Obj)) (s:Shared) (σ:St) (H:Hp) (vs:List V) (us:List Value) (Q:St->Hp->Prop),Inv X pins σ H s->Vals vs us->t vs σ H Q->
    wpAny (model X.prog X.w) X.A (assignInOrder ((assignEach ts X.env).map (·.2)) us) (fun _ s'=>∃ σ' H',Inv X pins σ' H' s'/\Q σ' H') X.xe s
abbrev TSet:=V->V->V->Hp->(Hp->Prop)->Prop
def PSet (X:Cx) (t:TSet):Prop:=
  ∀ (pins:List (Addr×Obj)) (s:Shared) (σ:St) (H:Hp) (o i v:V) (ov iv u:Value) (Q:Hp->Prop),Inv X pins σ H s->RelV o ov->RelV i iv->RelV v u->t o i v H Q->
    wpAny (model X.prog X.w) X.A (setItem ov iv u) (fun _ s'=>∃ H',Inv X pins σ H' s'/\Q H') X.xe s
section
variable {X:Cx} {pos:Pos}
def gName (i:Nat):TG:=fun v σ H Q=>Q (σ.set i (some v)) H
theorem pg_name {i:Nat} {x:Str} (hN:X.N.Nodup) (hi:X.N[i]?=some x) (hx:Loc X.env.scope x) (hf:X.fn x=true\/X.env.scope.names.lookup x=some .local:=by first | exact .inl rfl | exact .inr rfl | assumption):PG X (.Name x pos) (gName i):=by
  intro pins s σ H v u Q I r h
  exact wpAny_assign_Name (store_ok I hN hi hx r (fun s' I'=>⟨_,H,I',h⟩) hf)
def gNil:TGs:=fun vs σ H Q=>vs=[]/\Q σ H
def gCons (t:TG) (u:TGs):TGs:=fun vs σ H Q=>∃ v r,vs=v::r/\t v σ H fun σ' H'=>u r σ' H' Q
theorem pgs_nil:PGs X [] gNil:=by
  intro pins s σ H vs us Q I r h
  obtain⟨e,h⟩:=h
  subst e
  cases r
  exact assignInOrder_nil ⟨σ,H,I,h⟩
theorem pgs_cons {e:Expr} {es:List Expr} {t:TG} {u:TGs} (h1:PG X e t) (h2:PGs X es u)
    (hs:(assignEach (e::es) X.env).map (·.2)=assign e X.env::(assignEach es X.env).map (·.2):=by rfl):PGs X (e::es) (gCons t u):=by
  intro pins s σ H vs us Q I r h
  obtain⟨v,vr,e1,h⟩:=h
  subst e1
  cases r with
  | cons r rr=>
    rw [hs]
    refine assignInOrder_cons (thn (h1 pins s σ H _ _ _ I r h) fun _ s1 ⟨σ1,H1,I1,q1⟩=>?_)
    exact h2 pins s1 σ1 H1 _ _ Q I1 rr q1
def gTup (K:PySem.W.Frag) (n:Nat) (t:TGs):TG:=fun v σ H Q=>∃ a xs,v=.ref a/\SqT K H a xs/\xs.length=n/\t xs σ H Q
theorem pg_tup {es:List Expr} {k:Nat} {t:TGs} {n:Nat} (hc:X.calm=true) (h:PGs X es t)
    (hn:(assignEach es X.env).length=n:=by rfl) (hst:(assignEach es X.env).findIdx? (·.1)=none:=by rfl):PG X (.Tuple es k pos) (gTup X.K n t):=by
  intro pins s σ H v u Q I r hw
  obtain⟨a,xs,e1,hq,hl,hw⟩:=hw
  subst e1
  cases r
  obtain⟨its,rv,ht,hz⟩:=I.tuple hq
  refine assign_Tuple_tuple (I.ok.hd hc) ht (by simp [hn,<- hl,rv.length]) hst fun h' hx=>?_
  have I1:Inv X pins σ H {s with heap:=h'}:=I.kept (t':=s.toks) fun b o e=>hx b o (Nat.ne_of_lt (Heap.lt_size e)) e
  exact h pins _ σ H xs _ Q I1 (by simpa using rv) hw
def gSub (to ti:TE) (t:TSet):TG:=fun v σ H Q=>to σ H fun o H1=>ti σ H1 fun i H2=>t o i v H2 fun H3=>Q σ H3
theorem pg_sub {o i:Expr} {to ti:TE} {t:TSet} (ho:PE X o to) (hi:PE X i ti) (hs:PSet X t)
    (ha:∀ v,assign (.Subscript o i pos) X.env v=(do
      let ov <- holding [v] (eval o X.env)
      let iv <- holding [v,ov] (eval i X.env)
      standAt pos
      holding [v,ov,iv] (setItem ov iv v)
      release [v,ov,iv] []):=by intro _; rfl):PG X (.Subscript o i pos) (gSub to ti t):=by
  intro pins s σ H v u Q I r h
  rw [ha]
  refine wpAny_bind (wpAny_holding (thn (ho pins s σ H _ I h) fun ov s1 ⟨x,H1,I1,r1,q1⟩=>?_))
  refine wpAny_bind (wpAny_holding (thn (hi pins s1 σ H1 _ I1 q1) fun iv s2 ⟨y,H2,I2,r2,q2⟩=>?_))
  refine wpAny_bind (wpAny_standAt (wpAny_bind (wpAny_holding (thn (hs pins s2 σ H2 x y v ov iv u _ I2 r1 r2 r q2) fun _ s3 ⟨H3,I3,q3⟩=>?_))))
  exact wpAny_release ⟨σ,H3,I3,q3⟩
def tAsg (te:TE) (g:TG):TS:=fun D σ H=>te σ H fun x H1=>g x σ H1 D.nx
theorem ps_asg {tg e:Expr} {te:TE} {g:TG} (he:PE X e te) (hg:PG X tg g) (hs:swapsWithSole [tg] e pos.line X.env=pure false:=by rfl) (hw:swappedStores [tg] e X.env=pure none:=by rfl)
    (h1:(assignEach [tg] X.env).map (·.2)=[assign tg X.env]:=by rfl):PS X (.Assign [tg] e pos) (tAsg te g):=by
  intro pins s σ H D I h
  refine wpAny_Assign_stores (thn (he pins s σ H _ I h) fun v s1 ⟨x,H1,I1,r1,q1⟩=>?_) hs hw
  rw [h1]
  exact thn (hg pins s1 σ H1 x v _ I1 r1 q1) fun _ s2 q=>q
theorem ps_set {i:Nat} {x:Str} {e:Expr} {te:TE} {pos':Pos} (hN:X.N.Nodup) (hi:X.N[i]?=some x) (hx:Loc X.env.scope x) (he:PE X e te) (hs:swapsWith e (some (.Name x pos')) pos.line X.env=pure false:=by rfl) (hf:X.fn x=true\/X.env.scope.names.lookup x=some .local:=by first | exact .inl rfl | exact .inr rfl | assumption):
    PS X (.Assign [.Name x pos'] e pos) (tAsg te (gName i)):=by
  intro pins s σ H D I h
  refine wpAny_Assign_Name (thn (he pins s σ H _ I h) fun v s1 ⟨y,H1,I1,r1,q1⟩=>?_) hs
  exact store_ok I1 hN hi hx r1 (fun s2 I2=>⟨_,H1,I2,q1⟩) hf
def tPar (i j:Nat) (ta:TA):TS:=fun D σ H=>ta σ H fun vs H1=>∃ v w,vs=[v,w]/\D.nx ((σ.set i (some v)).set j (some w)) H1
theorem ps_par {i j:Nat} {x y:Str} {a b:Expr} {ta:TA} {px py pt:Pos} {kt k2 pt2} (hc:X.calm=true) (hN:X.N.Nodup) (hi:X.N[i]?=some x) (hj:X.N[j]?=some y) (hij:i≠j)
    (hx:X.env.scope.names.lookup x=some .local) (hy:X.env.scope.names.lookup y=some .local) (ha:PA X [a,b] ta)
    (hw:swappedStores [.Tuple [.Name x px,.Name y py] kt pt] (.Tuple [a,b] k2 pt2) X.env=pure (some [x,y]))
    (hs:swapsWithSole [.Tuple [.Name x px,.Name y py] kt pt] (.Tuple [a,b] k2 pt2) pos.line X.env=pure false:=by rfl):
    PS X (.Assign [.Tuple [.Name x px,.Name y py] kt pt] (.Tuple [a,b] k2 pt2) pos) (tPar i j ta):=by
  intro pins s σ H D I h
  rw [exec_Assign_arm]
  refine wpAny_bind (wpAny_standAt ?_)
  rw [hs]
  refine wpAny_bind (wpAny_pure ?_)
  rw [if_neg (by decide)]
  refine wpAny_bind (Tuple_ (thn (ha _ pins s σ H _ I h) fun us s1 ⟨vs,H1,I1,r1,q1⟩=>?_))
  obtain⟨v,w,e1,q1⟩:=q1
  subst e1
  obtain⟨u1,u2,rfl,rv,rw'⟩:∃ u1 u2,us=[u1,u2]/\RelV v u1/\RelV w u2:=by
    cases r1 with
    | cons p q=>
      cases q with
      | cons p' q'=>
        cases q'
        exact⟨_,_,rfl,p,p'⟩
  refine wpAny_newObj_type ?_ (by show 2<=sizeLine; decide)
  have I2:Inv X pins σ H1 {s1 with heap:=s1.heap.push {cls:=.type "tuple",data:=.seq [u1,u2].toArray}}:=I1.kept (t':=s1.toks) fun b o e=>Heap.get?_push_of_some _ e
  rw [hw]
  refine wpAny_bind (wpAny_pure ?_)
  show wpAny (model X.prog X.w) X.A (do rule "assign.swapped-stores"; let items <- unpackItems (.ref s1.heap.objs.size) 2 none; assignInOrder [fun v=>bindName X.env y v,fun v=>bindName X.env x v] items.reverse; pure Flow.next) _ _ _
  refine wpAny_bind (wpAny_rule (wpAny_bind (unpackItems_tuple (items:=#[u1,u2]) (I.ok.hd hc) (IsTup.new s1.heap _) fun h' hx'=>?_)))
  have I3:=I2.kept (h':=h') (t':=s1.toks) fun b o e=>hx' b o (Nat.ne_of_lt (Heap.lt_size e)) e
  show wpAny _ _ (assignInOrder [fun v=>bindName X.env y v,fun v=>bindName X.env x v] [u2,u1] >>= fun _=>pure Flow.next) _ _ _
  refine wpAny_bind (assignInOrder_cons (wpAny_bindName (store_ok I3 hN hj (.inl hy) rw' (fun s2 I4=>?_) (.inr hy))))
  refine assignInOrder_cons (wpAny_bindName (store_ok I4 hN hi (.inl hx) rv (fun s3 I5=>assignInOrder_nil (wpAny_pure ?_)) (.inr hx)))
  rw [List.set_comm _ _ (Ne.symm hij)] at I5
  exact⟨_,H1,I5,q1⟩
end
section
variable {X:Cx} {pos:Pos}
def tWhile (c:TT) (tb:TS):TS:=fun D σ H=>∃ W:Nat->St->Hp->Prop,(∃ m,W m σ H)/\∀ m σ H,W m σ H->
  c σ H fun b H1=>if b=true then ∃ N:St->Hp->Prop,(∀ σ' H',N σ' H'->∃ m',m' < m/\W m' σ' H')/\tb {D with nx:=N,ct:=N,bk:=D.nx} σ H1 else D.nx σ H1
theorem ps_while {c:Expr} {body:List Stmt} {tc:TT} {tb:TS} (hp:PassesOwn (model X.prog X.w) X.A X.env X.xe) (hc:PT X c tc) (hb:PSs X body tb):PS X (.While c body [] pos) (tWhile tc tb):=by
  intro pins s σ H D I h
  obtain⟨W,⟨m0,w0⟩,turn⟩:=h
  refine wpAny_While (codeAny_whileLoop (fun n s'=>∃ σ' H',Inv X pins σ' H' s'/\W n σ' H') ?_ m0 ⟨σ,H,I,w0⟩)
  rintro n s1 ⟨σ1,H1,I1,w1⟩
  refine wpAny_passesOwn hp (thn (hc pins s1 σ1 H1 _ I1 (turn n σ1 H1 w1)) fun b s2 ⟨H2,I2,q2⟩=>?_)
  cases b with
  | true=>
    obtain⟨N,hN,q2⟩:=q2
    rw [if_pos rfl]
    refine wpAny_passesOwn hp (thn (hb pins s2 σ1 H2 _ I2 q2) fun f s3 q3=>?_)
    cases f with
    | next=>
      obtain⟨σ3,H3,I3,n3⟩:=q3
      obtain⟨m',hm,w3⟩:=hN σ3 H3 n3
      exact⟨m',hm,σ3,H3,I3,w3⟩
    | cont=>
      obtain⟨σ3,H3,I3,n3⟩:=q3
      obtain⟨m',hm,w3⟩:=hN σ3 H3 n3
      exact⟨m',hm,σ3,H3,I3,w3⟩
    | brk=>exact q3
    | ret v=>exact q3
  | false=>
    rw [if_neg Bool.false_ne_true]
    exact wpAny_execs_nil ⟨σ1,H2,I2,q2⟩
end
structure It where
  go:Nat->Hp->Prop
  yld:Nat->Hp->V->Hp->Prop
  stop:Nat->Hp->Prop
def FpOk (X:Cx) (pins:List (Addr×Obj)) (H:Hp) (b:Addr):Prop:=
  H b=none/\b≠X.env.locals/\b∉X.fs/\(b∈X.ex\/X.s₀.heap.objs.size<=b)/\(∀ x c,X.env.cells.lookup x=some c->c≠b)/\∀ p∈X.pn++pins,p.1≠b
theorem Inv.fpOk {X:Cx} {pins:List (Addr×Obj)} {σ:St} {H H':Hp} {s:Shared} {b:Addr} (I:Inv X pins σ H s) (hb:s.heap.objs.size<=b) (hn:H' b=none):FpOk X pins H' b:=by
  refine⟨hn,Nat.ne_of_gt (Nat.lt_of_lt_of_le I.lt hb),I.nofs hb,.inr (Nat.le_trans I.sz hb),fun x c e z=>?_,fun p hp z=>?_⟩
  · obtain⟨v,q⟩:=I.cell x c e
    exact absurd (Nat.lt_of_lt_of_le q.lt (by rw [z]; exact hb)) (Nat.lt_irrefl _)
  · exact absurd (Nat.lt_of_lt_of_le (Heap.lt_size (I.pin p hp).1) (by rw [z]; exact hb)) (Nat.lt_irrefl _)
structure Turn (P:Program) (w:World) (K:PySem.W.Frag) (tg:Expr) (J:It) (fp:List Addr) (it:Addr) (tn:Nat->Heap->Prop):Prop where
  mem:it∈fp
  obj:∀ i h,tn i h->∀ b∈fp,∃ o,h.get? b=some o/\∀ v,o.data≠.cell v
  keep:∀ i h h',tn i h->(∀ b∈fp,∀ o,h.get? b=some o->h'.get? b=some o)->tn i h'
  item:∀ (X:Cx),X.prog=P->X.w=w->X.K=K->X.calm=true->∀ (i:Nat) (pins:List (Addr×Obj)) (s:Shared) (σ:St) (H:Hp) (E:Value->Shared->Prop),Inv X pins σ H s->(∀ b∈fp,FpOk X pins H b)->tn i s.heap->J.go i H->
    wpAny (model P w) X.A (pyNext (.ref it)) (fun r s1=>∃ u,r=some u/\
      wpAny (model P w) X.A (letOwnedTupleGo tg (.ref it) u) (fun _ s2=>∃ x H',Inv X pins σ H' s2/\RelV x u/\J.yld i H x H'/\tn (i+1) s2.heap/\∀ b∈fp,H' b=none) E s1) E s
  done:∀ (X:Cx),X.prog=P->X.w=w->X.K=K->X.calm=true->∀ (i:Nat) (pins:List (Addr×Obj)) (s:Shared) (σ:St) (H:Hp) (E:Value->Shared->Prop),Inv X pins σ H s->(∀ b∈fp,FpOk X pins H b)->tn i s.heap->J.stop i H->
    wpAny (model P w) X.A (pyNext (.ref it)) (fun r s1=>r=none/\Inv X pins σ H s1) E s
  self:∀ (A:Around) (i:Nat) (s:Shared) (Q:Value->Shared->Prop) (E:Value->Shared->Prop),tn i s.heap->Q (.ref it) s->wpAny (model P w) A (pyIter (.ref it)) Q E s
abbrev TI:=St->Hp->(It->Hp->Prop)->Prop
def PIE (X:Cx) (pins:List (Addr×Obj)) (σ:St) (tg:Expr) (R:It->Hp->Prop) (itv:Value) (s2:Shared):Prop:=
  ∃ (it:Addr) (fp:List Addr) (tn:Nat->Heap->Prop) (J:It) (H':Hp),itv=.ref it/\Inv X pins σ H' s2/\Turn X.prog X.w X.K tg J fp it tn/\tn 0 s2.heap/\(∀ b∈fp,FpOk X pins H' b)/\R J H'
def PI (X:Cx) (tg iter:Expr) (wi:TI):Prop:=
  ∀ (pins:List (Addr×Obj)) (s:Shared) (σ:St) (H:Hp) (R:It->Hp->Prop),Inv X pins σ H s->wi σ H R->
    wpAny (model X.prog X.w) X.A (eval iter X.env) (fun v s1=>wpAny (model X.prog X.w) X.A (pyIter v) (PIE X pins σ tg R) X.xe s1) X.xe s
theorem go_of {M:Model} {A:Around} {E:Value->Shared->Prop} {s:Shared} {tg:Expr} {it:Addr} {u:Value} {o:Obj} {n:String} {vs:Array Value} {Q:Unit->Shared->Prop} (ho:s.heap.get? it=some o) (hc:o.cls=.type n) (hd:o.data=.fields vs)
    (hn:["enumerate","zip","dict_itemiterator","dict_reverseitemiterator","odict_iterator","itertools.zip_longest","itertools.pairwise"].contains n=false) (hQ:Q () s):wpAny M A (letOwnedTupleGo tg (.ref it) u) Q E s:=by
  unfold letOwnedTupleGo
  cases tg <;> first
    | exact wpAny_pure hQ
    | (cases u <;> first
        | exact wpAny_pure hQ
        | (refine wpAny_bind (wpAny_load ho ?_)
           rw [hc,hd]
           show wpAny M A (if (["enumerate","zip","dict_itemiterator","dict_reverseitemiterator","odict_iterator","itertools.zip_longest","itertools.pairwise"].contains n && vs[0]? == some (rawInt _))=true then _ else _) Q E s
           rw [if_neg (by intro h; rw [hn,Bool.false_and] at h; cases h)]
           exact wpAny_pure hQ))
def Itl (K:PySem.W.Frag) (a:Addr):It:=
  ⟨fun i H=>∃ xs x,SqL K H a xs/\xs[i]?=some x,fun i H x H'=>H'=H/\∀ xs,SqL K H a xs->xs[i]?=some x,fun i H=>∃ xs,SqL K H a xs/\xs.length<=i⟩
def Itt (K:PySem.W.Frag) (a:Addr):It:=
  ⟨fun i H=>∃ xs x,SqT K H a xs/\xs[i]?=some x,fun i H x H'=>H'=H/\∀ xs,SqT K H a xs->xs[i]?=some x,fun i H=>∃ xs,SqT K H a xs/\xs.length<=i⟩
def Itr (lo:Int) (n:Nat):It:=⟨fun i _=>i < n,fun i H x H'=>H'=H/\x=.int (lo+i),fun i _=>n<=i⟩
theorem turn_list {P:Program} {w:World} {K:PySem.W.Frag} {tg:Expr} (a it:Addr):Turn P w K tg (Itl K a) [it] it (fun i h=>h.IsListIter it a i) where
  mem:=by simp
  obj:=fun i h st b hb=>by
    have e:b=it:=by simpa using hb
    subst e
    obtain⟨o,e,c,d⟩:=st
    exact⟨o,e,fun v z=>by rw [d] at z; cases z⟩
  keep:=fun i h h' st k=>st.at fun o e=>k it (by simp) o e
  item:=by
    intro X hP hw hK hc i pins s σ H E I hf st hg
    subst hP hw hK
    obtain⟨xs,x,hq,hx⟩:=hg
    obtain⟨its,rv,p,hz⟩:=I.list hq
    obtain⟨u,hu,ru⟩:=rv.get hx
    obtain⟨f0,f1,f2,f3,f4,f5⟩:=hf it (by simp)
    refine wpAny_pyNext_list_item st p.isList (x:=u) (by simpa using hu) fun h' st' sb=>?_
    have I1:Inv X pins σ H {s with heap:=h'}:=I.turned (t':=s.toks) (fun b o hb e=>(sb.2 b hb).trans e) f0 f1 f3 f4 f5
    obtain⟨o,e,c,d⟩:=id st'
    exact⟨u,rfl,go_of (s:={s with heap:=h'}) e c d (by decide) ⟨x,H,I1,ru,⟨rfl,fun ys hy=>by rw [I.list_inj hy hq]; exact hx⟩,st',fun b hb=>(hf b hb).1⟩⟩
  done:=by
    intro X hP hw hK hc i pins s σ H E I hf st hg
    subst hP hw hK
    obtain⟨xs,hq,hx⟩:=hg
    obtain⟨its,rv,p,hz⟩:=I.list hq
    obtain⟨f0,f1,f2,f3,f4,f5⟩:=hf it (by simp)
    have hl:=rv.length
    exact wpAny_pyNext_list_end (I.ok.hd hc) st p.isList (by simp; omega) fun h' eb=>⟨rfl,I.turned (t':=s.toks) (fun b o hb e=>eb b o hb e) f0 f1 f3 f4 f5⟩
  self:=fun _ _ _ _ _ st h=>wpAny_pyIter_listiter st h
theorem turn_tuple {P:Program} {w:World} {K:PySem.W.Frag} {tg:Expr} (a it:Addr):Turn P w K tg (Itt K a) [it] it (fun i h=>h.IsTupleIter it a i) where
  mem:=by simp
  obj:=fun i h st b hb=>by
    have e:b=it:=by simpa using hb
    subst e
    obtain⟨o,e,c,d⟩:=st
    exact⟨o,e,fun v z=>by rw [d] at z; cases z⟩
  keep:=fun i h h' st k=>st.at fun o e=>k it (by simp) o e
  item:=by
    intro X hP hw hK hc i pins s σ H E I hf st hg
    subst hP hw hK
    obtain⟨xs,x,hq,hx⟩:=hg
    obtain⟨its,rv,p,hz⟩:=I.tuple hq
    obtain⟨u,hu,ru⟩:=rv.get hx
    obtain⟨f0,f1,f2,f3,f4,f5⟩:=hf it (by simp)
    refine wpAny_pyNext_tuple_item st (show s.heap.IsTuple a its.toArray from p) (x:=u) (by simpa using hu) fun h' st' sb=>?_
    have I1:Inv X pins σ H {s with heap:=h'}:=I.turned (t':=s.toks) (fun b o hb e=>(sb.2 b hb).trans e) f0 f1 f3 f4 f5
    obtain⟨o,e,c,d⟩:=id st'
    exact⟨u,rfl,go_of (s:={s with heap:=h'}) e c d (by decide) ⟨x,H,I1,ru,⟨rfl,fun ys hy=>by rw [I.tuple_inj hy hq]; exact hx⟩,st',fun b hb=>(hf b hb).1⟩⟩
  done:=by
    intro X hP hw hK hc i pins s σ H E I hf st hg
    subst hP hw hK
    obtain⟨xs,hq,hx⟩:=hg
    obtain⟨its,rv,p,hz⟩:=I.tuple hq
    obtain⟨f0,f1,f2,f3,f4,f5⟩:=hf it (by simp)
    have hl:=rv.length
    exact wpAny_pyNext_tuple_end (I.ok.hd hc) st (show s.heap.IsTuple a its.toArray from p) (by simp; omega) fun h' eb=>⟨rfl,I.turned (t':=s.toks) (fun b o hb e=>eb b o hb e) f0 f1 f3 f4 f5⟩
  self:=fun _ _ _ _ _ st h=>wpAny_pyIter_tupleiter st h
theorem turn_range {P:Program} {w:World} {K:PySem.W.Frag} {tg:Expr} (it:Addr) (lo:Int) (n:Nat):Turn P w K tg (Itr lo n) [it] it (fun i h=>IsRangeIter h it (lo+(i:Nat)*1) ((n:Int) - (i:Nat)) 1) where
  mem:=by simp
  obj:=fun i h st b hb=>by
    have e:b=it:=by simpa using hb
    subst e
    exact⟨_,st,fun v z=>by
      have z':Data.fields _=Data.cell v:=z
      cases z'⟩
  keep:=fun i h h' st k=>k it (by simp) _ st
  item:=by
    intro X hP hw hK hc i pins s σ H E I hf st hg
    subst hP hw hK
    obtain⟨f0,f1,f2,f3,f4,f5⟩:=hf it (by simp)
    have W:=Walks.range (prog:=X.prog) (w:=X.w) (I.ok.hd hc) it lo 1 n
    refine W.item i s _ _ hg st fun v h' tk hv st' kk=>?_
    obtain⟨t,rfl⟩:=hv
    have I1:Inv X pins σ H {s with heap:=h',toks:=tk}:=I.turned (fun b o hb e=>kk b o (by simpa using hb) e) f0 f1 f3 f4 f5
    refine⟨_,rfl,go_of (s:={s with heap:=h',toks:=tk}) (n:="range_iterator") st' rfl rfl (by decide) ⟨.int (lo+i),H,I1,⟨t,?_⟩,⟨rfl,rfl⟩,st',fun b hb=>(hf b hb).1⟩⟩
    rw [Int.mul_one]
  done:=by
    intro X hP hw hK hc i pins s σ H E I hf st hg
    subst hP hw hK
    obtain⟨f0,f1,f2,f3,f4,f5⟩:=hf it (by simp)
    exact wpAny_pyNext_range_end (I.ok.hd hc) st (by have:n<=i:=hg; omega) fun h' eb=>⟨rfl,I.turned (t':=s.toks) (fun b o hb e=>eb b o hb e) f0 f1 f3 f4 f5⟩
  self:=fun _ _ _ _ _ st h=>wpAny_pyIter_rangeiter st h
section
variable {X:Cx} {tg:Expr}
theorem range_it {pins:List (Addr×Obj)} {σ:St} {H:Hp} {s:Shared} {R:It->Hp->Prop} {E:Value->Shared->Prop} {lo hi:Int} {t u v:Tok} {tk:Nat} (I:Inv X pins σ H s) (h1:-(2 ^ 62)<=lo) (h2:lo < 2 ^ 62) (h3:-(2 ^ 62)<=hi) (h4:hi < 2 ^ 62)
    (q:R (Itr lo (hi - lo).toNat) H):wpAny (model X.prog X.w) X.A (pyIter (.ref s.heap.objs.size)) (PIE X pins σ tg R) E {s with heap:=s.heap.push {cls:=.type "range",data:=.fields #[.int lo t,.int hi u,.int 1 v]},toks:=tk}:=by
  refine wpAny_pyIter_range (IsRange.new ..) (small_one h1 h2 h3 h4) ?_
  have I1:Inv X pins σ H {s with heap:=s.heap.push {cls:=.type "range",data:=.fields #[.int lo t,.int hi u,.int 1 v]},toks:=tk}:=I.kept fun b o e=>Heap.get?_push_of_some _ e
  refine⟨(s.heap.push {cls:=.type "range",data:=.fields #[.int lo t,.int hi u,.int 1 v]}).objs.size,[(s.heap.push {cls:=.type "range",data:=.fields #[.int lo t,.int hi u,.int 1 v]}).objs.size],_,_,H,rfl,
    I1.kept (t':=tk) fun b o e=>Heap.get?_push_of_some _ e,turn_range _ lo (hi - lo).toNat,?_,fun b hb=>?_,q⟩
  · have e1:lo+((0:Nat):Int)*1=lo:=by simp
    have e2:(((hi - lo).toNat:Nat):Int) - ((0:Nat):Int)=Builtin.Range.rangeSize lo hi 1:=by rw [rangeSize_one]; split <;> omega
    show IsRangeIter _ _ (lo+((0:Nat):Int)*1) ((((hi - lo).toNat:Nat):Int) - ((0:Nat):Int)) 1
    rw [e1,e2]
    exact Heap.get?_push_size _ rfl
  · have e:b=(s.heap.push {cls:=.type "range",data:=.fields #[.int lo t,.int hi u,.int 1 v]}).objs.size:=by simpa using hb
    subst e
    exact I1.fpOk (Nat.le_refl _) (I1.hok.fresh (Nat.le_refl _))
def iRng1 (ta:TA):TI:=fun σ H R=>ta σ H fun vs H1=>∃ j:Int,vs=[.int j]/\-(2 ^ 62)<=j/\j < 2 ^ 62/\R (Itr 0 j.toNat) H1
def iRng2 (ta:TA):TI:=fun σ H R=>ta σ H fun vs H1=>∃ i j:Int,vs=[.int i,.int j]/\(-(2 ^ 62)<=i/\i < 2 ^ 62/\-(2 ^ 62)<=j/\j < 2 ^ 62)/\R (Itr i (j - i).toNat) H1
theorem pi_range1 {a:Expr} {ta:TA} {p pos:Pos} (hg:Gl X "range") (hm:X.mg "range"=none) (ha:PA X [a] ta) (hs:starEach [a] X.env=[(false,eval a X.env)]:=by rfl):PI X tg (.Call (.Name "range" p) [a] [] pos) (iRng1 ta):=by
  intro pins s σ H R I h
  refine Call_ (ld_blt I hg hm boot_range (PyProof.Rows.callWith_type1 (thn (ha pos pins s σ H _ I h) fun us s1 ⟨vs,H1,I1,r1,q1⟩=>?_) hs rfl))
  obtain⟨j,e,q1,q2,q⟩:=q1
  subst e
  cases r1 with
  | cons r rr=>
    cases rr
    obtain⟨t,rfl⟩:=r
    exact call_range_1 (range_it I1 (by omega) (by omega) q1 q2 (by simpa using q))
theorem pi_range2 {a b:Expr} {ta:TA} {p pos:Pos} (hg:Gl X "range") (hm:X.mg "range"=none) (ha:PA X [a,b] ta) (hs:starEach [a,b] X.env=[(false,eval a X.env),(false,eval b X.env)]:=by rfl) (hs2:starEach [b] X.env=[(false,eval b X.env)]:=by rfl):
    PI X tg (.Call (.Name "range" p) [a,b] [] pos) (iRng2 ta):=by
  intro pins s σ H R I h
  refine Call_ (ld_blt I hg hm boot_range (PyProof.Rows.callWith_type1 (thn (ha pos pins s σ H _ I h) fun us s1 ⟨vs,H1,I1,r1,q1⟩=>?_) (by rw [hs,hs2]) (by rw [hs2]; rfl)))
  obtain⟨i,j,e,⟨q1,q2,q3,q4⟩,q⟩:=q1
  subst e
  cases r1 with
  | cons r rr=>
    cases rr with
    | cons r' rr=>
      cases rr
      obtain⟨t,rfl⟩:=r
      obtain⟨t',rfl⟩:=r'
      exact call_range_2 (range_it I1 q1 q2 q3 q4 q)
def tFor (wi:TI) (g:TG) (tb:TS):TS:=fun D σ H=>wi σ H fun J H1=>∃ W:Nat->Nat->St->Hp->Prop,(∃ m,W 0 m σ H1)/\∀ i m σ H,W i m σ H->
  (J.stop i H/\D.nx σ H)\/(J.go i H/\∃ N:St->Hp->Prop,(∀ σ' H',N σ' H'->∃ m',m' < m/\W (i+1) m' σ' H')/\∀ x H',J.yld i H x H'->g x σ H' fun σ2 H2=>tb {D with nx:=N,ct:=N,bk:=D.nx} σ2 H2)
def pinsAt (fp:List Addr) (h:Heap):List (Addr×Obj):=fp.filterMap fun b=>(h.get? b).map fun o=>(b,o)
theorem mem_pinsAt {fp:List Addr} {h:Heap} {b:Addr} {o:Obj} (hb:b∈fp) (e:h.get? b=some o):(b,o)∈pinsAt fp h:=List.mem_filterMap.mpr ⟨b,hb,by rw [e]; rfl⟩
theorem of_pinsAt {fp:List Addr} {h:Heap} {p:Addr×Obj} (hp:p∈pinsAt fp h):p.1∈fp/\h.get? p.1=some p.2:=by
  obtain⟨b,hb,e⟩:=List.mem_filterMap.mp hp
  cases q:h.get? b with
  | none=>rw [q] at e; cases e
  | some o=>
    rw [q] at e
    have e':(b,o)=p:=Option.some.inj e
    subst e'
    exact⟨hb,q⟩
theorem Inv.pinned {pins:List (Addr×Obj)} {σ:St} {H:Hp} {s:Shared} {fp:List Addr} (I:Inv X pins σ H s) (hf:∀ b∈fp,FpOk X pins H b) (ho:∀ b∈fp,∃ o,s.heap.get? b=some o/\∀ v,o.data≠.cell v):Inv X (pins++pinsAt fp s.heap) σ H s:=
  I.pins_of fun p hp=>(List.mem_append.mp hp).elim (fun z=>I.pin p (List.mem_append_right _ z)) fun z=>by
    obtain⟨hb,e⟩:=of_pinsAt z
    obtain⟨f0,f1,f2,_⟩:=hf p.1 hb
    obtain⟨o,e',d⟩:=ho p.1 hb
    rw [e] at e'; cases e'
    exact⟨e,f0,f1,f2,d⟩
theorem Inv.unpinned {pins pl:List (Addr×Obj)} {σ:St} {H:Hp} {s:Shared} (I:Inv X (pins++pl) σ H s):Inv X pins σ H s:=I.pins_of fun p hp=>I.pin p (List.mem_append_right _ (List.mem_append_left _ hp))
theorem ps_for {iter:Expr} {body:List Stmt} {wi:TI} {g:TG} {tb:TS} {pos:Pos} (hp:PassesOwn (model X.prog X.w) X.A X.env X.xe) (hc:X.calm=true) (hi:PI X tg iter wi) (hg:PG X tg g) (hb:PSs X body tb)
    (hs:∀ x,foldedSetIterable iter X.env x=pure x:=by intro _; rfl):PS X (.For tg iter body [] pos) (tFor wi g tb):=by
  intro pins s σ H D I h
  refine wpAny_For (thn (hi pins s σ H _ I h) fun v s1 h1=>thn h1 fun itv s2 h2=>?_) hs
  obtain⟨it,fp,tn,J,H2,e,I2,T,st2,f2,W,⟨m0,w0⟩,turn⟩:=h2
  subst e
  have stat:∀ {H':Hp},(∀ b∈fp,H' b=none)->∀ b∈fp,FpOk X pins H' b:=fun hn b hb=>⟨hn b hb,(f2 b hb).2⟩
  refine codeAny_forLoop_any (fun n s'=>∃ i σ' H',Inv X pins σ' H' s'/\tn i s'.heap/\(∀ b∈fp,H' b=none)/\W i n σ' H') ?_ m0 ⟨0,σ,H2,I2,st2,fun b hb=>(f2 b hb).1,w0⟩
  rintro n s3 ⟨i,σ3,H3,I3,st3,fr3,w3⟩
  rcases turn i n σ3 H3 w3 with ⟨stop,qn⟩ | ⟨go,N,hN,step⟩
  · refine wpAny_passesOwn hp (thn (T.done X rfl rfl rfl hc i pins s3 σ3 H3 X.xe I3 (stat fr3) st3 stop) fun r s4 ⟨hr,I4⟩=>?_)
    subst hr
    exact wpAny_execs_nil ⟨σ3,H3,I4,qn⟩
  · refine wpAny_passesOwn hp (thn (T.item X rfl rfl rfl hc i pins s3 σ3 H3 X.xe I3 (stat fr3) st3 go) fun r s4 ⟨u,hr,h4⟩=>?_)
    subst hr
    refine wpAny_passesOwn hp (thn h4 fun _ s5 ⟨x,H5,I5,r5,y5,st5,fr5⟩=>?_)
    have I5':=I5.pinned (stat fr5) (T.obj _ _ st5)
    refine wpAny_passesOwn hp (thn (hg _ s5 σ3 H5 x u _ I5' r5 (step x H5 y5)) fun _ s6 ⟨σ6,H6,I6,q6⟩=>?_)
    refine wpAny_passesOwn hp (thn (hb _ s6 σ6 H6 _ I6 q6) fun f s7 q7=>?_)
    have again:∀ {σ7:St} {H7:Hp},Inv X (pins++pinsAt fp s5.heap) σ7 H7 s7->N σ7 H7->∃ m,m < n/\∃ i σ' H',Inv X pins σ' H' s7/\tn i s7.heap/\(∀ b∈fp,H' b=none)/\W i m σ' H':=fun {σ7 H7} I7 n7=>by
      obtain⟨m',hm,w7⟩:=hN σ7 H7 n7
      refine⟨m',hm,i+1,σ7,H7,I7.unpinned,T.keep _ _ _ st5 fun b hb o e=>(I7.pin (b,o) (List.mem_append_right _ (List.mem_append_right _ (mem_pinsAt hb e)))).1,fun b hb=>?_,w7⟩
      obtain⟨o,e,d⟩:=T.obj _ _ st5 b hb
      exact(I7.pin (b,o) (List.mem_append_right _ (List.mem_append_right _ (mem_pinsAt hb e)))).2.1
    cases f with
    | next=>obtain⟨σ7,H7,I7,n7⟩:=q7; exact again I7 n7
    | cont=>obtain⟨σ7,H7,I7,n7⟩:=q7; exact again I7 n7
    | brk=>obtain⟨σ7,H7,I7,q7⟩:=q7; exact⟨σ7,H7,I7.unpinned,q7⟩
    | ret v=>obtain⟨x7,σ7,H7,I7,r7,q7⟩:=q7; exact⟨x7,σ7,H7,I7.unpinned,r7,q7⟩
end
abbrev R2:=V->V->Hp->VK->Prop
def OpR (X:Cx) (f:Value->Value->Sem Value) (r:R2):Prop:=
  ∀ (pins:List (Addr×Obj)) (s:Shared) (σ:St) (H:Hp) (x y:V) (v u:Value) (Q:VK),Inv X pins σ H s->RelV x v->RelV y u->r x y H Q->
    wpAny (model X.prog X.w) X.A (f v u) (EP X pins σ Q) X.xe s
def UnR (X:Cx) (f:Value->Sem Value) (r:V->Hp->VK->Prop):Prop:=
  ∀ (pins:List (Addr×Obj)) (s:Shared) (σ:St) (H:Hp) (x:V) (v:Value) (Q:VK),Inv X pins σ H s->RelV x v->r x H Q->
    wpAny (model X.prog X.w) X.A (f v) (EP X pins σ Q) X.xe s
def CallR (X:Cx) (f:Value) (r:List V->Hp->VK->Prop):Prop:=
  ∀ (pins:List (Addr×Obj)) (s:Shared) (σ:St) (H:Hp) (xs:List V) (us:List Value) (Q:VK),Inv X pins σ H s->Vals xs us->r xs H Q->
    wpAny (model X.prog X.w) X.A (call f us) (EP X pins σ Q) X.xe s
def tOp (r:R2) (ta tb:TE):TE:=fun σ H Q=>ta σ H fun x H1=>tb σ H1 fun y H2=>r x y H2 Q
def tUn (r:V->Hp->VK->Prop) (ta:TE):TE:=fun σ H Q=>ta σ H fun x H1=>r x H1 Q
def rI (C:Int->Int->Prop) (g:Int->Int->V):R2:=fun x y H Q=>∃ i j,x=.int i/\y=.int j/\C i j/\Q (g i j) H
def rI0 (g:Int->Int->V):R2:=fun x y H Q=>∃ i j,x=.int i/\y=.int j/\Q (g i j) H
def rU (g:Int->V):V->Hp->VK->Prop:=fun x H Q=>∃ i,x=.int i/\Q (g i) H
section
variable {X:Cx} {a b c:Expr} {ta tb tc:TE} {pos:Pos}
theorem binT (ha:PE X a ta) (hb:PE X b tb) {pins:List (Addr×Obj)} {s:Shared} {σ:St} {H:Hp} {R:V->V->Hp->Prop} (I:Inv X pins σ H s)
    (h:ta σ H fun x H1=>tb σ H1 fun y H2=>R x y H2) {Q:Value->Shared->Prop} {f:Value->Value->Sem Value}
    (hf:∀ v u s2 x y H2,Inv X pins σ H2 s2->RelV x v->RelV y u->R x y H2->wpAny (model X.prog X.w) X.A (f v u) Q X.xe s2):
    wpAny (model X.prog X.w) X.A (eval a X.env) (fun v s₁=>wpAny (model X.prog X.w) X.A (eval b X.env) (fun u s₂=>wpAny (model X.prog X.w) X.A (f v u) Q X.xe s₂) X.xe s₁) X.xe s:=by
  refine thn (ha pins s σ H _ I h) fun v s1 ⟨x,H1,I1,r1,q1⟩=>?_
  refine thn (hb pins s1 σ H1 _ I1 q1) fun u s2 ⟨y,H2,I2,r2,q2⟩=>?_
  exact hf v u s2 x y H2 I2 r1 r2 q2
theorem pe_op {op:Operator} {r:R2} (ho:OpR X (binaryOp op) r) (ha:PE X a ta) (hb:PE X b tb):PE X (.BinOp a op b pos) (tOp r ta tb):=by
  intro pins s σ H Q I h
  exact wpAny_BinOp (binT ha hb I h fun v u s2 x y H2 I2 rx ry q=>ho pins s2 σ H2 x y v u Q I2 rx ry q)
theorem pe_un {op:UnaryOp} {r:V->Hp->VK->Prop} (ho:UnR X (unaryOp op) r) (ha:PE X a ta):PE X (.UnaryOp op a pos) (tUn r ta):=by
  intro pins s σ H Q I h
  exact UnaryOp_ (thn (ha pins s σ H _ I h) fun v s1 ⟨x,H1,I1,r1,q1⟩=>ho pins s1 σ H1 x v Q I1 r1 q1)
theorem opI {f:Value->Value->Sem Value} {C:Int->Int->Prop} {g:Int->Int->Int}
    (rule:∀ (i j:Int) (t u:Tok) (s:Shared) (Q:Value->Shared->Prop) (E:Value->Shared->Prop),C i j->Q (.int (g i j) s.toks) {s with toks:=s.toks+1}->wpAny (model X.prog X.w) X.A (f (.int i t) (.int j u)) Q E s):
    OpR X f (rI C fun i j=>.int (g i j)):=by
  intro pins s σ H x y v u Q I rx ry h
  obtain⟨i,j,rfl,rfl,hc,q⟩:=h
  obtain⟨t,rfl⟩:=rx
  obtain⟨t',rfl⟩:=ry
  exact rule i j t t' s _ _ hc ⟨.int (g i j),H,I.tok _,⟨_,rfl⟩,q⟩
theorem opI0 {f:Value->Value->Sem Value} {g:Int->Int->Int}
    (rule:∀ (i j:Int) (t u:Tok) (s:Shared) (Q:Value->Shared->Prop) (E:Value->Shared->Prop),Q (.int (g i j) s.toks) {s with toks:=s.toks+1}->wpAny (model X.prog X.w) X.A (f (.int i t) (.int j u)) Q E s):
    OpR X f (rI0 fun i j=>.int (g i j)):=by
  intro pins s σ H x y v u Q I rx ry h
  obtain⟨i,j,rfl,rfl,q⟩:=h
  obtain⟨t,rfl⟩:=rx
  obtain⟨t',rfl⟩:=ry
  exact rule i j t t' s _ _ ⟨.int (g i j),H,I.tok _,⟨_,rfl⟩,q⟩
theorem opB0 {f:Value->Value->Sem Value} {g:Int->Int->Bool}
    (rule:∀ (i j:Int) (t u:Tok) (s:Shared) (Q:Value->Shared->Prop) (E:Value->Shared->Prop),Q (.bool (g i j)) s->wpAny (model X.prog X.w) X.A (f (.int i t) (.int j u)) Q E s):
    OpR X f (rI0 fun i j=>.bl (g i j)):=by
  intro pins s σ H x y v u Q I rx ry h
  obtain⟨i,j,rfl,rfl,q⟩:=h
  obtain⟨t,rfl⟩:=rx
  obtain⟨t',rfl⟩:=ry
  exact rule i j t t' s _ _ ⟨.bl (g i j),H,I,rfl,q⟩
def CPow (i j:Int):Prop:=0<=j/\j<=1000000/\i.natAbs < 2 ^ 64
theorem op_add:OpR X (binaryOp .Add) (rI0 fun i j=>.int (i+j)):=opI0 fun _ _ _ _ _ _ _ q=>add_int q
theorem op_sub:OpR X (binaryOp .Sub) (rI0 fun i j=>.int (i - j)):=opI0 fun _ _ _ _ _ _ _ q=>sub_int q
theorem op_modN:OpR X (binaryOp .Mod) (rI (fun _ j=>j≠0) fun i j=>.int (i.fmod j)):=opI fun _ _ _ _ _ _ _ hc q=>mod_int' hc q
theorem op_pow:OpR X (binaryOp .Pow) (rI CPow fun i j=>.int (i ^ j.toNat)):=opI fun _ _ _ _ _ _ _ hc q=>pow_int_small hc.1 hc.2.1 hc.2.2 q
theorem unI {f:Value->Sem Value} {g:Int->Int}
    (rule:∀ (i:Int) (t:Tok) (s:Shared) (Q:Value->Shared->Prop) (E:Value->Shared->Prop),Q (.int (g i) s.toks) {s with toks:=s.toks+1}->wpAny (model X.prog X.w) X.A (f (.int i t)) Q E s):
    UnR X f (rU fun i=>.int (g i)):=by
  intro pins s σ H x v Q I rx h
  obtain⟨i,rfl,q⟩:=h
  obtain⟨t,rfl⟩:=rx
  exact rule i t s _ _ ⟨.int (g i),H,I.tok _,⟨_,rfl⟩,q⟩
theorem un_neg:UnR X (unaryOp .USub) (rU fun i=>.int (-i)):=unI fun _ _ _ _ _ q=>neg_int q
end
def scal:V->V->Bool
  | .non,.non=>true | .non,.int _=>true | .int _,.non=>true | .non,.bl _=>true | .bl _,.non=>true | .non,.str _=>true | .str _,.non=>true
  | .int _,.int _=>true | .bl _,.bl _=>true | .str _,.str _=>true | .byt _,.byt _=>true
  | .int _,.str _=>true | .str _,.int _=>true | .bl _,.str _=>true | .str _,.bl _=>true
  | _,_=>false
def rEq:R2:=fun x y H Q=>scal x y=true/\Q (.bl (decide (x=y))) H
def rNe:R2:=fun x y H Q=>scal x y=true/\Q (.bl (!decide (x=y))) H
theorem dec_int {i j:Int}:decide (V.int i=V.int j)=(i == j):=by
  rw [Bool.eq_iff_iff]
  simp
theorem dec_bl {i j:Bool}:decide (V.bl i=V.bl j)=(i == j):=by
  rw [Bool.eq_iff_iff]
  simp
theorem dec_str {i j:Str}:decide (V.str i=V.str j)=(i == j):=by
  rw [Bool.eq_iff_iff]
  simp
theorem dec_byt {i j:Array UInt8}:decide (V.byt i=V.byt j)=(i.toList == j.toList):=by
  rw [Bool.eq_iff_iff]
  cases i
  cases j
  simp
section
variable {X:Cx} {a b c:Expr} {ta tb tc:TE} {pos:Pos}
theorem fin_bl {pins:List (Addr×Obj)} {σ:St} {H:Hp} {s:Shared} {Q:VK} {k k':Bool} (I:Inv X pins σ H s) (q:Q (.bl k) H) (e:k=k'):EP X pins σ Q (.bool k') s:=by
  subst e
  exact⟨.bl k,H,I,rfl,q⟩
theorem op_eq:OpR X (compareOp .Eq) rEq:=by
  intro pins s σ H x y v u Q I rx ry h
  obtain⟨hs,q⟩:=h
  cases x with
  | non=>
    cases rx
    cases y with
    | non=>cases ry; exact PySem.EqNone.eq_none_none (fin_bl I q (by simp))
    | bl j=>cases ry; exact PySem.EqNone.eq_none_bool (fin_bl I q (by simp))
    | int j=>obtain⟨t',rfl⟩:=ry; exact PySem.EqNone.eq_none_int (fin_bl I q (by simp))
    | str j=>obtain⟨t',rfl⟩:=ry; exact PySem.EqNone.eq_none_str (fin_bl I q (by simp))
    | _=>exact absurd (show false=true from hs) Bool.false_ne_true
  | bl i=>
    cases rx
    cases y with
    | non=>cases ry; exact PySem.EqNone.eq_bool_none (fin_bl I q (by simp))
    | bl j=>cases ry; exact eq_bool (fin_bl I q dec_bl)
    | str j=>obtain⟨t',rfl⟩:=ry; exact PySem.EqMixed.eq_bool_str (fin_bl I q (by simp))
    | _=>exact absurd (show false=true from hs) Bool.false_ne_true
  | int i=>
    obtain⟨t,rfl⟩:=rx
    cases y with
    | non=>cases ry; exact PySem.EqNone.eq_int_none (fin_bl I q (by simp))
    | int j=>obtain⟨t',rfl⟩:=ry; exact eq_int (fin_bl I q dec_int)
    | str j=>obtain⟨t',rfl⟩:=ry; exact PySem.EqMixed.eq_int_str (fin_bl I q (by simp))
    | _=>exact absurd (show false=true from hs) Bool.false_ne_true
  | str i=>
    obtain⟨t,rfl⟩:=rx
    cases y with
    | non=>cases ry; exact PySem.EqNone.eq_str_none (fin_bl I q (by simp))
    | bl j=>cases ry; exact PySem.EqMixed.eq_str_bool (fin_bl I q (by simp))
    | int j=>obtain⟨t',rfl⟩:=ry; exact PySem.EqMixed.eq_str_int (fin_bl I q (by simp))
    | str j=>obtain⟨t',rfl⟩:=ry; exact eq_str (fin_bl I q dec_str)
    | _=>exact absurd (show false=true from hs) Bool.false_ne_true
  | byt i=>
    obtain⟨t,rfl⟩:=rx
    cases y with
    | byt j=>obtain⟨t',rfl⟩:=ry; exact PySem.W.eq_bytes (fin_bl I q dec_byt)
    | _=>exact absurd (show false=true from hs) Bool.false_ne_true
  | _=>cases y <;> exact absurd (show false=true from hs) Bool.false_ne_true
theorem op_ne:OpR X (compareOp .NotEq) rNe:=by
  intro pins s σ H x y v u Q I rx ry h
  obtain⟨hs,q⟩:=h
  cases x with
  | non=>
    cases rx
    cases y with
    | non=>cases ry; exact PySem.EqNone.ne_none_none (fin_bl I q (by simp))
    | bl j=>cases ry; exact PySem.EqNone.ne_none_bool (fin_bl I q (by simp))
    | int j=>obtain⟨t',rfl⟩:=ry; exact PySem.EqNone.ne_none_int (fin_bl I q (by simp))
    | str j=>obtain⟨t',rfl⟩:=ry; exact PySem.EqNone.ne_none_str (fin_bl I q (by simp))
    | _=>exact absurd (show false=true from hs) Bool.false_ne_true
  | bl i=>
    cases rx
    cases y with
    | non=>cases ry; exact PySem.EqNone.ne_bool_none (fin_bl I q (by simp))
    | bl j=>cases ry; exact ne_bool (fin_bl I q (congrArg not dec_bl))
    | str j=>obtain⟨t',rfl⟩:=ry; exact PySem.EqMixed.ne_bool_str (fin_bl I q (by simp))
    | _=>exact absurd (show false=true from hs) Bool.false_ne_true
  | int i=>
    obtain⟨t,rfl⟩:=rx
    cases y with
    | non=>cases ry; exact PySem.EqNone.ne_int_none (fin_bl I q (by simp))
    | int j=>obtain⟨t',rfl⟩:=ry; exact ne_int (fin_bl I q (congrArg not dec_int))
    | str j=>obtain⟨t',rfl⟩:=ry; exact PySem.EqMixed.ne_int_str (fin_bl I q (by simp))
    | _=>exact absurd (show false=true from hs) Bool.false_ne_true
  | str i=>
    obtain⟨t,rfl⟩:=rx
    cases y with
    | non=>cases ry; exact PySem.EqNone.ne_str_none (fin_bl I q (by simp))
    | bl j=>cases ry; exact PySem.EqMixed.ne_str_bool (fin_bl I q (by simp))
    | int j=>obtain⟨t',rfl⟩:=ry; exact PySem.EqMixed.ne_str_int (fin_bl I q (by simp))
    | str j=>obtain⟨t',rfl⟩:=ry; exact ne_str (fin_bl I q (congrArg not dec_str))
    | _=>exact absurd (show false=true from hs) Bool.false_ne_true
  | byt i=>
    obtain⟨t,rfl⟩:=rx
    cases y with
    | byt j=>obtain⟨t',rfl⟩:=ry; exact PySem.W.ne_bytes (fin_bl I q (congrArg not dec_byt))
    | _=>exact absurd (show false=true from hs) Bool.false_ne_true
  | _=>cases y <;> exact absurd (show false=true from hs) Bool.false_ne_true
theorem op_lt:OpR X (compareOp .Lt) (rI0 fun i j=>.bl (decide (i < j))):=opB0 fun _ _ _ _ _ _ _ q=>lt_int q
theorem op_gt:OpR X (compareOp .Gt) (rI0 fun i j=>.bl (decide (j < i))):=opB0 fun _ _ _ _ _ _ _ q=>gt_int q
theorem op_ge:OpR X (compareOp .GtE) (rI0 fun i j=>.bl (decide (j<=i))):=opB0 fun _ _ _ _ _ _ _ q=>ge_int q
theorem op_notN:OpR X (compareOp .IsNot) (fun x y H Q=>y=.non/\Q (.bl (!decide (x=.non))) H):=by
  intro pins s σ H x y v u Q I rx ry h
  obtain⟨rfl,q⟩:=h
  cases ry
  refine isnot_none_gen (fin_bl I q ?_)
  cases x <;> first
    | (cases rx; rfl)
    | (obtain ⟨t,rfl⟩:=rx; rfl)
theorem nomark (b:Expr) {op:CmpOp} (h:op≠.In:=by decide) (h2:op≠.NotIn:=by decide):behindInMarks op b=false:=by
  have e1:(op == CmpOp.In)=false:=by cases op <;> first | rfl | exact absurd rfl h
  have e2:(op == CmpOp.NotIn)=false:=by cases op <;> first | rfl | exact absurd rfl h2
  cases b <;> simp [behindInMarks,e1,e2]
theorem pe_cmpR {op:CmpOp} {r:R2} (ho:OpR X (compareOp op) r) (ha:PE X a ta) (hb:PE X b tb) (hm:behindInMarks op b=false):PE X (.Compare a [op] [b] pos) (tOp r ta tb):=by
  intro pins s σ H Q I h
  exact wpAny_Compare1 (binT ha hb I h fun v u s2 x y H2 I2 rx ry q=>ho pins s2 σ H2 x y v u Q I2 rx ry q) hm
def tTest (t:TE):TT:=fun σ H Q=>t σ H fun x H'=>∃ k,x=.bl k/\Q k H'
theorem pt_cmpR {op:CmpOp} {r:R2} (ho:OpR X (compareOp op) r) (ha:PE X a ta) (hb:PE X b tb) (hm:behindInMarks op b=false):PT X (.Compare a [op] [b] pos) (tTest (tOp r ta tb)):=by
  intro pins s σ H Q I h
  refine wpAny_isTrue_Compare1 (thn (ha pins s σ H _ I h) fun v s1 ⟨x,H1,I1,r1,q1⟩=>thn (hb pins s1 σ H1 _ I1 q1) fun u s2 ⟨y,H2,I2,r2,q2⟩=>
    thn (ho pins s2 σ H2 x y v u _ I2 r1 r2 q2) fun c s3 ⟨z,H3,I3,r3,k,e,q3⟩=>?_) hm
  subst e
  cases r3
  exact wpAny_truthy_bool ⟨H3,I3,q3⟩
theorem line63:(sizeLine:Nat) < 2 ^ 63:=by rw [sizeLine_eq]; decide
theorem op_add_str:OpR X (binaryOp .Add) (fun x y H Q=>∃ i j,x=.str i/\y=.str j/\i.length+j.length<=sizeLine/\Q (.str (i++j)) H):=by
  intro pins s σ H x y v u Q I rx ry h
  obtain⟨i,j,rfl,rfl,hz,q⟩:=h
  obtain⟨t,rfl⟩:=rx
  obtain⟨t',rfl⟩:=ry
  exact add_str (fun t' tk=>⟨.str (i++j),H,I.tok _,⟨_,rfl⟩,q⟩) hz
theorem vals1 {x:V} {us:List Value} (r:Vals [x] us):∃ u,us=[u]/\RelV x u:=by
  cases r with
  | cons r1 r2=>cases r2; exact⟨_,rfl,r1⟩
theorem vals2 {x y:V} {us:List Value} (r:Vals [x,y] us):∃ u w',us=[u,w']/\RelV x u/\RelV y w':=by
  cases r with
  | cons r1 r2=>
    cases r2 with
    | cons r3 r4=>cases r4; exact⟨_,_,rfl,r1,r3⟩
theorem call_abs:CallR X (.builtin "abs") (fun xs H Q=>∃ i,xs=[.int i]/\Q (.int (if i < 0 then -i else i)) H):=by
  intro pins s σ H xs us Q I r h
  obtain⟨i,rfl,q⟩:=h
  obtain⟨u,rfl,t,rfl⟩:=vals1 r
  exact call_abs_int fun u tk=>⟨.int (if i < 0 then -i else i),H,I.tok _,⟨_,rfl⟩,q⟩
theorem call_max2 (hc:X.calm=true):CallR X (.builtin "max") (fun xs H Q=>∃ i j,xs=[.int i,.int j]/\Q (.int (if j > i then j else i)) H):=by
  intro pins s σ H xs us Q I r h
  obtain⟨i,j,rfl,q⟩:=h
  obtain⟨u,w',rfl,⟨t,rfl⟩,⟨t',rfl⟩⟩:=vals2 r
  refine max_two_ints (I.ok.hd hc) fun h' tk k=>⟨_,H,I.kept k,?_,q⟩
  by_cases hj:j > i
  · rw [if_pos hj,if_pos hj]; exact⟨_,rfl⟩
  · rw [if_neg hj,if_neg hj]; exact⟨_,rfl⟩
theorem call_min2 (hc:X.calm=true):CallR X (.builtin "min") (fun xs H Q=>∃ i j,xs=[.int i,.int j]/\Q (.int (if j < i then j else i)) H):=by
  intro pins s σ H xs us Q I r h
  obtain⟨i,j,rfl,q⟩:=h
  obtain⟨u,w',rfl,⟨t,rfl⟩,⟨t',rfl⟩⟩:=vals2 r
  refine min_two_ints (I.ok.hd hc) fun h' tk k=>⟨_,H,I.kept k,?_,q⟩
  by_cases hj:j < i
  · rw [if_pos hj,if_pos hj]; exact⟨_,rfl⟩
  · rw [if_neg hj,if_neg hj]; exact⟨_,rfl⟩
theorem call_int1:CallR X (.type "int") (fun xs H Q=>(∃ i,xs=[.int i]/\Q (.int i) H)\/∃ k,xs=[.bl k]/\Q (.int (if k then 1 else 0)) H):=by
  intro pins s σ H xs us Q I r h
  rcases h with ⟨i,rfl,q⟩ | ⟨k,rfl,q⟩
  · obtain⟨u,rfl,t,rfl⟩:=vals1 r
    exact call_int_int ⟨.int i,H,I,⟨_,rfl⟩,q⟩
  · obtain⟨u,rfl,r1⟩:=vals1 r
    cases r1
    exact call_int_bool ⟨.int (if k then 1 else 0),H,I.tok _,⟨_,rfl⟩,q⟩
end
structure Room (k:Nat) (A:Around):Prop where
  hd:A.handled=none
  dp:A.depth+3*k+5 < recursionLimit
  un:A.units+16*k+200 < cLine
theorem Room.mono {j k:Nat} {A:Around} (r:Room k A) (h:j<=k):Room j A:=⟨r.hd,by have:=r.dp; omega,by have:=r.un; omega⟩
theorem Room.deeper {k:Nat} {A:Around} (r:Room (k+1) A) (env:Env):Room k (A.deeper env):=
  ⟨r.hd,by have:=r.dp; show A.depth+1+3*k+5 < _; omega,by have:=r.un; show A.units+3+16*k+200 < _; omega⟩
theorem Room.depth {k:Nat} {A:Around} (r:Room k A):A.depth < recursionLimit:=by have:=r.dp; omega
theorem Room.units {k:Nat} {A:Around} (r:Room k A):A.units+64 < cLine:=by have:=r.un; omega
def tNil:TA:=fun _ H Q=>Q [] H
def tCons (ta:TE) (tr:TA):TA:=fun σ H Q=>ta σ H fun x H1=>tr σ H1 fun xs H2=>Q (x::xs) H2
section
variable {X:Cx} {e:Expr} {es:List Expr} {te:TE} {t:TA} {pos:Pos}
theorem pa_nil:PA X [] tNil:=fun _ _ _ _ H Q I h=>Calls.spliced_nil ⟨[],H,I,.nil,h⟩
theorem pa_cons (ha:PE X e te) (hr:PA X es t) (hs:starEach (e::es) X.env=(false,eval e X.env)::starEach es X.env:=by rfl):PA X (e::es) (tCons te t):=by
  intro pos pins s σ H Q I h
  rw [hs]
  show wpAny _ _ (spliced ((false,eval e X.env)::backTo pos (starEach es X.env))) _ _ s
  refine Calls.spliced_cons (thn (ha pins s σ H _ I h) fun u s1 ⟨x,H1,I1,r1,q1⟩=>?_)
  exact thn (hr pos pins s1 σ H1 _ I1 q1) fun us s2 ⟨xs,H2,I2,r2,q2⟩=>⟨x::xs,H2,I2,.cons r1 r2,q2⟩
def tTup (t:TA):TE:=fun σ H Q=>t σ H fun xs H1=>xs.length<=sizeLine/\∀ p,H1 p=none->Q (.ref p) (upd H1 p (.tup xs))
def tLst (t:TA):TE:=fun σ H Q=>t σ H fun xs H1=>xs.length<=sizeLine/\∀ p,H1 p=none->Q (.ref p) (upd H1 p (.lst xs))
theorem pe_tup {x1} (h:PA X es t):PE X (.Tuple es x1 pos) (tTup t):=by
  intro pins s σ H Q I hq
  refine wpAny_Tuple_spliced (thn (h pos pins s σ H _ I hq) fun us s1 ⟨xs,H1,I1,r,z,q⟩=>⟨by rw [<- r.length]; exact z,?_⟩)
  have hf:H1 s1.heap.objs.size=none:=I1.hok.fresh (Nat.le_refl _)
  refine⟨.ref s1.heap.objs.size,upd H1 s1.heap.objs.size (.tup xs),I1.laid (t':=s1.toks) (fun b u e=>Heap.get?_push_of_some _ e) (Nat.le_refl _) ?_,rfl,q _ hf⟩
  exact⟨z,us,r,⟨_,Heap.get?_push_size _ rfl,rfl,_,rfl⟩⟩
theorem pe_lst (h:PA X es t):PE X (.List es pos) (tLst t):=by
  intro pins s σ H Q I hq
  refine wpAny_List_spliced (thn (h pos pins s σ H _ I hq) fun us s1 ⟨xs,H1,I1,r,z,q⟩=>⟨by rw [<- r.length]; exact z,?_⟩)
  have hf:H1 s1.heap.objs.size=none:=I1.hok.fresh (Nat.le_refl _)
  refine⟨.ref s1.heap.objs.size,upd H1 s1.heap.objs.size (.lst xs),I1.laid (t':=s1.toks) (fun b u e=>Heap.get?_push_of_some _ e) (Nat.le_refl _) ?_,rfl,q _ hf⟩
  exact⟨z,us,0,r,Heap.get?_push_size _ rfl⟩
end
abbrev Sp:=List V->Hp->VK->XK->Prop
abbrev CXT:=List Env->Hp->Shared->XK->Value->Shared->Prop
structure Env0 (P:Program) (w:World) (K:PySem.W.Frag) (mg:Str->Option Value) (base:Heap) (A:Around) (outer:List Env) (s:Shared) (H:Hp):Prop where
  frames:A.frames=some outer
  mod:Mod K mg base
  bs:∀ b o,base.get? b=some o->s.heap.get? b=some o/\H b=none
  bsz:base.objs.size<=s.heap.objs.size
  funs:s.heap.FunFrames base outer
  frf:∀ b∈frs outer,H b=none
  hok:HOk P w H s.heap
  bare:AllBare s.gens
def CE (outer:List Env) (P:Program) (w:World) (H:Hp) (s:Shared) (Q:VK) (u:Value) (s':Shared):Prop:=
  ∃ v H',s'.os=s.os/\AllBare s'.gens/\Un (frs outer) [] H H' s.heap s'.heap/\HOk P w H' s'.heap/\RelV v u/\Q v H'
def CR (CX:CXT) (outer:List Env) (P:Program) (w:World) (H:Hp) (s:Shared) (Q:VK) (E:XK) (r:Result) (s':Shared):Prop:=
  match r with
  | .ok (.ret u)=>CE outer P w H s Q u s'
  | .ok _=>False
  | .error e=>CX outer H s E e s'
structure FnOk (P:Program) (w:World) (K:PySem.W.Frag) (mg:Str->Option Value) (base:Heap) (CX:CXT) (k:Nat) (f:Addr) (fd:FuncData) (ps:List Str) (sp:Sp):Prop where
  len:∀ vs H Q E,sp vs H Q E->vs.length=ps.length
  run:∀ (A:Around) (outer:List Env) (s:Shared) (H:Hp) (args:Args) (us:List Value) (vs:List V) (Q:VK) (E:XK),Room k A->Env0 P w K mg base A outer s H->BindsTo s fd args (ps.zip us)->Vals vs us->sp vs H Q E->
    codeAny (model P w) A (.call (.ref f) args) (CR CX outer P w H s Q E) s
section
variable {X:Cx} {pins:List (Addr×Obj)} {σ:St} {H:Hp} {s s':Shared}
theorem Inv.env0 (I:Inv X pins σ H s):Env0 X.prog X.w X.K X.mg X.base X.A X.stack s H:=
  ⟨I.ok.frames,I.ok.mod,I.bs,Nat.le_trans I.ok.bsz I.sz,I.stack,I.stkFree,I.hok,I.bare⟩
theorem Inv.after {Q:VK} {u:Value} (I:Inv X pins σ H s) (h:CE X.stack X.prog X.w H s Q u s'):EP X pins σ Q u s':=by
  obtain⟨v,H',os,bare,un,hok,r,q⟩:=h
  obtain⟨hh,g,d,t,os'⟩:=s'
  obtain rfl:os'=s.os:=os
  exact⟨v,H',I.call (h':=hh) (g':=g) (d':=d) (t':=t) (ch:=[]) un hok bare (fun b z=>absurd z (by simp)),r,q⟩
end
def tCall (sp:Sp) (dvs:List V) (E:XK) (t:TA):TE:=fun σ H Q=>t σ H fun vs H1=>sp (vs++dvs) H1 Q E
def Binds (K:PySem.W.Frag) (fd:FuncData) (ps:List Str) (ds:List Value):Prop:=
  ∀ (s:Shared) (us:List Value),K.In s.heap->(us++ds).length=ps.length->BindsTo s fd ⟨us,[]⟩ (ps.zip (us++ds))
theorem Binds.all {K:PySem.W.Frag} {fd:FuncData} {ps:List Str} (h:∀ us:List Value,us.length=ps.length->bindArgs fd ⟨us,[]⟩=pure (ps.zip us)):Binds K fd ps []:=fun s us _ hl=>by
  rw [List.append_nil] at hl ⊢
  exact .of_eq (h us hl)
def Passes (CX:CXT) (X:Cx) (E:XK):Prop:=∀ (pins:List (Addr×Obj)) (σ:St) (H:Hp) (s:Shared) (e:Value) (s':Shared),Inv X pins σ H s->CX X.stack H s E e s'->X.xe e s'
section
variable {X:Cx} {CX:CXT} {k:Nat} {f C:Addr} {fd:FuncData} {ps:List Str} {sp:Sp} {dvs:List V} {ds:List Value} {E:XK} {x m:Str} {p pos apos:Pos} {e o:Expr} {es:List Expr} {ta:TE} {t:TA}
theorem run_fn {pins:List (Addr×Obj)} {σ:St} {H:Hp} {s:Shared} {Q:VK} {us:List Value} {vs:List V} (F:FnOk X.prog X.w X.K X.mg X.base CX k f fd ps sp) (hr:Room k X.A) (hb:Binds X.K fd ps ds) (hd:Vals dvs ds) (hx:Passes CX X E)
    (I:Inv X pins σ H s) (r:Vals vs us) (h:sp (vs++dvs) H Q E):wpAny (model X.prog X.w) X.A (call (.ref f) us) (EP X pins σ Q) X.xe s:=by
  have r2:Vals (vs++dvs) (us++ds):=r.append hd
  have hl:(us++ds).length=ps.length:=by rw [<- r2.length]; exact F.len _ _ _ _ h
  refine wpAny_call (codeAny_mono (F.run X.A X.stack s H ⟨us,[]⟩ (us++ds) (vs++dvs) Q E hr I.env0 (hb s us I.kIn hl) r2 h) fun r s' hq=>?_)
  cases r with
  | error e=>exact hx pins σ H s e s' I hq
  | ok fl=>
    cases fl with
    | ret u=>exact I.after hq
    | next=>exact False.elim hq
    | brk=>exact False.elim hq
    | cont=>exact False.elim hq
theorem pe_call (F:FnOk X.prog X.w X.K X.mg X.base CX k f fd ps sp) (hr:Room k X.A) (hg:Gl X x) (hm:X.mg x=some (.ref f)) (hk:PySem.W.keepIn X.K (.ref f)=true) (hb:Binds X.K fd ps ds) (hd:Vals dvs ds) (hx:Passes CX X E)
    (ha:PA X (e::es) t) (hdb:(x == ("__debug__":Str))=false:=by decide) (he:starEach (e::es) X.env=(false,eval e X.env)::starEach es X.env:=by rfl) (hpl:(backTo pos (starEach es X.env)).any (·.1)=false:=by rfl):
    PE X (.Call (.Name x p) (e::es) [] pos) (tCall sp dvs E t):=by
  intro pins s σ H Q I h
  refine wpAny_Call_Name_kw (ld_glob I hg hm ?_ hdb)
  refine PySem.W.callWith_K (h₀:=X.base) I.ok.mod.kin hk (thn (ha pos pins s σ H _ I h) fun us s1 ⟨vs,H1,I1,r,q⟩=>⟨I1.kIn,?_⟩) he hpl
  exact run_fn F hr hb hd hx I1 r q
end
structure FnScope (N P:List Str) (sc:Scope):Prop where
  kind:sc.kind=.function
  co:sc.isCoroutine=false
  gen:sc.isGenerator=false
  nd:N.Nodup
  pre:N.take P.length=P
  par:∀ x∈P,sc.names.lookup x=some .local\/sc.names.lookup x=some .cell
  nofree:∀ y∈sc.names,y.2≠.free
theorem bindL_out {kindOf:Str->Option NameKind} {x:Str}:∀ {binds:List (Str×Value)} {m:Str->Option Value},(∀ v,(x,v)∉binds)->bindL kindOf binds m x=m x
  | [],_,_=>rfl
  | (n,v)::r,m,h=>by
    unfold bindL
    rw [bindL_out fun w hw=>h w (List.mem_cons_of_mem _ hw)]
    split
    · have:x≠n:=by rintro rfl; exact h v List.mem_cons_self
      simp [this]
    · rfl
theorem bindC_out {kindOf:Str->Option NameKind} {x:Str}:∀ {binds:List (Str×Value)} {m:Str->Option Value},(∀ v,(x,v)∉binds)->bindC kindOf binds m x=m x
  | [],_,_=>rfl
  | (n,v)::r,m,h=>by
    unfold bindC
    rw [bindC_out fun w hw=>h w (List.mem_cons_of_mem _ hw)]
    split
    · rfl
    · have:x≠n:=by rintro rfl; exact h v List.mem_cons_self
      simp [this]
theorem bindL_get {kindOf:Str->Option NameKind} {x:Str} {v:Value}:∀ {P:List Str} {vs:List Value} {i:Nat} {m:Str->Option Value},P.Nodup->P[i]?=some x->vs[i]?=some v->kindOf x=some .local->
    bindL kindOf (P.zip vs) m x=some v
  | [],_,_,_,_,h,_,_=>by simp at h
  | _::_,[],_,_,_,_,h,_=>by simp at h
  | p::P,w::vs,0,m,nd,h1,h2,hk=>by
    simp at h1 h2; subst h1; subst h2
    show bindL kindOf ((p,w)::P.zip vs) m p=_
    unfold bindL
    rw [bindL_out fun v hv=>(List.nodup_cons.mp nd).1 (List.of_mem_zip hv).1,if_pos hk]
    simp
  | p::P,w::vs,i+1,m,nd,h1,h2,hk=>by
    show bindL kindOf ((p,w)::P.zip vs) m x=_
    unfold bindL
    exact bindL_get (i:=i) (List.nodup_cons.mp nd).2 (by simpa using h1) (by simpa using h2) hk
theorem bindC_get {kindOf:Str->Option NameKind} {x:Str} {v:Value}:∀ {P:List Str} {vs:List Value} {i:Nat} {m:Str->Option Value},P.Nodup->P[i]?=some x->vs[i]?=some v->kindOf x≠some .local->
    bindC kindOf (P.zip vs) m x=some v
  | [],_,_,_,_,h,_,_=>by simp at h
  | _::_,[],_,_,_,_,h,_=>by simp at h
  | p::P,w::vs,0,m,nd,h1,h2,hk=>by
    simp at h1 h2; subst h1; subst h2
    show bindC kindOf ((p,w)::P.zip vs) m p=_
    unfold bindC
    rw [bindC_out fun v hv=>(List.nodup_cons.mp nd).1 (List.of_mem_zip hv).1,if_neg hk]
    simp
  | p::P,w::vs,i+1,m,nd,h1,h2,hk=>by
    show bindC kindOf ((p,w)::P.zip vs) m x=_
    unfold bindC
    exact bindC_get (i:=i) (List.nodup_cons.mp nd).2 (by simpa using h1) (by simpa using h2) hk
def start (N:List Str) (vs:List V):St:=vs.map some++List.replicate (N.length - vs.length) none
def cxOf (CX:CXT) (P:Program) (w:World) (K:PySem.W.Frag) (mg:Str->Option Value) (base:Heap) (N:List Str) (qual:Str) (scope:Scope) (f:Addr) (cd:Value) (A:Around) (outer:List Env) (s:Shared) (H:Hp) (E:XK):Cx where
  prog:=P
  w:=w
  K:=K
  mg:=mg
  base:=base
  A:=A.deeper (envOfC qual scope s.heap.objs.size f cd)
  N:=N
  s₀:=s
  H₀:=H
  env:=envOfC qual scope s.heap.objs.size f cd
  outer:=outer
  stack:=envOfC qual scope s.heap.objs.size f cd::outer
  ex:=[]
  calm:=true
  fn:=fun _=>true
  pn:=[]
  xe:=fun e s'=>wpAny (model P w) (A.deeper (envOfC qual scope s.heap.objs.size f cd)) (leaving (envOfC qual scope s.heap.objs.size f cd) e) (fun _ s''=>CX outer H s E e s'') (fun e' s''=>CX outer H s E e' s'') s'
theorem cell_has {sc:Scope} {n:Nat} {x:Str} (h:sc.names.lookup x=some .cell):∃ c,(cellsFrom n sc.names []).lookup x=some c:=by
  have q:=PySem.W.cellsFrom_some sc.names n [] (.inl h)
  exact Option.isSome_iff_exists.mp q
theorem inv_start {CX:CXT} {P:Program} {w:World} {K:PySem.W.Frag} {mg:Str->Option Value} {base:Heap} {N ps:List Str} {qual:Str} {scope:Scope} {f:Addr} {cd:Value} {A:Around} {outer:List Env} {s s1:Shared} {H:Hp} {E:XK} {us:List Value} {vs:List V}
    (S:FnScope N ps scope) (hd:A.handled=none) (e0:Env0 P w K mg base A outer s H) (hl:vs.length=ps.length) (r:Vals vs us)
    (x:InCallC s s.heap.objs.size (bindL (envOfC qual scope s.heap.objs.size f cd).kindOf (ps.zip us) fun _=>none) (cellsFrom (s.heap.objs.size+1) scope.names []) (bindC (envOfC qual scope s.heap.objs.size f cd).kindOf (ps.zip us) fun _=>none) s1):
    Inv (cxOf CX P w K mg base N qual scope f cd A outer s H E) [] (start N vs) H s1:=by
  have hpl:ps.length<=N.length:=by have:=congrArg List.length S.pre; rw [List.length_take] at this; omega
  obtain⟨h1,tk,rfl,hk⟩:=x.done
  have noA:∀ b:Addr,b∉(cxOf CX P w K mg base N qual scope f cd A outer s H E).ex:=fun b z=>absurd (show b∈([]:List Addr) from z) (by simp)
  refine⟨⟨e0.mod,S.kind,rfl,rfl,Nat.le_refl _,fun y z c h1 h2=>?_,fun y hy=>?_,fun y c _ h=>?_,fun _=>hd,Around.frames_deeper e0.frames,.inr ⟨rfl,rfl⟩,fun b z=>absurd z (noA b),e0.bs,e0.bsz,fun b _ _=>noA b,fun b z=>absurd z (noA b),e0.funs,e0.frf⟩,
    rfl,e0.bare,Un.kept hk,⟨_,x.toInCall.ns,fun i y v h1 h2 h3=>?_⟩,fun y c h=>⟨_,x.cell y c h⟩,e0.hok.fresh (Nat.le_refl _),fun y c h=>?_,fun p hp=>absurd (show p∈([]:List (Addr×Obj)) from hp) (by simp),e0.hok.kept hk,?_⟩
  · exact name_of_addr x.apart (PySem.mem_of_lookup h1) (PySem.mem_of_lookup h2)
  · have hy:scope.names.lookup y=some .cell\/scope.names.lookup y=some .free:=hy
    rcases hy with hy | hy
    · exact cell_has hy
    · exact absurd rfl (S.nofree _ (PySem.mem_of_lookup hy))
  · exact Nat.le_of_lt (x.above y c (PySem.mem_of_lookup h))
  · have hi:i < vs.length:=by
      unfold start at h2
      by_cases hi:i < vs.length
      · exact hi
      · rw [List.getElem?_append_right (by simpa using hi)] at h2
        rw [List.getElem?_replicate] at h2
        split at h2 <;> cases h2
    have ha:vs[i]?=some v:=by
      unfold start at h2
      rw [List.getElem?_append_left (by simpa using hi),List.getElem?_map] at h2
      cases e:vs[i]? with
      | none=>rw [e] at h2; cases h2
      | some a=>rw [e] at h2; cases h2; rfl
    obtain⟨u,hu,rv⟩:=r.get ha
    have hp:ps[i]?=some y:=by
      rw [<- S.pre,List.getElem?_take_of_lt (by omega)]; exact h1
    have ndP:ps.Nodup:=by rw [<- S.pre]; exact S.nd.sublist (List.take_sublist _ _)
    refine⟨u,rv,?_⟩
    rcases S.par y (List.mem_of_getElem? hp) with k | k
    · exact .inl ⟨k,bindL_get ndP hp hu k⟩
    · obtain⟨c,e⟩:=cell_has (n:=s.heap.objs.size+1) k
      refine .inr ⟨.inl k,c,e,?_⟩
      have q:=x.cell y c e
      rw [bindC_get ndP hp hu (by show scope.names.lookup y≠_; rw [k]; decide)] at q
      exact q
  · exact e0.hok.fresh (Nat.le_of_lt (x.above y c (PySem.mem_of_lookup h)))
  · unfold start
    show _=N.length
    rw [List.length_append,List.length_map,List.length_replicate]
    omega
theorem fn_of {CX:CXT} {P:Program} {w:World} {K:PySem.W.Frag} {mg:Str->Option Value} {base:Heap} {k:Nat} {f:Addr} {name qual:Str} {params:Arguments} {body:List Stmt} {scope:Scope} {dV kV doc pm cdv ct oc:Value} {an od:Option Addr}
    {osl:Array (Option Value)} {N ps:List Str} {sp:Sp} (lk:K.lookup f=some ⟨oc,od,.func (PySem.W.fnOf name qual params body scope dV kV doc pm an cdv ct),osl⟩) (hcd:PySem.W.codeIn K cdv qual=true) (S:FnScope N ps scope)
    (len:∀ vs H Q E,sp vs H Q E->vs.length=ps.length)
    (hbody:∀ (A:Around) (outer:List Env) (s:Shared) (H:Hp) (vs:List V) (Q:VK) (E:XK),Room k (A.deeper (envOfC qual scope s.heap.objs.size f cdv))->sp vs H Q E->
      ∃ t,PSs (cxOf CX P w K mg base N qual scope f cdv A outer s H E) body t/\t {nx:=fun _ H'=>Q .non H',rt:=Q} (start N vs) H):
    FnOk P w K mg base CX (k+1) f (PySem.W.fnOf name qual params body scope dV kV doc pm an cdv ct) ps sp:=by
  refine⟨len,fun A outer s H args us vs Q E hr e0 hb r hsp=>?_⟩
  have hl:=len _ _ _ _ hsp
  have KX:K.In s.heap:=e0.mod.kin.keeps fun b o e=>(e0.bs b o e).1
  have lim:s.heap.NoLimit:=e0.mod.nolimit.keeps fun b o e=>(e0.bs b o e).1
  have hkind:∀ y∈ps.zip us,scope.names.lookup y.1=some .local\/(scope.names.lookup y.1=some .cell/\((cellsFrom (s.heap.objs.size+1) scope.names []).lookup y.1).isSome=true):=fun⟨n,v⟩ hy=>by
    rcases S.par n (List.of_mem_zip hy).1 with q | q
    · exact .inl q
    · exact .inr ⟨q,PySem.W.cellsFrom_some _ _ _ (.inl q)⟩
  refine codeAny_call_function hr.depth (KX _ _ lk) rfl S.co S.gen rfl (PySem.W.codeRec_of KX hcd) (hb _ _ _ _ ?_)
  refine wpAny_newFunctionEnv_cells S.kind hkind fun env he s1 x=>?_
  subst he
  refine⟨lim.keeps x.toInCall.keep,codeAny_func ?_⟩
  obtain⟨t,ht,hq⟩:=hbody A outer s H vs Q E (hr.deeper _) hsp
  have I:Inv (cxOf CX P w K mg base N qual scope f cdv A outer s H E) [] (start N vs) H s1:=inv_start S hr.hd e0 hl r x
  refine wpAny_mono (ht [] s1 (start N vs) H _ I hq) (fun fl s' hs=>?_) fun e s' hs=>hs
  have fin:∀ {σ':St} {H':Hp} {v:V} {u:Value},Inv (cxOf CX P w K mg base N qual scope f cdv A outer s H E) [] σ' H' s'->RelV v u->Q v H'->CE outer P w H s Q u s':=
    fun {σ' H' v u} J rv q=>⟨v,H',J.os,J.bare,J.base,J.hok,rv,q⟩
  cases fl with
  | ret u=>
    obtain⟨v,σ',H',J,rv,q⟩:=hs
    exact fin J rv q
  | next=>
    obtain⟨σ',H',J,q⟩:=hs
    exact fin (v:=V.non) (u:=Value.none) J rfl q
  | brk=>
    obtain⟨_,_,_,q⟩:=hs
    exact False.elim q
  | cont=>
    obtain⟨_,_,_,q⟩:=hs
    exact False.elim q
section
variable {X:Cx} {x:Str} {p pos:Pos} {e:Expr} {es:List Expr} {t:TA} {id T:String} {r:List V->Hp->VK->Prop}
def tCB (r:List V->Hp->VK->Prop) (t:TA):TE:=fun σ H Q=>t σ H fun vs H1=>r vs H1 Q
theorem pe_callB (hc:CallR X (.builtin id) r) (hg:Gl X x) (hm:X.mg x=none) (hv:bootBuiltins x=some (.builtin id)) (ha:PA X (e::es) t) (hn:x≠"__name__":=by decide) (hdb:(x == ("__debug__":Str))=false:=by decide)
    (he:starEach (e::es) X.env=(false,eval e X.env)::starEach es X.env:=by rfl) (hpl:(backTo pos (starEach es X.env)).any (·.1)=false:=by rfl):PE X (.Call (.Name x p) (e::es) [] pos) (tCB r t):=by
  intro pins s σ H Q I h
  refine wpAny_Call_Name_kw (ld_blt I hg hm hv ?_ hn hdb)
  exact PyProof.Rows.callWith_builtin1 (thn (ha pos pins s σ H _ I h) fun us s1 ⟨vs,H1,I1,r1,q1⟩=>hc pins s1 σ H1 vs us Q I1 r1 q1) he hpl
theorem pe_callTy (hc:CallR X (.type T) r) (hg:Gl X x) (hm:X.mg x=none) (hv:bootBuiltins x=some (.type T)) (ha:PA X (e::es) t) (hn:x≠"__name__":=by decide) (hdb:(x == ("__debug__":Str))=false:=by decide)
    (he:starEach (e::es) X.env=(false,eval e X.env)::starEach es X.env:=by rfl) (hpl:(backTo pos (starEach es X.env)).any (·.1)=false:=by rfl):PE X (.Call (.Name x p) (e::es) [] pos) (tCB r t):=by
  intro pins s σ H Q I h
  refine wpAny_Call_Name_kw (ld_blt I hg hm hv ?_ hn hdb)
  exact PyProof.Rows.callWith_type1 (thn (ha pos pins s σ H _ I h) fun us s1 ⟨vs,H1,I1,r1,q1⟩=>hc pins s1 σ H1 vs us Q I1 r1 q1) he hpl
end
end L2
namespace HT
open PySem PyProof.Rows
section
variable {prog:Program} {w:World} {A:Around} {E:Value->Shared->Prop} {s:Shared}
theorem cat_tup {t b:Addr} {vs ws:List Value} {Q:Value->Shared->Prop} (ht:IsTup s.heap t vs.toArray) (hb:IsTup s.heap b ws.toArray) (hv:vs≠[])
    (h1:ws=[]->Q (.ref t) s) (h2:ws≠[]->Q (.ref s.heap.objs.size) {s with heap:=s.heap.push {cls:=.type "tuple",data:=.seq (vs++ws).toArray}})
    (hsz:vs.length+ws.length<=sizeLine):wpAny (model prog w) A (binaryOp .Add (.ref t) (.ref b)) Q E s:=by
  obtain⟨⟨cls,dd,data,sl⟩,ho,hc,n,hd⟩:=id ht
  obtain⟨⟨cls2,dd2,data2,sl2⟩,ho2,hc2,n2,hd2⟩:=id hb
  simp only at hc hd hc2 hd2
  subst hc hd hc2 hd2
  have e:vs.toArray++ws.toArray=(vs++ws).toArray:=by simp
  by_cases hw:ws=[]
  · exact concat_meets ⟨_,ho,rfl⟩ ⟨_,ho2,rfl⟩ noFill_tuple_add seq_tuple_add PySem.F.slot_tuple_add PySem.F.entry_tuple_add (PySem.F.args_tuple_add_2 _ _)
      (tuple_addW1 t b vs.toArray ws.toArray n n2 dd dd2 sl sl2 (by simpa using hv) (by simp [hw])) ⟨ho,ho2,h1 hw⟩
  · refine concat_meets ⟨_,ho,rfl⟩ ⟨_,ho2,rfl⟩ noFill_tuple_add seq_tuple_add PySem.F.slot_tuple_add PySem.F.entry_tuple_add (PySem.F.args_tuple_add_2 _ _)
      (tuple_addW2 t b vs.toArray ws.toArray n n2 dd dd2 sl sl2 (by simpa using hv) (by simpa using hw) (by rw [List.size_toArray,List.size_toArray]; exact hsz)) ⟨ho,ho2,?_⟩
    rw [e]
    exact h2 hw
def sIx (n d:Nat):Option Int->Nat
  | none=>d
  | some v=>if v < 0 then(v+(n:Int)).toNat else min v.toNat n
theorem sIx_le (n d:Nat) (hd:d<=n) (o:Option Int):sIx n d o<=n:=by
  cases o with
  | none=>exact hd
  | some v=>
    show(if v < 0 then(v+(n:Int)).toNat else min v.toNat n)<=n
    by_cases hv:v < 0
    · rw [if_pos hv]; omega
    · rw [if_neg hv]; exact Nat.min_le_right _ _
theorem clip_eq (v:Int) (n d:Nat):(if v < 0 then max (v+(n:Int)) 0 else min v (n:Int))=((sIx n d (some v):Nat):Int):=by
  show(if v < 0 then max (v+(n:Int)) 0 else min v (n:Int))=(((if v < 0 then(v+(n:Int)).toNat else min v.toNat n):Nat):Int)
  by_cases hv:v < 0
  · simp only [if_pos hv]; omega
  · simp only [if_neg hv]; omega
theorem adjust_gen (lo hi:Option Int) (n:Nat):Builtin.Slice.sliceAdjust lo hi 1 (n:Int)=(((sIx n 0 lo:Nat):Int),((sIx n n hi:Nat):Int)):=by
  have h1:¬ ((1:Int) < 0):=by omega
  unfold Builtin.Slice.sliceAdjust
  simp only [h1,if_false]
  refine Prod.ext ?_ ?_
  · cases lo with
    | none=>rfl
    | some v=>exact clip_eq v n 0
  · cases hi with
    | none=>rfl
    | some v=>exact clip_eq v n n
theorem places_gen (i j:Nat):Builtin.Slice.slicePlaces (i:Int) (j:Int) 1=j - i:=by
  unfold Builtin.Slice.slicePlaces
  have h1:(1:Int) > 0:=by omega
  simp only [h1,if_true,Int.ediv_one]
  split <;> omega
theorem slicePart_ {v:Value} {o:Option Int} {Q:Option Int->Shared->Prop} (p:IsPart v o) (h:Q o s):wpAny (model prog w) A (Builtin.Slice.slicePartIndex v) Q E s:=by
  cases p with
  | none=>exact slicePart_none h
  | int i t=>exact slicePart_int h
theorem sliceApplied_gen {sl:Addr} {vl vu:Value} {lo hi:Option Int} {n:Nat} {Q:Int×Int×Nat->Shared->Prop} (hs:s.heap.IsSliceOf sl vl vu .none) (pl:IsPart vl lo) (pu:IsPart vu hi)
    (h:Q (((sIx n 0 lo:Nat):Int),1,sIx n n hi - sIx n 0 lo) s):wpAny (model prog w) A (Builtin.Slice.sliceApplied (.ref sl) (pure (n:Int))) Q E s:=by
  obtain⟨os,hos,hcs,hds⟩:=id hs
  unfold Builtin.Slice.sliceApplied Builtin.Slice.sliceFields
  refine wpAny_bind (wpAny_bind (wpAny_field hos hds (x:=vl) rfl (wpAny_bind (wpAny_field hos hds (x:=vu) rfl (wpAny_bind (wpAny_field hos hds (x:=.none) rfl (wpAny_pure ?_)))))))
  refine wpAny_bind (slicePart_none ?_)
  show wpAny _ _ (if ((1:Int) == 0)=true then _ else _) _ _ s
  rw [if_neg (by decide)]
  refine wpAny_bind (slicePart_ pl (wpAny_bind (slicePart_ pu (wpAny_bind (wpAny_pure ?_)))))
  show wpAny _ _ (match Builtin.Slice.sliceAdjust lo hi 1 (n:Int) with | (lo,hi)=>pure (lo,(1:Int),Builtin.Slice.slicePlaces lo hi 1)) _ _ s
  rw [adjust_gen lo hi n]
  show wpAny _ _ (pure (((sIx n 0 lo:Nat):Int),(1:Int),Builtin.Slice.slicePlaces ((sIx n 0 lo:Nat):Int) ((sIx n n hi:Nat):Int) 1)) _ _ s
  rw [places_gen]
  exact wpAny_pure h
theorem pick_gen (xs:Array Value) (i k:Nat):((List.range k).filterMap fun(m:Nat)=>xs[((i:Int)+(m:Int)*1).toNat]?).toArray=((xs.toList.drop i).take k).toArray:=by
  have e:(fun (m:Nat)=>xs[((i:Int)+(m:Int)*1).toNat]?)=fun m=>xs[i+m]?:=by
    funext m
    have:((i:Int)+(m:Int)*1).toNat=i+m:=by omega
    rw [this]
  rw [e]
  have:=pick_run xs i k
  rw [List.filterMap_map] at this
  have e2:((fun x=>xs[x]?) ∘ fun x=>i+x)=fun m=>xs[i+m]?:=rfl
  rw [e2] at this
  rw [this]
theorem getItem_tuple_cut {t sl:Addr} {items:Array Value} {vl vu:Value} {lo hi:Option Int} {Q:Value->Shared->Prop} (ht:IsTup s.heap t items) (hs:s.heap.IsSliceOf sl vl vu .none) (pl:IsPart vl lo) (pu:IsPart vu hi)
    (hw:¬ (sIx items.size 0 lo=0/\sIx items.size items.size hi=items.size))
    (h:Q (.ref s.heap.objs.size) {s with heap:=s.heap.push {cls:=.type "tuple",data:=.seq ((items.toList.drop (sIx items.size 0 lo)).take (sIx items.size items.size hi - sIx items.size 0 lo)).toArray}})
    (hsz:items.size<=sizeLine):wpAny (model prog w) A (getItem (.ref t) (.ref sl)) Q E s:=by
  have htake:sizeOk (.seq ((items.toList.drop (sIx items.size 0 lo)).take (sIx items.size items.size hi - sIx items.size 0 lo)).toArray):=by
    show((items.toList.drop (sIx items.size 0 lo)).take (sIx items.size items.size hi - sIx items.size 0 lo)).toArray.size<=sizeLine
    rw [List.size_toArray,List.length_take,List.length_drop,Array.length_toList]
    omega
  have hj:sIx items.size items.size hi<=items.size:=sIx_le _ _ (Nat.le_refl _) hi
  obtain⟨os,hos,hcs,hds⟩:=id hs
  have hTs:s.TypeIs (.ref sl) "slice":=⟨os,hos,hcs⟩
  unfold getItem
  try with_reducible refine wpAny_holding ?_
  first | refine wpAny_bind (wpAny_pure ?_) | skip
  refine wpAny_bind (wpAny_sequenceKey ht.typeIs (by decide) ?_)
  refine wpAny_bind (wpAny_callSpecial?_slot (name:=Str.ofString "__getitem__") ht.typeIs PyProof.Rows.slot_tuple_getitem
    (wpAny_call_entry PyProof.Rows.slot_tuple_getitem ht.typeIs entry_tuple_getitem ?_ (args_tuple_getitem _ _)))
  show wpAny _ _ (Builtin.Tuple.tupleItemsOf (.ref t) >>= _) _ _ s
  refine wpAny_bind (tupleItemsOf_ ht ?_)
  refine wpAny_bind (wpAny_typeOf hTs ?_)
  rw [if_pos (by decide)]
  refine wpAny_bind (sliceApplied_gen hs pl pu ?_)
  have hno:¬ ((((sIx items.size 0 lo:Nat):Int) == 0 && (1:Int) == 1 && (sIx items.size items.size hi - sIx items.size 0 lo) == items.size)=true):=by
    intro q
    rw [Bool.and_eq_true,Bool.and_eq_true] at q
    have q1:((sIx items.size 0 lo:Nat):Int)=0:=eq_of_beq q.1.1
    have q2:sIx items.size items.size hi - sIx items.size 0 lo=items.size:=eq_of_beq q.2
    exact hw ⟨by omega,by omega⟩
  show wpAny _ _ (if (((sIx items.size 0 lo:Nat):Int) == 0 && (1:Int) == 1 && (sIx items.size items.size hi - sIx items.size 0 lo) == items.size)=true then _ else _) _ _ s
  rw [if_neg hno,pick_gen]
  first
    | exact wpAny_bind (m:=Builtin.Tuple.tupleExact _) (wpAny_newObj_type (wpAny_pure ⟨_,rfl,wpAny_pure h⟩) htake)
    | exact wpAny_bind (m:=Builtin.Tuple.tupleExact _) (wpAny_newObj_type (wpAny_bind (wpAny_pure (wpAny_pure ⟨_,rfl,wpAny_pure h⟩))) htake)
    | exact wpAny_bind (wpAny_bind (m:=Builtin.Tuple.tupleExact _) (wpAny_newObj_type (wpAny_pure (wpAny_pure ⟨_,rfl,wpAny_pure h⟩)) htake))
    | exact wpAny_bind (wpAny_bind (m:=Builtin.Tuple.tupleExact _) (wpAny_newObj_type (wpAny_pure ⟨_,rfl,wpAny_pure h⟩) htake))
end
end HT
namespace L2
open PySem PySem.Spec PyProof.Rows
abbrev TO:=St->Hp->(Option Int->Hp->Prop)->Prop
def PO (X:Cx) (e:Option Expr) (t:TO):Prop:=
  ∀ (pins:List (Addr×Obj)) (s:Shared) (σ:St) (H:Hp) (Q:Option Int->Hp->Prop),Inv X pins σ H s->t σ H Q->
    wpAny (model X.prog X.w) X.A (evalPart e X.env) (fun u s'=>∃ o H',Inv X pins σ H' s'/\IsPart u o/\Q o H') X.xe s
def tNoPart:TO:=fun _ H Q=>Q none H
def tPart (t:TE):TO:=fun σ H Q=>t σ H fun x H1=>∃ i,x=.int i/\Q (some i) H1
section
variable {X:Cx} {e:Expr} {te:TE} {lo hi:Option Expr} {tl th:TO} {pos p2:Pos}
theorem po_none:PO X none tNoPart:=by
  intro pins s σ H Q I h
  rw [evalPart_none]
  exact wpAny_pure ⟨none,H,I,.none,h⟩
theorem po_some (h:PE X e te):PO X (some e) (tPart te):=by
  intro pins s σ H Q I hw
  rw [evalPart_some]
  refine thn (h pins s σ H _ I hw) fun u s1 ⟨x,H1,I1,r1,q1⟩=>?_
  obtain⟨i,rfl,q⟩:=q1
  obtain⟨t,rfl⟩:=r1
  exact⟨some i,H1,I1,.int i t,q⟩
def SlR (X:Cx) (r:V->Option Int->Option Int->Hp->VK->Prop):Prop:=
  ∀ (pins:List (Addr×Obj)) (s:Shared) (σ:St) (H:Hp) (x:V) (v vl vu:Value) (lo hi:Option Int) (sl:Addr) (Q:VK),Inv X pins σ H s->RelV x v->s.heap.IsSliceOf sl vl vu .none->IsPart vl lo->IsPart vu hi->r x lo hi H Q->
    ∃ T id,typeLookup (.type T) "__getitem__"=pure (some (.builtin id))/\s.TypeIs v T/\wpAny (model X.prog X.w) X.A (getItem v (.ref sl)) (EP X pins σ Q) X.xe s
theorem SlR.or {r r':V->Option Int->Option Int->Hp->VK->Prop} (h:SlR X r) (h':SlR X r'):SlR X (fun x lo hi H Q=>r x lo hi H Q\/r' x lo hi H Q):=by
  intro pins s σ H x v vl vu lo hi sl Q I rx hs pl pu q
  rcases q with q | q
  · exact h pins s σ H x v vl vu lo hi sl Q I rx hs pl pu q
  · exact h' pins s σ H x v vl vu lo hi sl Q I rx hs pl pu q
def tSl (r:V->Option Int->Option Int->Hp->VK->Prop) (te:TE) (tl th:TO):TE:=fun σ H Q=>te σ H fun x H1=>tl σ H1 fun l H2=>th σ H2 fun u H3=>r x l u H3 Q
theorem pe_slice {r:V->Option Int->Option Int->Hp->VK->Prop} (hr:SlR X r) (he:PE X e te) (hl:PO X lo tl) (hu:PO X hi th):PE X (.Subscript e (.Slice lo hi none p2) pos) (tSl r te tl th):=by
  intro pins s σ H Q I h
  refine Subscript_ (thn (he pins s σ H _ I h) fun v s1 ⟨x,H1,I1,r1,q1⟩=>?_)
  refine wpAny_Slice (thn (hl pins s1 σ H1 _ I1 q1) fun vl s2 ⟨l,H2,I2,pl,q2⟩=>thn (hu pins s2 σ H2 _ I2 q2) fun vu s3 ⟨u,H3,I3,pu,q3⟩=>?_)
  rw [evalPart_none]
  refine wpAny_pure ?_
  have I4:Inv X pins σ H3 {s3 with heap:=s3.heap.push {cls:=.type "slice",data:=.fields #[vl,vu,.none]}}:=I3.kept (t':=s3.toks) fun b ob q=>Heap.get?_push_of_some _ q
  obtain⟨T,id,hT,ht,hg⟩:=hr pins {s3 with heap:=s3.heap.push {cls:=.type "slice",data:=.fields #[vl,vu,.none]}} σ H3 x v vl vu l u s3.heap.objs.size Q I4 r1 (Heap.IsSliceOf.new ..) pl pu q3
  show wpAny (model X.prog X.w) X.A (subscriptTail e (.Slice lo hi none p2) v (.ref s3.heap.objs.size)) (EP X pins σ Q) X.xe {s3 with heap:=s3.heap.push {cls:=.type "slice",data:=.fields #[vl,vu,.none]}}
  exact tail_any (ops:=[.ref s3.heap.objs.size,v]) ht hT hg (by with_unfolding_all rfl)
def cutV (xs:List V) (lo hi:Option Int):List V:=(xs.drop (HT.sIx xs.length 0 lo)).take (HT.sIx xs.length xs.length hi - HT.sIx xs.length 0 lo)
theorem cutV_length (xs:List V) (lo hi:Option Int):(cutV xs lo hi).length<=xs.length:=by
  unfold cutV
  rw [List.length_take,List.length_drop]
  omega
def rSlT (K:PySem.W.Frag):V->Option Int->Option Int->Hp->VK->Prop:=fun x lo hi H Q=>∃ a xs,x=.ref a/\SqT K H a xs/\
  ¬ (HT.sIx xs.length 0 lo=0/\HT.sIx xs.length xs.length hi=xs.length)/\∀ p,H p=none->Q (.ref p) (upd H p (.tup (cutV xs lo hi)))
theorem sl_tup:SlR X (rSlT X.K):=by
  intro pins s σ H x v vl vu lo hi sl Q I rx hs pl pu h
  obtain⟨a,xs,rfl,hx,hw,q⟩:=h
  cases rx
  obtain⟨its,r,ht,hz⟩:=I.tuple hx
  have hlen:its.toArray.size=xs.length:=by rw [List.size_toArray]; exact r.length.symm
  refine⟨"tuple",_,PyProof.Rows.slot_tuple_getitem.lookup,ht.typeIs,?_⟩
  refine HT.getItem_tuple_cut ht hs pl pu (by rw [hlen]; exact hw) ?_ (by rw [hlen]; exact hz)
  rw [hlen]
  refine⟨.ref s.heap.objs.size,_,I.laid (t':=s.toks) (o:=.tup (cutV xs lo hi)) (fun b ob q=>Heap.get?_push_of_some _ q) (Nat.le_refl _) ?_,rfl,q _ (I.hok.fresh (Nat.le_refl _))⟩
  exact⟨Nat.le_trans (cutV_length xs lo hi) hz,_,(r.drop (HT.sIx xs.length 0 lo)).take (HT.sIx xs.length xs.length hi - HT.sIx xs.length 0 lo),IsTup.new _ _⟩
def rCatT (K:PySem.W.Frag):R2:=fun x y H Q=>∃ a b xs ys,x=.ref a/\y=.ref b/\SqT K H a xs/\SqT K H b ys/\xs≠[]/\xs.length+ys.length<=sizeLine/\
  (ys=[]->Q (.ref a) H)/\(ys≠[]->∀ p,H p=none->Q (.ref p) (upd H p (.tup (xs++ys))))
theorem Vals.nil_iff {xs:List V} {us:List Value} (r:Vals xs us):us=[]↔xs=[]:=by
  cases r with
  | nil=>simp
  | cons _ _=>simp
theorem op_catT:OpR X (binaryOp .Add) (rCatT X.K):=by
  intro pins s σ H x y v u Q I rx ry h
  obtain⟨a,b,xs,ys,rfl,rfl,ha,hb,hx,hz,q1,q2⟩:=h
  cases rx
  cases ry
  obtain⟨its,r1,p1,_⟩:=I.tuple ha
  obtain⟨its2,r2,p2,_⟩:=I.tuple hb
  refine HT.cat_tup p1 p2 (fun z=>hx (r1.nil_iff.mp z)) (fun z=>⟨.ref a,H,I,rfl,q1 (r2.nil_iff.mp z)⟩) (fun z=>?_) (by rw [<- r1.length,<- r2.length]; exact hz)
  refine⟨.ref s.heap.objs.size,_,I.laid (t':=s.toks) (o:=.tup (xs++ys)) (fun b ob q=>Heap.get?_push_of_some _ q) (Nat.le_refl _) ?_,rfl,q2 (fun w=>z (r2.nil_iff.mpr w)) _ (I.hok.fresh (Nat.le_refl _))⟩
  exact⟨by rw [List.length_append]; exact hz,_,r1.append r2,IsTup.new _ _⟩
end
def ixN (n:Nat) (i:Int):Option Nat:=if 0<=i then(if i < n then some i.toNat else none) else if -(n:Int)<=i then some (i+n).toNat else none
def atI {α:Type} (xs:List α) (i:Int):Option α:=(ixN xs.length i).bind fun j=>xs[j]?
theorem ixN_seq {n:Nat} {i:Int} {j:Nat} (h:ixN n i=some j):seqIndex? i n=some j/\j < n/\-(n:Int)<=i/\i < n:=by
  unfold ixN at h
  by_cases h0:0<=i
  · rw [if_pos h0] at h
    by_cases h1:i < n
    · rw [if_pos h1] at h
      have e:i.toNat=j:=Option.some.inj h
      exact⟨by rw [seqIndex_of h0 h1,e],by omega,by omega,h1⟩
    · rw [if_neg h1] at h; cases h
  · rw [if_neg h0] at h
    by_cases h1:-(n:Int)<=i
    · rw [if_pos h1] at h
      have e:(i+n).toNat=j:=Option.some.inj h
      exact⟨by rw [seqIndex_neg (by omega) h1,e],by omega,h1,by omega⟩
    · rw [if_neg h1] at h; cases h
theorem atI_get {α:Type} {xs:List α} {i:Int} {v:α} (h:atI xs i=some v):∃ j,seqIndex? i xs.length=some j/\xs[j]?=some v/\j < xs.length/\-(xs.length:Int)<=i/\i < xs.length:=by
  unfold atI at h
  cases e:ixN xs.length i with
  | none=>rw [e] at h; cases h
  | some j=>
    rw [e] at h
    obtain⟨h1,h2,h3,h4⟩:=ixN_seq e
    exact⟨j,h1,h,h2,h3,h4⟩
theorem atI_nat {α:Type} {xs:List α} {j:Nat} {v:α} (h:xs[j]?=some v):atI xs (j:Int)=some v:=by
  have hj:j < xs.length:=(List.getElem?_eq_some_iff.mp h).1
  have e:ixN xs.length (j:Int)=some j:=by
    unfold ixN
    rw [if_pos (by omega),if_pos (by omega)]; simp
  unfold atI; rw [e]; exact h
def PlainIx (b:Expr):Prop:=∀ o i,subscripted b false o i=operate [o,i] (getItem o i)
def IxR (X:Cx) (r:R2):Prop:=
  ∀ (value slice:Expr) (pins:List (Addr×Obj)) (s:Shared) (σ:St) (H:Hp) (x y:V) (v u:Value) (Q:VK),Inv X pins σ H s->RelV x v->RelV y u->r x y H Q->
    subscripted slice false v u=operate [v,u] (getItem v u)->wpAny (model X.prog X.w) X.A (subscriptTail value slice v u) (EP X pins σ Q) X.xe s
def MtR (X:Cx) (id:String) (r:V->List V->Hp->VK->Prop):Prop:=
  ∀ (pins:List (Addr×Obj)) (s:Shared) (σ:St) (H:Hp) (x:V) (xs:List V) (v:Value) (us:List Value) (Q:VK),Inv X pins σ H s->RelV x v->Vals xs us->r x xs H Q->
    wpAny (model X.prog X.w) X.A (call (.builtin id) (v::us)) (EP X pins σ Q) X.xe s
section
variable {X:Cx} {a b:Expr} {ta tb:TE} {pos:Pos}
theorem pe_ix {r:R2} (hr:IxR X r) (ha:PE X a ta) (hb:PE X b tb) (hs:PlainIx b):PE X (.Subscript a b pos) (tOp r ta tb):=by
  intro pins s σ H Q I h
  exact Subscript_ (binT ha hb I h fun v u s2 x y H2 I2 rx ry q=>hr a b pins s2 σ H2 x y v u Q I2 rx ry q (hs _ _))
def rIxL (K:PySem.W.Frag):R2:=fun x y H Q=>∃ p xs i v,x=.ref p/\y=.int i/\SqL K H p xs/\atI xs i=some v/\Q v H
def rIxT (K:PySem.W.Frag):R2:=fun x y H Q=>∃ p xs i v,x=.ref p/\y=.int i/\SqT K H p xs/\atI xs i=some v/\Q v H
theorem ix_list:IxR X (rIxL X.K):=by
  intro value slice pins s σ H x y v u Q I rx ry h hs
  obtain⟨p,xs,i,z,rfl,rfl,hq,he,q⟩:=h
  cases rx
  obtain⟨t,rfl⟩:=ry
  obtain⟨its,r,pl,hz⟩:=I.list hq
  obtain⟨j,h1,h2,h3,h4,h5⟩:=atI_get he
  obtain⟨w,ew,rw'⟩:=r.get h2
  have hl:=r.length
  have hn:=line63
  have fin:EP X pins σ Q w s:=⟨z,H,I,rw',q⟩
  by_cases h0:0<=i
  · have hj:i.toNat=j:=by
      rw [seqIndex_of h0 h5] at h1
      exact Option.some.inj h1
    exact item_listR pl.isList h0 (by omega) (by rw [hj]; simpa using ew) fin hs
  · have hj:(i+(its.toArray.size:Int)).toNat=j:=by
      rw [seqIndex_neg (by omega) h4] at h1
      rw [List.size_toArray,<- hl]
      exact Option.some.inj h1
    exact subscriptTail_builtinR (x:=w) pl.isList.typeIs slot_list_getitem.lookup
      (wpAny_getItem_list_neg (Q:=fun r s'=>r=w/\EP X pins σ Q r s') pl.isList (by omega) (by rw [List.size_toArray] <;> omega) (by omega) (by rw [hj]; simpa using ew) ⟨rfl,fin⟩) hs
theorem ix_tup:IxR X (rIxT X.K):=by
  intro value slice pins s σ H x y v u Q I rx ry h hs
  obtain⟨p,xs,i,z,rfl,rfl,hq,he,q⟩:=h
  cases rx
  obtain⟨t,rfl⟩:=ry
  obtain⟨its,r,pl,hz⟩:=I.tuple hq
  obtain⟨j,h1,h2,h3,h4,h5⟩:=atI_get he
  obtain⟨w,ew,rw'⟩:=r.get h2
  have hl:=r.length
  have hn:=line63
  have fin:EP X pins σ Q w s:=⟨z,H,I,rw',q⟩
  exact subscriptTail_builtinR (x:=w) pl.typeIs slot_tuple_getitem.lookup
    (getItem_tuple (j:=j) (Q:=fun r s'=>r=w/\EP X pins σ Q r s') pl (by omega) (by omega) (by rw [List.size_toArray,<- hl]; exact h1) (by simpa using ew) ⟨rfl,fin⟩) hs
theorem mapSeq_set (its:List Value) (n j:Nat) (u:Value):Obj.mapSeq (·.setIfInBounds j u) {cls:=.type "list",data:=.seq its.toArray n}={cls:=.type "list",data:=.seq (its.set j u).toArray n}:=by
  simp [Obj.mapSeq]
theorem Inv.lst {pins:List (Addr×Obj)} {σ:St} {H:Hp} {s:Shared} {p:Addr} {xs:List V} (I:Inv X pins σ H s) (h:H p=some (.lst xs)):
    ∃ (its:List Value) (n:Nat),Vals xs its/\s.heap.get? p=some {cls:=.type "list",data:=.seq its.toArray n}/\xs.length<=sizeLine:=by
  obtain⟨z,its,n,r,e⟩:=I.hok p _ h
  exact⟨its,n,r,e,z⟩
theorem Inv.lstUpd {pins:List (Addr×Obj)} {σ:St} {H:Hp} {s:Shared} {p:Addr} {xs ys:List V} {its its':List Value} {n n':Nat} {f:Obj->Obj} (I:Inv X pins σ H s) (h:H p=some (.lst xs))
    (ho:s.heap.get? p=some {cls:=.type "list",data:=.seq its.toArray n}) (hf:f {cls:=.type "list",data:=.seq its.toArray n}={cls:=.type "list",data:=.seq its'.toArray n'}) (r:Vals ys its') (hz:ys.length<=sizeLine) (t:Nat):
    Inv X pins σ (upd H p (.lst ys)) {s with heap:=s.heap.update p f,toks:=t}:=by
  have e:(s.heap.update p f).get? p=some {cls:=.type "list",data:=.seq its'.toArray n'}:=by
    rw [Heap.get?_update_self f ho (by rw [hf] <;> rfl),hf]
  refine I.write (x:=p) (e:=p) (by rw [h]; trivial) (.inl rfl) (fun b u hb q=>(Heap.get?_update_other _ _ (Ne.symm hb)).trans q) ⟨_,e⟩ ?_
  exact⟨hz,its',n',r,e⟩
def rSetL:V->V->V->Hp->(Hp->Prop)->Prop:=fun o i v H Q=>∃ p xs k j,o=.ref p/\i=.int k/\H p=some (.lst xs)/\ixN xs.length k=some j/\Q (upd H p (.lst (xs.set j v)))
theorem set_list:PSet X rSetL:=by
  intro pins s σ H o i v ov iv u Q I ro ri rv h
  obtain⟨p,xs,k,j,rfl,rfl,hp,hj,q⟩:=h
  cases ro
  obtain⟨t,rfl⟩:=ri
  obtain⟨its,n,r,ho,hz⟩:=I.lst hp
  obtain⟨h1,h2,h3,h4⟩:=ixN_seq hj
  have hl:=r.length
  have hn:=line63
  have I':Inv X pins σ (upd H p (.lst (xs.set j v))) {s with heap:=s.heap.update p (Obj.mapSeq (·.setIfInBounds j u))}:=
    I.lstUpd hp ho (mapSeq_set its n j u) (r.set rv j) (by rw [List.length_set]; exact hz) s.toks
  by_cases h0:0<=k
  · have hk:k.toNat=j:=by
      rw [seqIndex_of h0 h4] at h1
      exact Option.some.inj h1
    exact PySem.W.ki_setAt ho h0 (by omega) (by rw [List.size_toArray,<- hl]; exact h4) (by rw [hk]; exact⟨_,I',q⟩)
  · have hk:(k+(its.toArray.size:Int)).toNat=j:=by
      rw [seqIndex_neg (by omega) h3] at h1
      rw [List.size_toArray,<- hl]
      exact Option.some.inj h1
    exact PySem.W.ki_setBack ho (by omega) (by rw [List.size_toArray,<- hl]; exact h3) (by omega) (by rw [hk]; exact⟨_,I',q⟩)
theorem slice_bounds (lo hi:Option Int) (n:Nat):(sliceBounds lo hi none n).1=((HT.sIx n 0 lo:Nat):Int)/\(sliceBounds lo hi none n).2.1=((HT.sIx n n hi:Nat):Int)/\(sliceBounds lo hi none n).2.2=1:=by
  refine⟨?_,?_,rfl⟩
  · cases lo with
    | none=>simp [sliceBounds,HT.sIx]
    | some i=>
      simp only [sliceBounds,HT.sIx,Option.getD_none,show(1:Int) > 0 by decide,if_true]
      by_cases h:i < 0
      · simp only [h,if_true] <;> omega
      · simp only [h,if_false] <;> omega
  · cases hi with
    | none=>simp [sliceBounds,HT.sIx]
    | some i=>
      simp only [sliceBounds,HT.sIx,Option.getD_none,show(1:Int) > 0 by decide,if_true]
      by_cases h:i < 0
      · simp only [h,if_true] <;> omega
      · simp only [h,if_false] <;> omega
theorem slicePick_cut (its:List Value) (lo hi:Option Int):slicePick its.toArray lo hi none=((its.drop (HT.sIx its.length 0 lo)).take (HT.sIx its.length its.length hi - HT.sIx its.length 0 lo)).toArray:=by
  obtain⟨h1,h2,h3⟩:=slice_bounds lo hi its.toArray.size
  unfold slicePick
  rw [h1,h2,h3]
  simp only [sliceRange_one,pick_run,List.size_toArray] <;> rfl
def rSlL (K:PySem.W.Frag):V->Option Int->Option Int->Hp->VK->Prop:=fun x lo hi H Q=>∃ a xs,x=.ref a/\SqL K H a xs/\∀ p,H p=none->Q (.ref p) (upd H p (.lst (cutV xs lo hi)))
theorem sl_list:SlR X (rSlL X.K):=by
  intro pins s σ H x v vl vu lo hi sl Q I rx hs pl pu h
  obtain⟨a,xs,rfl,hx,q⟩:=h
  cases rx
  obtain⟨its,r,ht,hz⟩:=I.list hx
  have hlen:=r.length
  refine⟨"list",_,slot_list_getitem.lookup,ht.isList.typeIs,?_⟩
  refine wpAny_getItem_list_slice ht.isList hs pl pu .none (by simp) ?_ (by rw [List.size_toArray] <;> omega)
  rw [slicePick_cut,<- hlen]
  refine⟨.ref s.heap.objs.size,_,I.laid (t':=s.toks) (o:=.lst (cutV xs lo hi)) (fun b ob q=>Heap.get?_push_of_some _ q) (Nat.le_refl _) ?_,rfl,q _ (I.hok.fresh (Nat.le_refl _))⟩
  exact⟨Nat.le_trans (cutV_length xs lo hi) hz,_,0,(r.drop (HT.sIx xs.length 0 lo)).take (HT.sIx xs.length xs.length hi - HT.sIx xs.length 0 lo),Heap.get?_push_size _ rfl⟩
def flatV:V->Bool
  | .non=>true
  | .bl _=>true
  | .int _=>true
  | .str _=>true
  | _=>false
def eqV:V->V->Bool
  | .non,.non=>true
  | .bl a,.bl b=>a == b
  | .bl a,.int b=>(if a then 1 else 0) == b
  | .int a,.bl b=>a == (if b then 1 else 0)
  | .int a,.int b=>a == b
  | .str a,.str b=>a == b
  | _,_=>false
theorem eqAt_V {A:Around} {s:Shared} {y x:V} {u v:Value} (ry:RelV y u) (rx:RelV x v) (fy:flatV y=true) (fx:flatV x=true):SeqAt.EqAt A s u v (eqV y x):=by
  cases y with
  | non=>
    cases ry
    cases x with
    | non=>cases rx; exact SeqAt.EqAt.same _
    | bl b=>cases rx; exact SeqAt.EqAt.none_bool b
    | int b=>obtain⟨t,rfl⟩:=rx; exact SeqAt.EqAt.none_int b t
    | str b=>obtain⟨t,rfl⟩:=rx; exact SeqAt.EqAt.none_str b t
    | _=>exact absurd (show false=true from fx) Bool.false_ne_true
  | bl a=>
    cases ry
    cases x with
    | non=>cases rx; exact SeqAt.EqAt.bool_none a
    | bl b=>cases rx; exact SeqAt.EqAt.bool_bool a b
    | int b=>obtain⟨t,rfl⟩:=rx; exact SeqAt.EqAt.bool_int a b t
    | str b=>obtain⟨t,rfl⟩:=rx; exact SeqAt.EqAt.bool_str a b t
    | _=>exact absurd (show false=true from fx) Bool.false_ne_true
  | int a=>
    obtain⟨t',rfl⟩:=ry
    cases x with
    | non=>cases rx; exact SeqAt.EqAt.int_none a t'
    | bl b=>cases rx; exact SeqAt.EqAt.int_bool a t' b
    | int b=>obtain⟨t,rfl⟩:=rx; exact SeqAt.EqAt.int_int a t' b t
    | str b=>obtain⟨t,rfl⟩:=rx; exact SeqAt.EqAt.int_str a t' b t
    | _=>exact absurd (show false=true from fx) Bool.false_ne_true
  | str a=>
    obtain⟨t',rfl⟩:=ry
    cases x with
    | non=>cases rx; exact SeqAt.EqAt.str_none a t'
    | bl b=>cases rx; exact SeqAt.EqAt.str_bool a t' b
    | int b=>obtain⟨t,rfl⟩:=rx; exact SeqAt.EqAt.str_int a t' b t
    | str b=>obtain⟨t,rfl⟩:=rx; exact SeqAt.EqAt.str_str a t' b t
    | _=>exact absurd (show false=true from fx) Bool.false_ne_true
  | _=>exact absurd (show false=true from fy) Bool.false_ne_true
def eqU (x:V) (u:Value):Bool:=match u with
  | .none=>eqV .non x
  | .bool b=>eqV (.bl b) x
  | .int i _=>eqV (.int i) x
  | .str z _=>eqV (.str z) x
  | _=>false
theorem eqU_of {x y:V} {u:Value} (r:RelV y u) (f:flatV y=true):eqU x u=eqV y x:=by
  cases y with
  | non=>cases r; rfl
  | bl b=>cases r; rfl
  | int i=>obtain⟨t,rfl⟩:=r; rfl
  | str z=>obtain⟨t,rfl⟩:=r; rfl
  | _=>exact absurd (show false=true from f) Bool.false_ne_true
theorem any_eqU {x:V}:∀ {xs:List V} {us:List Value},Vals xs us->xs.all flatV=true->us.any (eqU x)=xs.any fun y=>eqV y x
  | _,_,.nil,_=>rfl
  | y::xs,u::us,.cons r t,f=>by
    rw [List.all_cons,Bool.and_eq_true] at f
    rw [List.any_cons,List.any_cons,eqU_of r f.1,any_eqU t f.2]
theorem mem_eqAt {A:Around} {s:Shared} {x:V} {v:Value} (rx:RelV x v) (fx:flatV x=true):∀ {xs:List V} {us:List Value},Vals xs us->xs.all flatV=true->∀ u∈us,SeqAt.EqAt A s u v (eqU x u)
  | _,_,.nil,_=>fun u hu=>by cases hu
  | y::xs,u::us,.cons r t,f=>fun u' hu=>by
    rw [List.all_cons,Bool.and_eq_true] at f
    rcases List.mem_cons.mp hu with rfl | hu
    · rw [eqU_of r f.1]; exact eqAt_V r rx f.1 fx
    · exact mem_eqAt rx fx t f.2 u' hu
def inV (x:V) (xs:List V):Bool:=xs.any fun y=>eqV y x
def rIn (K:PySem.W.Frag) (neg:Bool):R2:=fun x y H Q=>∃ p xs,y=.ref p/\(SqL K H p xs\/SqT K H p xs)/\flatV x=true/\xs.all flatV=true/\Q (.bl (if neg then !inV x xs else inV x xs)) H
theorem op_in_seq:OpR X (compareOp .In) (rIn X.K false):=by
  intro pins s σ H x y v u Q I rx ry h
  obtain⟨p,xs,rfl,hq,fx,fs,q⟩:=h
  cases ry
  rcases hq with hq | hq
  · obtain⟨its,r,pl,hz⟩:=I.list hq
    refine SeqAt.in_listAt (eqU x) pl.isList (fun w hw=>mem_eqAt rx fx r fs w (by simpa using hw)) ⟨.bl _,H,I,rfl,?_⟩
    rw [show its.toArray.any (eqU x)=its.any (eqU x) by simp,any_eqU r fs]
    exact q
  · obtain⟨its,r,pl,hz⟩:=I.tuple hq
    refine SeqAt.in_tupleAt (eqU x) pl (fun w hw=>mem_eqAt rx fx r fs w (by simpa using hw)) ⟨.bl _,H,I,rfl,?_⟩
    rw [show its.toArray.any (eqU x)=its.any (eqU x) by simp,any_eqU r fs]
    exact q
theorem op_notIn_seq:OpR X (compareOp .NotIn) (rIn X.K true):=by
  intro pins s σ H x y v u Q I rx ry h
  obtain⟨p,xs,rfl,hq,fx,fs,q⟩:=h
  cases ry
  rcases hq with hq | hq
  · obtain⟨its,r,pl,hz⟩:=I.list hq
    refine SeqAt.notIn_listAt (eqU x) pl.isList (fun w hw=>mem_eqAt rx fx r fs w (by simpa using hw)) ⟨.bl _,H,I,rfl,?_⟩
    rw [show its.toArray.any (eqU x)=its.any (eqU x) by simp,any_eqU r fs]
    exact q
  · obtain⟨its,r,pl,hz⟩:=I.tuple hq
    refine SeqAt.notIn_tupleAt (eqU x) pl (fun w hw=>mem_eqAt rx fx r fs w (by simpa using hw)) ⟨.bl _,H,I,rfl,?_⟩
    rw [show its.toArray.any (eqU x)=its.any (eqU x) by simp,any_eqU r fs]
    exact q
theorem call_len_seq:CallR X (.builtin "len") (fun xs H Q=>∃ p ys,xs=[.ref p]/\(SqL X.K H p ys\/SqT X.K H p ys)/\Q (.int ys.length) H):=by
  intro pins s σ H xs us Q I r h
  obtain⟨p,ys,rfl,hq,q⟩:=h
  obtain⟨u,rfl,rx⟩:=vals1 r
  cases rx
  have hn:=line63
  rcases hq with hq | hq
  · obtain⟨its,r',pl,hz⟩:=I.list hq
    have hlen:=r'.length
    exact Calls.call_len_list pl.isList (by simp only [List.size_toArray] <;> omega) ⟨.int ys.length,H,I.tok _,⟨s.toks+1,by rw [List.size_toArray,hlen]⟩,q⟩
  · obtain⟨its,r',pl,hz⟩:=I.tuple hq
    have hlen:=r'.length
    exact len_tuple pl (by simp only [List.size_toArray] <;> omega) ⟨.int ys.length,H,I.tok _,⟨s.toks+1,by rw [List.size_toArray,hlen]⟩,q⟩
theorem call_list_of:CallR X (.type "list") (fun xs H Q=>∃ p ys,xs=[.ref p]/\(SqL X.K H p ys\/SqT X.K H p ys)/\∀ l,H l=none->Q (.ref l) (upd H l (.lst ys))):=by
  intro pins s σ H xs us Q I r h
  obtain⟨p,ys,rfl,hq,q⟩:=h
  obtain⟨u,rfl,rx⟩:=vals1 r
  cases rx
  have fin:∀ (its:List Value),Vals ys its->ys.length<=sizeLine->∀ (h':Heap) (c':Nat),(∀ b o',s.heap.get? b=some o'->h'.get? b=some o')->
      h'.get? s.heap.objs.size=some {cls:=.type "list",dict:=none,data:=.seq its.toArray c',slots:=#[]}->EP X pins σ Q (.ref s.heap.objs.size) {s with heap:=h'}:=fun its r' hz h' c' kp e=>
    ⟨.ref s.heap.objs.size,_,I.laid (t':=s.toks) kp (Nat.le_refl _) (show ObjOk X.prog X.w _ h' _ (.lst ys) from⟨hz,its,c',r',e⟩),rfl,q _ (I.hok.fresh (Nat.le_refl _))⟩
  rcases hq with hq | hq
  · obtain⟨its,r',pl,hz⟩:=I.list hq
    have hlen:=r'.length
    obtain⟨o,ho,hc,n,hd⟩:=pl.isList
    exact call_list_seq p (.inl rfl) ho hc hd (fun h' c' kp e=>fin its r' hz h' c' kp e) (by simp only [List.size_toArray] <;> omega)
  · obtain⟨its,r',pl,hz⟩:=I.tuple hq
    have hlen:=r'.length
    obtain⟨o,ho,hc,n,hd⟩:=pl
    exact call_list_seq p (.inr rfl) ho hc hd (fun h' c' kp e=>fin its r' hz h' c' kp e) (by simp only [List.size_toArray] <;> omega)
theorem call_tuple_of:CallR X (.type "tuple") (fun xs H Q=>∃ p ys,xs=[.ref p]/\((SqL X.K H p ys/\∀ l,H l=none->Q (.ref l) (upd H l (.tup ys)))\/(SqT X.K H p ys/\Q (.ref p) H))):=by
  intro pins s σ H xs us Q I r h
  obtain⟨p,ys,rfl,h⟩:=h
  obtain⟨u,rfl,rx⟩:=vals1 r
  cases rx
  rcases h with ⟨hq,q⟩ | ⟨hq,q⟩
  · obtain⟨its,r',pl,hz⟩:=I.list hq
    have hlen:=r'.length
    refine call_tuple_list pl.isList (fun h' kp=>?_) (by simp only [List.size_toArray] <;> omega)
    have I1:Inv X pins σ H {s with heap:=h'}:=I.kept (t':=s.toks) kp
    have I2:Inv X pins σ (upd H h'.objs.size (.tup ys)) {s with heap:=h'.push {cls:=.type "tuple",data:=.seq its.toArray}}:=
      I1.laid (t':=s.toks) (fun b o e=>Heap.get?_push_of_some _ e) (Nat.le_refl _) (show ObjOk X.prog X.w _ _ _ (.tup ys) from⟨hz,its,r',IsTup.new _ _⟩)
    exact⟨.ref h'.objs.size,_,I2,rfl,q _ (I1.hok.fresh (Nat.le_refl _))⟩
  · obtain⟨its,r',pl,hz⟩:=I.tuple hq
    exact call_tuple_same pl ⟨.ref p,H,I,rfl,q⟩
def tyV (K:PySem.W.Frag) (T:String) (x:V) (H:Hp):Prop:=match x with
  | .str _=>T="str"
  | .int _=>T="int"
  | .ref p=>(T="list"/\∃ xs,SqL K H p xs)\/(T="tuple"/\∃ o,K.lookup p=some o/\o.cls=.type "tuple"/\o.dict=none)\/
      (T="dict"/\((∃ kvs,H p=some (.dK kvs))\/∃ kvs,H p=some (.dT kvs)))\/(T="set"/\∃ S n,H p=some (.set S n))
  | _=>False
theorem tyV_is {pins:List (Addr×Obj)} {σ:St} {H:Hp} {s:Shared} {T:String} {x:V} {v:Value} (I:Inv X pins σ H s) (r:RelV x v) (ty:tyV X.K T x H):
    s.TypeIs v T/\∀ a,v=.ref a->∃ ob,s.heap.get? a=some ob/\ob.dict=none:=by
  cases x with
  | str z=>
    obtain⟨t,rfl⟩:=r
    cases (show T="str" from ty)
    exact⟨typeIs_str s z t,fun _ e=>nomatch e⟩
  | int i=>
    obtain⟨t,rfl⟩:=r
    cases (show T="int" from ty)
    exact⟨typeIs_int s i t,fun _ e=>nomatch e⟩
  | ref p=>
    cases r
    rcases ty with ⟨rfl,xs,hq⟩ | ⟨rfl,o,hk,hc,hd⟩ | ⟨rfl,hk⟩ | ⟨rfl,S,n,hk⟩
    · obtain⟨its,_,pl,_⟩:=I.list hq
      refine⟨pl.isList.typeIs,fun a e=>?_⟩
      cases e
      obtain⟨o,n,e,c,hd,_⟩:=pl
      exact⟨o,e,hd⟩
    · refine⟨⟨o,I.kIn p o hk,hc⟩,fun a e=>?_⟩
      cases e
      exact⟨o,I.kIn _ o hk,hd⟩
    · have z:∃ o,s.heap.get? p=some o/\o.ExactDict:=by
        rcases hk with ⟨kvs,hk⟩ | ⟨kvs,hk⟩
        · obtain⟨_,_,_,_,o,_,_,e,ex,_⟩:=I.hok p _ hk
          exact⟨o,e,ex⟩
        · obtain⟨_,_,_,_,o,_,_,e,ex,_⟩:=I.hok p _ hk
          exact⟨o,e,ex⟩
      obtain⟨o,e,ex⟩:=z
      refine⟨⟨o,e,ex.1⟩,fun a e2=>?_⟩
      cases e2
      exact⟨o,e,ex.2.1⟩
    · obtain⟨o,_,_,_,e,ex,_⟩:=I.hok p _ hk
      refine⟨⟨o,e,ex.1⟩,fun a e2=>?_⟩
      cases e2
      exact⟨o,e,ex.2.1⟩
  | _=>exact False.elim ty
def tBM0 (K:PySem.W.Frag) (T:String) (r:V->List V->Hp->VK->Prop) (to:TE):TE:=fun σ H Q=>to σ H fun x H1=>tyV K T x H1/\r x [] H1 Q
def tBM (K:PySem.W.Frag) (T:String) (r:V->List V->Hp->VK->Prop) (to:TE) (t:TA):TE:=fun σ H Q=>to σ H fun x H1=>tyV K T x H1/\t σ H1 fun xs H2=>r x xs H2 Q
variable {o e:Expr} {es:List Expr} {to:TE} {t:TA} {name:Str} {apos cpos:Pos} {T id:String} {r:V->List V->Hp->VK->Prop}
theorem pe_bm0 (pa:PlainAttrs T) (slot:Slot T name id) (hty:typeOf (.builtin id)=pure (.type "method_descriptor")) (hm:MtR X id r) (ho:PE X o to)
    (hbase:attributeBase o name X.env (eval o X.env)=eval o X.env:=by rfl) (hline:(apos.endLine == cpos.line)=true:=by rfl):PE X (.Call (.Attribute o name apos) [] [] cpos) (tBM0 X.K T r to):=by
  intro pins s σ H Q I h
  refine wpAny_Call_method0_late hbase hline (thn (ho pins s σ H _ I h) fun v s1 ⟨x,H1,I1,r1,ty,q1⟩=>?_)
  obtain⟨h1,h2⟩:=tyV_is I1 r1 ty
  exact⟨T,id,pa,slot,hty,h1,h2,Calls.callWith_builtin rfl (PySem.evalArgs_none (hm pins s1 σ H1 x [] v [] Q I1 r1 .nil q1))⟩
theorem pe_bm (pa:PlainAttrs T) (slot:Slot T name id) (hty:typeOf (.builtin id)=pure (.type "method_descriptor")) (hm:MtR X id r) (ho:PE X o to) (ha:PA X (e::es) t)
    (hbase:attributeBase o name X.env (eval o X.env)=eval o X.env:=by rfl)
    (hfew:((backTo cpos (starEach (e::es) X.env)).all (fun x=>!x.1) && (backToKw cpos (keywordEach [] X.env)).all (fun x=>x.1.isSome)
      && decide ((e::es).length+([]:List Keyword).length+(if ([]:List Keyword).isEmpty then 0 else 1) < 30))=true:=by rfl)
    (hline:(apos.endLine == cpos.line)=true:=by rfl) (hs:starEach (e::es) X.env=(false,eval e X.env)::starEach es X.env:=by rfl) (hplain:(backTo cpos (starEach es X.env)).any (·.1)=false:=by rfl):
    PE X (.Call (.Attribute o name apos) (e::es) [] cpos) (tBM X.K T r to t):=by
  intro pins s σ H Q I h
  refine wpAny_Call_method_late hbase hfew hline rfl (thn (ho pins s σ H _ I h) fun v s1 ⟨x,H1,I1,r1,ty,q1⟩=>?_)
  obtain⟨h1,h2⟩:=tyV_is I1 r1 ty
  refine⟨T,id,pa,slot,hty,h1,h2,?_⟩
  have hA:=ha cpos pins s1 σ H1 _ I1 q1
  rw [hs] at hA ⊢
  refine Calls.callWith_builtin (by show(false || (backTo cpos (starEach es X.env)).any (·.1))=false; rw [hplain] <;> rfl) (Calls.evalArgs_plain ?_)
  exact thn hA fun us s2 ⟨vs,H2,I2,r2,q2⟩=>hm pins s2 σ H2 x vs v us Q I2 r1 r2 q2
end
def MtM (X:Cx) (id:String) (r:V->List V->Hp->VK->Prop):Prop:=
  ∀ (pins:List (Addr×Obj)) (s:Shared) (σ:St) (H:Hp) (x:V) (xs:List V) (v:Value) (us:List Value) (Q:VK),Inv X pins σ H s->RelV x v->Vals xs us->r x xs H Q->
    wpAny (model X.prog X.w) X.A (call (.builtin id) (v::us)) (EP X pins σ Q) X.xe s
theorem Vals.one:∀ {x:V} {us:List Value},Vals [x] us->∃ u,us=[u]/\RelV x u
  | _,_,.cons r .nil=>⟨_,rfl,r⟩
theorem Vals.zero:∀ {us:List Value},Vals [] us->us=[]
  | _,.nil=>rfl
theorem Vals.dropLast {xs:List V} {us:List Value} (h:Vals xs us):Vals xs.dropLast us.dropLast:=by
  induction h with
  | nil=>exact .nil
  | cons r t ih=>
    cases t with
    | nil=>exact .nil
    | cons q t'=>exact .cons r ih
theorem Vals.eraseIdx:∀ {xs:List V} {us:List Value} (i:Nat),Vals xs us->Vals (xs.eraseIdx i) (us.eraseIdx i)
  | _,_,_,.nil=>.nil
  | _,_,0,.cons _ t=>t
  | _,_,i+1,.cons r t=>.cons r (Vals.eraseIdx i t)
theorem Vals.rep {xs:List V} {us:List Value} (h:Vals xs us):∀ k:Nat,Vals (List.replicate k xs).flatten (List.replicate k us).flatten
  | 0=>.nil
  | k+1=>by
    rw [List.replicate_succ,List.replicate_succ,List.flatten_cons,List.flatten_cons]
    exact Vals.append h (Vals.rep h k)
theorem erase_last {α:Type} (l:List α):l.eraseIdx (l.length - 1)=l.dropLast:=by
  induction l with
  | nil=>rfl
  | cons a r ih=>
    cases r with
    | nil=>rfl
    | cons b r=>
      have e:(a::b::r).length - 1=((b::r).length - 1)+1:=by
        have h1:(a::b::r).length=r.length+2:=rfl
        have h2:(b::r).length=r.length+1:=rfl
        omega
      rw [e,List.eraseIdx_cons_succ,ih]
      all_goals rfl
theorem len_erase {α:Type}:∀ (l:List α) (i:Nat),(l.eraseIdx i).length<=l.length
  | [],_=>Nat.le_refl _
  | _::_,0=>Nat.le_succ _
  | _::r,i+1=>Nat.succ_le_succ (len_erase r i)
theorem foldl_rep (its:List Value):∀ (k:Nat) (acc:List Value),
    List.foldl (fun x1 x2=>x1++x2) acc.toArray (List.replicate k its.toArray)=(acc++(List.replicate k its).flatten).toArray
  | 0,acc=>by simp
  | k+1,acc=>by
    have e:acc.toArray++its.toArray=(acc++its).toArray:=by simp
    have e2:(acc++its)++(List.replicate k its).flatten=acc++(List.replicate (k+1) its).flatten:=by
      rw [List.replicate_succ,List.flatten_cons,List.append_assoc]
    rw [<- e2,<- foldl_rep its k (acc++its),<- e,List.replicate_succ,List.foldl_cons]
section
variable {X:Cx} {pins:List (Addr×Obj)} {σ:St} {H:Hp} {s:Shared} {l b:Addr} {xs ys zs:List V}
theorem Inv.lset {its its':List Value} {n:Nat} {f:Array Value->Array Value} {t':Nat} (I:Inv X pins σ H s) (hH:H l=some (.lst xs))
    (e:s.heap.get? l=some {cls:=.type "list",data:=.seq its.toArray n}) (hf:f its.toArray=its'.toArray) (hv:Vals ys its') (hz:ys.length<=sizeLine):
    Inv X pins σ (upd H l (.lst ys)) {s with heap:=s.heap.update l (Obj.mapSeq f),toks:=t'}:=by
  have q:=PySem.IsL.update e f
  rw [hf] at q
  refine I.write (x:=l) (e:=l) (by rw [hH]; exact trivial) (.inl rfl) (fun b' u hb hu=>(Heap.get?_update_other s.heap (Obj.mapSeq f) (Ne.symm hb)).trans hu) ⟨_,q⟩ ?_
  exact⟨hz,its',_,hv,q⟩
theorem Inv.lnew {its:List Value} {t':Nat} (I:Inv X pins σ H s) (hv:Vals ys its) (hz:ys.length<=sizeLine):
    Inv X pins σ (upd H s.heap.objs.size (.lst ys)) {s with heap:=s.heap.push {cls:=.type "list",data:=.seq its.toArray},toks:=t'}:=
  I.laid (fun _ _ q=>Heap.get?_push_of_some _ q) (Nat.le_refl _) ⟨hz,its,0,hv,Heap.get?_push_size _ rfl⟩
theorem Inv.fresh (I:Inv X pins σ H s):H s.heap.objs.size=none:=I.hok.fresh (Nat.le_refl _)
theorem Inv.lstM (I:Inv X pins σ H s) (hH:H l=some (.lst xs)):xs.length<=sizeLine/\∃ (its:List Value) (n:Nat),Vals xs its/\xs.length=its.length/\s.heap.get? l=some {cls:=.type "list",data:=.seq its.toArray n}:=by
  obtain⟨z,its,n,r,e⟩:=I.hok l _ hH
  exact⟨z,its,n,r,r.length,e⟩
theorem notLongL {n:Nat} (h:n<=sizeLine):Builtin.List.listTooLong n=false:=by
  unfold Builtin.List.listTooLong
  exact decide_eq_false (by omega)
end
section
variable {X:Cx}
def rAppend:V->List V->Hp->VK->Prop:=fun x vs H Q=>∃ l xs y,x=.ref l/\vs=[y]/\H l=some (.lst xs)/\xs.length < sizeLine/\Q .non (upd H l (.lst (xs++[y])))
theorem mt_append:MtM X "list.append" rAppend:=by
  intro pins s σ H x vs v us Q I rx rv h
  obtain⟨l,xs,y,rfl,rfl,hH,hz,q⟩:=h
  cases rx
  obtain⟨u,rfl,ru⟩:=rv.one
  obtain⟨z,its,n,r,hl,e⟩:=I.lstM hH
  refine call_meets F.slot_list_append ⟨_,e,rfl⟩ F.entry_list_append (F.args_list_append_2 _ _) (PySem.list_append l its.toArray n u (by rw [List.size_toArray]; omega)) ⟨e,?_⟩
  refine⟨.non,_,I.lset (its':=its++[u]) hH e (by simp) (r.append (.cons ru .nil)) ?_,rfl,q⟩
  rw [List.length_append,List.length_singleton]
  omega
def rExtend:V->List V->Hp->VK->Prop:=fun x vs H Q=>∃ l b xs zs,x=.ref l/\vs=[.ref b]/\H l=some (.lst xs)/\H b=some (.lst zs)/\xs.length+zs.length<=sizeLine/\Q .non (upd H l (.lst (xs++zs)))
theorem mt_extend:MtM X "list.extend" rExtend:=by
  intro pins s σ H x vs v us Q I rx rv h
  obtain⟨l,b,xs,zs,rfl,rfl,hH,hB,hz,q⟩:=h
  cases rx
  obtain⟨u,rfl,ru⟩:=rv.one
  cases ru
  obtain⟨z,its,n,r,hl,e⟩:=I.lstM hH
  obtain⟨z2,its2,n2,r2,hl2,e2⟩:=I.lstM hB
  have hsz:its.toArray.size+its2.toArray.size<=sizeLine:=by rw [List.size_toArray,List.size_toArray]; omega
  have hlong:¬ (!its.toArray.isEmpty && Builtin.List.listTooLong (its.toArray.size+its2.toArray.size))=true:=by
    rw [notLongL hsz,Bool.and_false]
    exact Bool.false_ne_true
  refine call_meets F.slot_list_extend ⟨_,e,rfl⟩ F.entry_list_extend (F.args_list_extend_2 _ _)
    (AutoSeq1.list_extend_list_list_0 l its.toArray n b its2.toArray n2 hlong (by rw [List.size_toArray]; omega) (by omega)) ⟨e,e2,?_⟩
  refine⟨.non,_,I.lset (its':=its++its2) hH e (by simp) (r.append r2) ?_,rfl,q⟩
  rw [List.length_append]
  omega
def rPop:V->List V->Hp->VK->Prop:=fun x vs H Q=>∃ l xs y,x=.ref l/\vs=[]/\H l=some (.lst xs)/\xs[xs.length - 1]?=some y/\Q y (upd H l (.lst xs.dropLast))
theorem mt_pop:MtM X "list.pop" rPop:=by
  intro pins s σ H x vs v us Q I rx rv h
  obtain⟨l,xs,y,rfl,rfl,hH,hy,q⟩:=h
  cases rx
  have hus:=rv.zero
  subst hus
  obtain⟨z,its,n,r,hl,e⟩:=I.lstM hH
  obtain⟨u,hu,ru⟩:=r.get hy
  have hy':its.toArray[its.toArray.size - 1]?=some u:=by
    show its.toArray[its.length - 1]?=some u
    rw [<- Array.getElem?_toList,<- hl]
    exact hu
  refine call_meets F.slot_list_pop ⟨_,e,rfl⟩ F.entry_list_pop (F.args_list_pop_1 _) (MeetsSeq.list_pop_last l its.toArray n u hy' (by rw [List.size_toArray]; omega)) ⟨e,?_⟩
  refine⟨y,_,I.lset (its':=its.dropLast) hH e ?_ r.dropLast ?_,ru,q⟩
  · show its.toArray.eraseIdxIfInBounds (its.toArray.size - 1)=its.dropLast.toArray
    rw [List.size_toArray,List.eraseIdxIfInBounds_toArray,erase_last]
  · rw [List.length_dropLast]
    omega
def rPopAt:V->List V->Hp->VK->Prop:=fun x vs H Q=>∃ l xs i k y,x=.ref l/\vs=[.int i]/\H l=some (.lst xs)/\-(2 ^ 63)<=i/\i < 2 ^ 63/\seqIndex? i xs.length=some k/\xs[k]?=some y/\Q y (upd H l (.lst (xs.eraseIdx k)))
theorem mt_popAt:MtM X "list.pop" rPopAt:=by
  intro pins s σ H x vs v us Q I rx rv h
  obtain⟨l,xs,i,k,y,rfl,rfl,hH,h1,h2,hk,hy,q⟩:=h
  cases rx
  obtain⟨u,rfl,ru⟩:=rv.one
  obtain⟨t,rfl⟩:=ru
  obtain⟨z,its,n,r,hl,e⟩:=I.lstM hH
  obtain⟨w,hw,rw'⟩:=r.get hy
  refine call_meets F.slot_list_pop ⟨_,e,rfl⟩ F.entry_list_pop (F.args_list_pop_2 _ _)
    (MeetsSeq.list_pop_at l its.toArray n i t k w (fitsIndex_both h1 h2) (by rw [List.size_toArray,<- hl]; exact hk) (by rw [<- Array.getElem?_toList]; exact hw) (by rw [List.size_toArray]; omega)) ⟨e,?_⟩
  refine⟨y,_,I.lset (its':=its.eraseIdx k) hH e ?_ (r.eraseIdx k) ?_,rw',q⟩
  · show its.toArray.eraseIdxIfInBounds k=(its.eraseIdx k).toArray
    rw [List.eraseIdxIfInBounds_toArray]
  · have:=len_erase xs k
    omega
def rCat:R2:=fun x y H Q=>∃ l b xs zs,x=.ref l/\y=.ref b/\H l=some (.lst xs)/\H b=some (.lst zs)/\xs.length+zs.length<=sizeLine/\∀ p,H p=none->Q (.ref p) (upd H p (.lst (xs++zs)))
theorem op_cat:OpR X (binaryOp .Add) rCat:=by
  intro pins s σ H x y v u Q I rx ry h
  obtain⟨l,b,xs,zs,rfl,rfl,hH,hB,hz,q⟩:=h
  cases rx
  cases ry
  obtain⟨z,its,n,r,hl,e⟩:=I.lstM hH
  obtain⟨z2,its2,n2,r2,hl2,e2⟩:=I.lstM hB
  refine PySem.P.add_list e e2 ?_ (by rw [List.size_toArray,List.size_toArray]; omega)
  have ea:its.toArray++its2.toArray=(its++its2).toArray:=by simp
  rw [ea]
  exact⟨.ref _,_,I.lnew (t':=s.toks) (r.append r2) (by rw [List.length_append]; omega),rfl,q _ I.fresh⟩
def rRep:R2:=fun x y H Q=>∃ l k xs,x=.ref l/\y=.int k/\H l=some (.lst xs)/\-(2 ^ 63)<=k/\k < 2 ^ 63/\xs.length*k.toNat<=sizeLine/\
  ∀ p,H p=none->Q (.ref p) (upd H p (.lst (List.replicate k.toNat xs).flatten))
theorem len_rep {α:Type} (xs:List α) (k:Nat):(List.replicate k xs).flatten.length=k*xs.length:=by
  induction k with
  | zero=>simp
  | succ k ih=>rw [List.replicate_succ,List.flatten_cons,List.length_append,ih,Nat.succ_mul,Nat.add_comm]
theorem op_rep:OpR X (binaryOp .Mult) rRep:=by
  intro pins s σ H x y v u Q I rx ry h
  obtain⟨l,k,xs,rfl,rfl,hH,h1,h2,hz,q⟩:=h
  cases rx
  obtain⟨t,rfl⟩:=ry
  obtain⟨z,its,n,r,hl,e⟩:=I.lstM hH
  have hlen:its.toArray.size*k.toNat<=sizeLine:=by rw [List.size_toArray,<- hl]; exact hz
  have hcap:¬ its.toArray.size*k.toNat > (2 ^ 63 - 1) / 8:=by
    have:(sizeLine:Nat)<=(2 ^ 63 - 1) / 8:=by decide
    omega
  have hfit:¬ (!Builtin.List.listFitsIndex k)=true:=by
    rw [fitsIndex_both h1 h2]
    exact Bool.false_ne_true
  have hlong:¬ Builtin.List.listTooLong (its.toArray.size*k.toNat)=true:=by
    rw [notLongL hlen]
    exact Bool.false_ne_true
  have hnew:List.foldl (fun x1 x2=>x1++x2) #[] (List.replicate (if its.toArray.isEmpty=true then 0 else k.toNat) its.toArray)=(List.replicate k.toNat its).flatten.toArray:=by
    have f0:∀ m:Nat,List.foldl (fun x1 x2=>x1++x2) #[] (List.replicate m its.toArray)=(List.replicate m its).flatten.toArray:=fun m=>by
      have:=foldl_rep its m []
      rw [List.nil_append] at this
      exact this
    rw [f0]
    cases its with
    | nil=>simp
    | cons a r'=>rw [if_neg (by simp)]
  refine wpAny_binaryOp_repeat_ref (T:="list") (U:="int") (by decide) ⟨_,e,rfl⟩ (fun s'=>typeIs_int s' k t) noFill_list_mul F.fills_int_mul F.slot_int_rmul repeat_list F.slot_int_index.lookup
    (call_meets F.slot_int_rmul (typeIs_int s k t) F.entry_int_rmul (F.args_int_rmul_2 _ _) (int___rmul___int_list k t l its.toArray n)
      ⟨e,rfl,⟨_,e,rfl⟩,call_meets F.slot_list_mul ⟨_,e,rfl⟩ F.entry_list_mul (F.args_list_mul_2 _ _) (AutoListH.list___mul___list_int_3 l its.toArray n k t hfit hcap hlong) ⟨e,?_⟩⟩)
  rw [hnew]
  exact⟨.ref _,_,I.lnew (t':=s.toks) (r.rep k.toNat) (by rw [len_rep,Nat.mul_comm]; exact hz),rfl,q _ I.fresh⟩
end
def IsD (H:Hp) (a:Addr):Prop:=(∃ kvs,Rd H a (.dK kvs))\/∃ kvs,Rd H a (.dT kvs)
end L2
namespace Att
open PySem PySem.W PySem.Calls PyProof.Rows
theorem ints_of_wellAll {P:Params} {h:Heap}:∀ (ns:List Int) (vs:List Value),WellAll P h vs (ns.map WData.int)->IntsAre vs ns:=by
  intro ns
  induction ns with
  | nil=>
    intro vs w
    rw [List.map_nil] at w
    cases w
    exact .nil
  | cons n ns ih=>
    intro vs w
    rw [List.map_cons] at w
    cases w with
    | cons a b=>
      cases a
      exact .cons _ _ (ih _ b)
theorem script_of {l:OpenLaw} {n:Nat} (hn:l.most=some n) {P:Params} {h:Heap} {args:List WData} {vals:List Value}
    (hpre:l.row.toRowW.claim.pre args=true) (hwl:WellAll P h vals args):
    ∃ a vs ns,vals=[Value.ref a]/\args=[WData.list (ns.map WData.int)]/\h.get? a=some {cls:=.type "list",data:=.seq vs.toArray}/\IntsAre vs ns/\ns.length<=n:=by
  have hsh:WShape.hasAll [] args [.list .int]=true:=(pre_splitW hpre).1
  have hc:l.pre.holds [] {args:=args}=true:=(pre_splitW hpre).2
  obtain⟨d,r,rfl,h1,h2⟩:=hasAllW_cons hsh
  obtain rfl:=hasAllW_nil h2
  obtain⟨xs,rfl,h3⟩:=hasW_list h1
  obtain⟨ns,rfl⟩:=items_int h3
  have hlen:ns.length<=n:=by
    unfold OpenLaw.pre at hc
    have h4:(WTm.not (.lt (.lit (.int (n:Int))) (.len (.arg 0)))).holds [] {args:=[.list (ns.map .int)]}=true:=by
      have h4:=(holds_andW hc).1
      rw [hn] at h4
      exact h4
    have h5:=condW_of h4 (w_not (w_lt w_lit (w_len_list (w_arg rfl))))
    rw [List.length_map] at h5
    refine Nat.le_of_not_lt fun q=>?_
    have q':(n:Int) < ((ns.length:Nat):Int):=by omega
    first
      | (rw [decide_eq_true q'] at h5; exact absurd h5 (by decide))
      | (simp at h5; omega)
  cases hwl with
  | cons w1 w2=>
    cases w2
    cases w1 with
    | list ho hall=>exact⟨_,_,ns,rfl,rfl,ho,ints_of_wellAll ns _ hall,hlen⟩
theorem post_true (l:OpenLaw) (args:List WData):l.row.toRowW.claim.post args (.bool true) args=true:=
  postW_of (r:=l.row.toRowW) (X:=(true == true))
    (show WShape.has [] (.bool true) .bool=true by first | rfl | decide | simp [WShape.has,WShape.arms,WShape.armsAll])
    (show (WTm.eq .res (.lit (.bool true))).value [] {args:=args,res:=some (.bool true),after:=args}=some (.bool (true == true)) from w_eq_bool (w_res rfl) w_lit) rfl
theorem attach_call {l:OpenLaw} {n:Nat} {q:Program} {loose:List Str} {XP:(Str->Option Value)->Heap->Prop} {YP:World->Heap->Prop} {d:DefRec}
    (hn:l.most=some n) (hdf:d.params.defaults=[])
    (call:∀ (w:World) (s₀ s₁:Shared) (mg mb:Str->Option Value) (fa:Addr) (o:Obj) (pm cd doc:Value) (a:Addr) (vs:List Value) (ns:List Int),
      Ground q loose [] XP w s₀ mg mb s₁.heap->YP w s₁.heap->
      s₁.heap.get? fa=some o->o.data=.func (docDef d.name d.params d.body d.scope pm cd doc)->s₁.heap.CodeRec cd d.name->mg d.name=some (.ref fa)->
      s₁.heap.get? a=some {cls:=.type "list",data:=.seq vs.toArray}->IntsAre vs ns->ns.length<=n->s₁.gens=#[]->
      codeAny (model l.prog w) callerA (.call (.ref fa) ⟨[.ref a],[]⟩) (fun r s'=>r=.ok (.ret (.bool true))/\OldK s₁.heap s'.heap/\s'.os=s₁.os/\AllBare s'.gens) s₁):
    WalkO q loose XP YP l.row.toRowW d [] (fun f vs=>PySem.call f vs):=by
  intro w s₀ s₁ mg mb G Y fa o pm cd doc dV kV ho hd hcd hD hmg hg args vals as hpre hlay hrd hwl hlo
  obtain rfl:dV=.none:=Dflts.none hD hdf
  obtain rfl:kV=.none:=Dflts.noKw hD
  obtain⟨a,vs,ns,rfl,rfl,hobj,hints,hlen⟩:=script_of hn hpre hwl
  refine enter_call (codeAny_mono (call w s₀ s₁ mg mb fa o pm cd doc a vs ns G Y ho (fd_plain hd) hcd hmg hobj hints hlen hg) fun r s' hq=>?_)
  obtain⟨rfl,h2,h3,h4⟩:=hq
  exact⟨.inl ⟨.bool true,.bool true,[],rfl,fun _=>rfl,.bool true,post_true l _,fun _=>⟨List.Pairwise.nil,fun _ hm=>(nomatch hm)⟩⟩,h2,h3,h4⟩
section
variable {prog:Program} {w:World} {A:Around} {E:Value->Shared->Prop} {s:Shared} {K:Frag}
def ledger (h:Heap) (L d:Addr):List (Addr×Obj):=(List.range h.objs.size).filterMap fun a=>if a=L\/a=d then none else(h.get? a).map fun o=>(a,o)
end
end Att
namespace L2
open PySem PySem.Spec PyProof.Rows
theorem vals_ints:∀ {vs:List Value} {ns:List Int},IntsAre vs ns->Vals (ns.map V.int) vs
  | _,_,.nil=>.nil
  | _,_,.cons n t h=>.cons ⟨t,rfl⟩ (vals_ints h)
def Only (H:Hp):Prop:=∀ b,H b=none\/∃ o xs,H b=some (.frz o (.lst xs))
theorem law_call {P:Program} {w:World} {K:PySem.W.Frag} {mg mb:Str->Option Value} {CX:CXT} {k:Nat} {fa a:Addr} {fd:FuncData} {x:Str} {sp:Sp} {s₁:Shared} {vs:List Value} {ns:List Int}
    (KX:K.In s₁.heap) (hns:s₁.heap.Ns mainGlobals mg) (hb:s₁.heap.Ns builtinsNs mb) (hbb:∀ x:Str,x≠"__name__"->mb x=bootBuiltins x) (hlim:s₁.heap.NoLimit) (hg:s₁.gens=#[])
    (ha:s₁.heap.get? a=some {cls:=.type "list",data:=.seq vs.toArray}) (hi:IntsAre vs ns) (hl:ns.length<=sizeLine) (hr:Room k callerA)
    (F:∀ base:Heap,K.In base->base.Ns mainGlobals mg->FnOk P w K mg base CX k fa fd [x] sp) (hbind:∀ (s:Shared) (u:Value),BindsTo s fd ⟨[u],[]⟩ [(x,u)])
    (hsp:∀ H:Hp,Only H->SqL K H a (ns.map V.int)->sp [.ref a] H (fun v _=>v=.bl true) fun _ _ _=>False)
    (hCX:∀ H e s',CX [] H s₁ (fun _ _ _=>False) e s'->False):
    codeAny (model P w) callerA (.call (.ref fa) ⟨[.ref a],[]⟩) (fun r s'=>r=.ok (.ret (.bool true))/\OldK s₁.heap s'.heap/\s'.os=s₁.os/\AllBare s'.gens) s₁:=by
  have rv:=vals_ints hi
  have lenV:=hi.length
  have core:∀ H:Hp,Only H->SqL K H a (ns.map V.int)->HOk P w H s₁.heap->(∀ b,H b≠none->b=a)->(H a≠none->K.lookup a=none)->
      codeAny (model P w) callerA (.call (.ref fa) ⟨[.ref a],[]⟩) (fun r s'=>r=.ok (.ret (.bool true))/\OldK s₁.heap s'.heap/\s'.os=s₁.os/\AllBare s'.gens) s₁:=by
    intro H hO hS hok hA hK
    have base_of:∀ {b:Addr} {o:Obj},s₁.heap.get? b=some o->H b=none->(hidT s₁.heap H).get? b=some o:=fun e n=>hidT_get e n
    have noA:∀ {b:Addr} {o:Obj} {es:Array DictEntry} {ep:Nat},s₁.heap.get? b=some o->o.data=.dict es ep->H b=none:=fun {b o es ep} e d=>by
      cases q:H b with
      | none=>rfl
      | some u=>
        have e':b=a:=hA b (by rw [q]; simp)
        subst e'
        rw [ha] at e; cases e
        have d':Data.seq vs.toArray _=Data.dict es ep:=d
        cases d'
    have nsK:∀ {b:Addr} {m:Str->Option Value},s₁.heap.Ns b m->(hidT s₁.heap H).Ns b m:=fun {b m} ⟨o,es,ep,e,d,r⟩=>⟨o,es,ep,base_of e (noA e d),d,r⟩
    have hKb:K.In (hidT s₁.heap H):=fun b o e=>base_of (KX b o e) (by
      cases q:H b with
      | none=>rfl
      | some u=>
        have e':b=a:=hA b (by rw [q]; simp)
        subst e'
        rw [hK (by rw [q]; simp)] at e; cases e)
    have hM:Mod K mg (hidT s₁.heap H):=⟨hKb,nsK hns,⟨mb,nsK hb,hbb⟩,let ⟨mc,h1,h2⟩:=hlim; ⟨mc,nsK h1,h2⟩⟩
    have e0:Env0 P w K mg (hidT s₁.heap H) callerA [] s₁ H:=⟨rfl,hM,fun b o e=>of_hidT e,Nat.le_of_eq (hidT_size _ _),trivial,fun b hb=>absurd (show b∈([]:List Addr) from hb) (by simp),hok,.of_eq hg⟩
    refine codeAny_mono ((F _ hKb (nsK hns)).run callerA [] s₁ H ⟨[.ref a],[]⟩ [.ref a] [.ref a] _ _ hr e0 (hbind s₁ (.ref a)) (.cons rfl .nil) (hsp H hO hS)) fun r s' h=>?_
    cases r with
    | error e=>exact(hCX H e s' h).elim
    | ok fl=>
      cases fl with
      | next=>exact False.elim h
      | brk=>exact False.elim h
      | cont=>exact False.elim h
      | ret u=>
        obtain⟨v,H',os,bare,un,hok',r',q⟩:=h
        have q':v=.bl true:=q
        subst q'
        obtain rfl:u=Value.bool true:=r'
        refine⟨rfl,OldK.of_keep fun b o e=>?_,os,bare⟩
        cases q:H b with
        | none=>exact un.keep b o e q (by intro z; exact absurd (show b∈([]:List Addr) from z) (by simp)) (by simp)
        | some u=>
          rcases hO b with z | ⟨ob,xs,z⟩
          · rw [q] at z; cases z
          · have z2:=un.frzs b ob _ z
            obtain⟨e1,_⟩:=hok b _ z
            obtain⟨e2,_⟩:=hok' b _ z2
            rw [e] at e1; cases e1
            exact e2
  cases hk:K.lookup a with
  | some o=>
    have e:=KX a o hk
    rw [ha] at e
    cases e
    refine core (fun _=>none) (fun _=>.inl rfl) (.inr ⟨_,vs.toArray,_,hk,rfl,rfl,rfl,by rw [List.size_toArray,lenV]; exact hl,by simpa using rv⟩) (fun b u z=>by have z':(none:Option HO)=some u:=z; cases z') (fun b z=>absurd rfl z) fun z=>absurd rfl z
  | none=>
    refine core (fun b=>if b=a then some (.frz {cls:=.type "list",data:=.seq vs.toArray} (.lst (ns.map V.int))) else none) (fun b=>?_) (.inl (.inr ⟨{cls:=.type "list",data:=.seq vs.toArray},if_pos rfl⟩)) (fun b u z=>?_) (fun b z=>?_) fun _=>hk
    · by_cases hb:b=a
      · exact .inr ⟨_,_,if_pos hb⟩
      · exact .inl (if_neg hb)
    · by_cases hb:b=a
      · have z':=(if_pos hb).symm.trans z
        cases z'
        subst hb
        exact⟨ha,by rw [List.length_map]; exact hl,vs,_,rv,ha⟩
      · have z':=(if_neg hb).symm.trans z
        cases z'
    · by_cases hb:b=a
      · exact hb
      · exact absurd (if_neg hb) z
abbrev KOf {K:PySem.W.Frag} {h:Heap} (_:K.In h):PySem.W.Frag:=K
theorem walk_of {l:PySem.W.OpenLaw} {n k:Nat} {q:Program} {loose:List Str} {XP:(Str->Option Value)->Heap->Prop} {YP:World->Heap->Prop} {d:DefRec} {K:Params->PySem.W.Frag} {CX:World->CXT} {sp:World->Sp} {x:Str}
    (hn:l.most=some n) (hn2:n<=sizeLine) (hdf:d.params.defaults=[]) (hr:Room k callerA)
    (hY:∀ (w:World) (h:Heap),YP w h->(K w.params).In h)
    (F:∀ (w:World) (mg:Str->Option Value) (fa:Addr) (h:Heap),(K w.params).In h->h.Ns mainGlobals mg->mg d.name=some (.ref fa)->
      ∃ fd:FuncData,(∀ (s:Shared) (u:Value),BindsTo s fd ⟨[u],[]⟩ [(x,u)])/\
        ∀ base:Heap,(K w.params).In base->base.Ns mainGlobals mg->FnOk l.prog w (K w.params) mg base (CX w) k fa fd [x] (sp w))
    (hsp:∀ (w:World) (H:Hp) (a:Addr) (ns:List Int),ns.length<=n->Only H->SqL (K w.params) H a (ns.map V.int)->sp w [.ref a] H (fun v _=>v=.bl true) fun _ _ _=>False)
    (hCX:∀ (w:World) (H:Hp) (s:Shared) (e:Value) (s':Shared),CX w [] H s (fun _ _ _=>False) e s'->False):
    PySem.W.WalkO q loose XP YP l.row.toRowW d [] (fun f vs=>PySem.call f vs):=by
  refine Att.attach_call hn hdf fun w s₀ s₁ mg mb fa o pm cd doc a vs ns G Y ho hd hcd hmg hobj hints hlen hg=>?_
  have KX:=hY w _ Y
  obtain⟨fd,hb,hF⟩:=F w mg fa _ KX G.T.g hmg
  exact law_call KX G.T.g G.T.b G.T.builtins G.T.nolimit hg hobj hints (Nat.le_trans hlen hn2) hr hF hb (fun H hO hS=>hsp w H a ns hlen hO hS) fun H e s'=>hCX w H s₁ e s'
def defArgs (s:Stmt):Arguments:=match s with
  | .FunctionDef _ a _ _ _ _ _ _ _ _=>a
  | _=>{posonlyargs:=[],args:=[],vararg:=none,kwonlyargs:=[],kw_defaults:=[],kwarg:=none,defaults:=[]}
def defBody (s:Stmt):List Stmt:=match s with
  | .FunctionDef _ _ b _ _ _ _ _ _ _=>b
  | _=>[]
def defScope (s:Stmt):Scope:=match s with
  | .FunctionDef _ _ _ _ _ _ sc _ _ _=>sc
  | _=>{kind:=.function,names:=[],isGenerator:=false,isCoroutine:=false}
abbrev CX0:CXT:=fun _ _ _ _ _ _=>False
abbrev E0:XK:=fun _ _ _=>False
theorem pass0 {X:Cx}:Passes CX0 X E0:=fun _ _ _ _ _ _ _ h=>h.elim
structure Fun (K:PySem.W.Frag) (x qual:Str) (st:Stmt) (f:Addr) (fd:FuncData):Prop where
  ex:∃ (oc:Value) (od:Option Addr) (kV doc pm:Value) (an:Option Addr) (cdv ct:Value) (osl:Array (Option Value)),
    fd=PySem.W.fnOf x qual (defArgs st) (defBody st) (defScope st) .none kV doc pm an cdv ct/\K.lookup f=some ⟨oc,od,.func fd,osl⟩/\PySem.W.codeIn K cdv qual=true
  kp:PySem.W.keepIn K (.ref f)=true
section
variable {P:Program} {w:World} {K:PySem.W.Frag} {mg:Str->Option Value} {base:Heap}
theorem Fun.ok {x qual:Str} {st:Stmt} {f:Addr} {fd:FuncData} {N ps:List Str} {k:Nat} {sp:Sp} (F:Fun K x qual st f fd) (S:FnScope N ps (defScope st)) (len:∀ vs H Q E,sp vs H Q E->vs.length=ps.length)
    (hbody:∀ (cdv:Value) (A:Around) (outer:List Env) (s:Shared) (H:Hp) (vs:List V) (Q:VK) (E:XK),Room k (A.deeper (envOfC qual (defScope st) s.heap.objs.size f cdv))->sp vs H Q E->
      ∃ t,PSs (cxOf CX0 P w K mg base N qual (defScope st) f cdv A outer s H E).nox (defBody st) t/\t {nx:=fun _ H'=>Q .non H',rt:=Q} (start N vs) H):FnOk P w K mg base CX0 (k+1) f fd ps sp:=by
  obtain⟨oc,od,kV,doc,pm,an,cdv,ct,osl,rfl,lk,hcd⟩:=F.ex
  refine fn_of lk hcd S len fun A outer s H vs Q E hr hsp=>?_
  obtain⟨t,h,q⟩:=hbody cdv A outer s H vs Q E hr hsp
  exact⟨t,h.nox,q⟩
theorem Fun.binds {x qual:Str} {st:Stmt} {f:Addr} {fd:FuncData} {ps:List Str} (F:Fun K x qual st f fd)
    (h:∀ (kV doc pm:Value) (an:Option Addr) (cdv ct:Value) (us:List Value),us.length=ps.length->bindArgs (PySem.W.fnOf x qual (defArgs st) (defBody st) (defScope st) .none kV doc pm an cdv ct) ⟨us,[]⟩=pure (ps.zip us)):Binds K fd ps []:=by
  obtain⟨oc,od,kV,doc,pm,an,cdv,ct,osl,rfl,lk,hcd⟩:=F.ex
  exact .all (h kV doc pm an cdv ct)
theorem fun_mk {x qual:Str} {st:Stmt} {f:Addr} {oc:Value} {od an:Option Addr} {osl:Array (Option Value)} {kV doc pm cdv ct:Value} (l:K.lookup f=some ⟨oc,od,.func (PySem.W.fnOf x qual (defArgs st) (defBody st) (defScope st) .none kV doc pm an cdv ct),osl⟩)
    (c:PySem.W.codeIn K cdv qual=true) (k:PySem.W.keepIn K (.ref f)=true):Fun K x qual st f (PySem.W.fnOf x qual (defArgs st) (defBody st) (defScope st) .none kV doc pm an cdv ct):=⟨⟨oc,od,kV,doc,pm,an,cdv,ct,osl,rfl,l,c⟩,k⟩
end
theorem iteF {A B:Prop} (h:B):if false=true then A else B:=by
  rw [if_neg Bool.false_ne_true]
  exact h
theorem iteT {A B:Prop} (h:A):if true=true then A else B:=by
  rw [if_pos rfl]
  exact h
end L2
set_option linter.all false
namespace HM
theorem gcd_fmod (a b:Int):Int.gcd b (a.fmod b)=Int.gcd a b:=by
  have h:=Int.gcd_sub_mul_right_right b a (a.fdiv b)
  rw [Int.fmod_def,Int.mul_comm b,h,Int.gcd_comm]
theorem fmod_lt (a b:Int) (h:b≠0):(a.fmod b).natAbs < b.natAbs:=by
  rcases Int.lt_or_gt_of_ne h with hb | hb
  · have e:a.fmod b=-((-a).fmod (-b)):=by rw [Int.neg_fmod_neg,Int.neg_neg]
    have h1:=Int.fmod_nonneg_of_pos (-a) (show 0 < -b by omega)
    have h2:=Int.fmod_lt_of_pos (-a) (show 0 < -b by omega)
    omega
  · have h1:=Int.fmod_nonneg_of_pos a hb
    have h2:=Int.fmod_lt_of_pos a hb
    omega
theorem gcd_zero (a:Int):((Int.gcd a 0:Nat):Int)=if a < 0 then -a else a:=by
  rw [Int.gcd_zero_right]
  split <;> omega
def shr (t b:Int):Int:=if b < 0 then -((Int.gcd t b:Nat):Int) else((Int.gcd t b:Nat):Int)
theorem shr_ne {t b:Int} (h:b≠0):shr t b≠0:=by
  have h1:Int.gcd t b≠0:=fun e=>h (Int.gcd_eq_zero_iff.mp e).2
  unfold shr
  split <;> omega
theorem div_num {t b:Int} (h:b≠0):t.fdiv (shr t b)=(Rat.divInt t b).num:=by
  have hg:((Int.gcd t b:Nat):Int) ∣ t:=Int.gcd_dvd_left t b
  rw [Rat.num_divInt,Int.gcd_comm b t]
  unfold shr
  rcases Int.lt_or_gt_of_ne h with hb | hb
  · rw [if_pos hb,Int.sign_eq_neg_one_of_neg hb,Int.fdiv_eq_ediv_of_dvd (Int.neg_dvd.mpr hg),Int.ediv_neg,Int.neg_mul,Int.one_mul,Int.neg_ediv_of_dvd hg]
  · rw [if_neg (by omega),Int.sign_eq_one_of_pos hb,Int.fdiv_eq_ediv_of_dvd hg,Int.one_mul]
theorem div_den {t b:Int} (h:b≠0):b.fdiv (shr t b)=((Rat.divInt t b).den:Int):=by
  have hg:((Int.gcd t b:Nat):Int) ∣ b:=Int.gcd_dvd_right t b
  rw [Rat.den_divInt,Int.gcd_comm b t,if_neg h]
  unfold shr
  rcases Int.lt_or_gt_of_ne h with hb | hb
  · rw [if_pos hb,Int.fdiv_eq_ediv_of_dvd (Int.neg_dvd.mpr hg),Int.ediv_neg,Int.natCast_ediv]
    rw [show ((b.natAbs:Nat):Int)=-b by omega,Int.neg_ediv_of_dvd hg]
  · rw [if_neg (by omega),Int.fdiv_eq_ediv_of_dvd hg,Int.natCast_ediv]
    rw [show ((b.natAbs:Nat):Int)=b by omega]
theorem add_of (a b:Rat):Rat.divInt (a.num*b.den+b.num*a.den) (a.den*b.den)=a+b:=by
  rw [Rat.add_def',Rat.mkRat_eq_div,Rat.divInt_eq_div]; simp [Rat.intCast_natCast]
theorem sub_of (a b:Rat):Rat.divInt (a.num*b.den - b.num*a.den) (a.den*b.den)=a - b:=by
  rw [Rat.sub_def',Rat.mkRat_eq_div,Rat.divInt_eq_div]; simp [Rat.intCast_natCast]
theorem mul_of (a b:Rat):Rat.divInt (a.num*b.num) (a.den*b.den)=a*b:=by
  rw [Rat.mul_def',Rat.mkRat_eq_div,Rat.divInt_eq_div]; simp [Rat.intCast_natCast]
theorem div_of (a b:Rat):Rat.divInt (a.num*b.den) (a.den*b.num)=a / b:=by
  rw [Rat.div_def,<- Rat.num_divInt_den b,Rat.inv_divInt]
  conv=>rhs; rw [<- Rat.num_divInt_den a]
  rw [Rat.divInt_mul_divInt,Rat.num_divInt_den]
def Bt (n:Nat) (x:Int):Prop:=x.natAbs < 2 ^ n
theorem two_pow_le {m n:Nat} (h:m<=n):2 ^ m<=2 ^ n:=Nat.pow_le_pow_right (by decide) h
theorem Bt.mono {m n:Nat} {x:Int} (h:Bt m x) (hm:m<=n):Bt n x:=Nat.lt_of_lt_of_le h (two_pow_le hm)
theorem Bt.mul {m n:Nat} {x y:Int} (hx:Bt m x) (hy:Bt n y):Bt (m+n) (x*y):=by
  unfold Bt at*
  rw [Int.natAbs_mul,Nat.pow_add]
  exact Nat.mul_lt_mul'' hx hy
theorem Bt.neg {m:Nat} {x:Int} (hx:Bt m x):Bt m (-x):=by unfold Bt at *; omega
theorem Bt.le {m:Nat} {x y:Int} (hx:Bt m x) (h:y.natAbs<=x.natAbs):Bt m y:=Nat.lt_of_le_of_lt h hx
structure Sz (n:Nat) (q:Rat):Prop where
  num:Bt n q.num
  den:Bt n q.den
theorem Sz.mono {m n:Nat} {q:Rat} (h:Sz m q) (hm:m<=n):Sz n q:=⟨h.num.mono hm,h.den.mono hm⟩
theorem natAbs_fdiv_le:∀ a b:Int,(a.fdiv b).natAbs<=a.natAbs
  | .ofNat 0,b=>by
    have e:Int.fdiv (.ofNat 0) b=0:=Int.zero_fdiv b
    rw [e]; exact Nat.zero_le _
  | .ofNat (k+1),.ofNat j=>Nat.div_le_self (k+1) j
  | .ofNat (k+1),.negSucc j=>Nat.succ_le_succ (Nat.div_le_self k (j+1))
  | .negSucc _,.ofNat 0=>Nat.zero_le _
  | .negSucc k,.ofNat (j+1)=>Nat.succ_le_succ (Nat.div_le_self k (j+1))
  | .negSucc k,.negSucc j=>Nat.div_le_self (k+1) (j+1)
theorem Sz.divInt {n:Nat} {t b:Int} (ht:Bt n t) (hb:Bt n b) (h:b≠0):Sz n (Rat.divInt t b):=
  ⟨by rw [<- div_num h]; exact ht.le (natAbs_fdiv_le _ _),by rw [<- div_den h]; exact hb.le (natAbs_fdiv_le _ _)⟩
theorem den_ne (q:Rat):(q.den:Int)≠0:=by have:=q.den_nz; omega
theorem den_mul_ne (p q:Rat):(p.den:Int)*q.den≠0:=Int.mul_ne_zero (den_ne p) (den_ne q)
theorem Sz.mul {m n:Nat} {a b:Rat} (ha:Sz m a) (hb:Sz n b):Sz (m+n) (a*b):=by
  rw [<- mul_of]
  exact .divInt (ha.num.mul hb.num) (ha.den.mul hb.den) (den_mul_ne a b)
theorem num_ne {q:Rat} (h:q≠0):q.num≠0:=fun e=>h (Rat.num_eq_zero.mp e)
theorem Sz.div {m n:Nat} {a b:Rat} (ha:Sz m a) (hb:Sz n b) (h:b≠0):Sz (m+n) (a / b):=by
  rw [<- div_of]
  exact .divInt (ha.num.mul hb.den) (ha.den.mul hb.num) (Int.mul_ne_zero (den_ne a) (num_ne h))
abbrev absI (a:Int):Int:=if a < 0 then -a else a
theorem absI_nn (a:Int):0<=absI a:=by unfold absI; split <;> omega
theorem rat_num_den (w:Rat):(w.num:Rat)=w*(w.den:Rat):=by
  have h:=Rat.num_divInt_den w
  rw [Rat.divInt_eq_div,Rat.intCast_natCast] at h
  have hd:(w.den:Rat)≠0:=by
    have:=w.den_nz
    exact fun e=>this (by exact_mod_cast e)
  grind
theorem rat_den_ne (w:Rat):(w.den:Rat)≠0:=by
  have:=w.den_nz
  exact fun e=>this (by exact_mod_cast e)
def ab (b:Rat):Rat:=if b < 0 then -b else b
def ss (b:Rat):Rat:=b*ab b
def sg (p q:Rat):Rat:=if q < 0 then -p else p
def sgR (q:Rat):Int:=if 0 < q then 1 else if q < 0 then -1 else 0
def sq2 (a b u:Rat):Int:=if 0 < a*a - b*b*u then sgR a else sgR b
def pick (b d:Rat):Rat:=if b=0 then d else b
end HM
namespace L2
open PySem PySem.Spec PyProof.Rows
theorem compTurn_if0 (elt target iter:Expr) (scope:Scope) (pos:Pos) (it acc:Value) (env:Env):
    compTurn (.ListComp elt [⟨target,iter,[],0⟩] scope pos) 0 it acc env=(standAt iter.pos >>= fun _=>pyNext it >>= fun r=>match r with
      | none=>pure (.done .next)
      | some v=>letOwnedTupleGo target it v >>= fun _=>assign target env v >>= fun _=>
        (eval elt env >>= fun x=>call (.builtin "list.append") [acc,x] >>= fun _=>pure ()) >>= fun _=>
          again (.compLoop (.ListComp elt [⟨target,iter,[],0⟩] scope pos) 0 it acc env)):=by rfl
section
variable {prog:Program} {w:World} {A:Around} {R:Result->Shared->Prop} {s:Shared}
abbrev NoE:Value->Shared->Prop:=fun _ _=>False
theorem noE {α:Type} {M:Model} {A:Around} {t:Sem α} {Q:α->Shared->Prop} {E:Value->Shared->Prop} {s:Shared} (h:wpAny M A t Q NoE s):wpAny M A t Q E s:=wpAny_mono h (fun _ _ q=>q) fun _ _ z=>z.elim
theorem compLoop_if0 {elt target iter:Expr} {scope:Scope} {pos:Pos} {it acc:Value} {env:Env} (I:Nat->Shared->Prop)
    (turn:∀ n s,I n s->wpAny (model prog w) A (pyNext it) (fun r s1=>match r with
      | none=>R (.ok .next) s1
      | some v=>wpAny (model prog w) A (letOwnedTupleGo target it v) (fun _ s2=>wpAny (model prog w) A (assign target env v) (fun _ s3=>wpAny (model prog w) A (eval elt env) (fun x s4=>
          wpAny (model prog w) A (call (.builtin "list.append") [acc,x]) (fun _ s5=>∃ m,m < n/\I m s5) NoE s4) NoE s3) NoE s2) NoE s1) NoE s)
    (n:Nat) (h:I n s):codeAny (model prog w) A (.compLoop (.ListComp elt [⟨target,iter,[],0⟩] scope pos) 0 it acc env) R s:=by
  refine codeAny_loop rfl I (fun n s hI=>?_) n h
  show wpAny _ _ ((compTurn (.ListComp elt [⟨target,iter,[],0⟩] scope pos) 0 it acc env).onRaise (fun x=>do noteFrame x env; theTreesLotGoes x)) _ _ s
  refine wpAny_noted ?_
  rw [compTurn_if0]
  refine wpAny_bind (wpAny_standAt (wpAny_bind (noE (wpAny_mono (turn n s hI) (fun r s1 h1=>?_) fun _ _ z=>z))))
  cases r with
  | none=>exact wpAny_pure h1
  | some v=>
    exact wpAny_bind (noE (thn h1 fun _ s2 h2=>wpAny_bind (noE (thn h2 fun _ s3 h3=>wpAny_bind (wpAny_bind (noE (thn h3 fun x s4 h4=>wpAny_bind (noE (thn h4 fun _ s5 h5=>wpAny_pure (wpAny_pure ⟨rfl,h5⟩))))))))))
theorem wpAny_forIn_one {M:Model} {A:Around} {E:Value->Shared->Prop} {c:Expr} {env:Env} {Q:Bool->Shared->Prop} {s:Shared} (h:wpAny M A (PySem.isTrue c env (eval c env)) Q E s):
    wpAny M A (forIn [c] true fun c r=>if r=true then do let ok <- PySem.isTrue c env (eval c env); pure (ForInStep.yield ok) else pure (ForInStep.yield r)) Q E s:=by
  rw [List.forIn_cons]
  refine wpAny_bind ?_
  rw [if_pos rfl]
  refine wpAny_bind (thn h fun ok s1 q=>wpAny_pure ?_)
  show wpAny M A (forIn [] ok _) Q E s1
  rw [List.forIn_nil]
  exact wpAny_pure q
theorem compLoop_if1 {elt target iter c:Expr} {scope:Scope} {pos:Pos} {it acc:Value} {env:Env} (I:Nat->Shared->Prop)
    (turn:∀ n s,I n s->wpAny (model prog w) A (pyNext it) (fun r s1=>match r with
      | none=>R (.ok .next) s1
      | some v=>wpAny (model prog w) A (letOwnedTupleGo target it v) (fun _ s2=>wpAny (model prog w) A (assign target env v) (fun _ s3=>wpAny (model prog w) A (isTrue c env (eval c env)) (fun b s3'=>
          if b=true then wpAny (model prog w) A (eval elt env) (fun x s4=>wpAny (model prog w) A (call (.builtin "list.append") [acc,x]) (fun _ s5=>∃ m,m < n/\I m s5) NoE s4) NoE s3'
          else ∃ m,m < n/\I m s3') NoE s3) NoE s2) NoE s1) NoE s)
    (n:Nat) (h:I n s):codeAny (model prog w) A (.compLoop (.ListComp elt [⟨target,iter,[c],0⟩] scope pos) 0 it acc env) R s:=by
  refine codeAny_loop rfl I (fun n s hI=>?_) n h
  show wpAny _ _ ((compTurn (.ListComp elt [⟨target,iter,[c],0⟩] scope pos) 0 it acc env).onRaise (fun x=>do noteFrame x env; theTreesLotGoes x)) _ _ s
  refine wpAny_noted ?_
  rw [compTurn_list]
  refine wpAny_bind (wpAny_standAt (wpAny_bind (noE (wpAny_mono (turn n s hI) (fun r s1 h1=>?_) fun _ _ z=>z))))
  cases r with
  | none=>exact wpAny_pure h1
  | some v=>
    refine wpAny_bind (noE (thn h1 fun _ s2 h2=>wpAny_bind (noE (thn h2 fun _ s3 h3=>wpAny_bind (wpAny_forIn_one (noE (thn h3 fun b s3' h3'=>?_)))))))
    cases b with
    | true=>
      rw [if_pos rfl] at h3' ⊢
      exact wpAny_bind (wpAny_bind (noE (thn h3' fun x s4 h4=>wpAny_bind (noE (thn h4 fun _ s5 h5=>wpAny_pure (wpAny_pure ⟨rfl,h5⟩))))))
    | false=>
      rw [if_neg Bool.false_ne_true] at h3' ⊢
      exact wpAny_pure ⟨rfl,h3'⟩
end
def cxC (X:Cx) (scope:Scope) (cl:List (Str×Addr)) (N:List Str) (s0:Shared) (H0:Hp) (ex:List Addr) (C:Addr):Cx where
  prog:=X.prog
  w:=X.w
  K:=X.K
  mg:=X.mg
  base:=X.base
  A:=X.A
  N:=N
  s₀:=s0
  H₀:=H0
  env:=compEnvC scope cl C X.env
  outer:=X.stack
  stack:=X.stack
  ex:=ex
  fn:=fun _=>false
  calm:=X.calm
  pn:=[]
  xe:=NoE
structure CompSc (X:Cx) (scope:Scope) (cl:List (Str×Addr)) (N:List Str) (cap:List (Option Nat)):Prop where
  kind:scope.kind=.function
  clos:closureFor scope X.env=pure cl
  nocell:(scope.names.all fun y=>y.2 != NameKind.cell)=true
  names:(scope.names.all fun y=>y.2 != NameKind.local || scope.names.lookup y.1 == some NameKind.local)=true
  sub:∀ p∈cl,X.env.cells.lookup p.1=some p.2
  has:((relabel scope X.env).names.all fun y=>(y.2 != NameKind.cell && y.2 != NameKind.free) || (cl.lookup y.1).isSome)=true
  len:cap.length=N.length
  caps:∀ (i j:Nat) (x:Str),cap[i]?=some (some j)->N[i]?=some x->X.N[j]?=some x/\(X.env.scope.names.lookup x=some .cell\/X.env.scope.names.lookup x=some .free)/\((relabel scope X.env).names.lookup x=some .cell\/(relabel scope X.env).names.lookup x=some .free)
def capSt (cap:List (Option Nat)) (σ:St):St:=cap.map fun o=>match o with
  | some j=>(σ[j]?).join
  | none=>none
theorem capSt_get {cap:List (Option Nat)} {σ:St} {i:Nat} {v:V} (h:(capSt cap σ)[i]?=some (some v)):∃ j,cap[i]?=some (some j)/\σ[j]?=some (some v):=by
  unfold capSt at h
  rw [List.getElem?_map] at h
  cases e:cap[i]? with
  | none=>rw [e] at h; cases h
  | some o=>
    rw [e] at h
    cases o with
    | none=>cases h
    | some j=>
      refine⟨j,rfl,?_⟩
      have h:(σ[j]?).join=some v:=Option.some.inj h
      cases e2:σ[j]? with
      | none=>rw [e2] at h; cases h
      | some q=>rw [e2] at h; exact congrArg some h
theorem lookup_sub {X:Cx} {cl:List (Str×Addr)} (h:∀ p∈cl,X.env.cells.lookup p.1=some p.2) {x:Str} {c:Addr} (e:cl.lookup x=some c):X.env.cells.lookup x=some c:=h (x,c) (PySem.mem_of_lookup e)
theorem inv_comp {X:Cx} {scope:Scope} {cl:List (Str×Addr)} {N:List Str} {cap:List (Option Nat)} (Sc:CompSc X scope cl N cap) {pins:List (Addr×Obj)} {σ:St} {H:Hp} {s:Shared} {fp:List Addr} (I:Inv X pins σ H s)
    (hf:∀ b∈fp,FpOk X pins H b) (ho:∀ b∈fp,∃ o,s.heap.get? b=some o) {h1 h1':Heap} {m:Str->Option Value} {tk:Nat} {ob:Obj}
    (hD:s.heap.push {cls:=.type "list",data:=.seq ([]:List Value).toArray}=h1') (hns:h1.Ns h1'.objs.size m) (hsb:Heap.SameBut h1'.objs.size (h1'.push ob) h1):
    Inv (cxC X scope cl N {s with heap:=h1'} (upd H s.heap.objs.size (.lst [])) fp h1'.objs.size) [] (capSt cap σ) (upd H s.heap.objs.size (.lst [])) {s with heap:=h1,toks:=tk}/\
      Un (frs X.stack) fp H (upd H s.heap.objs.size (.lst [])) s.heap h1':=by
  have hC:h1'.objs.size=s.heap.objs.size+1:=by rw [<- hD,Heap.size_push]
  have k1:∀ b o,s.heap.get? b=some o->h1'.get? b=some o:=fun b o e=>by rw [<- hD]; exact Heap.get?_push_of_some _ e
  have k2:∀ b o,h1'.get? b=some o->h1.get? b=some o:=fun b o e=>(hsb.2 b (Nat.ne_of_lt (Heap.lt_size e))).trans (Heap.get?_push_of_some _ e)
  have hHn:H s.heap.objs.size=none:=I.hok.fresh (Nat.le_refl _)
  have neD:∀ b o,s.heap.get? b=some o->b≠s.heap.objs.size:=fun b o e=>Nat.ne_of_lt (Heap.lt_size e)
  have un1:Un (frs X.stack) fp H (upd H s.heap.objs.size (.lst [])) s.heap h1':=Un.laid k1 (Nat.le_refl _) hHn
  have new:ObjOk X.prog X.w (upd H s.heap.objs.size (.lst [])) h1' s.heap.objs.size (.lst []):=⟨Nat.zero_le _,[],0,.nil,by rw [<- hD]; exact Heap.get?_push_size _ rfl⟩
  have hok1:HOk X.prog X.w (upd H s.heap.objs.size (.lst [])) h1':=I.hok.laid k1 (Nat.le_refl _) new
  have fsub:∀ b∈fp,b∉frs X.stack:=fun b hb z=>by
    obtain⟨_,f1,f2,_⟩:=hf b hb
    rcases List.mem_cons.mp (I.stkSub b z) with e | e
    · exact f1 e
    · exact f2 e
  have cellK:∀ x c,cl.lookup x=some c->∃ v,s.heap.IsCell c v:=fun x c e=>I.cell x c (lookup_sub Sc.sub e)
  refine⟨⟨⟨I.ok.mod,?_,I.ok.glob,I.ok.blt,Nat.le_refl _,fun x y c e1 e2=>I.ok.inj x y c (lookup_sub Sc.sub e1) (lookup_sub Sc.sub e2),fun x hx=>?_,fun x c z=>(by cases z),I.ok.hd,I.ok.frames,.inl rfl,fun b hb=>⟨?_,fun x c e=>?_⟩,fun b o e=>⟨?_,?_⟩,?_,fun b o e hb=>?_,fsub,?_,fun b hb=>?_⟩,
    rfl,I.bare,Un.kept k2,⟨m,hns,fun i x v e1 e2 e3=>?_⟩,fun x c e=>?_,?_,fun x c e=>?_,fun p hp=>absurd hp (by simp [cxC]),hok1.kept k2,?_⟩,un1⟩
  · exact Sc.kind
  · have hx:(relabel scope X.env).names.lookup x=some .cell\/(relabel scope X.env).names.lookup x=some .free:=hx
    have ha:=List.all_eq_true.mp Sc.has
    show ∃ c,cl.lookup x=some c
    rcases hx with hx | hx
    · have:=ha _ (PySem.mem_of_lookup hx)
      exact Option.isSome_iff_exists.mp (by simpa using this)
    · have:=ha _ (PySem.mem_of_lookup hx)
      exact Option.isSome_iff_exists.mp (by simpa using this)
  · obtain⟨o,e⟩:=ho b hb
    have:=Heap.lt_size e
    show b≠h1'.objs.size
    rw [hC]
    exact Nat.ne_of_lt (Nat.lt_succ_of_lt this)
  · exact(hf b hb).2.2.2.2.1 x c (lookup_sub Sc.sub e)
  · exact k1 b o (I.bk b o e)
  · show upd H s.heap.objs.size (.lst []) b=none
    rw [upd_ne (neD b o (I.bk b o e))]
    exact(I.bs b o e).2
  · show X.base.objs.size<=h1'.objs.size
    rw [hC]
    exact Nat.le_succ_of_le (Nat.le_trans I.ok.bsz I.sz)
  · obtain⟨_,_,_,f3,_⟩:=hf b hb
    rcases f3 with f3 | f3
    · exact I.ok.noex b o e f3
    · have q1:=Heap.lt_size e
      have q2:=I.ok.bsz
      exact absurd (Nat.lt_of_lt_of_le q1 (Nat.le_trans q2 f3)) (Nat.lt_irrefl _)
  · exact I.stack.of_keeps fun b o e _=>⟨o,k1 b o e,rfl⟩
  · show upd H s.heap.objs.size (.lst []) b=none
    obtain⟨_,o,e,_⟩:=I.stack.mem hb
    rw [upd_ne (neD b o e)]
    exact I.stkFree b hb
  · obtain⟨j,c1,c2⟩:=capSt_get e2
    obtain⟨d1,d2,d3⟩:=Sc.caps i j x c1 e1
    obtain⟨m0,_,l0⟩:=I.loc
    obtain⟨u,ru,lk⟩:=l0 j x v d1 c2 (d2.elim (fun z=>.inr (.inl z)) fun z=>.inr (.inr z))
    refine⟨u,ru,.inr ⟨d3,?_⟩⟩
    rcases lk with ⟨z,_⟩ | ⟨_,c,z1,z2⟩
    · have z:X.env.scope.names.lookup x=some .local:=z
      rcases d2 with q | q <;> (rw [q] at z; cases z)
    · have ha:=List.all_eq_true.mp Sc.has
      have hs:∃ c',cl.lookup x=some c':=by
        rcases d3 with q | q
        · exact Option.isSome_iff_exists.mp (by simpa using ha _ (PySem.mem_of_lookup q))
        · exact Option.isSome_iff_exists.mp (by simpa using ha _ (PySem.mem_of_lookup q))
      obtain⟨c',q⟩:=hs
      have q2:=lookup_sub Sc.sub q
      rw [z1] at q2
      cases q2
      obtain⟨o,e,d⟩:=z2
      exact⟨c,q,o,k2 _ _ (k1 _ _ e),d⟩
  · obtain⟨v,o,e1,d⟩:=cellK x c e
    exact⟨v,o,k2 _ _ (k1 _ _ e1),d⟩
  · show upd H s.heap.objs.size (.lst []) h1'.objs.size=none
    rw [hC,upd_ne (Nat.succ_ne_self _)]
    exact I.hok.fresh (Nat.le_succ _)
  · obtain⟨v,o,e1,d⟩:=cellK x c e
    show upd H s.heap.objs.size (.lst []) c=none
    rw [upd_ne (neD c o e1)]
    exact I.freeC x c (lookup_sub Sc.sub e)
  · show(capSt cap σ).length=N.length
    unfold capSt
    rw [List.length_map]
    exact Sc.len
def tComp (cap:List (Option Nat)) (wi:TI) (g:TG) (te:TE):TE:=fun σ H Q=>wi σ H fun J H1=>∀ D,H1 D=none->∃ W:Nat->Nat->St->Hp->Prop,(∃ m,W 0 m (capSt cap σ) (upd H1 D (.lst [])))/\∀ i m σ' H',W i m σ' H'->
  (J.stop i H'/\Q (.ref D) H')\/(J.go i H'/\∃ N:St->Hp->Prop,(∀ σ2 H2,N σ2 H2->∃ m',m' < m/\W (i+1) m' σ2 H2)/\∀ x H2,J.yld i H' x H2->g x σ' H2 fun σ3 H3=>te σ3 H3 fun v H4=>∃ ys,H4 D=some (.lst ys)/\ys.length < sizeLine/\N σ3 (upd H4 D (.lst (ys++[v]))))
def tCompIf (cap:List (Option Nat)) (wi:TI) (g:TG) (tc:TT) (te:TE):TE:=fun σ H Q=>wi σ H fun J H1=>∀ D,H1 D=none->∃ W:Nat->Nat->St->Hp->Prop,(∃ m,W 0 m (capSt cap σ) (upd H1 D (.lst [])))/\∀ i m σ' H',W i m σ' H'->
  (J.stop i H'/\Q (.ref D) H')\/(J.go i H'/\∃ N:St->Hp->Prop,(∀ σ2 H2,N σ2 H2->∃ m',m' < m/\W (i+1) m' σ2 H2)/\∀ x H2,J.yld i H' x H2->g x σ' H2 fun σ3 H3=>tc σ3 H3 fun b H3'=>if b=true then te σ3 H3' fun v H4=>∃ ys,H4 D=some (.lst ys)/\ys.length < sizeLine/\N σ3 (upd H4 D (.lst (ys++[v]))) else N σ3 H3')
section
variable {X:Cx} {elt tg iter c:Expr} {scope:Scope} {cl:List (Str×Addr)} {N:List Str} {cap:List (Option Nat)} {pos:Pos} {wi:TI} {g:TG} {te:TE} {tc:TT}
theorem comp_out (Sc:CompSc X scope cl N cap) {pins:List (Addr×Obj)} {σ σ3:St} {H2 H3:Hp} {s2 s4:Shared} {fp:List Addr} {h1':Heap} {C:Addr} (I2:Inv X pins σ H2 s2) (f2:∀ b∈fp,FpOk X pins H2 b) {H1:Hp}
    (un3:Un (frs X.stack) fp H2 H1 s2.heap h1') (I4:Inv (cxC X scope cl N {s2 with heap:=h1'} H1 fp C) [] σ3 H3 s4) {h':Heap} (hC:s2.heap.objs.size<=C) (sb:Heap.SameBut C s4.heap h'):Inv X pins σ H3 {s4 with heap:=h'}:=by
  have u:Un (frs X.stack) fp H2 H3 s2.heap s4.heap:=un3.trans I4.base
  have ne:∀ b o,s2.heap.get? b=some o->b≠C:=fun b o e=>Nat.ne_of_lt (Nat.lt_of_lt_of_le (Heap.lt_size e) hC)
  have u':Un (frs X.stack) fp H2 H3 s2.heap h':=⟨fun b o e n hb hx=>(sb.2 b (ne b o e)).trans (u.keep b o e n hb hx),fun b o e n hb hx=>by
      obtain⟨sl,q⟩:=u.slot b o e n hb hx
      exact⟨sl,(sb.2 b (ne b o e)).trans q⟩,u.free,fun b o e hx=>by
      obtain⟨o',q⟩:=u.there b o e hx
      exact⟨o',(sb.2 b (ne b o e)).trans q⟩,u.tups,u.frzs,u.tbls⟩
  have hok:HOk X.prog X.w H3 h':=fun b ob e=>by
    refine(I4.hok b ob e).stay (fun c w' hc q=>(sb.2 c ?_).trans q) (fun _ q=>q) fun _ _ q=>q
    rintro rfl
    have hfree:H3 c=none:=I4.free
    rcases hc with rfl | hc
    · rw [hfree] at e; cases e
    · rw [hfree] at hc; cases hc
  refine I2.call' (s':={s4 with heap:=h'}) (ch:=fp) I4.os u' hok I4.bare fun b hb=>?_
  obtain⟨_,f1,_,f3,f4,f5⟩:=f2 b hb
  exact⟨f3,f1,f4,f5⟩
theorem comp_fp {s0:Shared} {H0:Hp} {C:Addr} {fp:List Addr} {σ:St} {H:Hp} {s:Shared} (I:Inv (cxC X scope cl N s0 H0 fp C) [] σ H s) (hn:∀ b∈fp,H b=none):∀ b∈fp,FpOk (cxC X scope cl N s0 H0 fp C) [] H b:=fun b hb=>
  ⟨hn b hb,(I.ok.exf b hb).1,I.ok.exfs b hb,.inl hb,(I.ok.exf b hb).2,fun p hp=>absurd hp (by simp [cxC])⟩
theorem pe_comp (hc:X.calm=true) (Sc:CompSc X scope cl N cap) (hi:PI X tg iter wi) (hg:∀ s0 H0 ex C,PG (cxC X scope cl N s0 H0 ex C) tg g) (he:∀ s0 H0 ex C,PE (cxC X scope cl N s0 H0 ex C) elt te)
    (hs:∀ x,foldedSetIterable iter X.env x=pure x:=by intro _; rfl):PE X (.ListComp elt [⟨tg,iter,[],0⟩] scope pos) (tComp cap wi g te):=by
  intro pins s σ H Q I h
  rw [eval_ListComp]
  have hcell:∀ y∈scope.names,y.2≠.cell:=fun y hy=>by simpa using List.all_eq_true.mp Sc.nocell y hy
  have hnames:∀ y∈scope.names,y.2=.local->scope.names.lookup y.1=some .local:=fun y hy e=>by
    have:=List.all_eq_true.mp Sc.names y hy
    rw [e] at this
    simpa using this
  refine wpAny_comprehension_free (use:=none) rfl hs Sc.clos Sc.kind hnames (thn (hi pins s σ H _ I h) fun v s1 h1=>thn h1 fun itv s2 h2=>?_)
  obtain⟨it,fp,tn,J,H2,e,I2,T,st2,f2,hW⟩:=h2
  subst e
  refine wpAny_newObj_type (wpAny_newFunctionEnv hcell (by intro y hy; simp at hy) (fun h1 hns hsb=>?_) Sc.kind)
  obtain⟨W,⟨m0,w0⟩,turn⟩:=hW s2.heap.objs.size I2.fresh
  dsimp only at hns hsb ⊢
  generalize hD:s2.heap.push {cls:=.type "list",dict:=none,data:=.seq ([]:List Value).toArray}=h1' at hns hsb ⊢
  obtain⟨I3,un3⟩:=inv_comp (tk:=s2.toks+([]:List (Str×Value)).length) Sc I2 f2 (fun b hb=>let ⟨o,e,_⟩:=T.obj 0 _ st2 b hb; ⟨o,e⟩) hD hns hsb
  have hC:s2.heap.objs.size<=h1'.objs.size:=by rw [<- hD,Heap.size_push]; exact Nat.le_succ _
  have k1:∀ b o,s2.heap.get? b=some o->h1.get? b=some o:=fun b o e=>by
    have e1:h1'.get? b=some o:=by rw [<- hD]; exact Heap.get?_push_of_some _ e
    exact(hsb.2 b (Nat.ne_of_lt (Heap.lt_size e1))).trans (Heap.get?_push_of_some _ e1)
  have st3:tn 0 h1:=T.keep 0 _ _ st2 fun b _ o e=>k1 b o e
  have fr3:∀ b∈fp,(upd H2 s2.heap.objs.size (.lst [])) b=none:=fun b hb=>by
    obtain⟨o,e,_⟩:=T.obj 0 _ st2 b hb
    rw [upd_ne (Nat.ne_of_lt (Heap.lt_size e))]
    exact(f2 b hb).1
  have loop:∀ s3:Shared,s3={s2 with heap:=h1,toks:=s2.toks+([]:List (Str×Value)).length}->
      codeAny (model X.prog X.w) X.A (.compLoop (.ListComp elt [⟨tg,iter,[],0⟩] scope pos) 0 (.ref it) (.ref s2.heap.objs.size) (compEnvC scope cl h1'.objs.size X.env))
        (compPost (model X.prog X.w) X.A X.xe none (EP X pins σ Q) (.ref s2.heap.objs.size) h1'.objs.size) s3:=by
    rintro s3 rfl
    refine compLoop_if0 (fun n s'=>∃ i σ' H',Inv (cxC X scope cl N {s2 with heap:=h1'} (upd H2 s2.heap.objs.size (.lst [])) fp h1'.objs.size) [] σ' H' s'/\tn i s'.heap/\(∀ b∈fp,H' b=none)/\W i n σ' H') ?_ m0 ⟨0,_,_,I3,st3,fr3,w0⟩
    rintro n s3 ⟨i,σ3,H3,I3,st3,fr3,w3⟩
    rcases turn i n σ3 H3 w3 with ⟨stop,qn⟩ | ⟨go,Nn,hN,step⟩
    · refine thn (T.done (cxC X scope cl N {s2 with heap:=h1'} (upd H2 s2.heap.objs.size (.lst [])) fp h1'.objs.size) rfl rfl rfl hc i [] s3 σ3 H3 NoE I3 (comp_fp I3 fr3) st3 stop) fun r s4 ⟨hr,I4⟩=>?_
      subst hr
      obtain⟨m,hm,_⟩:=I4.loc
      exact⟨m,hm,fun h' sb=>⟨.ref _,H3,comp_out Sc I2 f2 un3 I4 hC sb,rfl,qn⟩⟩
    · refine thn (T.item (cxC X scope cl N {s2 with heap:=h1'} (upd H2 s2.heap.objs.size (.lst [])) fp h1'.objs.size) rfl rfl rfl hc i [] s3 σ3 H3 NoE I3 (comp_fp I3 fr3) st3 go) fun r s4 ⟨u,hr,h4⟩=>?_
      subst hr
      refine thn h4 fun _ s5 ⟨x,H5,I5,r5,y5,st5,fr5⟩=>?_
      have I5':=I5.pinned (comp_fp I5 fr5) (T.obj _ _ st5)
      refine thn (hg _ _ _ _ _ s5 σ3 H5 x u _ I5' r5 (step x H5 y5)) fun _ s6 ⟨σ6,H6,I6,q6⟩=>?_
      refine thn (he _ _ _ _ _ s6 σ6 H6 _ I6 q6) fun uv s7 ⟨v,H7,I7,r7,ys,hy,hl,q7⟩=>?_
      refine thn (mt_append (X:=cxC X scope cl N {s2 with heap:=h1'} (upd H2 s2.heap.objs.size (.lst [])) fp h1'.objs.size) _ s7 σ6 H7 (.ref s2.heap.objs.size) [v] (.ref s2.heap.objs.size) [uv] (fun _ H8=>Nn σ6 H8) I7 rfl (.cons r7 .nil) ⟨_,ys,v,rfl,rfl,hy,hl,q7⟩) fun _ s8 ⟨_,H8,I8,_,n8⟩=>?_
      obtain⟨m',hm,w8⟩:=hN σ6 H8 n8
      refine⟨m',hm,i+1,σ6,H8,I8.unpinned,T.keep _ _ _ st5 fun b hb o e=>(I8.pin (b,o) (List.mem_append_right _ (List.mem_append_right _ (mem_pinsAt hb e)))).1,fun b hb=>?_,w8⟩
      obtain⟨o,e,d⟩:=T.obj _ _ st5 b hb
      exact(I8.pin (b,o) (List.mem_append_right _ (List.mem_append_right _ (mem_pinsAt hb e)))).2.1
  exact codeAny_compStart_list (loop _ rfl) (T.self _ 0 _ _ _ st3 (loop _ rfl))
theorem pe_compIf (hc:X.calm=true) (Sc:CompSc X scope cl N cap) (hi:PI X tg iter wi) (hg:∀ s0 H0 ex C,PG (cxC X scope cl N s0 H0 ex C) tg g) (hcnd:∀ s0 H0 ex C,PT (cxC X scope cl N s0 H0 ex C) c tc) (he:∀ s0 H0 ex C,PE (cxC X scope cl N s0 H0 ex C) elt te)
    (hs:∀ x,foldedSetIterable iter X.env x=pure x:=by intro _; rfl):PE X (.ListComp elt [⟨tg,iter,[c],0⟩] scope pos) (tCompIf cap wi g tc te):=by
  intro pins s σ H Q I h
  rw [eval_ListComp]
  have hcell:∀ y∈scope.names,y.2≠.cell:=fun y hy=>by simpa using List.all_eq_true.mp Sc.nocell y hy
  have hnames:∀ y∈scope.names,y.2=.local->scope.names.lookup y.1=some .local:=fun y hy e=>by
    have:=List.all_eq_true.mp Sc.names y hy
    rw [e] at this
    simpa using this
  refine wpAny_comprehension_free (use:=none) rfl hs Sc.clos Sc.kind hnames (thn (hi pins s σ H _ I h) fun v s1 h1=>thn h1 fun itv s2 h2=>?_)
  obtain⟨it,fp,tn,J,H2,e,I2,T,st2,f2,hW⟩:=h2
  subst e
  refine wpAny_newObj_type (wpAny_newFunctionEnv hcell (by intro y hy; simp at hy) (fun h1 hns hsb=>?_) Sc.kind)
  obtain⟨W,⟨m0,w0⟩,turn⟩:=hW s2.heap.objs.size I2.fresh
  dsimp only at hns hsb ⊢
  generalize hD:s2.heap.push {cls:=.type "list",dict:=none,data:=.seq ([]:List Value).toArray}=h1' at hns hsb ⊢
  obtain⟨I3,un3⟩:=inv_comp (tk:=s2.toks+([]:List (Str×Value)).length) Sc I2 f2 (fun b hb=>let ⟨o,e,_⟩:=T.obj 0 _ st2 b hb; ⟨o,e⟩) hD hns hsb
  have hC:s2.heap.objs.size<=h1'.objs.size:=by rw [<- hD,Heap.size_push]; exact Nat.le_succ _
  have k1:∀ b o,s2.heap.get? b=some o->h1.get? b=some o:=fun b o e=>by
    have e1:h1'.get? b=some o:=by rw [<- hD]; exact Heap.get?_push_of_some _ e
    exact(hsb.2 b (Nat.ne_of_lt (Heap.lt_size e1))).trans (Heap.get?_push_of_some _ e1)
  have st3:tn 0 h1:=T.keep 0 _ _ st2 fun b _ o e=>k1 b o e
  have fr3:∀ b∈fp,(upd H2 s2.heap.objs.size (.lst [])) b=none:=fun b hb=>by
    obtain⟨o,e,_⟩:=T.obj 0 _ st2 b hb
    rw [upd_ne (Nat.ne_of_lt (Heap.lt_size e))]
    exact(f2 b hb).1
  have loop:∀ s3:Shared,s3={s2 with heap:=h1,toks:=s2.toks+([]:List (Str×Value)).length}->
      codeAny (model X.prog X.w) X.A (.compLoop (.ListComp elt [⟨tg,iter,[c],0⟩] scope pos) 0 (.ref it) (.ref s2.heap.objs.size) (compEnvC scope cl h1'.objs.size X.env))
        (compPost (model X.prog X.w) X.A X.xe none (EP X pins σ Q) (.ref s2.heap.objs.size) h1'.objs.size) s3:=by
    rintro s3 rfl
    refine compLoop_if1 (fun n s'=>∃ i σ' H',Inv (cxC X scope cl N {s2 with heap:=h1'} (upd H2 s2.heap.objs.size (.lst [])) fp h1'.objs.size) [] σ' H' s'/\tn i s'.heap/\(∀ b∈fp,H' b=none)/\W i n σ' H') ?_ m0 ⟨0,_,_,I3,st3,fr3,w0⟩
    rintro n s3 ⟨i,σ3,H3,I3,st3,fr3,w3⟩
    rcases turn i n σ3 H3 w3 with ⟨stop,qn⟩ | ⟨go,Nn,hN,step⟩
    · refine thn (T.done (cxC X scope cl N {s2 with heap:=h1'} (upd H2 s2.heap.objs.size (.lst [])) fp h1'.objs.size) rfl rfl rfl hc i [] s3 σ3 H3 NoE I3 (comp_fp I3 fr3) st3 stop) fun r s4 ⟨hr,I4⟩=>?_
      subst hr
      obtain⟨m,hm,_⟩:=I4.loc
      exact⟨m,hm,fun h' sb=>⟨.ref _,H3,comp_out Sc I2 f2 un3 I4 hC sb,rfl,qn⟩⟩
    · refine thn (T.item (cxC X scope cl N {s2 with heap:=h1'} (upd H2 s2.heap.objs.size (.lst [])) fp h1'.objs.size) rfl rfl rfl hc i [] s3 σ3 H3 NoE I3 (comp_fp I3 fr3) st3 go) fun r s4 ⟨u,hr,h4⟩=>?_
      subst hr
      refine thn h4 fun _ s5 ⟨x,H5,I5,r5,y5,st5,fr5⟩=>?_
      have I5':=I5.pinned (comp_fp I5 fr5) (T.obj _ _ st5)
      refine thn (hg _ _ _ _ _ s5 σ3 H5 x u _ I5' r5 (step x H5 y5)) fun _ s6 ⟨σ6,H6,I6,q6⟩=>?_
      have again:∀ {s8:Shared} {H8:Hp},Inv (cxC X scope cl N {s2 with heap:=h1'} (upd H2 s2.heap.objs.size (.lst [])) fp h1'.objs.size) ([]++pinsAt fp s5.heap) σ6 H8 s8->Nn σ6 H8->
          ∃ m,m < n/\∃ i σ' H',Inv (cxC X scope cl N {s2 with heap:=h1'} (upd H2 s2.heap.objs.size (.lst [])) fp h1'.objs.size) [] σ' H' s8/\tn i s8.heap/\(∀ b∈fp,H' b=none)/\W i m σ' H':=fun {s8 H8} I8 n8=>by
        obtain⟨m',hm,w8⟩:=hN σ6 H8 n8
        refine⟨m',hm,i+1,σ6,H8,I8.unpinned,T.keep _ _ _ st5 fun b hb o e=>(I8.pin (b,o) (List.mem_append_right _ (List.mem_append_right _ (mem_pinsAt hb e)))).1,fun b hb=>?_,w8⟩
        obtain⟨o,e,d⟩:=T.obj _ _ st5 b hb
        exact(I8.pin (b,o) (List.mem_append_right _ (List.mem_append_right _ (mem_pinsAt hb e)))).2.1
      refine thn (hcnd _ _ _ _ _ s6 σ6 H6 _ I6 q6) fun b s6' ⟨H6',I6',q6'⟩=>?_
      cases b with
      | true=>
        rw [if_pos rfl] at q6' ⊢
        refine thn (he _ _ _ _ _ s6' σ6 H6' _ I6' q6') fun uv s7 ⟨v,H7,I7,r7,ys,hy,hl,q7⟩=>?_
        refine thn (mt_append (X:=cxC X scope cl N {s2 with heap:=h1'} (upd H2 s2.heap.objs.size (.lst [])) fp h1'.objs.size) _ s7 σ6 H7 (.ref s2.heap.objs.size) [v] (.ref s2.heap.objs.size) [uv] (fun _ H8=>Nn σ6 H8) I7 rfl (.cons r7 .nil) ⟨_,ys,v,rfl,rfl,hy,hl,q7⟩) fun _ s8 ⟨_,H8,I8,_,n8⟩=>?_
        exact again I8 n8
      | false=>
        rw [if_neg Bool.false_ne_true] at q6' ⊢
        exact again I6' q6'
  exact codeAny_compStart_list (loop _ rfl) (T.self _ 0 _ _ _ st3 (loop _ rfl))
end
end L2
namespace DL
open PySem PySem.Spec PyProof.Rows L2
abbrev Fg:=PySem.W.Frag
inductive Ty where
  | non | bool | int | str | tup | lst | dic | verr
def Ty.name:Ty->String
  | .non=>"NoneType" | .bool=>"bool" | .int=>"int" | .str=>"str" | .tup=>"tuple" | .lst=>"list" | .dic=>"dict" | .verr=>"ValueError"
inductive D where
  | non | bl (b:Bool) | int (i:Int) | str (x:Str) | tup (ds:List D) | rl (ds:List D) | ref (a:Addr) | ty (n:Ty)
def SqF (K:Fg) (H:Hp) (a:Addr) (xs:List V):Prop:=
  (∃ o,H a=some (.frz o (.lst xs)))\/∃ (o:Obj) (its:Array Value) (n:Nat),K.lookup a=some o/\o.cls=.type "list"/\o.dict=none/\o.data=.seq its n/\its.size<=sizeLine/\Vals xs its.toList
theorem SqF.sq {K:Fg} {H:Hp} {a:Addr} {xs:List V} (h:SqF K H a xs):SqL K H a xs:=by
  rcases h with h | h
  · exact .inl (.inr h)
  · exact .inr h
mutual
def IsD (K:Fg) (H:Hp):D->V->Prop
  | .non,v=>v=.non
  | .bl b,v=>v=.bl b
  | .int i,v=>v=.int i
  | .str x,v=>v=.str x
  | .tup ds,v=>∃ a xs,v=.ref a/\SqT K H a xs/\IsDs K H ds xs
  | .rl ds,v=>∃ a xs,v=.ref a/\SqF K H a xs/\IsDs K H ds xs
  | .ref a,v=>v=.ref a
  | .ty n,v=>v=.ty n.name
def IsDs (K:Fg) (H:Hp):List D->List V->Prop
  | [],vs=>vs=[]
  | d::ds,vs=>∃ v r,vs=v::r/\IsD K H d v/\IsDs K H ds r
end
def Imm:HO->Prop
  | .tup _=>True
  | .frz _ _=>True
  | _=>False
def Kp (H H':Hp):Prop:=∀ a o,H a=some o->Imm o->H' a=some o
theorem Kp.refl (H:Hp):Kp H H:=fun _ _ h _=>h
theorem Kp.trans {H H1 H2:Hp} (a:Kp H H1) (b:Kp H1 H2):Kp H H2:=fun c o h i=>b c o (a c o h i) i
theorem Kp.tup {K:Fg} {H H':Hp} {a:Addr} {xs:List V} (k:Kp H H') (h:SqT K H a xs):SqT K H' a xs:=by
  rcases h with (h | ⟨o,h⟩) | h
  · exact .inl (.inl (k _ _ h trivial))
  · exact .inl (.inr ⟨o,k _ _ h trivial⟩)
  · exact .inr h
theorem Kp.fro {K:Fg} {H H':Hp} {a:Addr} {xs:List V} (k:Kp H H') (h:SqF K H a xs):SqF K H' a xs:=by
  rcases h with ⟨o,h⟩ | h
  · exact .inl ⟨o,k _ _ h trivial⟩
  · exact .inr h
theorem Kp.new {H:Hp} {p:Addr} {o:HO} (h:H p=none):Kp H (upd H p o):=fun b u e _=>by rw [upd_ne (ne_of_none e h)]; exact e
theorem Kp.mut {H:Hp} {p:Addr} {o u:HO} (h:H p=some u) (n:¬ Imm u):Kp H (upd H p o):=fun b z e i=>by
  rw [upd_ne (fun q=>by subst q; rw [h] at e; cases e; exact n i)]; exact e
mutual
theorem IsD.kp {K:Fg} {H H':Hp} (k:Kp H H'):∀ {d:D} {v:V},IsD K H d v->IsD K H' d v
  | .non,_,h=>by unfold IsD at *; exact h
  | .bl _,_,h=>by unfold IsD at *; exact h
  | .int _,_,h=>by unfold IsD at *; exact h
  | .str _,_,h=>by unfold IsD at *; exact h
  | .ref _,_,h=>by unfold IsD at *; exact h
  | .ty _,_,h=>by unfold IsD at *; exact h
  | .tup ds,_,h=>by
    unfold IsD at*
    obtain⟨a,xs,e,t,r⟩:=h
    exact⟨a,xs,e,k.tup t,IsDs.kp k r⟩
  | .rl ds,_,h=>by
    unfold IsD at*
    obtain⟨a,xs,e,t,r⟩:=h
    exact⟨a,xs,e,k.fro t,IsDs.kp k r⟩
theorem IsDs.kp {K:Fg} {H H':Hp} (k:Kp H H'):∀ {ds:List D} {vs:List V},IsDs K H ds vs->IsDs K H' ds vs
  | [],_,h=>by unfold IsDs at *; exact h
  | d::ds,_,h=>by
    unfold IsDs at*
    obtain⟨v,r,e,h1,h2⟩:=h
    exact⟨v,r,e,IsD.kp k h1,IsDs.kp k h2⟩
end
section
variable {K:Fg} {H:Hp}
theorem isInt {i:Int} {v:V}:IsD K H (.int i) v↔v=.int i:=by unfold IsD; exact Iff.rfl
theorem isBl {b:Bool} {v:V}:IsD K H (.bl b) v↔v=.bl b:=by unfold IsD; exact Iff.rfl
theorem isStr {b:Str} {v:V}:IsD K H (.str b) v↔v=.str b:=by unfold IsD; exact Iff.rfl
theorem isNon {v:V}:IsD K H .non v↔v=.non:=by unfold IsD; exact Iff.rfl
theorem isRef {a:Addr} {v:V}:IsD K H (.ref a) v↔v=.ref a:=by unfold IsD; exact Iff.rfl
theorem isTy {a:Ty} {v:V}:IsD K H (.ty a) v↔v=.ty a.name:=by unfold IsD; exact Iff.rfl
theorem isTup {ds:List D} {v:V}:IsD K H (.tup ds) v↔∃ a xs,v=.ref a/\SqT K H a xs/\IsDs K H ds xs:=by unfold IsD; exact Iff.rfl
theorem isRl {ds:List D} {v:V}:IsD K H (.rl ds) v↔∃ a xs,v=.ref a/\SqF K H a xs/\IsDs K H ds xs:=by unfold IsD; exact Iff.rfl
theorem isNil {vs:List V}:IsDs K H [] vs↔vs=[]:=by unfold IsDs; exact Iff.rfl
theorem isCons {d:D} {ds:List D} {vs:List V}:IsDs K H (d::ds) vs↔∃ v r,vs=v::r/\IsD K H d v/\IsDs K H ds r:=by
  constructor
  · intro h; unfold IsDs at h; exact h
  · intro h; unfold IsDs; exact h
theorem IsDs.nil:IsDs K H [] []:=isNil.mpr rfl
theorem IsDs.cons {d:D} {ds:List D} {v:V} {vs:List V} (h1:IsD K H d v) (h2:IsDs K H ds vs):IsDs K H (d::ds) (v::vs):=isCons.mpr ⟨v,vs,rfl,h1,h2⟩
theorem IsDs.length:∀ {ds:List D} {vs:List V},IsDs K H ds vs->ds.length=vs.length
  | [],_,h=>by rw [isNil.mp h]; rfl
  | d::ds,_,h=>by
    obtain⟨v,r,rfl,_,h2⟩:=isCons.mp h
    rw [List.length_cons,List.length_cons,IsDs.length h2]
theorem IsDs.get:∀ {ds:List D} {vs:List V} {i:Nat} {d:D},IsDs K H ds vs->ds[i]?=some d->∃ v,vs[i]?=some v/\IsD K H d v
  | [],_,_,_,_,e=>by simp at e
  | c::ds,_,0,d,h,e=>by
    obtain⟨v,r,rfl,h1,h2⟩:=isCons.mp h
    simp at e
    subst e
    exact⟨v,rfl,h1⟩
  | c::ds,_,i+1,d,h,e=>by
    obtain⟨v,r,rfl,h1,h2⟩:=isCons.mp h
    obtain⟨u,q1,q2⟩:=IsDs.get (i:=i) (d:=d) h2 (by simpa using e)
    exact⟨u,by simpa using q1,q2⟩
theorem IsDs.set:∀ {ds:List D} {vs:List V} {d:D} {v:V} (i:Nat),IsDs K H ds vs->IsD K H d v->IsDs K H (ds.set i d) (vs.set i v)
  | [],_,_,_,_,h,_=>by rw [isNil.mp h]; exact IsDs.nil
  | c::ds,_,d,v,0,h,hd=>by
    obtain⟨u,r,rfl,h1,h2⟩:=isCons.mp h
    exact IsDs.cons hd h2
  | c::ds,_,d,v,i+1,h,hd=>by
    obtain⟨u,r,rfl,h1,h2⟩:=isCons.mp h
    exact IsDs.cons h1 (IsDs.set i h2 hd)
theorem IsDs.append:∀ {ds es:List D} {vs us:List V},IsDs K H ds vs->IsDs K H es us->IsDs K H (ds++es) (vs++us)
  | [],_,_,_,h,h'=>by rw [isNil.mp h]; exact h'
  | c::ds,_,_,_,h,h'=>by
    obtain⟨u,r,rfl,h1,h2⟩:=isCons.mp h
    exact IsDs.cons h1 (IsDs.append h2 h')
theorem IsDs.drop:∀ {ds:List D} {vs:List V} (n:Nat),IsDs K H ds vs->IsDs K H (ds.drop n) (vs.drop n)
  | _,_,0,h=>h
  | [],_,n+1,h=>by rw [isNil.mp h]; exact IsDs.nil
  | c::ds,_,n+1,h=>by
    obtain⟨u,r,rfl,h1,h2⟩:=isCons.mp h
    exact IsDs.drop n h2
theorem IsDs.take:∀ {ds:List D} {vs:List V} (n:Nat),IsDs K H ds vs->IsDs K H (ds.take n) (vs.take n)
  | _,_,0,h=>by simpa using IsDs.nil
  | [],_,n+1,h=>by rw [isNil.mp h]; exact IsDs.nil
  | c::ds,_,n+1,h=>by
    obtain⟨u,r,rfl,h1,h2⟩:=isCons.mp h
    exact IsDs.cons h1 (IsDs.take n h2)
end
def hashT (ks:List Int):Int:=reduceHash (Builtin.Tuple.tupleHashOf (ks.map hashInt))
def eT (x:List Int×Addr×Value):DictEntry:=⟨hashT x.1,.ref x.2.1,x.2.2⟩
def dxO (es:Array DictEntry) (ep:Nat):Obj:={cls:=.type "dict",dict:=none,data:=.dict es ep,slots:=#[]}
def DxP (a:Addr) (xs:List (List Int×Addr×Value)) (ep:Nat):Heap->Prop:=fun h=>(a == sysModules)=false/\xs.length<=sizeLine/\(xs.map (·.1)).Nodup/\h.get? a=some (dxO (xs.map eT).toArray ep)
inductive Gen where
  | dT (kvs:List (List Int×D)) (ep:Nat)
  | dK (kvs:List (Key×D))
abbrev KtR (K:Fg) (H:Hp):List (List Int×D)->List (List Int×Addr×Value)->Prop:=Paired fun p q=>p.1=q.1/\SqT K H q.2.1 (p.1.map V.int)/\∃ v,RelV v q.2.2/\IsD K H p.2 v
def GObj (K:Fg) (H:Hp) (a:Addr):Gen->Prop
  | .dT kvs ep=>∃ xs,H a=some (.ext (DxP a xs ep))/\KtR K H kvs xs
  | .dK kvs=>∃ ys,H a=some (.dK ys)/\Paired (fun (p:Key×D) (q:Key×V)=>p.1=q.1/\IsD K H p.2 q.2) kvs ys
theorem KtR.kp {K:Fg} {H H':Hp} {kvs:List (List Int×D)} {xs:List (List Int×Addr×Value)} (r:KtR K H kvs xs) (k:Kp H H'):KtR K H' kvs xs:=
  Paired.mapP r fun _ _ ⟨a,b,v,c,d⟩=>⟨a,k.tup b,v,c,d.kp k⟩
theorem GObj.there {K:Fg} {H:Hp} {a:Addr} {g:Gen} (h:GObj K H a g):∃ o,H a=some o/\¬ Imm o:=by
  cases g with
  | dT kvs ep=>obtain⟨xs,e,_⟩:=h; exact⟨_,e,fun z=>z⟩
  | dK kvs=>obtain⟨xs,e,_⟩:=h; exact⟨_,e,fun z=>z⟩
theorem GObj.step {K:Fg} {H H':Hp} {a:Addr} {g:Gen} (h:GObj K H a g) (k:Kp H H') (s:H' a=H a):GObj K H' a g:=by
  cases g with
  | dT kvs ep=>obtain⟨xs,e,r⟩:=h; exact⟨xs,s.trans e,r.kp k⟩
  | dK kvs=>obtain⟨xs,e,r⟩:=h; exact⟨xs,s.trans e,Paired.mapP r fun _ _ z=>⟨z.1,z.2.kp k⟩⟩
inductive DO where
  | lst (ds:List D)
  | dic
  | exc (C:Addr)
  | fn (φ:Hp->Prop)
  | tbl (ψ:Hp->Array Value->Prop)
  | gen (g:Gen)
abbrev DH:=Addr->Option DO
def put (S:DH) (a:Addr) (o:DO):DH:=fun b=>if b=a then some o else S b
theorem put_same {S:DH} {a:Addr} {o:DO}:put S a o a=some o:=by unfold put; rw [if_pos rfl]
theorem put_ne {S:DH} {a b:Addr} {o:DO} (h:b≠a):put S a o b=S b:=by unfold put; rw [if_neg h]
theorem put_put {S:DH} {a:Addr} {o u:DO}:put (put S a o) a u=put S a u:=by funext b; unfold put; split <;> rfl
theorem ne_put {S:DH} {a p:Addr} {o:DO} (h:S a=some o) (h':S p=none):a≠p:=by intro e; subst e; rw [h] at h'; cases h'
def DObj (K:Fg) (H:Hp) (a:Addr):DO->Prop
  | .lst ds=>∃ xs,H a=some (.lst xs)/\IsDs K H ds xs
  | .dic=>∃ kvs,H a=some (.dK kvs)
  | .exc C=>∃ o u,H a=some (.frz o u)/\o.cls=.ref C
  | .fn φ=>(∃ o u,H a=some (.frz o u))/\∀ H',Kp H H'->φ H'
  | .tbl ψ=>∃ ps,H a=some (.tbl ps)/\∀ H',Kp H H'->ψ H' ps
  | .gen g=>GObj K H a g
def Hs (K:Fg) (H:Hp) (S:DH):Prop:=∀ a o,S a=some o->DObj K H a o
section
variable {K:Fg} {H H':Hp} {S:DH} {p:Addr}
theorem Hs.lst {ds:List D} (h:Hs K H S) (e:S p=some (.lst ds)):∃ xs,H p=some (.lst xs)/\IsDs K H ds xs:=h p _ e
theorem Hs.free (h:Hs K H S) (e:H p=none):S p=none:=by
  cases q:S p with
  | none=>rfl
  | some o=>
    have z:=h p o q
    cases o with
    | lst ds=>obtain⟨xs,z,_⟩:=z; rw [e] at z; cases z
    | dic=>obtain⟨xs,z⟩:=z; rw [e] at z; cases z
    | exc C=>obtain⟨_,_,z,_⟩:=z; rw [e] at z; cases z
    | fn φ=>obtain⟨⟨_,_,z⟩,_⟩:=z; rw [e] at z; cases z
    | tbl ψ=>obtain⟨_,z,_⟩:=z; rw [e] at z; cases z
    | gen g=>obtain⟨_,z,_⟩:=GObj.there z; rw [e] at z; cases z
theorem Hs.step (h:Hs K H S) (k:Kp H H') (s:∀ a o,S a=some o->H' a=H a):Hs K H' S:=fun a o e=>by
  have z:=h a o e
  cases o with
  | lst ds=>obtain⟨xs,z,r⟩:=z; exact⟨xs,by rw [s a _ e]; exact z,r.kp k⟩
  | dic=>obtain⟨xs,z⟩:=z; exact⟨xs,by rw [s a _ e]; exact z⟩
  | exc C=>obtain⟨x,y,z,r⟩:=z; exact⟨x,y,by rw [s a _ e]; exact z,r⟩
  | fn φ=>obtain⟨⟨x,y,z⟩,r⟩:=z; exact⟨⟨x,y,by rw [s a _ e]; exact z⟩,fun H2 k2=>r H2 (k.trans k2)⟩
  | tbl ψ=>obtain⟨ps,z,r⟩:=z; exact⟨ps,by rw [s a _ e]; exact z,fun H2 k2=>r H2 (k.trans k2)⟩
  | gen g=>exact GObj.step z k (s a _ e)
theorem Hs.new {o:HO} (h:Hs K H S) (e:H p=none):Hs K (upd H p o) S:=h.step (Kp.new e) fun a u q=>by
  rw [upd_ne]; intro z; subst z; rw [h.free e] at q; cases q
theorem Hs.newL {xs:List V} {ds:List D} (h:Hs K H S) (e:H p=none) (r:IsDs K H ds xs):Hs K (upd H p (.lst xs)) (put S p (.lst ds)):=fun a o q=>by
  by_cases z:a=p
  · subst z
    rw [put_same] at q
    cases q
    exact⟨xs,upd_same,r.kp (Kp.new e)⟩
  · rw [put_ne z] at q
    exact(h.new e) a o q
theorem Hs.setL {xs ys:List V} {ds:List D} (h:Hs K H S) (e:H p=some (.lst xs)) (r:IsDs K H ds ys):Hs K (upd H p (.lst ys)) (put S p (.lst ds)):=fun a o q=>by
  have k:Kp H (upd H p (.lst ys)):=Kp.mut e (fun z=>z)
  by_cases z:a=p
  · subst z
    rw [put_same] at q
    cases q
    exact⟨ys,upd_same,r.kp k⟩
  · rw [put_ne z] at q
    have w:=h a o q
    cases o with
    | lst ds=>obtain⟨xs,w,r⟩:=w; exact⟨xs,by rw [upd_ne z]; exact w,r.kp k⟩
    | dic=>obtain⟨xs,w⟩:=w; exact⟨xs,by rw [upd_ne z]; exact w⟩
    | exc C=>obtain⟨x,y,w,r⟩:=w; exact⟨x,y,by rw [upd_ne z]; exact w,r⟩
    | fn φ=>obtain⟨⟨x,y,w⟩,r⟩:=w; exact⟨⟨x,y,by rw [upd_ne z]; exact w⟩,fun H2 k2=>r H2 (k.trans k2)⟩
    | tbl ψ=>obtain⟨ps,w,r⟩:=w; exact⟨ps,by rw [upd_ne z]; exact w,fun H2 k2=>r H2 (k.trans k2)⟩
    | gen g=>exact GObj.step w k (upd_ne z)
end
abbrev Lo:=List (Option D)
def Lc (K:Fg) (H:Hp):Lo->L2.St->Prop
  | [],σ=>σ=[]
  | none::L,σ=>∃ x r,σ=x::r/\Lc K H L r
  | some d::L,σ=>∃ v r,σ=some v::r/\IsD K H d v/\Lc K H L r
section
variable {K:Fg} {H H':Hp}
theorem Lc.kp (k:Kp H H'):∀ {L:Lo} {σ:L2.St},Lc K H L σ->Lc K H' L σ
  | [],_,h=>h
  | none::L,_,h=>by
    obtain⟨x,r,e,h⟩:=h
    exact⟨x,r,e,Lc.kp k h⟩
  | some d::L,_,h=>by
    obtain⟨v,r,e,h1,h⟩:=h
    exact⟨v,r,e,h1.kp k,Lc.kp k h⟩
theorem Lc.get:∀ {L:Lo} {σ:L2.St} {i:Nat} {d:D},Lc K H L σ->L[i]?=some (some d)->∃ v,σ[i]?=some (some v)/\IsD K H d v
  | [],_,_,_,_,e=>by simp at e
  | none::L,_,0,_,_,e=>by simp at e
  | some c::L,_,0,d,h,e=>by
    obtain⟨v,r,rfl,h1,h⟩:=h
    simp at e
    subst e
    exact⟨v,rfl,h1⟩
  | none::L,_,i+1,d,h,e=>by
    obtain⟨x,r,rfl,h⟩:=h
    obtain⟨u,q1,q2⟩:=Lc.get (i:=i) (d:=d) h (by simpa using e)
    exact⟨u,by simpa using q1,q2⟩
  | some c::L,_,i+1,d,h,e=>by
    obtain⟨v,r,rfl,_,h⟩:=h
    obtain⟨u,q1,q2⟩:=Lc.get (i:=i) (d:=d) h (by simpa using e)
    exact⟨u,by simpa using q1,q2⟩
theorem Lc.set {d:D} {v:V} (hd:IsD K H d v):∀ {L:Lo} {σ:L2.St} (i:Nat),Lc K H L σ->Lc K H (L.set i (some d)) (σ.set i (some v))
  | [],_,_,h=>by
    have e:_=[]:=h
    subst e
    exact rfl
  | none::L,_,0,h=>by
    obtain⟨x,r,rfl,h⟩:=h
    exact⟨v,r,rfl,hd,h⟩
  | some c::L,_,0,h=>by
    obtain⟨x,r,rfl,_,h⟩:=h
    exact⟨v,r,rfl,hd,h⟩
  | none::L,_,i+1,h=>by
    obtain⟨x,r,rfl,h⟩:=h
    exact⟨x,r.set i (some v),rfl,Lc.set hd i h⟩
  | some c::L,_,i+1,h=>by
    obtain⟨x,r,rfl,h1,h⟩:=h
    exact⟨x,r.set i (some v),rfl,h1,Lc.set hd i h⟩
theorem Lc.none:∀ (n:Nat),Lc K H (List.replicate n .none) (List.replicate n .none)
  | 0=>rfl
  | n+1=>⟨_,_,rfl,Lc.none n⟩
theorem Lc.start:∀ {ds:List D} {vs:List V} (n:Nat),IsDs K H ds vs->Lc K H (ds.map some++List.replicate n .none) (vs.map some++List.replicate n .none)
  | [],_,n,h=>by rw [isNil.mp h]; exact Lc.none n
  | d::ds,_,n,h=>by
    obtain⟨v,r,rfl,h1,h2⟩:=isCons.mp h
    exact⟨v,_,rfl,h1,Lc.start n h2⟩
end
abbrev DK:=D->DH->Prop
abbrev DE:=Lo->DH->DK->Prop
abbrev DT:=Lo->DH->(Bool->DH->Prop)->Prop
abbrev DA:=Lo->DH->(List D->DH->Prop)->Prop
structure DEnds where
  nx:Lo->DH->Prop
  rt:DK
  bk:Lo->DH->Prop:=fun _ _=>False
  ct:Lo->DH->Prop:=fun _ _=>False
abbrev DS:=DEnds->Lo->DH->Prop
def up (K:Fg) (g:DE):TE:=fun σ H Q=>∃ L S k,Lc K H L σ/\Hs K H S/\g L S k/\∀ d S' v H',k d S'->Kp H H'->Hs K H' S'->IsD K H' d v->Q v H'
def upT (K:Fg) (g:DT):TT:=fun σ H Q=>∃ L S k,Lc K H L σ/\Hs K H S/\g L S k/\∀ b S' H',k b S'->Kp H H'->Hs K H' S'->Q b H'
def upA (K:Fg) (g:DA):TA:=fun σ H Q=>∃ L S k,Lc K H L σ/\Hs K H S/\g L S k/\∀ ds S' vs H',k ds S'->Kp H H'->Hs K H' S'->IsDs K H' ds vs->Q vs H'
structure Rch (K:Fg) (H:Hp) (M:DEnds) (N:Ends):Prop where
  nx:∀ L S σ H',M.nx L S->Kp H H'->Lc K H' L σ->Hs K H' S->N.nx σ H'
  rt:∀ d S v H',M.rt d S->Kp H H'->Hs K H' S->IsD K H' d v->N.rt v H'
  bk:∀ L S σ H',M.bk L S->Kp H H'->Lc K H' L σ->Hs K H' S->N.bk σ H'
  ct:∀ L S σ H',M.ct L S->Kp H H'->Lc K H' L σ->Hs K H' S->N.ct σ H'
theorem Rch.kp {K:Fg} {H H1:Hp} {M:DEnds} {N:Ends} (r:Rch K H M N) (k:Kp H H1):Rch K H1 M N:=
  ⟨fun L S σ H' h k'=>r.nx L S σ H' h (k.trans k'),fun d S v H' h k'=>r.rt d S v H' h (k.trans k'),fun L S σ H' h k'=>r.bk L S σ H' h (k.trans k'),fun L S σ H' h k'=>r.ct L S σ H' h (k.trans k')⟩
def upS (K:Fg) (g:DS):TS:=fun N σ H=>∃ L S M,Lc K H L σ/\Hs K H S/\g M L S/\Rch K H M N
theorem PE.imp {X:Cx} {e:Expr} {t t':TE} (h:PE X e t) (i:∀ σ H Q,t' σ H Q->t σ H Q):PE X e t':=fun pins s σ H Q I q=>h pins s σ H Q I (i σ H Q q)
theorem PT.imp {X:Cx} {e:Expr} {t t':TT} (h:PT X e t) (i:∀ σ H Q,t' σ H Q->t σ H Q):PT X e t':=fun pins s σ H Q I q=>h pins s σ H Q I (i σ H Q q)
theorem PW.imp {X:Cx} {e:Expr} {t t':TT} (h:PW X e t) (i:∀ σ H Q,t' σ H Q->t σ H Q):PW X e t':=fun w pins s σ H Q I q=>h w pins s σ H Q I (i σ H Q q)
theorem PA.imp {X:Cx} {e:List Expr} {t t':TA} (h:PA X e t) (i:∀ σ H Q,t' σ H Q->t σ H Q):PA X e t':=fun pos pins s σ H Q I q=>h pos pins s σ H Q I (i σ H Q q)
theorem PS.imp {X:Cx} {e:Stmt} {t t':TS} (h:PS X e t) (i:∀ N σ H,t' N σ H->t N σ H):PS X e t':=fun pins s σ H Q I q=>h pins s σ H Q I (i Q σ H q)
theorem PSs.imp {X:Cx} {e:List Stmt} {t t':TS} (h:PSs X e t) (i:∀ N σ H,t' N σ H->t N σ H):PSs X e t':=fun pins s σ H Q I q=>h pins s σ H Q I (i Q σ H q)
theorem up.go {K:Fg} {g:DE} {σ:L2.St} {H:Hp} {Q:VK} {L:Lo} {S:DH} {k:DK} (hL:Lc K H L σ) (hS:Hs K H S) (h:g L S k)
    (n:∀ d S' v H',k d S'->Kp H H'->Lc K H' L σ->Hs K H' S'->IsD K H' d v->Q v H'):up K g σ H Q:=
  ⟨L,S,k,hL,hS,h,fun d S' v H' a b c e=>n d S' v H' a b (hL.kp b) c e⟩
theorem upT.go {K:Fg} {g:DT} {σ:L2.St} {H:Hp} {Q:Bool->Hp->Prop} {L:Lo} {S:DH} {k:Bool->DH->Prop} (hL:Lc K H L σ) (hS:Hs K H S) (h:g L S k)
    (n:∀ b S' H',k b S'->Kp H H'->Lc K H' L σ->Hs K H' S'->Q b H'):upT K g σ H Q:=
  ⟨L,S,k,hL,hS,h,fun b S' H' a c e=>n b S' H' a c (hL.kp c) e⟩
theorem upA.go {K:Fg} {g:DA} {σ:L2.St} {H:Hp} {Q:List V->Hp->Prop} {L:Lo} {S:DH} {k:List D->DH->Prop} (hL:Lc K H L σ) (hS:Hs K H S) (h:g L S k)
    (n:∀ ds S' vs H',k ds S'->Kp H H'->Lc K H' L σ->Hs K H' S'->IsDs K H' ds vs->Q vs H'):upA K g σ H Q:=
  ⟨L,S,k,hL,hS,h,fun d S' v H' a b c e=>n d S' v H' a b (hL.kp b) c e⟩
section
variable {X:Cx} {a b c:Expr} {ga gb gc:DE} {pos:Pos}
def dVar (i:Nat):DE:=fun L S k=>match L[i]? with
  | some (some d)=>k d S
  | _=>False
def dC (d:D):DE:=fun _ S k=>k d S
theorem d_var (i:Nat) {x:Str} (hN:X.N[i]?=some x:=by rfl) (hv:Vis X.env.scope x:=by first | exact Or.inl rfl | exact Or.inr (Or.inl rfl) | exact Or.inr (Or.inr rfl)) (hd:(x == ("__debug__":Str))=false:=by decide)
    (hcd:(x == ("__classdict__":Str))=false:=by decide):PE X (.Name x pos) (up X.K (dVar i)):=
  PE.imp (pe_var hN hv hd hcd) fun σ H Q ⟨L,S,k,hL,hS,h,n⟩=>by
    unfold dVar at h
    split at h
    · rename_i d e
      obtain⟨v,e1,e2⟩:=hL.get e
      exact⟨v,e1,n d S v H h (Kp.refl H) hS e2⟩
    · exact h.elim
theorem d_c {e:Expr} {d:D} {v:V} (h:PE X e (tC v)) (hd:∀ H,IsD X.K H d v):PE X e (up X.K (dC d)):=
  PE.imp h fun σ H Q ⟨L,S,k,hL,hS,h,n⟩=>n d S v H h (Kp.refl H) hS (hd H)
theorem d_int {i j pos}:PE X (.Constant (.int i) j pos) (up X.K (dC (.int i))):=d_c pe_int fun _=>isInt.mpr rfl
theorem d_bl {i j pos}:PE X (.Constant (.bool i) j pos) (up X.K (dC (.bl i))):=d_c pe_bl fun _=>isBl.mpr rfl
theorem d_non {j pos}:PE X (.Constant .none j pos) (up X.K (dC .non)):=d_c pe_non fun _=>isNon.mpr rfl
theorem d_str {i j pos}:PE X (.Constant (.str i) j pos) (up X.K (dC (.str i))):=d_c pe_str fun _=>isStr.mpr rfl
theorem d_ty {x:Str} {n:Ty} (hg:Gl X x) (hm:X.mg x=none) (hv:bootBuiltins x=some (.type n.name)) (hn:x≠"__name__":=by decide) (hd:(x == ("__debug__":Str))=false:=by decide):PE X (.Name x pos) (up X.K (dC (.ty n))):=
  d_c (pe_bltn (v:=.ty n.name) hg hm hv rfl hn hd) fun _=>isTy.mpr rfl
def starB:Expr->Bool
  | .Starred _ _=>true
  | _=>false
theorem star_cons {a:Expr} {es:List Expr} {env:Env} (h:starB a=false):starEach (a::es) env=(false,eval a env)::starEach es env:=by
  cases a <;> first | rfl | cases h
theorem star_any {pos:Pos} {env:Env}:∀ {es:List Expr},(es.all fun e=>!starB e)=true->(backTo pos (starEach es env)).any (·.1)=false
  | [],_=>rfl
  | e::es,h=>by
    rw [List.all_cons,Bool.and_eq_true] at h
    rw [star_cons (by simpa using h.1)]
    exact star_any h.2
def dNil:DA:=fun _ S k=>k [] S
def dCons (g:DE) (t:DA):DA:=fun L S k=>g L S fun d S1=>t L S1 fun ds S2=>k (d::ds) S2
theorem da_nil:PA X [] (upA X.K dNil):=PA.imp pa_nil fun σ H Q ⟨L,S,k,hL,hS,h,n⟩=>n [] S [] H h (Kp.refl H) hS IsDs.nil
theorem da_cons {es:List Expr} {t:DA} (ha:PE X a (up X.K ga)) (hr:PA X es (upA X.K t)) (hs:starEach (a::es) X.env=(false,eval a X.env)::starEach es X.env:=by exact star_cons rfl):PA X (a::es) (upA X.K (dCons ga t)):=
  PA.imp (pa_cons ha hr hs) fun σ H Q ⟨L,S,k,hL,hS,h,n⟩=>up.go hL hS h fun d S1 v H1 h1 k1 hL1 hS1 i1=>upA.go hL1 hS1 h1 fun ds S2 vs H2 h2 k2 hL2 hS2 i2=>
    n (d::ds) S2 (v::vs) H2 h2 (k1.trans k2) hS2 (IsDs.cons (i1.kp k2) i2)
def dTup (t:DA):DE:=fun L S k=>t L S fun ds S1=>ds.length<=sizeLine/\k (.tup ds) S1
def dLst (t:DA):DE:=fun L S k=>t L S fun ds S1=>ds.length<=sizeLine/\∀ p,S1 p=none->k (.ref p) (put S1 p (.lst ds))
theorem d_tup {es:List Expr} {x1} {t:DA} (h:PA X es (upA X.K t)):PE X (.Tuple es x1 pos) (up X.K (dTup t)):=
  PE.imp (pe_tup h) fun σ H Q ⟨L,S,k,hL,hS,h,n⟩=>upA.go hL hS h fun ds S1 vs H1 h1 k1 hL1 hS1 i1=>by
    refine⟨by rw [<- i1.length]; exact h1.1,fun p hp=>?_⟩
    have k2:Kp H1 (upd H1 p (.tup vs)):=Kp.new hp
    exact n (.tup ds) S1 _ _ h1.2 (k1.trans k2) (hS1.new hp) (isTup.mpr ⟨p,vs,rfl,SqT.of upd_same,i1.kp k2⟩)
theorem d_lst {es:List Expr} {t:DA} (h:PA X es (upA X.K t)):PE X (.List es pos) (up X.K (dLst t)):=
  PE.imp (pe_lst h) fun σ H Q ⟨L,S,k,hL,hS,h,n⟩=>upA.go hL hS h fun ds S1 vs H1 h1 k1 hL1 hS1 i1=>by
    refine⟨by rw [<- i1.length]; exact h1.1,fun p hp=>?_⟩
    exact n (.ref p) _ _ _ (h1.2 p (hS1.free hp)) (k1.trans (Kp.new hp)) (hS1.newL hp i1) (isRef.mpr rfl)
abbrev D2:=D->D->DH->DK->Prop
def upR (K:Fg) (r:D2):R2:=fun x y H Q=>∃ d e S k,IsD K H d x/\IsD K H e y/\Hs K H S/\r d e S k/\∀ d' S' v H',k d' S'->Kp H H'->Hs K H' S'->IsD K H' d' v->Q v H'
def dOp (r:D2) (ga gb:DE):DE:=fun L S k=>ga L S fun x S1=>gb L S1 fun y S2=>r x y S2 k
theorem dOp_go {K:Fg} {r:D2}:∀ σ H Q,up K (dOp r ga gb) σ H Q->tOp (upR K r) (up K ga) (up K gb) σ H Q:=fun σ H Q ⟨L,S,k,hL,hS,h,n⟩=>
  up.go hL hS h fun d S1 v H1 h1 k1 hL1 hS1 i1=>up.go hL1 hS1 h1 fun e S2 u H2 h2 k2 hL2 hS2 i2=>
    ⟨d,e,S2,k,i1.kp k2,i2,hS2,h2,fun d' S' v H' q k3 z1 z2=>n d' S' v H' q (k1.trans (k2.trans k3)) z1 z2⟩
theorem d_op {op:Operator} {r:D2} (ho:OpR X (binaryOp op) (upR X.K r)) (ha:PE X a (up X.K ga)) (hb:PE X b (up X.K gb)):PE X (.BinOp a op b pos) (up X.K (dOp r ga gb)):=PE.imp (pe_op ho ha hb) dOp_go
theorem d_cmp {op:CmpOp} {r:D2} (ho:OpR X (compareOp op) (upR X.K r)) (ha:PE X a (up X.K ga)) (hb:PE X b (up X.K gb)) (hm:behindInMarks op b=false):PE X (.Compare a [op] [b] pos) (up X.K (dOp r ga gb)):=PE.imp (pe_cmpR ho ha hb hm) dOp_go
theorem d_ix {r:D2} (hr:IxR X (upR X.K r)) (ha:PE X a (up X.K ga)) (hb:PE X b (up X.K gb)) (hs:PlainIx b):PE X (.Subscript a b pos) (up X.K (dOp r ga gb)):=PE.imp (pe_ix hr ha hb hs) dOp_go
abbrev D1:=D->DH->DK->Prop
def upU (K:Fg) (r:D1):V->Hp->VK->Prop:=fun x H Q=>∃ d S k,IsD K H d x/\Hs K H S/\r d S k/\∀ d' S' v H',k d' S'->Kp H H'->Hs K H' S'->IsD K H' d' v->Q v H'
def dUn (r:D1) (ga:DE):DE:=fun L S k=>ga L S fun x S1=>r x S1 k
theorem d_un {op:UnaryOp} {r:D1} (ho:UnR X (unaryOp op) (upU X.K r)) (ha:PE X a (up X.K ga)):PE X (.UnaryOp op a pos) (up X.K (dUn r ga)):=
  PE.imp (pe_un ho ha) fun σ H Q ⟨L,S,k,hL,hS,h,n⟩=>up.go hL hS h fun d S1 v H1 h1 k1 hL1 hS1 i1=>⟨d,S1,k,i1,hS1,h1,fun d' S' v H' q k3 z1 z2=>n d' S' v H' q (k1.trans k3) z1 z2⟩
def dTest (g:DE):DT:=fun L S k=>g L S fun d S1=>match d with
  | .bl c=>k c S1
  | _=>False
theorem dTest_go {K:Fg} {g:DE}:∀ σ H Q,upT K (dTest g) σ H Q->tTest (up K g) σ H Q:=fun σ H Q ⟨L,S,k,hL,hS,h,n⟩=>
  up.go hL hS h fun d S1 v H1 h1 k1 hL1 hS1 i1=>by
    cases d with
    | bl c=>
      have e:=isBl.mp i1
      subst e
      exact⟨c,rfl,n c S1 H1 h1 k1 hS1⟩
    | _=>exact(show False from h1).elim
theorem dt_cmp {op:CmpOp} {r:D2} (ho:OpR X (compareOp op) (upR X.K r)) (ha:PE X a (up X.K ga)) (hb:PE X b (up X.K gb)) (hm:behindInMarks op b=false):PT X (.Compare a [op] [b] pos) (upT X.K (dTest (dOp r ga gb))):=
  PT.imp (PT.imp (pt_cmpR ho ha hb hm) fun σ H Q h=>dOp_go σ H _ h) dTest_go
theorem dt_val {e:Expr} {g:DE} (h:PE X e (up X.K g)) (he:∀ whole,isTrue e X.env whole=(do let v <- whole; standAt e.pos; holding [v] (truthy v)):=by intro _; rfl):PT X e (upT X.K (dTest g)):=
  PT.imp (pt_val h he) dTest_go
variable {tA tB':DT} {rest:List Expr}
def dAndT (t u:DT):DT:=fun L S k=>t L S fun c S1=>if c=true then u L S1 k else k false S1
def dOrT (t u:DT):DT:=fun L S k=>t L S fun c S1=>if c=true then k true S1 else u L S1 k
def dNotT (t:DT):DT:=fun L S k=>t L S fun c S1=>k (!c) S1
theorem dw_and1 (ha:PT X a (upT X.K tA)):PW X (.BoolOp .And [a] pos) (upT X.K tA):=pw_and1 ha
theorem dw_or1 (ha:PT X a (upT X.K tA)):PW X (.BoolOp .Or [a] pos) (upT X.K tA):=pw_or1 ha
theorem dw_and (ha:PT X a (upT X.K tA)) (hb:PW X (.BoolOp .And (b::rest) pos) (upT X.K tB')):PW X (.BoolOp .And (a::b::rest) pos) (upT X.K (dAndT tA tB')):=
  PW.imp (pw_and ha hb) fun σ H Q ⟨L,S,k,hL,hS,h,n⟩=>upT.go hL hS h fun c S1 H1 h1 k1 hL1 hS1=>by
    cases c with
    | true=>
      rw [if_pos rfl] at h1 ⊢
      exact upT.go hL1 hS1 h1 fun c2 S2 H2 h2 k2 _ hS2=>n c2 S2 H2 h2 (k1.trans k2) hS2
    | false=>
      rw [if_neg Bool.false_ne_true] at h1 ⊢
      exact n false S1 H1 h1 k1 hS1
theorem dw_or (ha:PT X a (upT X.K tA)) (hb:PW X (.BoolOp .Or (b::rest) pos) (upT X.K tB')):PW X (.BoolOp .Or (a::b::rest) pos) (upT X.K (dOrT tA tB')):=
  PW.imp (pw_or ha hb) fun σ H Q ⟨L,S,k,hL,hS,h,n⟩=>upT.go hL hS h fun c S1 H1 h1 k1 hL1 hS1=>by
    cases c with
    | true=>
      rw [if_pos rfl] at h1 ⊢
      exact n true S1 H1 h1 k1 hS1
    | false=>
      rw [if_neg Bool.false_ne_true] at h1 ⊢
      exact upT.go hL1 hS1 h1 fun c2 S2 H2 h2 k2 _ hS2=>n c2 S2 H2 h2 (k1.trans k2) hS2
theorem dt_not (ha:PT X a (upT X.K tA)):PT X (.UnaryOp .Not a pos) (upT X.K (dNotT tA)):=
  PT.imp (pt_not ha) fun σ H Q ⟨L,S,k,hL,hS,h,n⟩=>upT.go hL hS h fun c S1 H1 h1 k1 hL1 hS1=>n _ S1 H1 h1 k1 hS1
end
section
variable {X:Cx}
theorem up1 {K:Fg} {H:Hp} {S:DH} {k:DK} {Q:VK} {d:D} {v:V} (n:∀ d' S' v H',k d' S'->Kp H H'->Hs K H' S'->IsD K H' d' v->Q v H') (hS:Hs K H S) (h:k d S) (i:IsD K H d v):Q v H:=n d S v H h (Kp.refl H) hS i
def d2I (C:Int->Int->Prop) (g:Int->Int->D):D2:=fun d e S k=>match d,e with
  | .int i,.int j=>C i j/\k (g i j) S
  | _,_=>False
theorem op2I {f:Value->Value->Sem Value} {C:Int->Int->Prop} {g:Int->Int->D} {gV:Int->Int->V} (ho:OpR X f (rI C gV)) (hg:∀ i j H,IsD X.K H (g i j) (gV i j)):OpR X f (upR X.K (d2I C g)):=by
  intro pins s σ H x y v u Q I rx ry h
  obtain⟨d,e,S,k,i1,i2,hS,r,n⟩:=h
  cases d with
  | int i=>
    cases e with
    | int j=>
      have e1:=isInt.mp i1
      have e2:=isInt.mp i2
      subst e1
      subst e2
      exact ho pins s σ H _ _ v u Q I rx ry ⟨i,j,rfl,rfl,r.1,up1 n hS r.2 (hg i j H)⟩
    | _=>exact(show False from r).elim
  | _=>exact(show False from r).elim
def d2I0 (g:Int->Int->D):D2:=fun d e S k=>match d,e with
  | .int i,.int j=>k (g i j) S
  | _,_=>False
theorem op2I0 {f:Value->Value->Sem Value} {g:Int->Int->D} {gV:Int->Int->V} (ho:OpR X f (rI0 gV)) (hg:∀ i j H,IsD X.K H (g i j) (gV i j)):OpR X f (upR X.K (d2I0 g)):=by
  intro pins s σ H x y v u Q I rx ry h
  obtain⟨d,e,S,k,i1,i2,hS,r,n⟩:=h
  cases d with
  | int i=>
    cases e with
    | int j=>
      have e1:=isInt.mp i1
      have e2:=isInt.mp i2
      subst e1
      subst e2
      exact ho pins s σ H _ _ v u Q I rx ry ⟨i,j,rfl,rfl,up1 n hS r (hg i j H)⟩
    | _=>exact(show False from r).elim
  | _=>exact(show False from r).elim
def CDivB (i j:Int):Prop:=j≠0/\j.natAbs.log2 < 9000
abbrev dSub:D2:=d2I0 fun i j=>.int (i - j)
abbrev dMul:D2:=d2I IntMulOk fun i j=>.int (i*j)
abbrev dDiv:D2:=d2I CDivB fun i j=>.int (i.fdiv j)
abbrev dMod:D2:=d2I (fun _ j=>j≠0) fun i j=>.int (i.fmod j)
abbrev dPow:D2:=d2I CPow fun i j=>.int (i ^ j.toNat)
abbrev dLt:D2:=d2I0 fun i j=>.bl (decide (i < j))
abbrev dGt:D2:=d2I0 fun i j=>.bl (decide (j < i))
abbrev dGe:D2:=d2I0 fun i j=>.bl (decide (j<=i))
theorem o_sub:OpR X (binaryOp .Sub) (upR X.K dSub):=op2I0 op_sub fun _ _ _=>isInt.mpr rfl
theorem o_mul:OpR X (binaryOp .Mult) (upR X.K dMul):=op2I (C:=IntMulOk) (gV:=fun i j=>.int (i*j)) (opI fun _ _ _ _ _ _ _ hc q=>mul_int q hc) fun _ _ _=>isInt.mpr rfl
theorem o_div:OpR X (binaryOp .FloorDiv) (upR X.K dDiv):=op2I (C:=CDivB) (gV:=fun i j=>.int (i.fdiv j)) (opI fun _ _ _ _ _ _ _ hc q=>floordiv_int hc.1 q (.inl (PyProof.noPylong_of_log2 hc.2))) fun _ _ _=>isInt.mpr rfl
theorem o_mod:OpR X (binaryOp .Mod) (upR X.K dMod):=op2I op_modN fun _ _ _=>isInt.mpr rfl
theorem o_pow:OpR X (binaryOp .Pow) (upR X.K dPow):=op2I op_pow fun _ _ _=>isInt.mpr rfl
theorem o_lt:OpR X (compareOp .Lt) (upR X.K dLt):=op2I0 op_lt fun _ _ _=>isBl.mpr rfl
theorem o_gt:OpR X (compareOp .Gt) (upR X.K dGt):=op2I0 op_gt fun _ _ _=>isBl.mpr rfl
theorem o_ge:OpR X (compareOp .GtE) (upR X.K dGe):=op2I0 op_ge fun _ _ _=>isBl.mpr rfl
def dAdd:D2:=fun d e S k=>match d,e with
  | .int i,.int j=>k (.int (i+j)) S
  | .str x,.str y=>x.length+y.length<=sizeLine/\k (.str (x++y)) S
  | .tup xs,.tup ys=>xs≠[]/\ys≠[]/\xs.length+ys.length<=sizeLine/\k (.tup (xs++ys)) S
  | .ref a,.ref b=>∃ xs ys,S a=some (.lst xs)/\S b=some (.lst ys)/\xs.length+ys.length<=sizeLine/\∀ p,S p=none->k (.ref p) (put S p (.lst (xs++ys)))
  | _,_=>False
theorem ne_nil_of {K:Fg} {H:Hp} {ds:List D} {vs:List V} (i:IsDs K H ds vs) (h:ds≠[]):vs≠[]:=by
  intro e
  subst e
  have:=i.length
  exact h (List.length_eq_zero_iff.mp this)
theorem o_add:OpR X (binaryOp .Add) (upR X.K dAdd):=by
  intro pins s σ H x y v u Q I rx ry h
  obtain⟨d,e,S,k,i1,i2,hS,r,n⟩:=h
  cases d with
  | int i=>
    cases e with
    | int j=>
      have e1:=isInt.mp i1
      have e2:=isInt.mp i2
      subst e1
      subst e2
      exact op_add pins s σ H _ _ v u Q I rx ry ⟨i,j,rfl,rfl,up1 n hS r (isInt.mpr rfl)⟩
    | _=>exact(show False from r).elim
  | str i=>
    cases e with
    | str j=>
      have e1:=isStr.mp i1
      have e2:=isStr.mp i2
      subst e1
      subst e2
      exact op_add_str pins s σ H _ _ v u Q I rx ry ⟨i,j,rfl,rfl,r.1,up1 n hS r.2 (isStr.mpr rfl)⟩
    | _=>exact(show False from r).elim
  | tup xs=>
    cases e with
    | tup ys=>
      obtain⟨a,vs,rfl,t1,j1⟩:=isTup.mp i1
      obtain⟨b,us,rfl,t2,j2⟩:=isTup.mp i2
      obtain⟨h1,h2,h3,r⟩:=r
      refine op_catT pins s σ H _ _ v u Q I rx ry ⟨a,b,vs,us,rfl,rfl,t1,t2,ne_nil_of j1 h1,by rw [<- j1.length,<- j2.length]; exact h3,fun z=>absurd z (ne_nil_of j2 h2),fun _ p hp=>?_⟩
      have kp:Kp H (upd H p (.tup (vs++us))):=Kp.new hp
      exact n _ S _ _ r kp (hS.new hp) (isTup.mpr ⟨p,_,rfl,SqT.of upd_same,(j1.append j2).kp kp⟩)
    | _=>exact(show False from r).elim
  | ref a=>
    cases e with
    | ref b=>
      have e1:=isRef.mp i1
      have e2:=isRef.mp i2
      subst e1
      subst e2
      obtain⟨xs,ys,h1,h2,h3,r⟩:=r
      obtain⟨vs,q1,j1⟩:=hS.lst h1
      obtain⟨us,q2,j2⟩:=hS.lst h2
      refine op_cat pins s σ H _ _ v u Q I rx ry ⟨a,b,vs,us,rfl,rfl,q1,q2,by rw [<- j1.length,<- j2.length]; exact h3,fun p hp=>?_⟩
      exact n _ _ _ _ (r p (hS.free hp)) (Kp.new hp) (hS.newL hp (j1.append j2)) (isRef.mpr rfl)
    | _=>exact(show False from r).elim
  | _=>exact(show False from r).elim
def eqF:D->D->Option Bool
  | .int i,.int j=>some (decide (i=j))
  | .bl i,.bl j=>some (decide (i=j))
  | .str i,.str j=>some (decide (i=j))
  | _,_=>none
def dEq:D2:=fun d e S k=>match eqF d e with
  | some b=>k (.bl b) S
  | none=>False
def dNe:D2:=fun d e S k=>match eqF d e with
  | some b=>k (.bl (!b)) S
  | none=>False
theorem eqF_V {K:Fg} {H:Hp} {d e:D} {x y:V} {b:Bool} (h:eqF d e=some b) (i1:IsD K H d x) (i2:IsD K H e y):scal x y=true/\decide (x=y)=b:=by
  unfold eqF at h
  split at h
  · have e1:=isInt.mp i1
    have e2:=isInt.mp i2
    subst e1; subst e2
    cases h
    exact⟨rfl,by simp⟩
  · have e1:=isBl.mp i1
    have e2:=isBl.mp i2
    subst e1; subst e2
    cases h
    exact⟨rfl,by simp⟩
  · have e1:=isStr.mp i1
    have e2:=isStr.mp i2
    subst e1; subst e2
    cases h
    exact⟨rfl,by simp⟩
  · cases h
theorem o_eq:OpR X (compareOp .Eq) (upR X.K dEq):=by
  intro pins s σ H x y v u Q I rx ry h
  obtain⟨d,e,S,k,i1,i2,hS,r,n⟩:=h
  unfold dEq at r
  cases q:eqF d e with
  | none=>rw [q] at r; exact r.elim
  | some b=>
    rw [q] at r
    obtain⟨h1,h2⟩:=eqF_V q i1 i2
    exact op_eq pins s σ H _ _ v u Q I rx ry ⟨h1,by rw [h2]; exact up1 n hS r (isBl.mpr rfl)⟩
theorem o_ne:OpR X (compareOp .NotEq) (upR X.K dNe):=by
  intro pins s σ H x y v u Q I rx ry h
  obtain⟨d,e,S,k,i1,i2,hS,r,n⟩:=h
  unfold dNe at r
  cases q:eqF d e with
  | none=>rw [q] at r; exact r.elim
  | some b=>
    rw [q] at r
    obtain⟨h1,h2⟩:=eqF_V q i1 i2
    exact op_ne pins s σ H _ _ v u Q I rx ry ⟨h1,by rw [h2]; exact up1 n hS r (isBl.mpr rfl)⟩
def isNonD:D->Bool
  | .non=>true
  | _=>false
def dIsNot:D2:=fun d e S k=>match d,e with
  | .bl c,.bl b=>k (.bl (!(c == b))) S
  | d,.non=>k (.bl (!isNonD d)) S
  | _,_=>False
theorem isNonD_V {K:Fg} {H:Hp} {d:D} {x:V} (i:IsD K H d x):decide (x=.non)=isNonD d:=by
  cases d with
  | non=>rw [isNon.mp i]; rfl
  | bl b=>rw [isBl.mp i]; rfl
  | int b=>rw [isInt.mp i]; rfl
  | str b=>rw [isStr.mp i]; rfl
  | ref b=>rw [isRef.mp i]; rfl
  | ty b=>rw [isTy.mp i]; rfl
  | tup b=>obtain⟨a,xs,rfl,_⟩:=isTup.mp i; rfl
  | rl b=>obtain⟨a,xs,rfl,_⟩:=isRl.mp i; rfl
theorem o_isNot:OpR X (compareOp .IsNot) (upR X.K dIsNot):=by
  intro pins s σ H x y v u Q I rx ry h
  obtain⟨d,e,S,k,i1,i2,hS,r,n⟩:=h
  unfold dIsNot at r
  split at r
  · rename_i c b
    have e1:=isBl.mp i1
    have e2:=isBl.mp i2
    subst e1; subst e2
    cases rx; cases ry
    exact isnot_bool ⟨.bl _,H,I,rfl,up1 n hS r (isBl.mpr rfl)⟩
  · have e2:=isNon.mp i2
    exact op_notN pins s σ H _ _ v u Q I rx ry ⟨e2,by rw [isNonD_V i1]; exact up1 n hS r (isBl.mpr rfl)⟩
  · exact r.elim
def dNeg:D1:=fun d S k=>match d with
  | .int i=>k (.int (-i)) S
  | _=>False
theorem o_neg:UnR X (unaryOp .USub) (upU X.K dNeg):=by
  intro pins s σ H x v Q I rx h
  obtain⟨d,S,k,i1,hS,r,n⟩:=h
  cases d with
  | int i=>
    have e1:=isInt.mp i1
    subst e1
    exact un_neg pins s σ H _ v Q I rx ⟨i,rfl,up1 n hS r (isInt.mpr rfl)⟩
  | _=>exact(show False from r).elim
def dIx:D2:=fun d e S k=>match d,e with
  | .tup ds,.int i=>(match atI ds i with
    | some c=>k c S
    | none=>False)
  | .rl ds,.int i=>(match atI ds i with
    | some c=>k c S
    | none=>False)
  | .ref a,.int i=>(match S a with
    | some (.lst ds)=>(match atI ds i with
      | some c=>k c S
      | none=>False)
    | _=>False)
  | _,_=>False
theorem IsDs.atI {K:Fg} {H:Hp} {ds:List D} {vs:List V} {i:Int} {d:D} (r:IsDs K H ds vs) (h:atI ds i=some d):∃ v,L2.atI vs i=some v/\IsD K H d v:=by
  unfold L2.atI at h ⊢
  rw [<- r.length]
  cases q:ixN ds.length i with
  | none=>rw [q] at h; cases h
  | some j=>
    rw [q] at h
    exact r.get h
theorem x_ix:IxR X (upR X.K dIx):=by
  intro value slice pins s σ H x y v u Q I rx ry h hs
  obtain⟨d,e,S,k,i1,i2,hS,r,n⟩:=h
  cases e with
  | int i=>
    have e2:=isInt.mp i2
    subst e2
    cases d with
    | tup ds=>
      obtain⟨a,vs,rfl,t,j⟩:=isTup.mp i1
      cases q:atI ds i with
      | none=>simp only [dIx,q] at r
      | some c=>
        simp only [dIx,q] at r
        obtain⟨w,e1,e2⟩:=j.atI q
        exact ix_tup value slice pins s σ H _ _ v u Q I rx ry ⟨a,vs,i,w,rfl,rfl,t,e1,up1 n hS r e2⟩ hs
    | rl ds=>
      obtain⟨a,vs,rfl,t,j⟩:=isRl.mp i1
      cases q:atI ds i with
      | none=>simp only [dIx,q] at r
      | some c=>
        simp only [dIx,q] at r
        obtain⟨w,e1,e2⟩:=j.atI q
        exact ix_list value slice pins s σ H _ _ v u Q I rx ry ⟨a,vs,i,w,rfl,rfl,t.sq,e1,up1 n hS r e2⟩ hs
    | ref a=>
      have e1:=isRef.mp i1
      subst e1
      cases z:S a with
      | none=>simp only [dIx,z] at r
      | some o=>
        cases o with
        | dic=>simp only [dIx,z] at r
        | exc _=>simp only [dIx,z] at r
        | fn _=>simp only [dIx,z] at r
        | tbl _=>simp only [dIx,z] at r
        | gen _=>simp only [dIx,z] at r
        | lst ds=>
          obtain⟨vs,hl,j⟩:=hS.lst z
          cases q:atI ds i with
          | none=>simp only [dIx,z,q] at r
          | some c=>
            simp only [dIx,z,q] at r
            obtain⟨w,e1,e2⟩:=j.atI q
            exact ix_list value slice pins s σ H _ _ v u Q I rx ry ⟨a,vs,i,w,rfl,rfl,SqL.of hl,e1,up1 n hS r e2⟩ hs
    | _=>exact(show False from r).elim
  | _=>
    cases d <;> exact(show False from r).elim
end
abbrev DSp:=List D->DH->DK->Prop
def upC (K:Fg) (r:DSp):List V->Hp->VK->Prop:=fun xs H Q=>∃ ds S k,IsDs K H ds xs/\Hs K H S/\r ds S k/\∀ d' S' v H',k d' S'->Kp H H'->Hs K H' S'->IsD K H' d' v->Q v H'
def dCall (r:DSp) (t:DA):DE:=fun L S k=>t L S fun ds S1=>r ds S1 k
section
variable {X:Cx} {x:Str} {p pos:Pos} {e:Expr} {es:List Expr} {t:DA} {id T:String} {r:DSp}
theorem dCall_go {K:Fg}:∀ σ H Q,up K (dCall r t) σ H Q->tCB (upC K r) (upA K t) σ H Q:=fun σ H Q ⟨L,S,k,hL,hS,h,n⟩=>
  upA.go hL hS h fun ds S1 vs H1 h1 k1 hL1 hS1 i1=>⟨ds,S1,k,i1,hS1,h1,fun d' S' v H' q k3 z1 z2=>n d' S' v H' q (k1.trans k3) z1 z2⟩
theorem d_callB (hc:CallR X (.builtin id) (upC X.K r)) (hg:Gl X x) (hm:X.mg x=none) (hv:bootBuiltins x=some (.builtin id)) (ha:PA X (e::es) (upA X.K t)) (hn:x≠"__name__":=by decide) (hdb:(x == ("__debug__":Str))=false:=by decide)
    (he:starEach (e::es) X.env=(false,eval e X.env)::starEach es X.env:=by exact star_cons rfl) (hpl:(backTo pos (starEach es X.env)).any (·.1)=false:=by exact star_any rfl):PE X (.Call (.Name x p) (e::es) [] pos) (up X.K (dCall r t)):=
  PE.imp (pe_callB hc hg hm hv ha hn hdb he hpl) dCall_go
theorem d_callT (hc:CallR X (.type T) (upC X.K r)) (hg:Gl X x) (hm:X.mg x=none) (hv:bootBuiltins x=some (.type T)) (ha:PA X (e::es) (upA X.K t)) (hn:x≠"__name__":=by decide) (hdb:(x == ("__debug__":Str))=false:=by decide)
    (he:starEach (e::es) X.env=(false,eval e X.env)::starEach es X.env:=by exact star_cons rfl) (hpl:(backTo pos (starEach es X.env)).any (·.1)=false:=by exact star_any rfl):PE X (.Call (.Name x p) (e::es) [] pos) (up X.K (dCall r t)):=
  PE.imp (pe_callTy hc hg hm hv ha hn hdb he hpl) dCall_go
def spU (K:Fg) (F:DSp):Sp:=fun vs H Q _=>upC K F vs H Q
structure Own (P:Program) (w:World) (K:Fg) (mg:Str->Option Value) (base:Heap) (x:Str) (n:Nat) (F:DSp):Prop where
  ex:∃ f fd ps,FnOk P w K mg base CX0 n f fd ps (spU K F)/\mg x=some (.ref f)/\PySem.W.keepIn K (.ref f)=true/\Binds K fd ps []
theorem d_call {n:Nat} {F:DSp} (c:Own X.prog X.w X.K X.mg X.base x n F) (hr:Room n X.A) (hg:Gl X x) (ha:PA X (e::es) (upA X.K t)) (hdb:(x == ("__debug__":Str))=false:=by decide)
    (he:starEach (e::es) X.env=(false,eval e X.env)::starEach es X.env:=by exact star_cons rfl) (hpl:(backTo pos (starEach es X.env)).any (·.1)=false:=by exact star_any rfl):
    PE X (.Call (.Name x p) (e::es) [] pos) (up X.K (dCall F t)):=by
  obtain⟨f,fd,ps,F1,h1,h2,h3⟩:=c.ex
  refine PE.imp (pe_call F1 hr hg h1 h2 h3 .nil pass0 ha hdb he hpl) fun σ H Q ⟨L,S,k,hL,hS,h,n⟩=>?_
  refine upA.go hL hS h fun ds S1 vs H1 h1 k1 hL1 hS1 i1=>?_
  show spU X.K F (vs++[]) H1 Q E0
  rw [List.append_nil]
  exact⟨ds,S1,k,i1,hS1,h1,fun d' S' v H' q k3 z1 z2=>n d' S' v H' q (k1.trans k3) z1 z2⟩
def bAbs:DSp:=fun ds S k=>match ds with
  | [.int i]=>k (.int (if i < 0 then -i else i)) S
  | _=>False
theorem isDs1 {K:Fg} {H:Hp} {d:D} {xs:List V} (h:IsDs K H [d] xs):∃ x,xs=[x]/\IsD K H d x:=by
  obtain⟨v,r,rfl,h1,h2⟩:=isCons.mp h
  rw [isNil.mp h2]
  exact⟨v,rfl,h1⟩
theorem isDs2 {K:Fg} {H:Hp} {d e:D} {xs:List V} (h:IsDs K H [d,e] xs):∃ x y,xs=[x,y]/\IsD K H d x/\IsD K H e y:=by
  obtain⟨v,r,rfl,h1,h2⟩:=isCons.mp h
  obtain⟨y,rfl,h3⟩:=isDs1 h2
  exact⟨v,y,rfl,h1,h3⟩
theorem b_abs:CallR X (.builtin "abs") (upC X.K bAbs):=by
  intro pins s σ H xs us Q I rs h
  obtain⟨ds,S,k,i,hS,r,n⟩:=h
  unfold bAbs at r
  split at r
  · obtain⟨x,rfl,i1⟩:=isDs1 i
    have e1:=isInt.mp i1
    subst e1
    exact call_abs pins s σ H _ us Q I rs ⟨_,rfl,up1 n hS r (isInt.mpr rfl)⟩
  · exact r.elim
def bLen:DSp:=fun ds S k=>match ds with
  | [.tup xs]=>k (.int xs.length) S
  | [.rl xs]=>k (.int xs.length) S
  | [.ref a]=>(match S a with
    | some (.lst xs)=>k (.int xs.length) S
    | _=>False)
  | _=>False
theorem b_len:CallR X (.builtin "len") (upC X.K bLen):=by
  intro pins s σ H xs us Q I rs h
  obtain⟨ds,S,k,i,hS,r,n⟩:=h
  unfold bLen at r
  split at r
  · obtain⟨x,rfl,i1⟩:=isDs1 i
    obtain⟨a,vs,rfl,t,j⟩:=isTup.mp i1
    exact call_len_seq pins s σ H _ us Q I rs ⟨a,vs,rfl,.inr t,by rw [<- j.length]; exact up1 n hS r (isInt.mpr rfl)⟩
  · obtain⟨x,rfl,i1⟩:=isDs1 i
    obtain⟨a,vs,rfl,t,j⟩:=isRl.mp i1
    exact call_len_seq pins s σ H _ us Q I rs ⟨a,vs,rfl,.inl t.sq,by rw [<- j.length]; exact up1 n hS r (isInt.mpr rfl)⟩
  · obtain⟨x,rfl,i1⟩:=isDs1 i
    have e1:=isRef.mp i1
    subst e1
    split at r
    · rename_i z
      obtain⟨vs,hl,j⟩:=hS.lst z
      exact call_len_seq pins s σ H _ us Q I rs ⟨_,vs,rfl,.inl (SqL.of hl),by rw [<- j.length]; exact up1 n hS r (isInt.mpr rfl)⟩
    · exact r.elim
  · exact r.elim
def bMax:DSp:=fun ds S k=>match ds with
  | [.int i,.int j]=>k (.int (if j > i then j else i)) S
  | _=>False
def bMin:DSp:=fun ds S k=>match ds with
  | [.int i,.int j]=>k (.int (if j < i then j else i)) S
  | _=>False
theorem b_max (hc:X.calm=true:=by rfl):CallR X (.builtin "max") (upC X.K bMax):=by
  intro pins s σ H xs us Q I rs h
  obtain⟨ds,S,k,i,hS,r,n⟩:=h
  unfold bMax at r
  split at r
  · obtain⟨x,y,rfl,i1,i2⟩:=isDs2 i
    have e1:=isInt.mp i1
    have e2:=isInt.mp i2
    subst e1; subst e2
    exact call_max2 hc pins s σ H _ us Q I rs ⟨_,_,rfl,up1 n hS r (isInt.mpr rfl)⟩
  · exact r.elim
theorem b_min (hc:X.calm=true:=by rfl):CallR X (.builtin "min") (upC X.K bMin):=by
  intro pins s σ H xs us Q I rs h
  obtain⟨ds,S,k,i,hS,r,n⟩:=h
  unfold bMin at r
  split at r
  · obtain⟨x,y,rfl,i1,i2⟩:=isDs2 i
    have e1:=isInt.mp i1
    have e2:=isInt.mp i2
    subst e1; subst e2
    exact call_min2 hc pins s σ H _ us Q I rs ⟨_,_,rfl,up1 n hS r (isInt.mpr rfl)⟩
  · exact r.elim
def bInt:DSp:=fun ds S k=>match ds with
  | [.int i]=>k (.int i) S
  | [.bl b]=>k (.int (if b then 1 else 0)) S
  | _=>False
theorem b_int:CallR X (.type "int") (upC X.K bInt):=by
  intro pins s σ H xs us Q I rs h
  obtain⟨ds,S,k,i,hS,r,n⟩:=h
  unfold bInt at r
  split at r
  · obtain⟨x,rfl,i1⟩:=isDs1 i
    have e1:=isInt.mp i1
    subst e1
    exact call_int1 pins s σ H _ us Q I rs (.inl ⟨_,rfl,up1 n hS r (isInt.mpr rfl)⟩)
  · obtain⟨x,rfl,i1⟩:=isDs1 i
    have e1:=isBl.mp i1
    subst e1
    exact call_int1 pins s σ H _ us Q I rs (.inr ⟨_,rfl,up1 n hS r (isInt.mpr rfl)⟩)
  · exact r.elim
def bList:DSp:=fun ds S k=>match ds with
  | [.tup xs]=>∀ p,S p=none->k (.ref p) (put S p (.lst xs))
  | [.ref a]=>∃ xs,S a=some (.lst xs)/\∀ p,S p=none->k (.ref p) (put S p (.lst xs))
  | _=>False
theorem b_list:CallR X (.type "list") (upC X.K bList):=by
  intro pins s σ H xs us Q I rs h
  obtain⟨ds,S,k,i,hS,r,n⟩:=h
  unfold bList at r
  split at r
  · obtain⟨x,rfl,i1⟩:=isDs1 i
    obtain⟨a,vs,rfl,t,j⟩:=isTup.mp i1
    exact call_list_of pins s σ H _ us Q I rs ⟨a,vs,rfl,.inr t,fun p hp=>n _ _ _ _ (r p (hS.free hp)) (Kp.new hp) (hS.newL hp j) (isRef.mpr rfl)⟩
  · obtain⟨x,rfl,i1⟩:=isDs1 i
    have e1:=isRef.mp i1
    subst e1
    obtain⟨xs,z,r⟩:=r
    obtain⟨vs,hl,j⟩:=hS.lst z
    exact call_list_of pins s σ H _ us Q I rs ⟨_,vs,rfl,.inl (SqL.of hl),fun p hp=>n _ _ _ _ (r p (hS.free hp)) (Kp.new hp) (hS.newL hp j) (isRef.mpr rfl)⟩
  · exact r.elim
def tyR:Option DO->Option Ty
  | some (.lst _)=>some .lst
  | some .dic=>some .dic
  | _=>none
def tyD (S:DH):D->Option Ty
  | .non=>some .non
  | .bl _=>some .bool
  | .int _=>some .int
  | .str _=>some .str
  | .tup _=>some .tup
  | .rl _=>none
  | .ref a=>tyR (S a)
  | .ty _=>none
def subT:Ty->Ty->Bool
  | .non,.non=>true | .bool,.bool=>true | .bool,.int=>true | .int,.int=>true | .str,.str=>true | .tup,.tup=>true | .lst,.lst=>true | .dic,.dic=>true | .verr,.verr=>true
  | _,_=>false
theorem kit_of {K:Fg} (t c:Ty):PySem.W.kitOne K (.type t.name) (.type c.name)=some (subT t c):=by
  cases t <;> cases c <;> rfl
def cutD (xs:List D) (lo hi:Option Int):List D:=(xs.drop (HT.sIx xs.length 0 lo)).take (HT.sIx xs.length xs.length hi - HT.sIx xs.length 0 lo)
abbrev DOp:=Lo->DH->(Option Int->DH->Prop)->Prop
def upO (K:Fg) (g:DOp):TO:=fun σ H Q=>∃ L S k,Lc K H L σ/\Hs K H S/\g L S k/\∀ i S' H',k i S'->Kp H H'->Hs K H' S'->Q i H'
def oNone:DOp:=fun _ S k=>k none S
def oSome (g:DE):DOp:=fun L S k=>g L S fun d S1=>match d with
  | .int i=>k (some i) S1
  | _=>False
theorem do_none:PO X none (upO X.K oNone):=by
  intro pins s σ H Q I h
  obtain⟨L,S,k,hL,hS,h,n⟩:=h
  exact po_none pins s σ H Q I (n none S H h (Kp.refl H) hS)
theorem do_some {e:Expr} {g:DE} (he:PE X e (up X.K g)):PO X (some e) (upO X.K (oSome g)):=by
  intro pins s σ H Q I h
  obtain⟨L,S,k,hL,hS,h,n⟩:=h
  refine po_some he pins s σ H Q I (up.go hL hS h fun d S1 v H1 h1 k1 hL1 hS1 i1=>?_)
  cases d with
  | int i=>
    have e1:=isInt.mp i1
    subst e1
    exact⟨i,rfl,n (some i) S1 H1 h1 k1 hS1⟩
  | _=>exact(show False from h1).elim
end
section
variable {X:Cx} {st:Stmt} {rest:List Stmt} {g h:DS} {e:Expr} {ge:DE} {pos:Pos}
def dNext:DS:=fun M L S=>M.nx L S
def dSeq (g h:DS):DS:=fun M L S=>g {M with nx:=h M} L S
theorem ds_nil:PSs X [] (upS X.K dNext):=PSs.imp pss_nil fun N σ H ⟨L,S,M,hL,hS,h,r⟩=>r.nx L S σ H h (Kp.refl H) hL hS
theorem dSeq_go {K:Fg}:∀ N σ H,upS K (dSeq g h) N σ H->tSeq (upS K g) (upS K h) N σ H:=fun N σ H ⟨L,S,M,hL,hS,q,r⟩=>
  ⟨L,S,{M with nx:=h M},hL,hS,q,⟨fun L' S' σ' H' q' k' hL' hS'=>⟨L',S',M,hL',hS',q',r.kp k'⟩,r.rt,r.bk,r.ct⟩⟩
theorem ds_cons (h1:PS X st (upS X.K g)) (h2:PSs X rest (upS X.K h)):PSs X (st::rest) (upS X.K (dSeq g h)):=PSs.imp (pss_cons h1 h2) dSeq_go
theorem ds_one (h1:PS X st (upS X.K g)):PSs X [st] (upS X.K g):=pss_one h1
def dDrop (ge:DE):DS:=fun M L S=>ge L S fun _ S1=>M.nx L S1
theorem dst_expr (he:PE X e (up X.K ge)) (hs:swapsWith e none pos.line X.env=pure false:=by rfl):PS X (.Expr e pos) (upS X.K (dDrop ge)):=
  PS.imp (ps_expr he hs) fun N σ H ⟨L,S,M,hL,hS,h,r⟩=>up.go hL hS h fun d S1 v H1 h1 k1 hL1 hS1 _=>r.nx L S1 σ H1 h1 k1 hL1 hS1
def dRet (ge:DE):DS:=fun M L S=>ge L S M.rt
theorem dst_ret (he:PE X e (up X.K ge)):PS X (.Return (some e) pos) (upS X.K (dRet ge)):=
  PS.imp (ps_ret he) fun N σ H ⟨L,S,M,hL,hS,h,r⟩=>up.go hL hS h fun d S1 v H1 h1 k1 _ hS1 i1=>r.rt d S1 v H1 h1 k1 hS1 i1
def dIfS (c:DT) (g h:DS):DS:=fun M L S=>c L S fun b S1=>if b=true then g M L S1 else h M L S1
theorem dst_if {c:Expr} {a b:List Stmt} {gc:DT} (hc:PT X c (upT X.K gc)) (ha:PSs X a (upS X.K g)) (hb:PSs X b (upS X.K h)):PS X (.If c a b pos) (upS X.K (dIfS gc g h)):=
  PS.imp (ps_if hc ha hb) fun N σ H ⟨L,S,M,hL,hS,q,r⟩=>upT.go hL hS q fun t S1 H1 h1 k1 hL1 hS1=>by
    cases t with
    | true=>
      rw [if_pos rfl] at h1 ⊢
      exact⟨L,S1,M,hL1,hS1,h1,r.kp k1⟩
    | false=>
      rw [if_neg Bool.false_ne_true] at h1 ⊢
      exact⟨L,S1,M,hL1,hS1,h1,r.kp k1⟩
def dNever:DS:=fun _ _ _=>False
theorem dst_never:PS X st (upS X.K dNever):=PS.imp ps_never fun N σ H ⟨L,S,M,hL,hS,h,r⟩=>h.elim
def dSet (i:Nat) (ge:DE):DS:=fun M L S=>ge L S fun d S1=>M.nx (L.set i (some d)) S1
theorem dst_set {i:Nat} {x:Str} {pos':Pos} (hN:X.N.Nodup) (he:PE X e (up X.K ge)) (hi:X.N[i]?=some x:=by rfl) (hx:Loc X.env.scope x:=by first | exact Or.inl rfl | exact Or.inr rfl) (hs:swapsWith e (some (.Name x pos')) pos.line X.env=pure false:=by rfl)
    (hf:X.fn x=true\/X.env.scope.names.lookup x=some .local:=by first | exact .inl rfl | exact .inr rfl | assumption):PS X (.Assign [.Name x pos'] e pos) (upS X.K (dSet i ge)):=
  PS.imp (ps_set hN hi hx he hs hf) fun N σ H ⟨L,S,M,hL,hS,h,r⟩=>up.go hL hS h fun d S1 v H1 h1 k1 hL1 hS1 i1=>r.nx _ S1 _ H1 h1 k1 (hL1.set i1 i) hS1
def dPar (i j:Nat) (ta:DA):DS:=fun M L S=>ta L S fun ds S1=>match ds with
  | [d,e]=>M.nx ((L.set i (some d)).set j (some e)) S1
  | _=>False
theorem dst_par {i j:Nat} {x y:Str} {a b:Expr} {ta:DA} {px py pt:Pos} {kt k2 pt2} (hc:X.calm=true) (hN:X.N.Nodup) (hij:i≠j) (ha:PA X [a,b] (upA X.K ta)) (hi:X.N[i]?=some x:=by rfl) (hj:X.N[j]?=some y:=by rfl)
    (hx:X.env.scope.names.lookup x=some .local:=by rfl) (hy:X.env.scope.names.lookup y=some .local:=by rfl)
    (hw:swappedStores [.Tuple [.Name x px,.Name y py] kt pt] (.Tuple [a,b] k2 pt2) X.env=pure (some [x,y]):=by rfl)
    (hs:swapsWithSole [.Tuple [.Name x px,.Name y py] kt pt] (.Tuple [a,b] k2 pt2) pos.line X.env=pure false:=by rfl):
    PS X (.Assign [.Tuple [.Name x px,.Name y py] kt pt] (.Tuple [a,b] k2 pt2) pos) (upS X.K (dPar i j ta)):=
  PS.imp (ps_par hc hN hi hj hij hx hy ha hw hs) fun N σ H ⟨L,S,M,hL,hS,h,r⟩=>upA.go hL hS h fun ds S1 vs H1 h1 k1 hL1 hS1 i1=>by
    split at h1
    · obtain⟨v,u,rfl,j1,j2⟩:=isDs2 i1
      exact⟨v,u,rfl,r.nx _ S1 _ H1 h1 k1 ((hL1.set j1 i).set j2 j) hS1⟩
    · exact h1.elim
abbrev DG:=D->Lo->DH->(Lo->DH->Prop)->Prop
def upG (K:Fg) (g:DG):TG:=fun v σ H Q=>∃ d L S k,IsD K H d v/\Lc K H L σ/\Hs K H S/\g d L S k/\∀ L' S' σ' H',k L' S'->Kp H H'->Lc K H' L' σ'->Hs K H' S'->Q σ' H'
theorem PG.imp {e:Expr} {t t':TG} (h:PG X e t) (i:∀ v σ H Q,t' v σ H Q->t v σ H Q):PG X e t':=fun pins s σ H v u Q I rv q=>h pins s σ H v u Q I rv (i v σ H Q q)
def dgName (i:Nat):DG:=fun d L S k=>k (L.set i (some d)) S
theorem dg_name {i:Nat} {x:Str} (hN:X.N.Nodup) (hi:X.N[i]?=some x:=by rfl) (hx:Loc X.env.scope x:=by first | exact Or.inl rfl | exact Or.inr rfl) (hf:X.fn x=true\/X.env.scope.names.lookup x=some .local:=by first | exact .inl rfl | exact .inr rfl | assumption):PG X (.Name x pos) (upG X.K (dgName i)):=
  PG.imp (pg_name hN hi hx hf) fun v σ H Q ⟨d,L,S,k,i1,hL,hS,h,n⟩=>n _ S _ H h (Kp.refl H) (hL.set i1 i) hS
abbrev DGs:=List D->Lo->DH->(Lo->DH->Prop)->Prop
def upGs (K:Fg) (g:DGs):TGs:=fun v σ H Q=>∃ d L S k,IsDs K H d v/\Lc K H L σ/\Hs K H S/\g d L S k/\∀ L' S' σ' H',k L' S'->Kp H H'->Lc K H' L' σ'->Hs K H' S'->Q σ' H'
theorem PGs.imp {e:List Expr} {t t':TGs} (h:PGs X e t) (i:∀ v σ H Q,t' v σ H Q->t v σ H Q):PGs X e t':=fun pins s σ H v u Q I rv q=>h pins s σ H v u Q I rv (i v σ H Q q)
def dgNil:DGs:=fun ds L S k=>ds=[]/\k L S
def dgCons (t:DG) (u:DGs):DGs:=fun ds L S k=>match ds with
  | d::r=>t d L S fun L1 S1=>u r L1 S1 k
  | []=>False
theorem dgs_nil:PGs X [] (upGs X.K dgNil):=PGs.imp pgs_nil fun v σ H Q ⟨d,L,S,k,i1,hL,hS,h,n⟩=>by
  obtain⟨rfl,h⟩:=h
  exact⟨isNil.mp i1,n L S σ H h (Kp.refl H) hL hS⟩
theorem dgs_cons {es:List Expr} {t:DG} {u:DGs} (h1:PG X e (upG X.K t)) (h2:PGs X es (upGs X.K u)) (hs:(assignEach (e::es) X.env).map (·.2)=assign e X.env::(assignEach es X.env).map (·.2):=by rfl):PGs X (e::es) (upGs X.K (dgCons t u)):=
  PGs.imp (pgs_cons h1 h2 hs) fun vs σ H Q ⟨ds,L,S,k,i1,hL,hS,h,n⟩=>by
    cases ds with
    | nil=>exact(show False from h).elim
    | cons d r=>
      obtain⟨v,vr,rfl,j1,j2⟩:=isCons.mp i1
      exact⟨v,vr,rfl,d,L,S,_,j1,hL,hS,h,fun L1 S1 σ1 H1 q k1 hL1 hS1=>⟨r,L1,S1,k,j2.kp k1,hL1,hS1,q,fun L' S' σ' H' q' k'=>n L' S' σ' H' q' (k1.trans k')⟩⟩
def dAsg (ge:DE) (g:DG):DS:=fun M L S=>ge L S fun d S1=>g d L S1 M.nx
theorem dst_asg {tg e:Expr} {g:DG} (he:PE X e (up X.K ge)) (hg:PG X tg (upG X.K g)) (hs:swapsWithSole [tg] e pos.line X.env=pure false:=by rfl) (hw:swappedStores [tg] e X.env=pure none:=by rfl)
    (h1:(assignEach [tg] X.env).map (·.2)=[assign tg X.env]:=by rfl):PS X (.Assign [tg] e pos) (upS X.K (dAsg ge g)):=
  PS.imp (ps_asg he hg hs hw h1) fun N σ H ⟨L,S,M,hL,hS,h,r⟩=>up.go hL hS h fun d S1 v H1 h1 k1 hL1 hS1 i1=>
    ⟨d,L,S1,M.nx,i1,hL1,hS1,h1,fun L' S' σ' H' q k' hL' hS'=>r.nx L' S' σ' H' q (k1.trans k') hL' hS'⟩
def dWhile (c:DT) (b:DS):DS:=fun M L S=>∃ W:Nat->Lo->DH->Prop,(∃ m,W m L S)/\∀ m L S,W m L S->
  c L S fun t S1=>if t=true then ∃ N:Lo->DH->Prop,(∀ L' S',N L' S'->∃ m',m' < m/\W m' L' S')/\b {M with nx:=N,ct:=N,bk:=M.nx} L S1 else M.nx L S1
theorem dst_while {c:Expr} {body:List Stmt} {gc:DT} (hp:PassesOwn (model X.prog X.w) X.A X.env X.xe) (hc:PT X c (upT X.K gc)) (hb:PSs X body (upS X.K g)):PS X (.While c body [] pos) (upS X.K (dWhile gc g)):=
  PS.imp (ps_while hp hc hb) fun N σ H ⟨L,S,M,hL,hS,⟨W,⟨m0,w0⟩,turn⟩,r⟩=>by
    refine⟨fun m σ H1=>∃ L S,Lc X.K H1 L σ/\Hs X.K H1 S/\W m L S/\Kp H H1,⟨m0,L,S,hL,hS,w0,Kp.refl H⟩,?_⟩
    rintro m σ1 H1 ⟨L1,S1,hL1,hS1,w1,k1⟩
    refine upT.go hL1 hS1 (turn m L1 S1 w1) fun t S2 H2 h2 k2 hL2 hS2=>?_
    cases t with
    | true=>
      rw [if_pos rfl] at h2 ⊢
      obtain⟨N',hN,hb⟩:=h2
      refine⟨fun σ' H'=>∃ L' S',Lc X.K H' L' σ'/\Hs X.K H' S'/\N' L' S'/\Kp H H',?_,L1,S2,_,hL2,hS2,hb,?_⟩
      · rintro σ' H' ⟨L',S',hL',hS',n',k'⟩
        obtain⟨m',hm,w'⟩:=hN L' S' n'
        exact⟨m',hm,L',S',hL',hS',w',k'⟩
      · have r2:=r.kp (k1.trans k2)
        exact⟨fun L' S' σ' H' n' k' hL' hS'=>⟨L',S',hL',hS',n',(k1.trans k2).trans k'⟩,r2.rt,r2.nx,fun L' S' σ' H' n' k' hL' hS'=>⟨L',S',hL',hS',n',(k1.trans k2).trans k'⟩⟩
    | false=>
      rw [if_neg Bool.false_ne_true] at h2 ⊢
      exact(r.kp (k1.trans k2)).nx L1 S2 σ1 H2 h2 (Kp.refl H2) hL2 hS2
def dLoop (ok:DH->Prop) (g:DG) (b:DS) (M:DEnds):List D->Lo->DH->Prop
  | [],L,S=>ok S/\M.nx L S
  | d::r,L,S=>ok S/\g d L S fun L1 S1=>b {M with nx:=fun L2 S2=>dLoop ok g b M r L2 S2,ct:=fun L2 S2=>dLoop ok g b M r L2 S2,bk:=M.nx} L1 S1
theorem for_core {K:Fg} {ok:DH->Prop} {gg:DG} {b:DS} {M:DEnds} {ds:List D} {L:Lo} {S:DH} {N:Ends} {σ:L2.St} {H:Hp} {J:It} (hL:Lc K H L σ) (hS:Hs K H S) (h:dLoop ok gg b M ds L S) (r:Rch K H M N)
    (hgo:∀ i d S1 H1,ds[i]?=some d->Kp H H1->Hs K H1 S1->ok S1->J.go i H1/\∀ x H',J.yld i H1 x H'->H'=H1/\IsD K H1 d x)
    (hst:∀ S1 H1,Kp H H1->Hs K H1 S1->ok S1->J.stop ds.length H1):
    ∃ W:Nat->Nat->L2.St->Hp->Prop,(∃ m,W 0 m σ H)/\∀ i m σ H,W i m σ H->
      (J.stop i H/\N.nx σ H)\/(J.go i H/\∃ N':L2.St->Hp->Prop,(∀ σ' H',N' σ' H'->∃ m',m' < m/\W (i+1) m' σ' H')/\∀ x H',J.yld i H x H'->upG K gg x σ H' fun σ2 H2=>upS K b {N with nx:=N',ct:=N',bk:=N.nx} σ2 H2):=by
  refine⟨fun i m σ1 H1=>m=ds.length - i/\i<=ds.length/\∃ L1 S1,Lc K H1 L1 σ1/\Hs K H1 S1/\Kp H H1/\dLoop ok gg b M (ds.drop i) L1 S1,⟨ds.length,by simp,Nat.zero_le _,L,S,hL,hS,Kp.refl H,h⟩,?_⟩
  rintro i m σ1 H1 ⟨rfl,hi,L1,S1,hL1,hS1,k1,w1⟩
  by_cases hlt:i < ds.length
  · have e:ds.drop i=ds[i]::ds.drop (i+1):=List.drop_eq_getElem_cons hlt
    rw [e] at w1
    obtain⟨o1,w1⟩:=w1
    obtain⟨g1,y1⟩:=hgo i ds[i] S1 H1 (by simp [hlt]) k1 hS1 o1
    refine .inr ⟨g1,fun σ' H'=>i+1<=ds.length/\∃ L' S',Lc K H' L' σ'/\Hs K H' S'/\Kp H H'/\dLoop ok gg b M (ds.drop (i+1)) L' S',fun σ' H' ⟨q1,q2⟩=>⟨ds.length - (i+1),by omega,rfl,q1,q2⟩,fun x H' y=>?_⟩
    obtain⟨rfl,ix⟩:=y1 x H' y
    refine⟨ds[i],L1,S1,_,ix,hL1,hS1,w1,fun L2 S2 σ2 H2 q k2 hL2 hS2=>⟨L2,S2,_,hL2,hS2,q,?_⟩⟩
    have r2:=r.kp (k1.trans k2)
    exact⟨fun L3 S3 σ3 H3 q3 k3 hL3 hS3=>⟨hlt,L3,S3,hL3,hS3,(k1.trans k2).trans k3,q3⟩,r2.rt,r2.nx,fun L3 S3 σ3 H3 q3 k3 hL3 hS3=>⟨hlt,L3,S3,hL3,hS3,(k1.trans k2).trans k3,q3⟩⟩
  · have e:i=ds.length:=by omega
    subst e
    rw [List.drop_length] at w1
    obtain⟨o1,w1⟩:=w1
    exact .inl ⟨hst S1 H1 k1 hS1 o1,r.nx L1 S1 σ1 H1 w1 k1 hL1 hS1⟩
def dItems (S:DH):D->Option (List D×Option Addr)
  | .tup ds=>some (ds,none)
  | .rl ds=>some (ds,none)
  | .ref a=>(match S a with
    | some (.lst ds)=>some (ds,some a)
    | _=>none)
  | _=>none
def okFor:List D×Option Addr->DH->Prop
  | (_,none)=>fun _=>True
  | (ds,some a)=>fun S=>S a=some (.lst ds)
def iSeq (K:Fg) (t:TE):TI:=fun σ H R=>t σ H fun x H1=>∃ a,x=.ref a/\(((∃ xs,SqL K H1 a xs)/\R (Itl K a) H1)\/((∃ xs,SqT K H1 a xs)/\R (Itt K a) H1))
theorem pi_seq {tg l:Expr} {tl:TE} (hl:PE X l tl):PI X tg l (iSeq X.K tl):=by
  intro pins s σ H R I h
  refine thn (hl pins s σ H _ I h) fun v s1 ⟨x,H1,I1,r1,q1⟩=>?_
  obtain⟨a,e,q1⟩:=q1
  subst e
  cases r1
  rcases q1 with ⟨⟨xs,hq⟩,q⟩ | ⟨⟨xs,hq⟩,q⟩
  · obtain⟨its,rv,p,hz⟩:=I1.list hq
    refine wpAny_pyIter_list p.isList ?_
    refine⟨s1.heap.objs.size,[s1.heap.objs.size],_,_,H1,rfl,I1.kept (t':=s1.toks) fun b o e=>Heap.get?_push_of_some _ e,turn_list a _,⟨_,Heap.get?_push_size _ rfl,rfl,rfl⟩,fun b hb=>?_,q⟩
    have e:b=s1.heap.objs.size:=by simpa using hb
    subst e
    exact I1.fpOk (Nat.le_refl _) (I1.hok.fresh (Nat.le_refl _))
  · obtain⟨its,rv,p,hz⟩:=I1.tuple hq
    refine wpAny_pyIter_tuple (show s1.heap.IsTuple a its.toArray from p) ?_
    refine⟨s1.heap.objs.size,[s1.heap.objs.size],_,_,H1,rfl,I1.kept (t':=s1.toks) fun b o e=>Heap.get?_push_of_some _ e,turn_tuple a _,⟨_,Heap.get?_push_size _ rfl,rfl,rfl⟩,fun b hb=>?_,q⟩
    have e:b=s1.heap.objs.size:=by simpa using hb
    subst e
    exact I1.fpOk (Nat.le_refl _) (I1.hok.fresh (Nat.le_refl _))
def dForR (ta:DA) (g:DG) (b:DS):DS:=fun M L S=>ta L S fun ds S1=>match ds with
  | [.int n]=>(-(2 ^ 62)<=n/\n < 2 ^ 62)/\dLoop (fun _=>True) g b M ((List.range n.toNat).map fun i=>D.int (i:Nat)) L S1
  | _=>False
theorem dst_forR {tg a:Expr} {body:List Stmt} {ta:DA} {gg:DG} {p pos':Pos} (hp:PassesOwn (model X.prog X.w) X.A X.env X.xe) (hc:X.calm=true) (hgl:Gl X "range") (hm:X.mg "range"=none) (ha:PA X [a] (upA X.K ta)) (hg:PG X tg (upG X.K gg)) (hb:PSs X body (upS X.K g))
    (hs1:starEach [a] X.env=[(false,eval a X.env)]:=by rfl) (hs:∀ x,foldedSetIterable (.Call (.Name "range" p) [a] [] pos') X.env x=pure x:=by intro _; rfl):PS X (.For tg (.Call (.Name "range" p) [a] [] pos') body [] pos) (upS X.K (dForR ta gg g)):=
  PS.imp (ps_for hp hc (pi_range1 hgl hm ha hs1) hg hb hs) fun N σ H ⟨L,S,M,hL,hS,h,r⟩=>upA.go hL hS h fun ds S1 vs H1 h1 k1 hL1 hS1 i1=>by
    split at h1
    · obtain⟨v,rfl,j⟩:=isDs1 i1
      have e:=isInt.mp j
      subst e
      obtain⟨⟨h2,h3⟩,h1⟩:=h1
      refine⟨_,rfl,h2,h3,for_core hL1 hS1 h1 (r.kp k1) (fun i d S2 H2 e k2 hS2 _=>?_) fun S2 H2 k2 hS2 _=>?_⟩
      · rw [List.getElem?_map] at e
        cases q:(List.range (Int.toNat _))[i]? with
        | none=>rw [q] at e; cases e
        | some z=>
          rw [q] at e
          cases e
          have hz:=List.getElem?_eq_some_iff.mp q
          obtain⟨hz1,hz2⟩:=hz
          rw [List.length_range] at hz1
          rw [List.getElem_range] at hz2
          subst hz2
          exact⟨hz1,fun x H' y=>⟨y.1,by rw [y.2]; exact isInt.mpr (by rw [Int.zero_add])⟩⟩
      · rw [List.length_map,List.length_range]
        exact Nat.le_refl _
    · exact h1.elim
end
section
variable {P:Program} {w:World} {K:Fg} {mg:Str->Option Value} {base:Heap}
theorem _root_.L2.Fun.okD {x qual:Str} {st:Stmt} {f:Addr} {fd:FuncData} {N ps:List Str} {k:Nat} {F:DSp} (Fn:Fun K x qual st f fd) (Sc:FnScope N ps (defScope st)) (len:∀ ds S k,F ds S k->ds.length=ps.length)
    (hbody:∀ (cdv:Value) (A:Around) (outer:List Env) (s:Shared) (H:Hp) (E:XK),Room k (A.deeper (envOfC qual (defScope st) s.heap.objs.size f cdv))->
      ∃ g,PSs (cxOf CX0 P w K mg base N qual (defScope st) f cdv A outer s H E).nox (defBody st) (upS K g)/\
        ∀ ds S k,F ds S k->g {nx:=fun _ S'=>k .non S',rt:=k} (ds.map some++List.replicate (N.length - ps.length) none) S):FnOk P w K mg base CX0 (k+1) f fd ps (spU K F):=by
  refine Fn.ok Sc (fun vs H Q E h=>?_) (fun cdv A outer s H vs Q E hr h=>?_)
  · obtain⟨ds,S,k,i,_,q,_⟩:=h
    rw [<- i.length]
    exact len ds S k q
  · obtain⟨g,hg,q⟩:=hbody cdv A outer s H E hr
    obtain⟨ds,S,k',i,hS,h,n⟩:=h
    refine⟨_,hg,ds.map some++List.replicate (N.length - ps.length) none,S,_,?_,hS,q ds S k' h,?_⟩
    · unfold L2.start
      rw [<- i.length,len ds S k' h]
      exact Lc.start _ i
    · exact⟨fun L S' σ H' h1 k1 _ hS'=>n _ S' _ H' h1 k1 hS' (isNon.mpr rfl),fun d S' v H' h1 k1 hS' i1=>n d S' v H' h1 k1 hS' i1,fun _ _ _ _ h1=>h1.elim,fun _ _ _ _ h1=>h1.elim⟩
theorem Own.mk' {x qual:Str} {st:Stmt} {f:Addr} {fd:FuncData} {ps:List Str} {n:Nat} {F:DSp} (Fn:Fun K x qual st f fd) (h:FnOk P w K mg base CX0 n f fd ps (spU K F)) (hm:mg x=some (.ref f)) (hb:Binds K fd ps []):Own P w K mg base x n F:=
  ⟨f,fd,ps,h,hm,Fn.kp,hb⟩
end
end DL
namespace DL
open PySem PySem.Spec PyProof.Rows L2 HM
theorem law_up {K:Fg} {H:Hp} {a:Addr} {ns:List Int} {F:DSp} {E:XK} (ho:Only H) (hS:SqL K H a (ns.map V.int)) (h:F [.rl (ns.map D.int)] (fun _=>none) (fun d _=>d=.bl true)):spU K F [.ref a] H (fun v _=>v=.bl true) E:=by
  refine⟨[.rl (ns.map D.int)],fun _=>none,fun d _=>d=.bl true,IsDs.cons (isRl.mpr ⟨a,ns.map V.int,rfl,?_,?_⟩) IsDs.nil,fun a o e=>(by cases e),h,fun d' S' v H' e _ _ i=>?_⟩
  · rcases hS with (h1 | h1) | h1
    · rcases ho a with z | ⟨o,xs,z⟩
      · rw [z] at h1; cases h1
      · rw [z] at h1; cases h1
    · exact .inl h1
    · exact .inr h1
  · clear h hS
    induction ns with
    | nil=>exact IsDs.nil
    | cons n ns ih=>exact IsDs.cons (isInt.mpr rfl) ih
  · subst e
    exact isBl.mp i
theorem mok {m n:Nat} {x y:Int} (hx:Bt m x) (hy:Bt n y) (h:m+n<=134217728:=by decide):IntMulOk x y:=IntMulOk.of_le (intBits_le_iff.mpr hx) (intBits_le_iff.mpr hy) h
theorem dok {m:Nat} {y:Int} (h0:y≠0) (hy:Bt m y) (h:m<=9000:=by decide):CDivB x y:=⟨h0,(Nat.log2_lt (by omega)).mpr (hy.mono h)⟩
def pr (a b:Int):D:=.tup [.int a,.int b]
def fr (q:Rat):D:=pr q.num (q.den:Int)
end DL
namespace DL
theorem atI0 {x:D} {r:List D}:L2.atI (x::r) 0=some x:=L2.atI_nat (j:=0) rfl
theorem atI1 {x y:D} {r:List D}:L2.atI (x::y::r) 1=some y:=L2.atI_nat (j:=1) rfl
theorem ixN0 {n:Nat}:L2.ixN (n+1) 0=some 0:=by
  unfold L2.ixN
  rw [if_pos (by decide),if_pos (by omega)]
  rfl
end DL
namespace DL
open PySem PySem.Spec PyProof.Rows L2
def eqS:D->D->Option Bool
  | .int i,.int j=>some (i == j)
  | .bl i,.bl j=>some (i == j)
  | .str i,.str j=>some (i == j)
  | .non,.non=>some true
  | .non,.int _=>some false
  | .int _,.non=>some false
  | .non,.bl _=>some false
  | .bl _,.non=>some false
  | .bl a,.int j=>some ((if a then 1 else 0) == j)
  | .int i,.bl b=>some (i == (if b then 1 else 0))
  | _,_=>none
def eqTs (f:D->D->Option Bool):List D->List D->Option Bool
  | [],[]=>some true
  | [],_::_=>some false
  | _::_,[]=>some false
  | x::xs,y::ys=>match f x y,eqTs f xs ys with
    | some a,some b=>some (a && b)
    | _,_=>none
def eqT:Nat->D->D->Option Bool
  | 0,d,e=>eqS d e
  | n+1,.tup xs,.tup ys=>eqTs (eqT n) xs ys
  | _+1,d,e=>eqS d e
theorem eqT_succ (n:Nat) (d e:D):eqT (n+1) d e=(match d,e with | .tup xs,.tup ys=>eqTs (eqT n) xs ys | d,e=>eqS d e):=by
  cases d <;> cases e <;> rfl
def eqAts (f:D->D->Option Bool):List D->List D->Nat->Bool
  | x::_,y::_,0=>(f x y).getD false
  | _::xs,_::ys,j+1=>eqAts f xs ys j
  | _,_,_=>false
theorem all_succ (e:Nat->Bool) (m:Nat):(List.range (m+1)).all e=(e 0 && (List.range m).all fun j=>e (j+1)):=by
  rw [List.range_succ_eq_map,List.all_cons,List.all_map]
  rfl
theorem eqTs_all {f:D->D->Option Bool}:∀ {xs ys:List D} {b:Bool},eqTs f xs ys=some b->((List.range (min xs.length ys.length)).all (eqAts f xs ys) && xs.length == ys.length)=b
  | [],[],b,h=>by unfold eqTs at h; cases h; rfl
  | [],_::_,b,h=>by unfold eqTs at h; cases h; simp
  | _::_,[],b,h=>by unfold eqTs at h; cases h; simp
  | x::xs,y::ys,b,h=>by
    unfold eqTs at h
    split at h
    · rename_i a c e1 e2
      cases h
      have ih:=eqTs_all e2
      rw [List.length_cons,List.length_cons,Nat.succ_min_succ,all_succ]
      have e3:eqAts f (x::xs) (y::ys) 0=a:=by unfold eqAts; rw [e1]; rfl
      rw [e3,Bool.and_assoc]
      have e4:(fun j=>eqAts f (x::xs) (y::ys) (j+1))=eqAts f xs ys:=by funext j; rfl
      rw [e4]
      have e5:(xs.length+1 == ys.length+1)=(xs.length == ys.length):=by simp
      rw [e5,ih]
    · cases h
theorem eqTs_at {f:D->D->Option Bool}:∀ {xs ys:List D} {b:Bool} {j:Nat} {x y:D},eqTs f xs ys=some b->xs[j]?=some x->ys[j]?=some y->f x y=some (eqAts f xs ys j)
  | [],_,_,_,_,_,_,e,_=>by simp at e
  | _::_,[],_,_,_,_,_,_,e=>by simp at e
  | x::xs,y::ys,b,0,x',y',h,e1,e2=>by
    simp at e1 e2
    subst e1; subst e2
    unfold eqTs at h
    split at h
    · rename_i a c q1 q2
      unfold eqAts
      rw [q1]
      rfl
    · cases h
  | x::xs,y::ys,b,j+1,x',y',h,e1,e2=>by
    unfold eqTs at h
    split at h
    · rename_i a c q1 q2
      unfold eqAts
      exact eqTs_at q2 (by simpa using e1) (by simpa using e2)
    · cases h
section
variable {X:Cx} {pins:List (Addr×Obj)} {σ:L2.St} {H:Hp} {s:Shared}
theorem pair_at {K:Fg} {ds es:List D} {xs ys:List V} {us ws:List Value} {j:Nat} (i1:IsDs K H ds xs) (i2:IsDs K H es ys) (r1:Vals xs us) (r2:Vals ys ws) (h1:j < us.length) (h2:j < ws.length):
    ∃ d e x y,ds[j]?=some d/\es[j]?=some e/\IsD K H d x/\IsD K H e y/\RelV x us[j]/\RelV y ws[j]:=by
  have l1:=i1.length
  have l2:=i2.length
  have l3:=r1.length
  have l4:=r2.length
  have e1:ds[j]?=some ds[j]:=by simp [show j < ds.length by omega]
  have e2:es[j]?=some es[j]:=by simp [show j < es.length by omega]
  obtain⟨x,q1,d1⟩:=i1.get e1
  obtain⟨y,q2,d2⟩:=i2.get e2
  obtain⟨u,q3,rx⟩:=r1.get q1
  obtain⟨w,q4,ry⟩:=r2.get q2
  have f1:us[j]=u:=(List.getElem?_eq_some_iff.mp q3).2
  have f2:ws[j]=w:=(List.getElem?_eq_some_iff.mp q4).2
  exact⟨_,_,x,y,e1,e2,d1,d2,by rw [f1]; exact rx,by rw [f2]; exact ry⟩
theorem eqS_at {K:Fg} {A:Around} {d e:D} {x y:V} {u w:Value} {b:Bool} (h:eqS d e=some b) (i1:IsD K H d x) (i2:IsD K H e y) (rx:RelV x u) (ry:RelV y w):SeqAt.EqAt A s u w b/\SeqAt.RcAt A s u w b:=by
  unfold eqS at h
  split at h
  · cases h; rw [isInt.mp i1] at rx; rw [isInt.mp i2] at ry; obtain⟨t,rfl⟩:=rx; obtain⟨t',rfl⟩:=ry; exact⟨(SeqAt.EqAt.int_int _ _ _ _),(SeqAt.RcAt.int_int _ _ _ _)⟩
  · cases h; rw [isBl.mp i1] at rx; rw [isBl.mp i2] at ry; cases rx; cases ry; exact⟨(SeqAt.EqAt.bool_bool _ _),(SeqAt.RcAt.bool_bool _ _)⟩
  · cases h; rw [isStr.mp i1] at rx; rw [isStr.mp i2] at ry; obtain⟨t,rfl⟩:=rx; obtain⟨t',rfl⟩:=ry; exact⟨(SeqAt.EqAt.str_str _ _ _ _),(SeqAt.RcAt.str_str _ _ _ _)⟩
  · cases h; rw [isNon.mp i1] at rx; rw [isNon.mp i2] at ry; cases rx; cases ry; exact⟨SeqAt.EqAt.same _,SeqAt.RcAt.none_none⟩
  · cases h; rw [isNon.mp i1] at rx; rw [isInt.mp i2] at ry; cases rx; obtain⟨t',rfl⟩:=ry; exact⟨(SeqAt.EqAt.none_int _ _),(SeqAt.RcAt.none_int _ _)⟩
  · cases h; rw [isInt.mp i1] at rx; rw [isNon.mp i2] at ry; obtain⟨t,rfl⟩:=rx; cases ry; exact⟨(SeqAt.EqAt.int_none _ _),(SeqAt.RcAt.int_none _ _)⟩
  · cases h; rw [isNon.mp i1] at rx; rw [isBl.mp i2] at ry; cases rx; cases ry; exact⟨(SeqAt.EqAt.none_bool _),(SeqAt.RcAt.none_bool _)⟩
  · cases h; rw [isBl.mp i1] at rx; rw [isNon.mp i2] at ry; cases rx; cases ry; exact⟨(SeqAt.EqAt.bool_none _),(SeqAt.RcAt.bool_none _)⟩
  · cases h; rw [isBl.mp i1] at rx; rw [isInt.mp i2] at ry; cases rx; obtain⟨t',rfl⟩:=ry; exact⟨(SeqAt.EqAt.bool_int _ _ _),(SeqAt.RcAt.bool_int _ _ _)⟩
  · cases h; rw [isInt.mp i1] at rx; rw [isBl.mp i2] at ry; obtain⟨t,rfl⟩:=rx; cases ry; exact⟨(SeqAt.EqAt.int_bool _ _ _),(SeqAt.RcAt.int_bool _ _ _)⟩
  · cases h
theorem eqS_same {K:Fg} {d e:D} {x:V} {b:Bool} (h:eqS d e=some b) (i1:IsD K H d x) (i2:IsD K H e x):b=true:=by
  unfold eqS at h
  split at h
  · cases h; have e1:=isInt.mp i1; have e2:=isInt.mp i2; rw [e1] at e2; cases e2; simp
  · cases h; have e1:=isBl.mp i1; have e2:=isBl.mp i2; rw [e1] at e2; cases e2; simp
  · cases h; have e1:=isStr.mp i1; have e2:=isStr.mp i2; rw [e1] at e2; cases e2; simp
  · cases h; rfl
  · have e1:=isNon.mp i1; have e2:=isInt.mp i2; rw [e1] at e2; cases e2
  · have e1:=isInt.mp i1; have e2:=isNon.mp i2; rw [e1] at e2; cases e2
  · have e1:=isNon.mp i1; have e2:=isBl.mp i2; rw [e1] at e2; cases e2
  · have e1:=isBl.mp i1; have e2:=isNon.mp i2; rw [e1] at e2; cases e2
  · have e1:=isBl.mp i1; have e2:=isInt.mp i2; rw [e1] at e2; cases e2
  · have e1:=isInt.mp i1; have e2:=isBl.mp i2; rw [e1] at e2; cases e2
  · cases h
theorem eqTs_same {K:Fg} {f:D->D->Option Bool} (hf:∀ d e x b,f d e=some b->IsD K H d x->IsD K H e x->b=true):∀ {ds es:List D} {xs:List V} {b:Bool},eqTs f ds es=some b->IsDs K H ds xs->IsDs K H es xs->b=true
  | [],[],_,_,h,_,_=>by unfold eqTs at h; cases h; rfl
  | [],_::_,_,_,_,i1,i2=>by
    have e1:=isNil.mp i1
    obtain⟨v,r,e2,_⟩:=isCons.mp i2
    rw [e1] at e2; cases e2
  | _::_,[],_,_,_,i1,i2=>by
    have e1:=isNil.mp i2
    obtain⟨v,r,e2,_⟩:=isCons.mp i1
    rw [e1] at e2; cases e2
  | d::ds,e::es,xs,b,h,i1,i2=>by
    obtain⟨v,r,e1,h1,h2⟩:=isCons.mp i1
    obtain⟨v',r',e2,h3,h4⟩:=isCons.mp i2
    rw [e1] at e2
    cases e2
    unfold eqTs at h
    split at h
    · rename_i a c q1 q2
      cases h
      rw [hf _ _ _ _ q1 h1 h3,eqTs_same hf q2 h2 h4]
      rfl
    · cases h
theorem eqT_same (I:Inv X pins σ H s):∀ (n:Nat) (d e:D) (x:V) (b:Bool),eqT n d e=some b->IsD X.K H d x->IsD X.K H e x->b=true
  | 0,d,e,x,b,h,i1,i2=>eqS_same (by unfold eqT at h; exact h) i1 i2
  | n+1,d,e,x,b,h,i1,i2=>by
    rw [eqT_succ] at h
    split at h
    · rename_i xs ys
      obtain⟨a,vs,e1,t1,j1⟩:=isTup.mp i1
      obtain⟨a',vs',e2,t2,j2⟩:=isTup.mp i2
      rw [e1] at e2
      cases e2
      have q:=I.tuple_inj t1 t2
      subst q
      exact eqTs_same (fun d e x b=>eqT_same I n d e x b) h j1 j2
    · exact eqS_same h i1 i2
theorem eqT_at (I:Inv X pins σ H s):∀ (n:Nat) (A:Around) (d e:D) (x y:V) (u w:Value) (b:Bool),A.units+n < cLine->eqT n d e=some b->IsD X.K H d x->IsD X.K H e y->RelV x u->RelV y w->SeqAt.EqAt A s u w b/\SeqAt.RcAt A s u w b
  | 0,A,d,e,x,y,u,w,b,hu,h,i1,i2,rx,ry=>eqS_at (by unfold eqT at h; exact h) i1 i2 rx ry
  | n+1,A,d,e,x,y,u,w,b,hu,h,i1,i2,rx,ry=>by
    have h0:=h
    rw [eqT_succ] at h
    split at h
    · rename_i xs ys
      obtain⟨p,vs,rfl,t1,j1⟩:=isTup.mp i1
      obtain⟨q,vs',rfl,t2,j2⟩:=isTup.mp i2
      cases rx
      cases ry
      obtain⟨us,r1,p1,_⟩:=I.tuple t1
      obtain⟨ws,r2,p2,_⟩:=I.tuple t2
      have l1:=j1.length
      have l2:=j2.length
      have l3:=r1.length
      have l4:=r2.length
      have rc:SeqAt.RcAt A s (.ref p) (.ref q) b:=by
        have e:=eqTs_all h
        have z:=SeqAt.RcAt.tuples (A:=A) (s:=s) (items:=us.toArray) (items2:=ws.toArray) (e:=eqAts (eqT n) xs ys) (show s.heap.IsTuple p us.toArray from p1) (show s.heap.IsTuple q ws.toArray from p2) (by omega) (fun j h1 h2=>by
          simp only [List.size_toArray] at h1 h2
          obtain⟨d,e,x,y,q1,q2,d1,d2,rx,ry⟩:=pair_at j1 j2 r1 r2 h1 h2
          have:=(eqT_at I n A.in1 d e x y us[j] ws[j] _ (by show A.units+1+n < cLine; omega) (eqTs_at h q1 q2) d1 d2 rx ry).1
          simpa using this)
        simp only [List.size_toArray] at z
        rw [<- l3,<- l4,<- l1,<- l2,e] at z
        exact z
      refine⟨?_,rc⟩
      by_cases hpq:p=q
      · subst hpq
        have:=eqT_same I (n+1) _ _ _ _ h0 i1 i2
        subst this
        exact SeqAt.EqAt.same _
      · exact SeqAt.EqAt.of_refs hpq rc
    · exact eqS_at h i1 i2 rx ry
theorem eqS_ne {K:Fg} {A:Around} {d e:D} {x y:V} {u w:Value} {b:Bool} (h:eqS d e=some b) (i1:IsD K H d x) (i2:IsD K H e y) (rx:RelV x u) (ry:RelV y w):SeqAt.RcNeAt A s u w (!b):=by
  unfold eqS at h
  split at h
  · cases h; rw [isInt.mp i1] at rx; rw [isInt.mp i2] at ry; obtain⟨t,rfl⟩:=rx; obtain⟨t',rfl⟩:=ry; exact(SeqAt.RcNeAt.int_int _ _ _ _)
  · cases h; rw [isBl.mp i1] at rx; rw [isBl.mp i2] at ry; cases rx; cases ry; exact(SeqAt.RcNeAt.bool_bool _ _)
  · cases h; rw [isStr.mp i1] at rx; rw [isStr.mp i2] at ry; obtain⟨t,rfl⟩:=rx; obtain⟨t',rfl⟩:=ry; exact(SeqAt.RcNeAt.str_str _ _ _ _)
  · cases h; rw [isNon.mp i1] at rx; rw [isNon.mp i2] at ry; cases rx; cases ry; exact SeqAt.RcNeAt.none_none
  · cases h; rw [isNon.mp i1] at rx; rw [isInt.mp i2] at ry; cases rx; obtain⟨t',rfl⟩:=ry; exact(SeqAt.RcNeAt.none_int _ _)
  · cases h; rw [isInt.mp i1] at rx; rw [isNon.mp i2] at ry; obtain⟨t,rfl⟩:=rx; cases ry; exact(SeqAt.RcNeAt.int_none _ _)
  · cases h; rw [isNon.mp i1] at rx; rw [isBl.mp i2] at ry; cases rx; cases ry; exact(SeqAt.RcNeAt.none_bool _)
  · cases h; rw [isBl.mp i1] at rx; rw [isNon.mp i2] at ry; cases rx; cases ry; exact(SeqAt.RcNeAt.bool_none _)
  · cases h; rw [isBl.mp i1] at rx; rw [isInt.mp i2] at ry; cases rx; obtain⟨t',rfl⟩:=ry; exact(SeqAt.RcNeAt.bool_int _ _ _)
  · cases h; rw [isInt.mp i1] at rx; rw [isBl.mp i2] at ry; obtain⟨t,rfl⟩:=rx; cases ry; exact(SeqAt.RcNeAt.int_bool _ _ _)
  · cases h
theorem eqT_ne (I:Inv X pins σ H s) (n:Nat) (A:Around) (d e:D) (x y:V) (u w:Value) (b:Bool) (hu:A.units+n < cLine) (h:eqT n d e=some b) (i1:IsD X.K H d x) (i2:IsD X.K H e y) (rx:RelV x u) (ry:RelV y w):SeqAt.RcNeAt A s u w (!b):=by
  cases n with
  | zero=>exact eqS_ne (by unfold eqT at h; exact h) i1 i2 rx ry
  | succ n=>
    rw [eqT_succ] at h
    split at h
    · rename_i xs ys
      obtain⟨p,vs,rfl,t1,j1⟩:=isTup.mp i1
      obtain⟨q,vs',rfl,t2,j2⟩:=isTup.mp i2
      cases rx
      cases ry
      obtain⟨us,r1,p1,_⟩:=I.tuple t1
      obtain⟨ws,r2,p2,_⟩:=I.tuple t2
      have l1:=j1.length
      have l2:=j2.length
      have l3:=r1.length
      have l4:=r2.length
      have e:=eqTs_all h
      have z:=SeqAt.RcNeAt.tuples (A:=A) (s:=s) (items:=us.toArray) (items2:=ws.toArray) (e:=eqAts (eqT n) xs ys) (show s.heap.IsTuple p us.toArray from p1) (show s.heap.IsTuple q ws.toArray from p2) (by omega) (fun j h1 h2=>by
        simp only [List.size_toArray] at h1 h2
        obtain⟨d,e,x,y,q1,q2,d1,d2,rx,ry⟩:=pair_at j1 j2 r1 r2 h1 h2
        have:=(eqT_at I n A.in1 d e x y us[j] ws[j] _ (by show A.units+1+n < cLine; omega) (eqTs_at h q1 q2) d1 d2 rx ry).1
        simpa using this)
      simp only [List.size_toArray] at z
      rw [<- l3,<- l4,<- l1,<- l2,e] at z
      exact z
    · exact eqS_ne h i1 i2 rx ry
end
structure EJ (X:Cx) (e:Expr) (g:DE):Prop where
  h:PE X e (up X.K g)
structure TJ (X:Cx) (e:Expr) (g:DT):Prop where
  h:PT X e (upT X.K g)
structure WJ (X:Cx) (e:Expr) (g:DT):Prop where
  h:PW X e (upT X.K g)
structure AJ (X:Cx) (e:List Expr) (g:DA):Prop where
  h:PA X e (upA X.K g)
structure SJ (X:Cx) (e:Stmt) (g:DS):Prop where
  h:PS X e (upS X.K g)
structure SsJ (X:Cx) (e:List Stmt) (g:DS):Prop where
  h:PSs X e (upS X.K g)
structure GJ (X:Cx) (e:Expr) (g:DG):Prop where
  h:PG X e (upG X.K g)
structure GsJ (X:Cx) (e:List Expr) (g:DGs):Prop where
  h:PGs X e (upGs X.K g)
structure OJ (X:Cx) (e:Option Expr) (g:DOp):Prop where
  h:PO X e (upO X.K g)
theorem WJ.pt {X:Cx} {e:Expr} {g:DT} (h:WJ X e g):TJ X e g:=⟨PW.pt h.h⟩
section
variable {X:Cx} {a b c:Expr} {ga gb gc:DE} {pos:Pos}
theorem d_varj (i:Nat) {x:Str} (hN:X.N[i]?=some x:=by rfl) (hv:Vis X.env.scope x:=by first | exact Or.inl rfl | exact Or.inr (Or.inl rfl) | exact Or.inr (Or.inr rfl)) (hd:(x == ("__debug__":Str))=false:=by decide) (hcd:(x == ("__classdict__":Str))=false:=by decide):EJ X (.Name x pos) (dVar i):=⟨d_var (i:=i) (hN:=hN) (hv:=hv) (hd:=hd) (hcd:=hcd)⟩
end
section
variable {X:Cx} {a b c:Expr} {ga gb gc:DE} {pos:Pos}
theorem d_intj {i j pos}:EJ X (.Constant (.int i) j pos) (dC (.int i)):=⟨d_int⟩
end
section
variable {X:Cx} {a b c:Expr} {ga gb gc:DE} {pos:Pos}
theorem d_blj {i j pos}:EJ X (.Constant (.bool i) j pos) (dC (.bl i)):=⟨d_bl⟩
end
section
variable {X:Cx} {a b c:Expr} {ga gb gc:DE} {pos:Pos}
theorem d_nonj {j pos}:EJ X (.Constant .none j pos) (dC .non):=⟨d_non⟩
end
section
variable {X:Cx} {a b c:Expr} {ga gb gc:DE} {pos:Pos}
theorem d_strj {i j pos}:EJ X (.Constant (.str i) j pos) (dC (.str i)):=⟨d_str⟩
end
section
variable {X:Cx} {a b c:Expr} {ga gb gc:DE} {pos:Pos}
theorem d_tyj {x:Str} {n:Ty} (hg:Gl X x) (hm:X.mg x=none) (hv:bootBuiltins x=some (.type n.name)) (hn:x≠"__name__":=by decide) (hd:(x == ("__debug__":Str))=false:=by decide):EJ X (.Name x pos) (dC (.ty n)):=⟨d_ty (hg:=hg) (hm:=hm) (hv:=hv) (hn:=hn) (hd:=hd)⟩
end
section
variable {X:Cx} {a b c:Expr} {ga gb gc:DE} {pos:Pos}
theorem da_nilj:AJ X [] dNil:=⟨da_nil⟩
end
section
variable {X:Cx} {a b c:Expr} {ga gb gc:DE} {pos:Pos}
theorem da_consj {es:List Expr} {t:DA} (ha:EJ X a ga) (hr:AJ X es t) (hs:starEach (a::es) X.env=(false,eval a X.env)::starEach es X.env:=by exact star_cons rfl):AJ X (a::es) (dCons ga t):=⟨da_cons (ha:=ha.h) (hr:=hr.h) (hs:=hs)⟩
end
section
variable {X:Cx} {a b c:Expr} {ga gb gc:DE} {pos:Pos}
theorem d_tupj {es:List Expr} {x1} {t:DA} (h:AJ X es t):EJ X (.Tuple es x1 pos) (dTup t):=⟨d_tup (h:=h.h)⟩
end
section
variable {X:Cx} {a b c:Expr} {ga gb gc:DE} {pos:Pos}
theorem d_lstj {es:List Expr} {t:DA} (h:AJ X es t):EJ X (.List es pos) (dLst t):=⟨d_lst (h:=h.h)⟩
end
section
variable {X:Cx} {a b c:Expr} {ga gb gc:DE} {pos:Pos}
theorem d_opj {op:Operator} {r:D2} (ho:OpR X (binaryOp op) (upR X.K r)) (ha:EJ X a ga) (hb:EJ X b gb):EJ X (.BinOp a op b pos) (dOp r ga gb):=⟨d_op (ho:=ho) (ha:=ha.h) (hb:=hb.h)⟩
end
section
variable {X:Cx} {a b c:Expr} {ga gb gc:DE} {pos:Pos}
theorem d_cmpj {op:CmpOp} {r:D2} (ho:OpR X (compareOp op) (upR X.K r)) (ha:EJ X a ga) (hb:EJ X b gb) (hm:behindInMarks op b=false):EJ X (.Compare a [op] [b] pos) (dOp r ga gb):=⟨d_cmp (ho:=ho) (ha:=ha.h) (hb:=hb.h) (hm:=hm)⟩
end
section
variable {X:Cx} {a b c:Expr} {ga gb gc:DE} {pos:Pos}
theorem d_ixj {r:D2} (hr:IxR X (upR X.K r)) (ha:EJ X a ga) (hb:EJ X b gb) (hs:PlainIx b):EJ X (.Subscript a b pos) (dOp r ga gb):=⟨d_ix (hr:=hr) (ha:=ha.h) (hb:=hb.h) (hs:=hs)⟩
end
section
variable {X:Cx} {a b c:Expr} {ga gb gc:DE} {pos:Pos}
theorem d_unj {op:UnaryOp} {r:D1} (ho:UnR X (unaryOp op) (upU X.K r)) (ha:EJ X a ga):EJ X (.UnaryOp op a pos) (dUn r ga):=⟨d_un (ho:=ho) (ha:=ha.h)⟩
end
section
variable {X:Cx} {a b c:Expr} {ga gb gc:DE} {pos:Pos}
theorem dt_cmpj {op:CmpOp} {r:D2} (ho:OpR X (compareOp op) (upR X.K r)) (ha:EJ X a ga) (hb:EJ X b gb) (hm:behindInMarks op b=false):TJ X (.Compare a [op] [b] pos) (dTest (dOp r ga gb)):=⟨dt_cmp (ho:=ho) (ha:=ha.h) (hb:=hb.h) (hm:=hm)⟩
end
section
variable {X:Cx} {a b c:Expr} {ga gb gc:DE} {pos:Pos}
theorem dt_valj {e:Expr} {g:DE} (h:EJ X e g) (he:∀ whole,isTrue e X.env whole=(do let v <- whole; standAt e.pos; holding [v] (truthy v)):=by intro _; rfl):TJ X e (dTest g):=⟨dt_val (h:=h.h) (he:=he)⟩
end
section
variable {X:Cx} {a b c:Expr} {ga gb gc:DE} {pos:Pos}
variable {tA tB':DT} {rest:List Expr}
theorem dw_and1j (ha:TJ X a tA):WJ X (.BoolOp .And [a] pos) tA:=⟨dw_and1 (ha:=ha.h)⟩
end
section
variable {X:Cx} {a b c:Expr} {ga gb gc:DE} {pos:Pos}
variable {tA tB':DT} {rest:List Expr}
theorem dw_or1j (ha:TJ X a tA):WJ X (.BoolOp .Or [a] pos) tA:=⟨dw_or1 (ha:=ha.h)⟩
end
section
variable {X:Cx} {a b c:Expr} {ga gb gc:DE} {pos:Pos}
variable {tA tB':DT} {rest:List Expr}
theorem dw_andj (ha:TJ X a tA) (hb:WJ X (.BoolOp .And (b::rest) pos) tB'):WJ X (.BoolOp .And (a::b::rest) pos) (dAndT tA tB'):=⟨dw_and (ha:=ha.h) (hb:=hb.h)⟩
end
section
variable {X:Cx} {a b c:Expr} {ga gb gc:DE} {pos:Pos}
variable {tA tB':DT} {rest:List Expr}
theorem dw_orj (ha:TJ X a tA) (hb:WJ X (.BoolOp .Or (b::rest) pos) tB'):WJ X (.BoolOp .Or (a::b::rest) pos) (dOrT tA tB'):=⟨dw_or (ha:=ha.h) (hb:=hb.h)⟩
end
section
variable {X:Cx} {a b c:Expr} {ga gb gc:DE} {pos:Pos}
variable {tA tB':DT} {rest:List Expr}
theorem dt_notj (ha:TJ X a tA):TJ X (.UnaryOp .Not a pos) (dNotT tA):=⟨dt_not (ha:=ha.h)⟩
end
section
variable {X:Cx} {x:Str} {p pos:Pos} {e:Expr} {es:List Expr} {t:DA} {id T:String} {r:DSp}
theorem d_callBj (hc:CallR X (.builtin id) (upC X.K r)) (hg:Gl X x) (hm:X.mg x=none) (hv:bootBuiltins x=some (.builtin id)) (ha:AJ X (e::es) t) (hn:x≠"__name__":=by decide) (hdb:(x == ("__debug__":Str))=false:=by decide) (he:starEach (e::es) X.env=(false,eval e X.env)::starEach es X.env:=by exact star_cons rfl) (hpl:(backTo pos (starEach es X.env)).any (·.1)=false:=by exact star_any rfl):EJ X (.Call (.Name x p) (e::es) [] pos) (dCall r t):=⟨d_callB (hc:=hc) (hg:=hg) (hm:=hm) (hv:=hv) (ha:=ha.h) (hn:=hn) (hdb:=hdb) (he:=he) (hpl:=hpl)⟩
end
section
variable {X:Cx} {x:Str} {p pos:Pos} {e:Expr} {es:List Expr} {t:DA} {id T:String} {r:DSp}
theorem d_callTj (hc:CallR X (.type T) (upC X.K r)) (hg:Gl X x) (hm:X.mg x=none) (hv:bootBuiltins x=some (.type T)) (ha:AJ X (e::es) t) (hn:x≠"__name__":=by decide) (hdb:(x == ("__debug__":Str))=false:=by decide) (he:starEach (e::es) X.env=(false,eval e X.env)::starEach es X.env:=by exact star_cons rfl) (hpl:(backTo pos (starEach es X.env)).any (·.1)=false:=by exact star_any rfl):EJ X (.Call (.Name x p) (e::es) [] pos) (dCall r t):=⟨d_callT (hc:=hc) (hg:=hg) (hm:=hm) (hv:=hv) (ha:=ha.h) (hn:=hn) (hdb:=hdb) (he:=he) (hpl:=hpl)⟩
end
section
variable {X:Cx} {x:Str} {p pos:Pos} {e:Expr} {es:List Expr} {t:DA} {id T:String} {r:DSp}
theorem d_callj {n:Nat} {F:DSp} (c:Own X.prog X.w X.K X.mg X.base x n F) (hr:Room n X.A) (hg:Gl X x) (ha:AJ X (e::es) t) (hdb:(x == ("__debug__":Str))=false:=by decide) (he:starEach (e::es) X.env=(false,eval e X.env)::starEach es X.env:=by exact star_cons rfl) (hpl:(backTo pos (starEach es X.env)).any (·.1)=false:=by exact star_any rfl):EJ X (.Call (.Name x p) (e::es) [] pos) (dCall F t):=⟨d_call (c:=c) (hr:=hr) (hg:=hg) (ha:=ha.h) (hdb:=hdb) (he:=he) (hpl:=hpl)⟩
end
section
variable {X:Cx} {x:Str} {p pos:Pos} {e:Expr} {es:List Expr} {t:DA} {id T:String} {r:DSp}
theorem do_nonej:OJ X none oNone:=⟨do_none⟩
end
section
variable {X:Cx} {x:Str} {p pos:Pos} {e:Expr} {es:List Expr} {t:DA} {id T:String} {r:DSp}
theorem do_somej {e:Expr} {g:DE} (he:EJ X e g):OJ X (some e) (oSome g):=⟨do_some (he:=he.h)⟩
end
section
variable {X:Cx} {st:Stmt} {rest:List Stmt} {g h:DS} {e:Expr} {ge:DE} {pos:Pos}
theorem ds_nilj:SsJ X [] dNext:=⟨ds_nil⟩
end
section
variable {X:Cx} {st:Stmt} {rest:List Stmt} {g h:DS} {e:Expr} {ge:DE} {pos:Pos}
theorem ds_consj (h1:SJ X st g) (h2:SsJ X rest h):SsJ X (st::rest) (dSeq g h):=⟨ds_cons (h1:=h1.h) (h2:=h2.h)⟩
end
section
variable {X:Cx} {st:Stmt} {rest:List Stmt} {g h:DS} {e:Expr} {ge:DE} {pos:Pos}
theorem ds_onej (h1:SJ X st g):SsJ X [st] g:=⟨ds_one (h1:=h1.h)⟩
end
section
variable {X:Cx} {st:Stmt} {rest:List Stmt} {g h:DS} {e:Expr} {ge:DE} {pos:Pos}
theorem dst_exprj (he:EJ X e ge) (hs:swapsWith e none pos.line X.env=pure false:=by rfl):SJ X (.Expr e pos) (dDrop ge):=⟨dst_expr (he:=he.h) (hs:=hs)⟩
end
section
variable {X:Cx} {st:Stmt} {rest:List Stmt} {g h:DS} {e:Expr} {ge:DE} {pos:Pos}
theorem dst_retj (he:EJ X e ge):SJ X (.Return (some e) pos) (dRet ge):=⟨dst_ret (he:=he.h)⟩
end
section
variable {X:Cx} {st:Stmt} {rest:List Stmt} {g h:DS} {e:Expr} {ge:DE} {pos:Pos}
theorem dst_ifj {c:Expr} {a b:List Stmt} {gc:DT} (hc:TJ X c gc) (ha:SsJ X a g) (hb:SsJ X b h):SJ X (.If c a b pos) (dIfS gc g h):=⟨dst_if (hc:=hc.h) (ha:=ha.h) (hb:=hb.h)⟩
end
section
variable {X:Cx} {st:Stmt} {rest:List Stmt} {g h:DS} {e:Expr} {ge:DE} {pos:Pos}
theorem dst_neverj:SJ X st dNever:=⟨dst_never⟩
end
section
variable {X:Cx} {st:Stmt} {rest:List Stmt} {g h:DS} {e:Expr} {ge:DE} {pos:Pos}
theorem dst_setj {i:Nat} {x:Str} {pos':Pos} (hN:X.N.Nodup) (he:EJ X e ge) (hi:X.N[i]?=some x:=by rfl) (hx:Loc X.env.scope x:=by first | exact Or.inl rfl | exact Or.inr rfl) (hs:swapsWith e (some (.Name x pos')) pos.line X.env=pure false:=by rfl) (hf:X.fn x=true\/X.env.scope.names.lookup x=some .local:=by first | exact .inl rfl | exact .inr rfl | assumption):SJ X (.Assign [.Name x pos'] e pos) (dSet i ge):=⟨dst_set (hN:=hN) (he:=he.h) (hi:=hi) (hx:=hx) (hs:=hs) (hf:=hf)⟩
end
section
variable {X:Cx} {st:Stmt} {rest:List Stmt} {g h:DS} {e:Expr} {ge:DE} {pos:Pos}
theorem dst_parj {i j:Nat} {x y:Str} {a b:Expr} {ta:DA} {px py pt:Pos} {kt k2 pt2} (hc:X.calm=true) (hN:X.N.Nodup) (hij:i≠j) (ha:AJ X [a,b] ta) (hi:X.N[i]?=some x:=by rfl) (hj:X.N[j]?=some y:=by rfl) (hx:X.env.scope.names.lookup x=some .local:=by rfl) (hy:X.env.scope.names.lookup y=some .local:=by rfl) (hw:swappedStores [.Tuple [.Name x px,.Name y py] kt pt] (.Tuple [a,b] k2 pt2) X.env=pure (some [x,y]):=by rfl) (hs:swapsWithSole [.Tuple [.Name x px,.Name y py] kt pt] (.Tuple [a,b] k2 pt2) pos.line X.env=pure false:=by rfl):SJ X (.Assign [.Tuple [.Name x px,.Name y py] kt pt] (.Tuple [a,b] k2 pt2) pos) (dPar i j ta):=⟨dst_par (hc:=hc) (hN:=hN) (hij:=hij) (ha:=ha.h) (hi:=hi) (hj:=hj) (hx:=hx) (hy:=hy) (hw:=hw) (hs:=hs)⟩
end
section
variable {X:Cx} {st:Stmt} {rest:List Stmt} {g h:DS} {e:Expr} {ge:DE} {pos:Pos}
theorem dg_namej {i:Nat} {x:Str} (hN:X.N.Nodup) (hi:X.N[i]?=some x:=by rfl) (hx:Loc X.env.scope x:=by first | exact Or.inl rfl | exact Or.inr rfl) (hf:X.fn x=true\/X.env.scope.names.lookup x=some .local:=by first | exact .inl rfl | exact .inr rfl | assumption):GJ X (.Name x pos) (dgName i):=⟨dg_name (hN:=hN) (hi:=hi) (hx:=hx) (hf:=hf)⟩
end
section
variable {X:Cx} {st:Stmt} {rest:List Stmt} {g h:DS} {e:Expr} {ge:DE} {pos:Pos}
theorem dgs_nilj:GsJ X [] dgNil:=⟨dgs_nil⟩
end
section
variable {X:Cx} {st:Stmt} {rest:List Stmt} {g h:DS} {e:Expr} {ge:DE} {pos:Pos}
theorem dgs_consj {es:List Expr} {t:DG} {u:DGs} (h1:GJ X e t) (h2:GsJ X es u) (hs:(assignEach (e::es) X.env).map (·.2)=assign e X.env::(assignEach es X.env).map (·.2):=by rfl):GsJ X (e::es) (dgCons t u):=⟨dgs_cons (h1:=h1.h) (h2:=h2.h) (hs:=hs)⟩
end
section
variable {X:Cx} {st:Stmt} {rest:List Stmt} {g h:DS} {e:Expr} {ge:DE} {pos:Pos}
theorem dst_asgj {tg e:Expr} {g:DG} (he:EJ X e ge) (hg:GJ X tg g) (hs:swapsWithSole [tg] e pos.line X.env=pure false:=by rfl) (hw:swappedStores [tg] e X.env=pure none:=by rfl) (h1:(assignEach [tg] X.env).map (·.2)=[assign tg X.env]:=by rfl):SJ X (.Assign [tg] e pos) (dAsg ge g):=⟨dst_asg (he:=he.h) (hg:=hg.h) (hs:=hs) (hw:=hw) (h1:=h1)⟩
end
section
variable {X:Cx} {st:Stmt} {rest:List Stmt} {g h:DS} {e:Expr} {ge:DE} {pos:Pos}
theorem dst_whilej {c:Expr} {body:List Stmt} {gc:DT} (hp:PassesOwn (model X.prog X.w) X.A X.env X.xe) (hc:TJ X c gc) (hb:SsJ X body g):SJ X (.While c body [] pos) (dWhile gc g):=⟨dst_while (hp:=hp) (hc:=hc.h) (hb:=hb.h)⟩
end
section
variable {X:Cx} {st:Stmt} {rest:List Stmt} {g h:DS} {e:Expr} {ge:DE} {pos:Pos}
theorem dst_forRj {tg a:Expr} {body:List Stmt} {ta:DA} {gg:DG} {p pos':Pos} (hp:PassesOwn (model X.prog X.w) X.A X.env X.xe) (hc:X.calm=true) (hgl:Gl X "range") (hm:X.mg "range"=none) (ha:AJ X [a] ta) (hg:GJ X tg gg) (hb:SsJ X body g) (hs1:starEach [a] X.env=[(false,eval a X.env)]:=by rfl) (hs:∀ x,foldedSetIterable (.Call (.Name "range" p) [a] [] pos') X.env x=pure x:=by intro _; rfl):SJ X (.For tg (.Call (.Name "range" p) [a] [] pos') body [] pos) (dForR ta gg g):=⟨dst_forR (hp:=hp) (hc:=hc) (hgl:=hgl) (hm:=hm) (ha:=ha.h) (hg:=hg.h) (hb:=hb.h) (hs1:=hs1) (hs:=hs)⟩
end
section
variable {P:Program} {w:World} {K:Fg} {mg:Str->Option Value} {base:Heap}
theorem _root_.L2.Fun.okJ {x qual:Str} {st:Stmt} {f:Addr} {fd:FuncData} {N ps:List Str} {k:Nat} {F:DSp} (Fn:Fun K x qual st f fd) (Sc:FnScope N ps (defScope st)) (len:∀ ds S k,F ds S k->ds.length=ps.length)
    (hbody:∀ (cdv:Value) (A:Around) (outer:List Env) (s:Shared) (H:Hp) (E:XK),Room k (A.deeper (envOfC qual (defScope st) s.heap.objs.size f cdv))->
      ∃ g,SsJ (cxOf CX0 P w K mg base N qual (defScope st) f cdv A outer s H E).nox (defBody st) g/\
        ∀ ds S k,F ds S k->g {nx:=fun _ S'=>k .non S',rt:=k} (ds.map some++List.replicate (N.length - ps.length) none) S):FnOk P w K mg base CX0 (k+1) f fd ps (spU K F):=
  Fn.okD Sc len fun cdv A outer s H E hr=>let ⟨g,h,q⟩:=hbody cdv A outer s H E hr; ⟨g,h.h,q⟩
end
end DL
namespace L2
open PySem PySem.Spec PyProof.Rows
section
variable {X:Cx} {pos:Pos}
def gLst (K:PySem.W.Frag) (n:Nat) (t:TGs):TG:=fun v σ H Q=>∃ a xs,v=.ref a/\SqL K H a xs/\xs.length=n/\t xs σ H Q
theorem pg_lst {es:List Expr} {k:Nat} {t:TGs} {n:Nat} (hc:X.calm=true) (h:PGs X es t)
    (hn:(assignEach es X.env).length=n:=by rfl) (hst:(assignEach es X.env).findIdx? (·.1)=none:=by rfl):PG X (.Tuple es k pos) (gLst X.K n t):=by
  intro pins s σ H v u Q I r hw
  obtain⟨a,xs,e1,hq,hl,hw⟩:=hw
  subst e1
  cases r
  obtain⟨its,rv,ht,hz⟩:=I.list hq
  have e2:(assignEach es X.env).length=its.toArray.size:=by simp [hn,<- hl,rv.length]
  rw [arm_assign_Tuple]
  refine wpAny_bind (wpAny_standAt ?_)
  unfold unpack
  rw [e2,hst]
  refine wpAny_bind (wpAny_holding (PySem.W.kun_itemsOf (I.ok.hd hc) ht.isList fun h' hx=>?_))
  have I1:Inv X pins σ H {s with heap:=h'}:=I.kept (t':=s.toks) fun b o e=>hx b o (Nat.ne_of_lt (Heap.lt_size e)) e
  exact h pins _ σ H xs _ Q I1 (by simpa using rv) hw
theorem PG.or {e:Expr} {t t':TG} (h:PG X e t) (h':PG X e t'):PG X e (fun v σ H Q=>t v σ H Q\/t' v σ H Q):=by
  intro pins s σ H v u Q I r q
  rcases q with q | q
  · exact h pins s σ H v u Q I r q
  · exact h' pins s σ H v u Q I r q
end
def CapOk (X:Cx) (scope:Scope):List (Option Nat)->List Str->Prop
  | some j::r,x::xs=>(X.N[j]?=some x/\(X.env.scope.names.lookup x=some .cell\/X.env.scope.names.lookup x=some .free)/\((relabel scope X.env).names.lookup x=some .cell\/(relabel scope X.env).names.lookup x=some .free))/\CapOk X scope r xs
  | none::r,_::xs=>CapOk X scope r xs
  | _,_=>True
theorem CapOk.get {X:Cx} {scope:Scope}:∀ {cap:List (Option Nat)} {N:List Str},CapOk X scope cap N->∀ (i j:Nat) (x:Str),cap[i]?=some (some j)->N[i]?=some x->
    X.N[j]?=some x/\(X.env.scope.names.lookup x=some .cell\/X.env.scope.names.lookup x=some .free)/\((relabel scope X.env).names.lookup x=some .cell\/(relabel scope X.env).names.lookup x=some .free)
  | [],_,_,_,_,_,h,_=>by simp at h
  | _::_,[],_,_,_,_,_,h=>by simp at h
  | some _::_,_::_,h,0,j,x,h1,h2=>by
    simp at h1 h2
    subst h1 h2
    exact h.1
  | none::_,_::_,_,0,j,x,h1,_=>by simp at h1
  | some _::_,_::_,h,i+1,j,x,h1,h2=>CapOk.get h.2 i j x (by simpa using h1) (by simpa using h2)
  | none::r,_::xs,h,i+1,j,x,h1,h2=>CapOk.get (show CapOk X scope r xs from h) i j x (by simpa using h1) (by simpa using h2)
def SubOk (X:Cx):List (Str×Addr)->Prop
  | []=>True
  | p::r=>X.env.cells.lookup p.1=some p.2/\SubOk X r
theorem SubOk.mem {X:Cx}:∀ {cl:List (Str×Addr)},SubOk X cl->∀ p∈cl,X.env.cells.lookup p.1=some p.2
  | [],_,p,hp=>by simp at hp
  | q::r,h,p,hp=>by
    rcases List.mem_cons.mp hp with e | e
    · subst e; exact h.1
    · exact SubOk.mem h.2 p e
theorem compSc {X:Cx} {scope:Scope} {cl:List (Str×Addr)} {N:List Str} {cap:List (Option Nat)} (h1:scope.kind=.function) (h2:closureFor scope X.env=pure cl) (h3:(scope.names.all fun y=>y.2 != NameKind.cell)=true)
    (h4:(scope.names.all fun y=>y.2 != NameKind.local || scope.names.lookup y.1 == some NameKind.local)=true) (h5:SubOk X cl)
    (h6:((relabel scope X.env).names.all fun y=>(y.2 != NameKind.cell && y.2 != NameKind.free) || (cl.lookup y.1).isSome)=true) (h7:cap.length=N.length) (h8:CapOk X scope cap N):CompSc X scope cl N cap:=⟨h1,h2,h3,h4,h5.mem,h6,h7,h8.get⟩
end L2
namespace DL
open PySem PySem.Spec PyProof.Rows L2
section
variable {X:Cx} {pos:Pos}
def dgSeq (n:Nat) (t:DGs):DG:=fun d L S k=>match dItems S d with
  | some p=>p.1.length=n/\t p.1 L S k
  | none=>False
theorem dg_seq {es:List Expr} {k:Nat} {t:DGs} {n:Nat} (hc:X.calm=true) (h:GsJ X es t) (hn:(assignEach es X.env).length=n:=by rfl) (hst:(assignEach es X.env).findIdx? (·.1)=none:=by rfl):GJ X (.Tuple es k pos) (dgSeq n t):=
  ⟨PG.imp (PG.or (pg_tup hc h.h hn hst) (pg_lst hc h.h hn hst)) fun v σ H Q ⟨d,L,S,k,i1,hL,hS,h,m⟩=>by
    cases d with
    | tup ds=>
      obtain⟨a,xs,rfl,t1,j⟩:=isTup.mp i1
      exact .inl ⟨a,xs,rfl,t1,by rw [<- j.length]; exact h.1,ds,L,S,k,j,hL,hS,h.2,m⟩
    | rl ds=>
      obtain⟨a,xs,rfl,t1,j⟩:=isRl.mp i1
      exact .inr ⟨a,xs,rfl,t1.sq,by rw [<- j.length]; exact h.1,ds,L,S,k,j,hL,hS,h.2,m⟩
    | ref a=>
      have e1:=isRef.mp i1
      subst e1
      cases z:S a with
      | none=>simp only [dgSeq,dItems,z] at h
      | some o=>
        cases o with
        | dic=>simp only [dgSeq,dItems,z] at h
        | exc _=>simp only [dgSeq,dItems,z] at h
        | fn _=>simp only [dgSeq,dItems,z] at h
        | tbl _=>simp only [dgSeq,dItems,z] at h
        | gen _=>simp only [dgSeq,dItems,z] at h
        | lst ds=>
          simp only [dgSeq,dItems,z] at h
          obtain⟨xs,hl,j⟩:=hS.lst z
          exact .inr ⟨a,xs,rfl,SqL.of hl,by rw [<- j.length]; exact h.1,ds,L,S,k,j,hL,hS,h.2,m⟩
    | _=>exact(show False from h).elim⟩
end
def capL (cap:List (Option Nat)) (L:Lo):Lo:=cap.map fun o=>match o with
  | some j=>(L[j]?).join
  | none=>none
theorem Lc.cap {K:Fg} {H:Hp} {L:Lo} {σ:L2.St} (hL:Lc K H L σ):∀ cap:List (Option Nat),Lc K H (capL cap L) (capSt cap σ)
  | []=>rfl
  | Option.none::r=>⟨_,_,rfl,Lc.cap hL r⟩
  | Option.some j::r=>by
    show Lc K H ((L[j]?).join::capL r L) ((σ[j]?).join::capSt r σ)
    cases e:L[j]? with
    | none=>exact⟨_,_,rfl,Lc.cap hL r⟩
    | some o=>
      cases o with
      | none=>exact⟨_,_,rfl,Lc.cap hL r⟩
      | some d=>
        obtain⟨v,e1,e2⟩:=hL.get e
        rw [e1]
        exact⟨v,_,rfl,e2,Lc.cap hL r⟩
abbrev DB:=Lo->DH->(Option D->DH->Prop)->Prop
def bdAll (ge:DE):DB:=fun L S k=>ge L S fun v S1=>k (some v) S1
def bdIf (c:DT) (ge:DE):DB:=fun L S k=>c L S fun b S1=>if b=true then ge L S1 fun v S2=>k (some v) S2 else k none S1
def dCLoop (ok:DH->Prop) (p:Addr) (g:DG) (bd:DB) (k:DK):List D->List D->Lo->DH->Prop
  | [],_,_,S=>ok S/\k (.ref p) S
  | d::r,acc,L,S=>ok S/\g d L S fun L1 S1=>bd L1 S1 fun o S2=>match o with
    | some v=>S2 p=some (.lst acc)/\acc.length < sizeLine/\dCLoop ok p g bd k r (acc++[v]) L1 (put S2 p (.lst (acc++[v])))
    | none=>dCLoop ok p g bd k r acc L1 S2
def dCompR (cap:List (Option Nat)) (ta:DA) (g:DG) (bd:DB):DE:=fun L S k=>ta L S fun ds S1=>match ds with
  | [.int n]=>(-(2 ^ 62)<=n/\n < 2 ^ 62)/\∀ p,S1 p=none->dCLoop (fun _=>True) p g bd k ((List.range n.toNat).map fun i=>D.int (i:Nat)) [] (capL cap L) (put S1 p (.lst []))
  | _=>False
section
variable {K:Fg} {ok:DH->Prop} {gg:DG} {ge:DE} {gc:DT} {k:DK} {ds:List D} {L:Lo} {S:DH} {σ:L2.St} {H:Hp} {J:It} {Q:VK} {p:Addr}
theorem comp_core (hL:Lc K H L σ) (hS:Hs K H S) (hp:H p=none) (h:dCLoop ok p gg (bdAll ge) k ds [] L (put S p (.lst [])))
    (n:∀ d S' v H',k d S'->Kp H H'->Hs K H' S'->IsD K H' d v->Q v H')
    (hgo:∀ i d S1 H1,ds[i]?=some d->Kp H H1->Hs K H1 S1->ok S1->J.go i H1/\∀ x H',J.yld i H1 x H'->H'=H1/\IsD K H1 d x)
    (hst:∀ S1 H1,Kp H H1->Hs K H1 S1->ok S1->J.stop ds.length H1):
    ∃ W:Nat->Nat->L2.St->Hp->Prop,(∃ m,W 0 m σ (upd H p (.lst [])))/\∀ i m σ' H',W i m σ' H'->
      (J.stop i H'/\Q (.ref p) H')\/(J.go i H'/\∃ N:L2.St->Hp->Prop,(∀ σ2 H2,N σ2 H2->∃ m',m' < m/\W (i+1) m' σ2 H2)/\∀ x H2,J.yld i H' x H2->upG K gg x σ' H2 fun σ3 H3=>up K ge σ3 H3 fun v H4=>∃ ys,H4 p=some (.lst ys)/\ys.length < sizeLine/\N σ3 (upd H4 p (.lst (ys++[v])))):=by
  refine⟨fun i m σ1 H1=>m=ds.length - i/\i<=ds.length/\∃ acc L1 S1,Lc K H1 L1 σ1/\Hs K H1 S1/\Kp H H1/\dCLoop ok p gg (bdAll ge) k (ds.drop i) acc L1 S1,⟨ds.length,by simp,Nat.zero_le _,[],L,_,hL.kp (Kp.new hp),hS.newL hp IsDs.nil,Kp.new hp,h⟩,?_⟩
  rintro i m σ1 H1 ⟨rfl,hi,acc,L1,S1,hL1,hS1,k1,w1⟩
  by_cases hlt:i < ds.length
  · have e:ds.drop i=ds[i]::ds.drop (i+1):=List.drop_eq_getElem_cons hlt
    rw [e] at w1
    obtain⟨o1,w1⟩:=w1
    obtain⟨g1,y1⟩:=hgo i ds[i] S1 H1 (by simp [hlt]) k1 hS1 o1
    refine .inr ⟨g1,fun σ' H'=>i+1<=ds.length/\∃ acc L' S',Lc K H' L' σ'/\Hs K H' S'/\Kp H H'/\dCLoop ok p gg (bdAll ge) k (ds.drop (i+1)) acc L' S',fun σ' H' ⟨q1,q2⟩=>⟨ds.length - (i+1),by omega,rfl,q1,q2⟩,fun x H' y=>?_⟩
    obtain⟨rfl,ix⟩:=y1 x H' y
    refine⟨ds[i],L1,S1,_,ix,hL1,hS1,w1,fun L2 S2 σ2 H2 q k2 hL2 hS2=>up.go hL2 hS2 q fun d S3 v H3 h3 k3 hL3 hS3 i3=>?_⟩
    obtain⟨z1,z2,z3⟩:=h3
    obtain⟨xs,hl,j⟩:=hS3.lst z1
    have k4:Kp H3 (upd H3 p (.lst (xs++[v]))):=Kp.mut hl (fun z=>z)
    exact⟨xs,hl,by rw [<- j.length]; exact z2,hlt,_,L2,_,hL3.kp k4,hS3.setL hl (j.append (IsDs.cons i3 IsDs.nil)),((k1.trans k2).trans k3).trans k4,z3⟩
  · have e:i=ds.length:=by omega
    subst e
    rw [List.drop_length] at w1
    obtain⟨o1,w1⟩:=w1
    exact .inl ⟨hst S1 H1 k1 hS1 o1,n _ S1 _ H1 w1 k1 hS1 (isRef.mpr rfl)⟩
theorem comp_coreIf (hL:Lc K H L σ) (hS:Hs K H S) (hp:H p=none) (h:dCLoop ok p gg (bdIf gc ge) k ds [] L (put S p (.lst [])))
    (n:∀ d S' v H',k d S'->Kp H H'->Hs K H' S'->IsD K H' d v->Q v H')
    (hgo:∀ i d S1 H1,ds[i]?=some d->Kp H H1->Hs K H1 S1->ok S1->J.go i H1/\∀ x H',J.yld i H1 x H'->H'=H1/\IsD K H1 d x)
    (hst:∀ S1 H1,Kp H H1->Hs K H1 S1->ok S1->J.stop ds.length H1):
    ∃ W:Nat->Nat->L2.St->Hp->Prop,(∃ m,W 0 m σ (upd H p (.lst [])))/\∀ i m σ' H',W i m σ' H'->
      (J.stop i H'/\Q (.ref p) H')\/(J.go i H'/\∃ N:L2.St->Hp->Prop,(∀ σ2 H2,N σ2 H2->∃ m',m' < m/\W (i+1) m' σ2 H2)/\∀ x H2,J.yld i H' x H2->upG K gg x σ' H2 fun σ3 H3=>upT K gc σ3 H3 fun b H3'=>if b=true then up K ge σ3 H3' fun v H4=>∃ ys,H4 p=some (.lst ys)/\ys.length < sizeLine/\N σ3 (upd H4 p (.lst (ys++[v]))) else N σ3 H3'):=by
  refine⟨fun i m σ1 H1=>m=ds.length - i/\i<=ds.length/\∃ acc L1 S1,Lc K H1 L1 σ1/\Hs K H1 S1/\Kp H H1/\dCLoop ok p gg (bdIf gc ge) k (ds.drop i) acc L1 S1,⟨ds.length,by simp,Nat.zero_le _,[],L,_,hL.kp (Kp.new hp),hS.newL hp IsDs.nil,Kp.new hp,h⟩,?_⟩
  rintro i m σ1 H1 ⟨rfl,hi,acc,L1,S1,hL1,hS1,k1,w1⟩
  by_cases hlt:i < ds.length
  · have e:ds.drop i=ds[i]::ds.drop (i+1):=List.drop_eq_getElem_cons hlt
    rw [e] at w1
    obtain⟨o1,w1⟩:=w1
    obtain⟨g1,y1⟩:=hgo i ds[i] S1 H1 (by simp [hlt]) k1 hS1 o1
    refine .inr ⟨g1,fun σ' H'=>i+1<=ds.length/\∃ acc L' S',Lc K H' L' σ'/\Hs K H' S'/\Kp H H'/\dCLoop ok p gg (bdIf gc ge) k (ds.drop (i+1)) acc L' S',fun σ' H' ⟨q1,q2⟩=>⟨ds.length - (i+1),by omega,rfl,q1,q2⟩,fun x H' y=>?_⟩
    obtain⟨rfl,ix⟩:=y1 x H' y
    refine⟨ds[i],L1,S1,_,ix,hL1,hS1,w1,fun L2 S2 σ2 H2 q k2 hL2 hS2=>upT.go hL2 hS2 q fun b S2' H2' h2 k2' hL2' hS2'=>?_⟩
    cases b with
    | true=>
      rw [if_pos rfl] at h2 ⊢
      refine up.go hL2' hS2' h2 fun d S3 v H3 h3 k3 hL3 hS3 i3=>?_
      obtain⟨z1,z2,z3⟩:=h3
      obtain⟨xs,hl,j⟩:=hS3.lst z1
      have k4:Kp H3 (upd H3 p (.lst (xs++[v]))):=Kp.mut hl (fun z=>z)
      exact⟨xs,hl,by rw [<- j.length]; exact z2,hlt,_,L2,_,hL3.kp k4,hS3.setL hl (j.append (IsDs.cons i3 IsDs.nil)),(((k1.trans k2).trans k2').trans k3).trans k4,z3⟩
    | false=>
      rw [if_neg Bool.false_ne_true] at h2 ⊢
      exact⟨hlt,acc,L2,S2',hL2',hS2',(k1.trans k2).trans k2',h2⟩
  · have e:i=ds.length:=by omega
    subst e
    rw [List.drop_length] at w1
    obtain⟨o1,w1⟩:=w1
    exact .inl ⟨hst S1 H1 k1 hS1 o1,n _ S1 _ H1 w1 k1 hS1 (isRef.mpr rfl)⟩
end
theorem range_go {K:Fg} {H:Hp} {n:Int}:∀ i d (S1:DH) H1,((List.range n.toNat).map fun i=>D.int (i:Nat))[i]?=some d->Kp H H1->Hs K H1 S1->(fun _=>True:DH->Prop) S1->(Itr 0 n.toNat).go i H1/\∀ x H',(Itr 0 n.toNat).yld i H1 x H'->H'=H1/\IsD K H1 d x:=by
  intro i d S1 H1 e _ _ _
  rw [List.getElem?_map] at e
  cases q:(List.range (Int.toNat _))[i]? with
  | none=>rw [q] at e; cases e
  | some z=>
    rw [q] at e
    cases e
    obtain⟨hz1,hz2⟩:=List.getElem?_eq_some_iff.mp q
    rw [List.length_range] at hz1
    rw [List.getElem_range] at hz2
    subst hz2
    exact⟨hz1,fun x H' y=>⟨y.1,by rw [y.2]; exact isInt.mpr (by rw [Int.zero_add])⟩⟩
section
variable {X:Cx} {elt tg iter c a:Expr} {scope:Scope} {cl:List (Str×Addr)} {N:List Str} {cap:List (Option Nat)} {pos p pos':Pos} {gg:DG} {ge gi:DE} {gc:DT} {ta:DA}
theorem d_compRj (hc:X.calm=true) (Sc:CompSc X scope cl N cap) (hgl:Gl X "range") (hm:X.mg "range"=none) (ha:AJ X [a] ta) (hg:∀ s0 H0 ex C,GJ (cxC X scope cl N s0 H0 ex C) tg gg) (he:∀ s0 H0 ex C,EJ (cxC X scope cl N s0 H0 ex C) elt ge)
    (hs1:starEach [a] X.env=[(false,eval a X.env)]:=by exact star_cons rfl) (hs:∀ x,foldedSetIterable (.Call (.Name "range" p) [a] [] pos') X.env x=pure x:=by intro _; rfl):
    EJ X (.ListComp elt [⟨tg,.Call (.Name "range" p) [a] [] pos',[],0⟩] scope pos) (dCompR cap ta gg (bdAll ge)):=
  ⟨PE.imp (pe_comp hc Sc (pi_range1 hgl hm ha.h hs1) (fun s0 H0 ex C=>(hg s0 H0 ex C).h) (fun s0 H0 ex C=>(he s0 H0 ex C).h) hs) fun σ H Q ⟨L,S,k,hL,hS,h,n⟩=>upA.go hL hS h fun ds S1 vs H1 h1 k1 hL1 hS1 i1=>by
    split at h1
    · obtain⟨v,rfl,j⟩:=isDs1 i1
      have e:=isInt.mp j
      subst e
      obtain⟨⟨h2,h3⟩,h1⟩:=h1
      refine⟨_,rfl,h2,h3,fun D hD=>comp_core (hL1.cap cap) hS1 hD (h1 D (hS1.free hD)) (fun d S' v H' q k3=>n d S' v H' q (k1.trans k3)) range_go fun S2 H2 k2 hS2 _=>?_⟩
      rw [List.length_map,List.length_range]
      exact Nat.le_refl _
    · exact h1.elim⟩
theorem d_compRIfj (hc:X.calm=true) (Sc:CompSc X scope cl N cap) (hgl:Gl X "range") (hm:X.mg "range"=none) (ha:AJ X [a] ta) (hg:∀ s0 H0 ex C,GJ (cxC X scope cl N s0 H0 ex C) tg gg) (hcn:∀ s0 H0 ex C,TJ (cxC X scope cl N s0 H0 ex C) c gc) (he:∀ s0 H0 ex C,EJ (cxC X scope cl N s0 H0 ex C) elt ge)
    (hs1:starEach [a] X.env=[(false,eval a X.env)]:=by exact star_cons rfl) (hs:∀ x,foldedSetIterable (.Call (.Name "range" p) [a] [] pos') X.env x=pure x:=by intro _; rfl):
    EJ X (.ListComp elt [⟨tg,.Call (.Name "range" p) [a] [] pos',[c],0⟩] scope pos) (dCompR cap ta gg (bdIf gc ge)):=
  ⟨PE.imp (pe_compIf hc Sc (pi_range1 hgl hm ha.h hs1) (fun s0 H0 ex C=>(hg s0 H0 ex C).h) (fun s0 H0 ex C=>(hcn s0 H0 ex C).h) (fun s0 H0 ex C=>(he s0 H0 ex C).h) hs) fun σ H Q ⟨L,S,k,hL,hS,h,n⟩=>upA.go hL hS h fun ds S1 vs H1 h1 k1 hL1 hS1 i1=>by
    split at h1
    · obtain⟨v,rfl,j⟩:=isDs1 i1
      have e:=isInt.mp j
      subst e
      obtain⟨⟨h2,h3⟩,h1⟩:=h1
      refine⟨_,rfl,h2,h3,fun D hD=>comp_coreIf (hL1.cap cap) hS1 hD (h1 D (hS1.free hD)) (fun d S' v H' q k3=>n d S' v H' q (k1.trans k3)) range_go fun S2 H2 k2 hS2 _=>?_⟩
      rw [List.length_map,List.length_range]
      exact Nat.le_refl _
    · exact h1.elim⟩
end
def GTup (K:Fg) (mg:Str->Option Value) (x:Str) (ns:List Int):Prop:=∃ p o its n,mg x=some (.ref p)/\K.lookup p=some o/\o.cls=.type "tuple"/\o.data=.seq its n/\its.size<=sizeLine/\Vals (ns.map V.int) its.toList
theorem isDs_ints {K:Fg} {H:Hp}:∀ ns:List Int,IsDs K H (ns.map D.int) (ns.map V.int)
  | []=>IsDs.nil
  | _::ns=>IsDs.cons (isInt.mpr rfl) (isDs_ints ns)
theorem d_gtup {X:Cx} {x:Str} {ns:List Int} {pos:Pos} (g:GTup X.K X.mg x ns) (hg:Gl X x) (hd:(x == ("__debug__":Str))=false:=by decide):EJ X (.Name x pos) (dC (.tup (ns.map D.int))):=by
  obtain⟨p,o,its,n,hm,h1,h2,h3,h4,h5⟩:=g
  exact⟨d_c (pe_glob (v:=.ref p) hg hm rfl hd) fun H=>isTup.mpr ⟨p,_,rfl,.inr ⟨o,its,n,h1,h2,h3,h4,h5⟩,isDs_ints ns⟩⟩
theorem upR.imp {K:Fg} {r r':D2} (i:∀ d e S k,r' d e S k->r d e S k):∀ x y H Q,upR K r' x y H Q->upR K r x y H Q:=fun x y H Q ⟨d,e,S,k,a,b,c,h,n⟩=>⟨d,e,S,k,a,b,c,i d e S k h,n⟩
theorem upC.imp {K:Fg} {r r':DSp} (i:∀ ds S k,r' ds S k->r ds S k):∀ xs H Q,upC K r' xs H Q->upC K r xs H Q:=fun xs H Q ⟨ds,S,k,a,b,h,n⟩=>⟨ds,S,k,a,b,i ds S k h,n⟩
theorem OpR.imp {X:Cx} {f:Value->Value->Sem Value} {r r':R2} (h:OpR X f r) (i:∀ x y H Q,r' x y H Q->r x y H Q):OpR X f r':=fun pins s σ H x y v u Q I rx ry q=>h pins s σ H x y v u Q I rx ry (i x y H Q q)
theorem IxR.imp {X:Cx} {r r':R2} (h:IxR X r) (i:∀ x y H Q,r' x y H Q->r x y H Q):IxR X r':=fun value slice pins s σ H x y v u Q I rx ry q=>h value slice pins s σ H x y v u Q I rx ry (i x y H Q q)
theorem CallR.imp {X:Cx} {f:Value} {r r':List V->Hp->VK->Prop} (h:CallR X f r) (i:∀ xs H Q,r' xs H Q->r xs H Q):CallR X f r':=fun pins s σ H xs us Q I rs q=>h pins s σ H xs us Q I rs (i xs H Q q)
def dIxE:D2:=fun d e S k=>match d,e with
  | .tup ds,.int i=>(match L2.atI ds i with
    | some c=>k c S
    | none=>False)
  | .rl ds,.int i=>∃ c,L2.atI ds i=some c/\k c S
  | .ref a,.int i=>∃ ds c,S a=some (.lst ds)/\L2.atI ds i=some c/\k c S
  | _,_=>False
theorem x_ixE {X:Cx}:IxR X (upR X.K dIxE):=IxR.imp x_ix (upR.imp fun d e S k h=>by
  unfold dIxE at h
  split at h
  · exact h
  · obtain⟨c,h1,h2⟩:=h
    simp only [dIx,h1]
    exact h2
  · obtain⟨ds,c,h0,h1,h2⟩:=h
    simp only [dIx,h0,h1]
    exact h2
  · exact h.elim)
def bLenE:DSp:=fun ds S k=>match ds with
  | [.tup xs]=>k (.int xs.length) S
  | [.rl xs]=>k (.int xs.length) S
  | [.ref a]=>∃ xs,S a=some (.lst xs)/\k (.int xs.length) S
  | _=>False
theorem b_lenE {X:Cx}:CallR X (.builtin "len") (upC X.K bLenE):=CallR.imp b_len (upC.imp fun ds S k h=>by
  unfold bLenE at h
  split at h
  · exact h
  · exact h
  · obtain⟨xs,h1,h2⟩:=h
    simp only [bLen,h1]
    exact h2
  · exact h.elim)
def dForE (gi:DE) (g:DG) (b:DS):DS:=fun M L S=>gi L S fun d S1=>∃ p,dItems S1 d=some p/\dLoop (okFor p) g b M p.1 L S1
def dgSeqE (n:Nat) (t:DGs):DG:=fun d L S k=>∃ p,dItems S d=some p/\p.1.length=n/\t p.1 L S k
theorem GJ.imp {X:Cx} {e:Expr} {g g':DG} (h:GJ X e g) (i:∀ d L S k,g' d L S k->g d L S k):GJ X e g':=⟨PG.imp h.h fun v σ H Q ⟨d,L,S,k,a,hL,hS,q,n⟩=>⟨d,L,S,k,a,hL,hS,i d L S k q,n⟩⟩
theorem dg_seqE {X:Cx} {pos:Pos} {es:List Expr} {k:Nat} {t:DGs} {n:Nat} (hc:X.calm=true) (h:GsJ X es t) (hn:(assignEach es X.env).length=n:=by rfl) (hst:(assignEach es X.env).findIdx? (·.1)=none:=by rfl):GJ X (.Tuple es k pos) (dgSeqE n t):=
  GJ.imp (dg_seq hc h hn hst) fun d L S k ⟨p,h1,h2⟩=>by
    simp only [dgSeq,h1]
    exact h2
section
variable {X:Cx} {pos:Pos}
def dgSubE (go gi:DE):DG:=fun d L S k=>go L S fun o S1=>gi L S1 fun i S2=>match o,i with
  | .ref a,.int j=>∃ ds n,S2 a=some (.lst ds)/\ixN ds.length j=some n/\k L (put S2 a (.lst (ds.set n d)))
  | _,_=>False
theorem dg_subE {o i:Expr} {go gi:DE} (ho:EJ X o go) (hi:EJ X i gi)
    (ha:∀ v,assign (.Subscript o i pos) X.env v=(do
      let ov <- holding [v] (eval o X.env)
      let iv <- holding [v,ov] (eval i X.env)
      standAt pos
      holding [v,ov,iv] (setItem ov iv v)
      release [v,ov,iv] []):=by intro _; rfl):GJ X (.Subscript o i pos) (dgSubE go gi):=
  ⟨PG.imp (pg_sub ho.h hi.h set_list ha) fun v σ H Q ⟨d,L,S,k,i1,hL,hS,h,n⟩=>up.go hL hS h fun c S1 u H1 h1 k1 hL1 hS1 j1=>up.go hL1 hS1 h1 fun c2 S2 u2 H2 h2 k2 hL2 hS2 j2=>by
    cases c with
    | ref a=>
      cases c2 with
      | int z=>
        have e1:=isRef.mp j1
        have e2:=isInt.mp j2
        subst e1
        subst e2
        obtain⟨ds,m,w,q,h2⟩:=h2
        obtain⟨vs,hl,j⟩:=hS2.lst w
        refine⟨a,vs,z,m,rfl,rfl,hl,by rw [<- j.length]; exact q,?_⟩
        have k3:Kp H2 (upd H2 a (.lst (vs.set m v))):=Kp.mut hl (fun z=>z)
        exact n L _ σ _ h2 (k1.trans (k2.trans k3)) (hL2.kp k3) (hS2.setL hl (j.set m (i1.kp (k1.trans k2))))
      | _=>exact(show False from h2).elim
    | _=>exact(show False from h2).elim⟩
theorem seq_go {K:Fg} {S1:DH} {H1:Hp} {d:D} {v:V} {p:List D×Option Addr} (hS1:Hs K H1 S1) (i1:IsD K H1 d v) (hp:dItems S1 d=some p):∃ a,v=.ref a/\
    (((∃ xs, SqL K H1 a xs) ∧ (∀ i c S2 H2, p.1[i]? = some c → Kp H1 H2 → Hs K H2 S2 → okFor p S2 → (Itl K a).go i H2 ∧ ∀ x H', (Itl K a).yld i H2 x H' → H' = H2 ∧ IsD K H2 c x) ∧ ∀ S2 H2, Kp H1 H2 → Hs K H2 S2 → okFor p S2 → (Itl K a).stop p.1.length H2) ∨
     ((∃ xs,SqT K H1 a xs)/\(∀ i c S2 H2,p.1[i]?=some c->Kp H1 H2->Hs K H2 S2->okFor p S2->(Itt K a).go i H2/\∀ x H',(Itt K a).yld i H2 x H'->H'=H2/\IsD K H2 c x)/\∀ S2 H2,Kp H1 H2->Hs K H2 S2->okFor p S2->(Itt K a).stop p.1.length H2)):=by
  cases d with
  | tup ds=>
    cases hp
    obtain⟨a,xs,rfl,t,j⟩:=isTup.mp i1
    refine⟨a,rfl,.inr ⟨⟨xs,t⟩,fun i d S2 H2 e k2 hS2 _=>?_,fun S2 H2 k2 hS2 _=>⟨xs,k2.tup t,by rw [<- j.length]; exact Nat.le_refl _⟩⟩⟩
    obtain⟨w,e1,e2⟩:=j.get e
    refine⟨⟨xs,w,k2.tup t,e1⟩,fun x H' y=>⟨y.1,?_⟩⟩
    have z:=y.2 xs (k2.tup t)
    rw [e1] at z
    cases z
    exact e2.kp k2
  | rl ds=>
    cases hp
    obtain⟨a,xs,rfl,t,j⟩:=isRl.mp i1
    refine⟨a,rfl,.inl ⟨⟨xs,t.sq⟩,fun i d S2 H2 e k2 hS2 _=>?_,fun S2 H2 k2 hS2 _=>⟨xs,(k2.fro t).sq,by rw [<- j.length]; exact Nat.le_refl _⟩⟩⟩
    obtain⟨w,e1,e2⟩:=j.get e
    refine⟨⟨xs,w,(k2.fro t).sq,e1⟩,fun x H' y=>⟨y.1,?_⟩⟩
    have z:=y.2 xs (k2.fro t).sq
    rw [e1] at z
    cases z
    exact e2.kp k2
  | ref a=>
    have e1:=isRef.mp i1
    subst e1
    cases z:S1 a with
    | none=>simp only [dItems,z] at hp; cases hp
    | some o=>
      cases o with
      | dic=>simp only [dItems,z] at hp; cases hp
      | exc _=>simp only [dItems,z] at hp; cases hp
      | fn _=>simp only [dItems,z] at hp; cases hp
      | tbl _=>simp only [dItems,z] at hp; cases hp
      | gen _=>simp only [dItems,z] at hp; cases hp
      | lst ds=>
        simp only [dItems,z] at hp
        cases hp
        obtain⟨xs,hl,j⟩:=hS1.lst z
        refine⟨a,rfl,.inl ⟨⟨xs,SqL.of hl⟩,fun i d S2 H2 e k2 hS2 o2=>?_,fun S2 H2 k2 hS2 o2=>?_⟩⟩
        · obtain⟨ys,hl2,j2⟩:=hS2.lst o2
          obtain⟨w,e1,e2⟩:=j2.get e
          refine⟨⟨ys,w,SqL.of hl2,e1⟩,fun x H' y=>⟨y.1,?_⟩⟩
          have q:=y.2 ys (SqL.of hl2)
          rw [e1] at q
          cases q
          exact e2
        · obtain⟨ys,hl2,j2⟩:=hS2.lst o2
          exact⟨ys,SqL.of hl2,by rw [<- j2.length]; exact Nat.le_refl _⟩
  | _=>cases hp
theorem dst_forEj {tg iter:Expr} {body:List Stmt} {gi:DE} {gg:DG} {g:DS} (hp:PassesOwn (model X.prog X.w) X.A X.env X.xe) (hc:X.calm=true) (hi:EJ X iter gi) (hg:GJ X tg gg) (hb:SsJ X body g)
    (hs:∀ x,foldedSetIterable iter X.env x=pure x:=by intro _; rfl):SJ X (.For tg iter body [] pos) (dForE gi gg g):=
  ⟨PS.imp (ps_for hp hc (pi_seq hi.h) hg.h hb.h hs) fun N σ H ⟨L,S,M,hL,hS,h,r⟩=>up.go hL hS h fun d S1 v H1 h1 k1 hL1 hS1 i1=>by
    obtain⟨p,hp,h1⟩:=h1
    obtain⟨a,e,q⟩:=seq_go hS1 i1 hp
    refine⟨a,e,?_⟩
    rcases q with ⟨q1,q2,q3⟩ | ⟨q1,q2,q3⟩
    · exact .inl ⟨q1,for_core hL1 hS1 h1 (r.kp k1) q2 q3⟩
    · exact .inr ⟨q1,for_core hL1 hS1 h1 (r.kp k1) q2 q3⟩⟩
def dCompE (cap:List (Option Nat)) (gi:DE) (g:DG) (bd:DB):DE:=fun L S k=>gi L S fun d S1=>∃ q,dItems S1 d=some q/\∀ p,S1 p=none->dCLoop (okFor q) p g bd k q.1 [] (capL cap L) (put S1 p (.lst []))
theorem d_compEj {elt tg iter:Expr} {scope:Scope} {cl:List (Str×Addr)} {N:List Str} {cap:List (Option Nat)} {gg:DG} {ge gi:DE} (hc:X.calm=true) (Sc:CompSc X scope cl N cap) (hi:EJ X iter gi) (hg:∀ s0 H0 ex C,GJ (cxC X scope cl N s0 H0 ex C) tg gg) (he:∀ s0 H0 ex C,EJ (cxC X scope cl N s0 H0 ex C) elt ge)
    (hs:∀ x,foldedSetIterable iter X.env x=pure x:=by intro _; rfl):EJ X (.ListComp elt [⟨tg,iter,[],0⟩] scope pos) (dCompE cap gi gg (bdAll ge)):=
  ⟨PE.imp (pe_comp hc Sc (pi_seq hi.h) (fun s0 H0 ex C=>(hg s0 H0 ex C).h) (fun s0 H0 ex C=>(he s0 H0 ex C).h) hs) fun σ H Q ⟨L,S,k,hL,hS,h,n⟩=>up.go hL hS h fun d S1 v H1 h1 k1 hL1 hS1 i1=>by
    obtain⟨p,hp,h1⟩:=h1
    obtain⟨a,e,q⟩:=seq_go hS1 i1 hp
    refine⟨a,e,?_⟩
    have n':∀ d S' v H',k d S'->Kp H1 H'->Hs X.K H' S'->IsD X.K H' d v->Q v H':=fun d S' v H' q k3=>n d S' v H' q (k1.trans k3)
    rcases q with ⟨q1,q2,q3⟩ | ⟨q1,q2,q3⟩
    · exact .inl ⟨q1,fun D hD=>comp_core (hL1.cap cap) hS1 hD (h1 D (hS1.free hD)) n' q2 q3⟩
    · exact .inr ⟨q1,fun D hD=>comp_core (hL1.cap cap) hS1 hD (h1 D (hS1.free hD)) n' q2 q3⟩⟩
end
end DL
namespace L2
open PySem PySem.Spec PyProof.Rows
structure Hands (P:Program) (w:World) (it l:Addr) (st:Nat->Heap->Prop) (sq:Array Value->Heap->Prop):Prop where
  at_:∀ k h h',st k h->(∀ o,h.get? it=some o->h'.get? it=some o)->st k h'
  sqAt:∀ xs h h',sq xs h->(∀ o,h.get? l=some o->h'.get? l=some o)->sq xs h'
  obj:∀ k h,st k h->∃ o,h.get? it=some o/\∀ v,o.data≠.cell v
  item:∀ (A:Around) (k:Nat) (s:Shared) (xs:Array Value) (x:Value) (Q:Value->Shared->Prop) (E:Value->Shared->Prop),st k s.heap->sq xs s.heap->xs[k]?=some x->
    (∀ h',st (k+1) h'->Heap.SameBut it s.heap h'->Q x {s with heap:=h'})->wpAny (model P w) A (Builtin.SmallTypes.nextOf (.ref it)) Q E s
  fin:∀ (A:Around) (k:Nat) (s:Shared) (xs:Array Value) (Q:Value->Shared->Prop) (E:Value->Shared->Prop),A.handled=none->st k s.heap->sq xs s.heap->xs[k]?=none->
    (∀ h' e,Heap.ExtBut it s.heap h'->(∃ o,h'.get? e=some o/\o.cls=.type "StopIteration")->E (.ref e) {s with heap:=h'})->wpAny (model P w) A (Builtin.SmallTypes.nextOf (.ref it)) Q E s
theorem Hands.list {P:Program} {w:World} (it l:Addr):Hands P w it l (fun k h=>h.IsListIter it l k) (fun xs h=>h.IsList l xs) where
  at_:=fun _ _ _ x y=>x.at y
  sqAt:=fun _ _ _ x y=>x.at y
  obj:=fun _ _ ⟨o,e,_,d⟩=>⟨o,e,fun v z=>by rw [d] at z; cases z⟩
  item:=fun _ _ _ _ _ _ _ a b c d=>wpAny_nextOf_list_item a b c d
  fin:=fun _ _ _ _ _ _ hh a b c d=>wpAny_nextOf_list_end hh a b c d
section
variable {prog:Program} {w:World} {A:Around} {E:Value->Shared->Prop} {s:Shared}
theorem nextOf_tuple_item {it t:Addr} {i:Nat} {items} {x:Value} {Q:Value->Shared->Prop} (hit:s.heap.IsTupleIter it t i) (ht:s.heap.IsTuple t items) (hx:items[i]?=some x)
    (hQ:∀ h',h'.IsTupleIter it t (i+1)->Heap.SameBut it s.heap h'->Q x {s with heap:=h'}):wpAny (model prog w) A (Builtin.SmallTypes.nextOf (.ref it)) Q E s:=by
  obtain⟨o,ho,hc,hd⟩:=id hit
  obtain⟨ol,hol,_,nl,hdl⟩:=ht
  unfold Builtin.SmallTypes.nextOf
  refine wpAny_bind (wpAny_callSpecial?_slot (name:=Str.ofString "__next__") hit.typeIs F.slot_tuple_iterator_next (wpAny_call_entry F.slot_tuple_iterator_next hit.typeIs F.entry_tuple_iterator_next ?_ (F.args_tuple_iterator_next_1 _)))
  refine wpAny_bind (m:=field (.ref it) 0) (wpAny_field ho hd (x:=.ref t) rfl ?_)
  show wpAny _ _ (if (Value.ref t == Value.none)=true then _ else _) _ _ s
  rw [if_neg (show ¬ ((Value.ref t == Value.none)=true) from Bool.false_ne_true)]
  refine wpAny_bind (m:=field (.ref it) 1) (wpAny_field ho hd (x:=.int i 0) rfl ?_)
  refine wpAny_bind (m:=seqItems? (.ref t)) (wpAny_seqItems hol hdl ?_)
  simp only [Int.toNat_natCast,hx]
  refine wpAny_bind (wpAny_setField ho hd (by simp) (wpAny_pure ⟨x,rfl,wpAny_pure (hQ _ ⟨_,Heap.get?_update_self _ ho (Obj.isFreed_of_fields (Obj.data_mapFields hd _)),(Obj.cls_mapFields ..).trans hc,?_⟩ (Heap.SameBut.update ..))⟩))
  rw [Obj.data_mapFields hd]
  simp [rawInt]
theorem nextOf_tuple_end {it t:Addr} {i:Nat} {items} {Q:Value->Shared->Prop} (hh:A.handled=none) (hit:s.heap.IsTupleIter it t i) (ht:s.heap.IsTuple t items) (hx:items[i]?=none)
    (hE:∀ h' e,Heap.ExtBut it s.heap h'->(∃ o,h'.get? e=some o/\o.cls=.type "StopIteration")->E (.ref e) {s with heap:=h'}):wpAny (model prog w) A (Builtin.SmallTypes.nextOf (.ref it)) Q E s:=by
  obtain⟨o,ho,hc,hd⟩:=id hit
  obtain⟨ol,hol,_,nl,hdl⟩:=ht
  unfold Builtin.SmallTypes.nextOf
  refine wpAny_bind (wpAny_callSpecial?_slot (name:=Str.ofString "__next__") hit.typeIs F.slot_tuple_iterator_next (wpAny_call_entry F.slot_tuple_iterator_next hit.typeIs F.entry_tuple_iterator_next ?_ (F.args_tuple_iterator_next_1 _)))
  refine wpAny_bind (m:=field (.ref it) 0) (wpAny_field ho hd (x:=.ref t) rfl ?_)
  show wpAny _ _ (if (Value.ref t == Value.none)=true then _ else _) _ _ s
  rw [if_neg (show ¬ ((Value.ref t == Value.none)=true) from Bool.false_ne_true)]
  refine wpAny_bind (m:=field (.ref it) 1) (wpAny_field ho hd (x:=.int i 0) rfl ?_)
  refine wpAny_bind (m:=seqItems? (.ref t)) (wpAny_seqItems hol hdl ?_)
  simp only [Int.toNat_natCast,hx]
  refine wpAny_bind (wpAny_rule (wpAny_bind (wpAny_setField ho hd (by simp) ?_)))
  refine wpAny_bind (m:=newExc (.type "StopIteration") []) ?_
  simp only [newExc,newTuple]
  refine wpAny_bind (wpAny_newObj_type ?_ (by size_fits))
  refine wpAny_bind (m:=firstArgMember _ _) (wpAny_of_eq (a:=Value.none) (by first | rfl | (simp only [firstArgMember]; rfl)) ?_)
  refine wpAny_newObj_type ?_ (by size_fits)
  simp only [raiseNew]
  refine wpAny_bind (wpAny_handled ?_)
  first | rw [show A.in1.handled=none from hh] | rw [hh]
  exact wpAny_bind (wpAny_pure (wpAny_throw (hE _ _ (((Heap.SameBut.update ..).extBut.push _).push _) ⟨_,Heap.get?_push_size _ rfl,rfl⟩)))
end
theorem Hands.tuple {P:Program} {w:World} (it l:Addr):Hands P w it l (fun k h=>h.IsTupleIter it l k) (fun xs h=>h.IsTuple l xs) where
  at_:=fun _ _ _ x y=>x.at y
  sqAt:=fun _ _ _ x y=>x.at y
  obj:=fun _ _ ⟨o,e,_,d⟩=>⟨o,e,fun v z=>by rw [d] at z; cases z⟩
  item:=fun _ _ _ _ _ _ _ a b c d=>nextOf_tuple_item a b c d
  fin:=fun _ _ _ _ _ _ hh a b c d=>nextOf_tuple_end hh a b c d
section
variable {prog:Program} {w:World} {A:Around} {E:Value->Shared->Prop} {s:Shared} {z TI TO i1 i2 l1 l2:Addr} {st1 st2:Nat->Heap->Prop} {sq1 sq2:Array Value->Heap->Prop} {k1 k2:Nat} {xs ys:Array Value} {x y a b:Value}
theorem zip_item {Q:Value->Shared->Prop} (G1:Hands prog w i1 l1 st1 sq1) (G2:Hands prog w i2 l2 st2 sq2) (D:ZipApart z TI TO i1 i2 l1 l2) (hz:IsZip s.heap z TI TO .none) (hTI:IsPair s.heap TI (.ref i1) (.ref i2)) (hTO:IsPair s.heap TO a b)
    (h1:st1 k1 s.heap) (h2:st2 k2 s.heap) (hl1:sq1 xs s.heap) (hl2:sq2 ys s.heap) (hx:xs[k1]?=some x) (hy:ys[k2]?=some y)
    (hQ:∀ h',IsZip h' z TI TO (rawInt s.heap.objs.size)->IsPair h' TO x y->st1 (k1+1) h'->st2 (k2+1) h'->IsPair h' s.heap.objs.size x y->h'.objs.size=s.heap.objs.size+1->
      (∀ c o,c≠z->c≠TO->c≠i1->c≠i2->s.heap.get? c=some o->h'.get? c=some o)->Q (.ref s.heap.objs.size) {s with heap:=h'}):
    wpAny (model prog w) A (Builtin.«zip.__next__» ⟨[.ref z],[]⟩) (fun fin s'=>∃ v,fin=.done (.ret v)/\Q v s') E s:=by
  refine wpAny_bind (m:=field (.ref z) 2) (wpAny_field hz rfl (x:=.bool false) rfl ?_)
  refine wpAny_bind (m:=field (.ref z) 3) (wpAny_field hz rfl (x:=.ref TI) rfl ?_)
  refine wpAny_bind (wpAny_seqItems hTI rfl ?_)
  refine wpAny_bind (m:=Builtin.SmallTypes.ownedTupleIsFree (.ref z)) ?_
  unfold Builtin.SmallTypes.ownedTupleIsFree
  refine wpAny_bind (wpAny_field hz rfl (x:=.none) rfl (wpAny_pure ?_))
  simp only [if_true]
  refine wpAny_bind (wpAny_rule ?_)
  refine wpAny_bind (wpAny_field hz rfl (x:=.ref TO) rfl ?_)
  refine wpAny_bind (wpAny_setField_rec hz (by simp) fun g1 z1 e1=>?_)
  replace z1:IsZip g1 z TI TO .ellipsis:=z1
  refine wpAny_bind ?_
  simp only [List.zipIdx_cons,List.zipIdx_nil,List.forIn_cons,List.forIn_nil]
  refine wpAny_bind (wpAny_bind (wpAny_onRaise ?_))
  refine wpAny_bind (m:=Builtin.SmallTypes.nextOf (.ref i1)) (G1.item _ _ _ _ _ _ _ (G1.at_ _ _ _ h1 fun o q=>e1.extBut _ _ D.i1z q) (G1.sqAt _ _ _ hl1 fun o q=>e1.extBut _ _ D.l1z q) hx fun g2 t1 e2=>wpAny_pure ?_)
  have o2:IsPair g2 TO a b:=e2.extBut _ _ D.TOi1 (e1.extBut _ _ D.TOz hTO)
  refine wpAny_bind (wpAny_seqItems o2 rfl ?_)
  refine wpAny_bind (wpAny_updateSeq_pair o2 fun g3 o3 e3=>?_)
  replace o3:IsPair g3 TO x b:=o3
  refine wpAny_bind (wpAny_letGo (wpAny_pure ?_))
  refine wpAny_bind (wpAny_bind (wpAny_onRaise ?_))
  refine wpAny_bind (m:=Builtin.SmallTypes.nextOf (.ref i2)) (G2.item _ _ _ _ _ _ _ (G2.at_ _ _ _ h2 fun o q=>e3.extBut _ _ D.TOi2.symm (e2.extBut _ _ D.i12.symm (e1.extBut _ _ D.i2z q)))
    (G2.sqAt _ _ _ hl2 fun o q=>e3.extBut _ _ D.l2TO (e2.extBut _ _ D.l2i1 (e1.extBut _ _ D.l2z q))) hy fun g4 t2 e4=>wpAny_pure ?_)
  have o4:IsPair g4 TO x b:=e4.extBut _ _ D.TOi2 o3
  refine wpAny_bind (wpAny_seqItems o4 rfl ?_)
  refine wpAny_bind (wpAny_updateSeq_pair o4 fun g5 o5 e5=>?_)
  replace o5:IsPair g5 TO x y:=o5
  refine wpAny_bind (wpAny_letGo (wpAny_pure (wpAny_pure ?_)))
  refine wpAny_bind (wpAny_seqItems o5 rfl ?_)
  refine wpAny_bind (wpAny_newTuple ?_)
  have hsz:g5.objs.size=s.heap.objs.size:=by rw [e5.1,e4.1,e3.1,e2.1,e1.1]
  have z5:IsZip g5 z TI TO .ellipsis:=e5.extBut _ _ D.TOz.symm (e4.extBut _ _ D.i2z.symm (e3.extBut _ _ D.TOz.symm (e2.extBut _ _ D.i1z.symm z1)))
  have kk:∀ c o,c≠z->c≠TO->c≠i1->c≠i2->s.heap.get? c=some o->g5.get? c=some o:=fun c o c1 c2 c3 c4 e=>
    e5.extBut _ _ c2 (e4.extBut _ _ c4 (e3.extBut _ _ c2 (e2.extBut _ _ c3 (e1.extBut _ _ c1 e))))
  have t15:st1 (k1+1) g5:=G1.at_ _ _ _ t1 fun o q=>e5.extBut _ _ D.TOi1.symm (e4.extBut _ _ D.i12 (e3.extBut _ _ D.TOi1.symm q))
  have t25:st2 (k2+1) g5:=G2.at_ _ _ _ t2 fun o q=>e5.extBut _ _ D.TOi2.symm q
  have hzlt:z < g5.objs.size:=Heap.lt_size z5
  refine wpAny_bind (m:=Builtin.SmallTypes.ownedTupleHandOut (.ref z) (.ref g5.objs.size)) ?_
  unfold Builtin.SmallTypes.ownedTupleHandOut
  have z6:IsZip (g5.push {cls:=.type "tuple",data:=.seq #[x,y]}) z TI TO .ellipsis:=Heap.get?_push_of_some _ z5
  refine wpAny_bind (wpAny_setField_rec z6 (by simp) fun g7 z7 e7=>?_)
  replace z7:IsZip g7 z TI TO (rawInt g5.objs.size):=z7
  refine wpAny_setField_rec z7 (by simp) fun g8 z8 e8=>?_
  replace z8:IsZip g8 z TI TO (rawInt g5.objs.size):=z8
  have up:∀ c o,c≠z->g5.get? c=some o->g8.get? c=some o:=fun c o c1 e=>e8.extBut _ _ c1 (e7.extBut _ _ c1 (Heap.get?_push_of_some _ e))
  have t8:IsPair g8 g5.objs.size x y:=e8.extBut _ _ (Nat.ne_of_gt hzlt) (e7.extBut _ _ (Nat.ne_of_gt hzlt) (Heap.get?_push_size _ rfl))
  have n8:g8.objs.size=g5.objs.size+1:=by rw [e8.1,e7.1,Heap.size_push]
  rw [hsz] at z8 t8 n8
  refine wpAny_pure ⟨_,rfl,?_⟩
  show Q (.ref g5.objs.size) _
  rw [hsz]
  exact hQ g8 z8 (up _ _ D.TOz o5) (G1.at_ _ _ _ t15 fun o e=>up _ o D.i1z e) (G2.at_ _ _ _ t25 fun o e=>up _ o D.i2z e) t8 n8 fun c o c1 c2 c3 c4 e=>up c o c1 (kk c o c1 c2 c3 c4 e)
theorem zip_end {Q:Fin->Shared->Prop} (G1:Hands prog w i1 l1 st1 sq1) (G2:Hands prog w i2 l2 st2 sq2) (hh:A.handled=none) (D:ZipApart z TI TO i1 i2 l1 l2) (hz:IsZip s.heap z TI TO .none) (hTI:IsPair s.heap TI (.ref i1) (.ref i2)) (hTO:IsPair s.heap TO a b)
    (h1:st1 k1 s.heap) (h2:st2 k2 s.heap) (hl1:sq1 xs s.heap) (hl2:sq2 ys s.heap) (hend:xs[k1]?=none\/ys[k2]?=none)
    (hE:∀ h' e,(∀ c o,c≠z->c≠TO->c≠i1->c≠i2->s.heap.get? c=some o->h'.get? c=some o)->(∃ o,h'.get? e=some o/\o.cls=.type "StopIteration")->E (.ref e) {s with heap:=h'}):
    wpAny (model prog w) A (Builtin.«zip.__next__» ⟨[.ref z],[]⟩) Q E s:=by
  refine wpAny_bind (m:=field (.ref z) 2) (wpAny_field hz rfl (x:=.bool false) rfl ?_)
  refine wpAny_bind (m:=field (.ref z) 3) (wpAny_field hz rfl (x:=.ref TI) rfl ?_)
  refine wpAny_bind (wpAny_seqItems hTI rfl ?_)
  refine wpAny_bind (m:=Builtin.SmallTypes.ownedTupleIsFree (.ref z)) ?_
  unfold Builtin.SmallTypes.ownedTupleIsFree
  refine wpAny_bind (wpAny_field hz rfl (x:=.none) rfl (wpAny_pure ?_))
  simp only [if_true]
  refine wpAny_bind (wpAny_rule ?_)
  refine wpAny_bind (wpAny_field hz rfl (x:=.ref TO) rfl ?_)
  refine wpAny_bind (wpAny_setField_rec hz (by simp) fun g1 z1 e1=>?_)
  replace z1:IsZip g1 z TI TO .ellipsis:=z1
  refine wpAny_bind ?_
  simp only [List.zipIdx_cons,List.zipIdx_nil,List.forIn_cons,List.forIn_nil]
  refine wpAny_bind (wpAny_bind (wpAny_onRaise ?_))
  have a1:=G1.at_ _ _ g1 h1 fun o q=>e1.extBut _ _ D.i1z q
  have b1:=G1.sqAt _ _ g1 hl1 fun o q=>e1.extBut _ _ D.l1z q
  cases hx:xs[k1]? with
  | none=>
    refine wpAny_bind (m:=Builtin.SmallTypes.nextOf (.ref i1)) (G1.fin _ _ _ _ _ _ hh a1 b1 hx fun g2 e e2 he=>?_)
    obtain⟨oe,hoe,hce⟩:=he
    have z2:IsZip g2 z TI TO .ellipsis:=e2 _ _ D.i1z.symm z1
    have hez:e≠z:=fun x=>by subst x; rw [z2] at hoe; cases hoe; simp at hce
    exact wpAny_setField_rec z2 (by simp) fun g3 _ e3=>hE g3 e (fun c o c1 _ c3 _ x=>e3.extBut _ _ c1 (e2 _ _ c3 (e1.extBut _ _ c1 x))) ⟨oe,e3.extBut _ _ hez hoe,hce⟩
  | some x=>
    have hy:ys[k2]?=none:=by rcases hend with h | h; rw [hx] at h; cases h; exact h
    refine wpAny_bind (m:=Builtin.SmallTypes.nextOf (.ref i1)) (G1.item _ _ _ _ _ _ _ a1 b1 hx fun g2 t1 e2=>wpAny_pure ?_)
    have o2:IsPair g2 TO a b:=e2.extBut _ _ D.TOi1 (e1.extBut _ _ D.TOz hTO)
    refine wpAny_bind (wpAny_seqItems o2 rfl ?_)
    refine wpAny_bind (wpAny_updateSeq_pair o2 fun g3 o3 e3=>?_)
    refine wpAny_bind (wpAny_letGo (wpAny_pure ?_))
    refine wpAny_bind (wpAny_bind (wpAny_onRaise ?_))
    refine wpAny_bind (m:=Builtin.SmallTypes.nextOf (.ref i2)) (G2.fin _ _ _ _ _ _ hh (G2.at_ _ _ _ h2 fun o q=>e3.extBut _ _ D.TOi2.symm (e2.extBut _ _ D.i12.symm (e1.extBut _ _ D.i2z q)))
      (G2.sqAt _ _ _ hl2 fun o q=>e3.extBut _ _ D.l2TO (e2.extBut _ _ D.l2i1 (e1.extBut _ _ D.l2z q))) hy fun g4 e e4 he=>?_)
    obtain⟨oe,hoe,hce⟩:=he
    have z4:IsZip g4 z TI TO .ellipsis:=e4 _ _ D.i2z.symm (e3.extBut _ _ D.TOz.symm (e2.extBut _ _ D.i1z.symm z1))
    have hez:e≠z:=fun x=>by subst x; rw [z4] at hoe; cases hoe; simp at hce
    exact wpAny_setField_rec z4 (by simp) fun g5 _ e5=>hE g5 e (fun c o c1 c2 c3 c4 x=>e5.extBut _ _ c1 (e4 _ _ c4 (e3.extBut _ _ c2 (e2.extBut _ _ c3 (e1.extBut _ _ c1 x))))) ⟨oe,e5.extBut _ _ hez hoe,hce⟩
theorem pyNext_zip_item {Q:Option Value->Shared->Prop} (G1:Hands prog w i1 l1 st1 sq1) (G2:Hands prog w i2 l2 st2 sq2) (D:ZipApart z TI TO i1 i2 l1 l2) (hz:IsZip s.heap z TI TO .none) (hTI:IsPair s.heap TI (.ref i1) (.ref i2)) (hTO:IsPair s.heap TO a b)
    (h1:st1 k1 s.heap) (h2:st2 k2 s.heap) (hl1:sq1 xs s.heap) (hl2:sq2 ys s.heap) (hx:xs[k1]?=some x) (hy:ys[k2]?=some y)
    (hQ:∀ h',IsZip h' z TI TO (rawInt s.heap.objs.size)->IsPair h' TO x y->st1 (k1+1) h'->st2 (k2+1) h'->IsPair h' s.heap.objs.size x y->h'.objs.size=s.heap.objs.size+1->
      (∀ c o,c≠z->c≠TO->c≠i1->c≠i2->s.heap.get? c=some o->h'.get? c=some o)->Q (some (.ref s.heap.objs.size)) {s with heap:=h'}):wpAny (model prog w) A (pyNext (.ref z)) Q E s:=by
  have hT:s.TypeIs (.ref z) "zip":=⟨_,hz,rfl⟩
  unfold pyNext
  exact wpAny_bind (wpAny_attempt (wpAny_callSpecial?_slot (name:=Str.ofString "__next__") hT F.slot_zip_next
    (wpAny_call_entry F.slot_zip_next hT F.entry_zip_next (zip_item G1 G2 D hz hTI hTO h1 h2 hl1 hl2 hx hy fun h' a1 a2 a3 a4 a5 a6 a7=>wpAny_pure (hQ h' a1 a2 a3 a4 a5 a6 a7)) (F.args_zip_next_1 _))))
theorem pyNext_zip_end {Q:Option Value->Shared->Prop} (G1:Hands prog w i1 l1 st1 sq1) (G2:Hands prog w i2 l2 st2 sq2) (hh:A.handled=none) (D:ZipApart z TI TO i1 i2 l1 l2) (hz:IsZip s.heap z TI TO .none) (hTI:IsPair s.heap TI (.ref i1) (.ref i2)) (hTO:IsPair s.heap TO a b)
    (h1:st1 k1 s.heap) (h2:st2 k2 s.heap) (hl1:sq1 xs s.heap) (hl2:sq2 ys s.heap) (hend:xs[k1]?=none\/ys[k2]?=none)
    (hQ:∀ h',(∀ c o,c≠z->c≠TO->c≠i1->c≠i2->s.heap.get? c=some o->h'.get? c=some o)->Q none {s with heap:=h'}):wpAny (model prog w) A (pyNext (.ref z)) Q E s:=by
  have hT:s.TypeIs (.ref z) "zip":=⟨_,hz,rfl⟩
  unfold pyNext
  refine wpAny_bind (wpAny_attempt (wpAny_callSpecial?_slot (name:=Str.ofString "__next__") hT F.slot_zip_next
    (wpAny_call_entry F.slot_zip_next hT F.entry_zip_next (zip_end G1 G2 hh D hz hTI hTO h1 h2 hl1 hl2 hend fun h' e hk he=>?_) (F.args_zip_next_1 _))))
  obtain⟨o,ho,hc⟩:=he
  exact wpAny_bind (wpAny_isInstance (T:="StopIteration") (b:=true) ⟨o,ho,hc⟩ isSubtype_stop (wpAny_pure (hQ _ hk)))
end
structure Begins (l:Addr) (nm:String) (sq:Array Value->Heap->Prop):Prop where
  iter:∀ (P:Program) (w:World) (A:Around) (s:Shared) (xs:Array Value) (Q:Value->Shared->Prop) (E:Value->Shared->Prop),sq xs s.heap->
    Q (.ref s.heap.objs.size) {s with heap:=s.heap.push {cls:=.type nm,data:=.fields #[.ref l,.int 0 0]}}->wpAny (model P w) A (pyIter (.ref l)) Q E s
  sqAt:∀ xs h h',sq xs h->(∀ o,h.get? l=some o->h'.get? l=some o)->sq xs h'
theorem Begins.list (l:Addr):Begins l "list_iterator" (fun xs h=>h.IsList l xs):=⟨fun _ _ _ _ _ _ _ a b=>wpAny_pyIter_list a b,fun _ _ _ x y=>x.at y⟩
theorem Begins.tuple (l:Addr):Begins l "tuple_iterator" (fun xs h=>h.IsTuple l xs):=⟨fun _ _ _ _ _ _ _ a b=>wpAny_pyIter_tuple a b,fun _ _ _ x y=>x.at y⟩
section
variable {l1 l2:Addr} {n1 n2:String} {sq1 sq2:Array Value->Heap->Prop}
abbrev zh1 (h:Heap) (n1:String) (l1:Addr):Heap:=h.push {cls:=.type n1,data:=.fields #[.ref l1,.int 0 0]}
abbrev zh2 (h:Heap) (n1 n2:String) (l1 l2:Addr):Heap:=(zh1 h n1 l1).push {cls:=.type n2,data:=.fields #[.ref l2,.int 0 0]}
abbrev zh3 (h:Heap) (n1 n2:String) (l1 l2:Addr):Heap:=(zh2 h n1 n2 l1 l2).push {cls:=.type "tuple",data:=.seq #[.ref h.objs.size,.ref (zh1 h n1 l1).objs.size]}
abbrev zh4 (h:Heap) (n1 n2:String) (l1 l2:Addr):Heap:=(zh3 h n1 n2 l1 l2).push {cls:=.type "tuple",data:=.seq #[.none,.none]}
abbrev zh5 (h:Heap) (n1 n2:String) (l1 l2:Addr):Heap:=(zh4 h n1 n2 l1 l2).push {cls:=.type "zip",data:=.fields #[.none,.bool false,.bool false,.ref (zh2 h n1 n2 l1 l2).objs.size,.ref (zh3 h n1 n2 l1 l2).objs.size]}
theorem meets_zip (B1:Begins l1 n1 sq1) (B2:Begins l2 n2 sq2) (xs ys:Array Value):
    Meets (Builtin.«zip.__new__» ⟨[.type "zip",.ref l1,.ref l2],[]⟩) (fun _ R s=>sq1 xs s.heap/\sq2 ys s.heap/\
      R (.ok (.ret (.ref (zh4 s.heap n1 n2 l1 l2).objs.size))) {s with heap:=zh5 s.heap n1 n2 l1 l2}):=
  .of_wp fun prog w A R s h=>by
    obtain⟨hp,g,d,tk,os⟩:=s
    obtain⟨a,b,h⟩:=h
    have hsub:=sub_zip
    have b':sq2 ys (Shared.heap ⟨hp.push {cls:=.type n1,data:=.fields #[.ref l1,.int 0 0]},g,d,tk,os⟩):=B2.sqAt _ _ _ b fun o q=>Heap.get?_push_of_some _ q
    have a':sq1 xs (Shared.heap ⟨hp,g,d,tk,os⟩):=a
    wp_walk using B1.iter _ _ _ _ _ _ _ a',B2.iter _ _ _ _ _ _ _ b'
    exact⟨_,rfl,h⟩
variable {prog:Program} {w:World} {A:Around} {E:Value->Shared->Prop} {s:Shared}
theorem call_zip (B1:Begins l1 n1 sq1) (B2:Begins l2 n2 sq2) {xs ys:Array Value} {Q:Value->Shared->Prop} (hl1:sq1 xs s.heap) (hl2:sq2 ys s.heap)
    (h:∀ h',IsZip h' (s.heap.objs.size+4) (s.heap.objs.size+2) (s.heap.objs.size+3) .none->IsPair h' (s.heap.objs.size+2) (.ref s.heap.objs.size) (.ref (s.heap.objs.size+1))->
      IsPair h' (s.heap.objs.size+3) .none .none->h'.get? s.heap.objs.size=some {cls:=.type n1,data:=.fields #[.ref l1,.int 0 0]}->h'.get? (s.heap.objs.size+1)=some {cls:=.type n2,data:=.fields #[.ref l2,.int 0 0]}->
      (∀ c o,s.heap.get? c=some o->h'.get? c=some o)->Q (.ref (s.heap.objs.size+4)) {s with heap:=h'}):
    wpAny (model prog w) A (call (.type "zip") [.ref l1,.ref l2]) Q E s:=by
  refine callType_new F.called_zip (by decide) (F.typeCall_zip_2 _ _) (F.newCall_zip_2 _ _) (fun obj=>F.args_object_init_3 obj _ _) F.entry_zip_new (meets_zip B1 B2 xs ys) ⟨hl1,hl2,?_⟩
  have z1:(zh1 s.heap n1 l1).objs.size=s.heap.objs.size+1:=Heap.size_push ..
  have z2:(zh2 s.heap n1 n2 l1 l2).objs.size=s.heap.objs.size+2:=by rw [Heap.size_push,z1]
  have z3:(zh3 s.heap n1 n2 l1 l2).objs.size=s.heap.objs.size+3:=by rw [Heap.size_push,z2]
  have z4:(zh4 s.heap n1 n2 l1 l2).objs.size=s.heap.objs.size+4:=by rw [Heap.size_push,z3]
  have g5:(zh5 s.heap n1 n2 l1 l2).get? (zh4 s.heap n1 n2 l1 l2).objs.size=some _:=Heap.get?_push_size _ rfl
  have g4:(zh5 s.heap n1 n2 l1 l2).get? (zh3 s.heap n1 n2 l1 l2).objs.size=some _:=Heap.get?_push_of_some _ (Heap.get?_push_size _ rfl)
  have g3:(zh5 s.heap n1 n2 l1 l2).get? (zh2 s.heap n1 n2 l1 l2).objs.size=some _:=Heap.get?_push_of_some _ (Heap.get?_push_of_some _ (Heap.get?_push_size _ rfl))
  have g2:(zh5 s.heap n1 n2 l1 l2).get? (zh1 s.heap n1 l1).objs.size=some _:=Heap.get?_push_of_some _ (Heap.get?_push_of_some _ (Heap.get?_push_of_some _ (Heap.get?_push_size _ rfl)))
  have g1:(zh5 s.heap n1 n2 l1 l2).get? s.heap.objs.size=some _:=Heap.get?_push_of_some _ (Heap.get?_push_of_some _ (Heap.get?_push_of_some _ (Heap.get?_push_of_some _ (Heap.get?_push_size _ rfl))))
  show _/\_
  rw [z2,z3,z4] at g5
  rw [z1,z2] at g3
  rw [z3] at g4
  rw [z1] at g2
  rw [z4]
  exact⟨⟨_,g5,rfl⟩,h _ g5 g3 g4 g1 g2 fun c o x=>Heap.get?_push_of_some _ (Heap.get?_push_of_some _ (Heap.get?_push_of_some _ (Heap.get?_push_of_some _ (Heap.get?_push_of_some _ x))))⟩
end
section
variable {X:Cx} {pins:List (Addr×Obj)} {σ:St} {H:Hp} {s:Shared} {h':Heap}
theorem Inv.turnedL {t':Nat} (ch:List Addr) (I:Inv X pins σ H s) (k:∀ b o,b∉ch->s.heap.get? b=some o->h'.get? b=some o) (hf:∀ b∈ch,FpOk X pins H b):Inv X pins σ H {s with heap:=h',toks:=t'}:=by
  have nit:∀ b u,H b=some u->b∉ch:=fun b u e z=>by rw [(hf b z).1] at e; cases e
  refine I.step (g':=s.gens) (d':=s.drawn) (ch:=ch) (fun b hb=>⟨(hf b hb).2.2.2.1,(hf b hb).2.1,(hf b hb).2.2.2.2.1,(hf b hb).2.2.2.2.2⟩) (fun b o _ _ hc e _=>k b o hc e) (fun b o _ _ hc e _=>⟨o.slots,k b o hc e⟩) (fun _ _ _ _ n=>n)
    (fun b o hc e=>⟨o,k b o hc e⟩) (fun _ _ e=>e) (fun _ _ _ e=>e) (fun b ps e=>⟨#[],by rw [e]; simp⟩) (fun m hm=>?_) (fun b u e=>?_) I.bare
  · obtain⟨o,es,ep,ho,r⟩:=hm
    exact⟨o,es,ep,k _ o (fun z=>(hf _ z).2.1 rfl) ho,r⟩
  · refine(I.hok b u e).stay (fun c v hc q=>k c v ?_ q) (fun _ q=>q) fun _ _ q=>q
    rcases hc with z | z
    · rw [z]; exact nit b u e
    · exact nit c _ z
theorem Inv.turnedNew {t':Nat} {T:Addr} {xs:List V} (ch:List Addr) (I:Inv X pins σ H s) (k:∀ b o,b∉ch->s.heap.get? b=some o->h'.get? b=some o) (hf:∀ b∈ch,FpOk X pins H b) (hT:s.heap.objs.size<=T)
    (new:ObjOk X.prog X.w (upd H T (.tup xs)) h' T (.tup xs)):Inv X pins σ (upd H T (.tup xs)) {s with heap:=h',toks:=t'}:=by
  have hn:H T=none:=I.hok.fresh hT
  have nit:∀ b u,H b=some u->b∉ch:=fun b u e z=>by rw [(hf b z).1] at e; cases e
  have neT:∀ b o,s.heap.get? b=some o->b≠T:=fun b o e z=>by subst z; exact absurd (Nat.lt_of_lt_of_le (Heap.lt_size e) hT) (Nat.lt_irrefl _)
  refine I.step (g':=s.gens) (d':=s.drawn) (ch:=ch) (fun b hb=>⟨(hf b hb).2.2.2.1,(hf b hb).2.1,(hf b hb).2.2.2.2.1,(hf b hb).2.2.2.2.2⟩) (fun b o _ _ hc e _=>k b o hc e) (fun b o _ _ hc e _=>⟨o.slots,k b o hc e⟩) (fun b o _ e n=>by rw [upd_ne (neT b o e)]; exact n)
    (fun b o hc e=>⟨o,k b o hc e⟩) (fun b _ e=>by rw [upd_ne (ne_of_none e hn)]; exact e) (fun b _ _ e=>by rw [upd_ne (ne_of_none e hn)]; exact e) (fun b ps e=>⟨#[],by rw [upd_ne (ne_of_none e hn),e]; simp⟩) (fun m hm=>?_) (fun b u e=>?_) I.bare
  · obtain⟨o,es,ep,ho,r⟩:=hm
    exact⟨o,es,ep,k _ o (fun z=>(hf _ z).2.1 rfl) ho,r⟩
  · by_cases hb:b=T
    · subst hb
      rw [upd_same] at e
      cases e
      exact new
    · rw [upd_ne hb] at e
      refine(I.hok b u e).stay (fun c v hc q=>k c v ?_ q) (fun c q=>by rw [upd_ne (ne_of_none q hn)]; exact q) fun c _ q=>by rw [upd_ne (ne_of_none q hn)]; exact q
      rcases hc with z | z
      · rw [z]; exact nit b u e
      · exact nit c _ z
end
def SqB (b:Bool) (K:PySem.W.Frag) (H:Hp) (a:Addr) (xs:List V):Prop:=match b with | true=>SqL K H a xs | false=>SqT K H a xs
def itB (b:Bool) (it l:Addr) (k:Nat) (h:Heap):Prop:=match b with | true=>h.IsListIter it l k | false=>h.IsTupleIter it l k
def sqB (b:Bool) (l:Addr) (xs:Array Value) (h:Heap):Prop:=match b with | true=>h.IsList l xs | false=>h.IsTuple l xs
def nmB (b:Bool):String:=match b with | true=>"list_iterator" | false=>"tuple_iterator"
theorem handsB {P:Program} {w:World} (b:Bool) (it l:Addr):Hands P w it l (itB b it l) (sqB b l):=match b with | true=>Hands.list it l | false=>Hands.tuple it l
theorem beginsB (b:Bool) (l:Addr):Begins l (nmB b) (sqB b l):=match b with | true=>Begins.list l | false=>Begins.tuple l
theorem itB_new {b:Bool} {it l:Addr} {h:Heap} (e:h.get? it=some {cls:=.type (nmB b),data:=.fields #[.ref l,.int 0 0]}):itB b it l 0 h:=match b,e with | true,e=>⟨_,e,rfl,rfl⟩ | false,e=>⟨_,e,rfl,rfl⟩
section
variable {X:Cx} {pins:List (Addr×Obj)} {σ:St} {H:Hp} {s:Shared} {a:Addr} {xs ys:List V} {b:Bool}
theorem Inv.sqB (I:Inv X pins σ H s) (h:SqB b X.K H a xs):∃ its:List Value,Vals xs its/\L2.sqB b a its.toArray s.heap:=by
  cases b with
  | true=>obtain⟨its,r,p,_⟩:=I.list h; exact⟨its,r,p.isList⟩
  | false=>obtain⟨its,r,p,_⟩:=I.tuple h; exact⟨its,r,p⟩
theorem Inv.sqB_inj (I:Inv X pins σ H s) (h:SqB b X.K H a xs) (h':SqB b X.K H a ys):xs=ys:=by
  cases b with
  | true=>exact I.list_inj h h'
  | false=>exact I.tuple_inj h h'
theorem sqB_lt {its:Array Value} {h:Heap} (e:L2.sqB b a its h):a < h.objs.size:=by
  cases b with
  | true=>obtain⟨o,e,_⟩:=e; exact Heap.lt_size e
  | false=>obtain⟨o,e,_⟩:=e; exact Heap.lt_size e
end
def Itz (K:PySem.W.Frag) (b1 b2:Bool) (a1 a2:Addr):It:=
  ⟨fun i H => ∃ xs ys x y, SqB b1 K H a1 xs ∧ SqB b2 K H a2 ys ∧ xs[i]? = some x ∧ ys[i]? = some y,
   fun i H v H'=>∃ T x y,v=.ref T/\H T=none/\H'=upd H T (.tup [x,y])/\∀ xs ys,SqB b1 K H a1 xs->SqB b2 K H a2 ys->xs[i]?=some x/\ys[i]?=some y,
   fun i H=>∃ xs ys,SqB b1 K H a1 xs/\SqB b2 K H a2 ys/\(xs.length<=i\/ys.length<=i)⟩
def tnZ (b1 b2:Bool) (z TI TO i1 i2 a1 a2:Addr) (i:Nat) (h:Heap):Prop:=
  IsZip h z TI TO .none/\IsPair h TI (.ref i1) (.ref i2)/\(∃ a b,IsPair h TO a b)/\itB b1 i1 a1 i h/\itB b2 i2 a2 i h
theorem turn_zip {P:Program} {w:World} {K:PySem.W.Frag} {es:List Expr} {k:Nat} {pos:Pos} (b1 b2:Bool) {z TI TO i1 i2 a1 a2:Addr} (D:ZipApart z TI TO i1 i2 a1 a2):
    Turn P w K (.Tuple es k pos) (Itz K b1 b2 a1 a2) [z,TI,TO,i1,i2] z (tnZ b1 b2 z TI TO i1 i2 a1 a2) where
  mem:=by simp
  obj:=fun i h st b hb=>by
    obtain⟨hz,hTI,⟨x,y,hTO⟩,h1,h2⟩:=st
    have hb':b=z\/b=TI\/b=TO\/b=i1\/b=i2:=by simpa using hb
    rcases hb' with rfl | rfl | rfl | rfl | rfl
    · exact⟨_,hz,fun v q=>by cases q⟩
    · exact⟨_,hTI,fun v q=>by cases q⟩
    · exact⟨_,hTO,fun v q=>by cases q⟩
    · exact(handsB (P:=P) (w:=w) b1 b a1).obj _ _ h1
    · exact(handsB (P:=P) (w:=w) b2 b a2).obj _ _ h2
  keep:=fun i h h' st q=>by
    obtain⟨hz,hTI,⟨x,y,hTO⟩,h1,h2⟩:=st
    exact⟨q z (by simp) _ hz,q TI (by simp) _ hTI,⟨x,y,q TO (by simp) _ hTO⟩,(handsB (P:=P) (w:=w) b1 i1 a1).at_ _ _ _ h1 fun o e=>q i1 (by simp) o e,(handsB (P:=P) (w:=w) b2 i2 a2).at_ _ _ _ h2 fun o e=>q i2 (by simp) o e⟩
  item:=by
    intro X hP hw hK hc i pins s σ H E I hf st hg
    subst hP hw hK
    obtain⟨xs,ys,x,y,q1,q2,hx,hy⟩:=hg
    obtain⟨its,rv,p⟩:=I.sqB q1
    obtain⟨jts,rw',p'⟩:=I.sqB q2
    obtain⟨u,hu,ru⟩:=rv.get hx
    obtain⟨u',hu',ru'⟩:=rw'.get hy
    obtain⟨hz,hTI,⟨c,d,hTO⟩,h1,h2⟩:=st
    have hn:H s.heap.objs.size=none:=I.hok.fresh (Nat.le_refl _)
    have old:∀ b∈[z,TI,TO,i1,i2],b≠s.heap.objs.size:=fun b hb e=>by
      have:∃ o,s.heap.get? b=some o:=by
        have hb':b=z\/b=TI\/b=TO\/b=i1\/b=i2:=by simpa using hb
        rcases hb' with rfl | rfl | rfl | rfl | rfl
        · exact⟨_,hz⟩
        · exact⟨_,hTI⟩
        · exact⟨_,hTO⟩
        · obtain⟨o,e,_⟩:=(handsB (P:=X.prog) (w:=X.w) b1 b a1).obj _ _ h1; exact⟨o,e⟩
        · obtain⟨o,e,_⟩:=(handsB (P:=X.prog) (w:=X.w) b2 b a2).obj _ _ h2; exact⟨o,e⟩
      obtain⟨o,eo⟩:=this
      exact absurd (Heap.lt_size eo) (by rw [e]; exact Nat.lt_irrefl _)
    refine pyNext_zip_item (handsB b1 i1 a1) (handsB b2 i2 a2) D hz hTI hTO h1 h2 p p' (x:=u) (y:=u') (by simpa using hu) (by simpa using hu') fun h' c1 c2 c3 c4 c5 c6 c7=>?_
    have I1:Inv X pins σ (upd H s.heap.objs.size (.tup [x,y])) {s with heap:=h'}:=I.turnedNew (t':=s.toks) [z,TO,i1,i2] (fun b o hb e=>c7 b o (fun q=>hb (by simp [q])) (fun q=>hb (by simp [q])) (fun q=>hb (by simp [q])) (fun q=>hb (by simp [q])) e)
      (fun b hb => hf b (by have hb' : b = z ∨ b = TO ∨ b = i1 ∨ b = i2 := by simpa using hb
                            rcases hb' with rfl | rfl | rfl | rfl <;> simp)) (Nat.le_refl _) ⟨Nat.le_of_ble_eq_true rfl,[u,u'],.cons ru (.cons ru' .nil),⟨_,c5,rfl,_,rfl⟩⟩
    refine⟨_,rfl,wpAny_letOwnedTupleGo_zip (s:={s with heap:=h'}) c1 fun h2' g1 g2=>?_⟩
    refine⟨.ref s.heap.objs.size,upd H s.heap.objs.size (.tup [x,y]),?_,rfl,⟨_,x,y,rfl,hn,rfl,fun xs' ys' e1 e2=>by rw [I.sqB_inj e1 q1,I.sqB_inj e2 q2]; exact⟨hx,hy⟩⟩,?_,fun b hb=>?_⟩
    · refine I1.turnedL (t':=s.toks) [z] (fun b o hb e=>g2.extBut _ _ (fun q=>hb (by simp [q])) e) fun b hb=>?_
      have e:b=z:=by simpa using hb
      subst e
      obtain⟨f0,f1,f2,f3,f4,f5⟩:=hf b (by simp)
      exact⟨by rw [upd_ne (old b (by simp))]; exact f0,f1,f2,f3,f4,f5⟩
    · exact⟨g1,g2.extBut _ _ D.TIz (c7 _ _ D.TIz D.TITO D.TIi1 D.TIi2 hTI),⟨_,_,g2.extBut _ _ D.TOz c2⟩,(handsB (P:=X.prog) (w:=X.w) b1 i1 a1).at_ _ _ _ c3 fun o e=>g2.extBut _ _ D.i1z e,(handsB (P:=X.prog) (w:=X.w) b2 i2 a2).at_ _ _ _ c4 fun o e=>g2.extBut _ _ D.i2z e⟩
    · rw [upd_ne (old b hb)]
      exact(hf b hb).1
  done:=by
    intro X hP hw hK hc i pins s σ H E I hf st hg
    subst hP hw hK
    obtain⟨xs,ys,q1,q2,hx⟩:=hg
    obtain⟨its,rv,p⟩:=I.sqB q1
    obtain⟨jts,rw',p'⟩:=I.sqB q2
    obtain⟨hz,hTI,⟨c,d,hTO⟩,h1,h2⟩:=st
    have l1:=rv.length
    have l2:=rw'.length
    refine pyNext_zip_end (handsB b1 i1 a1) (handsB b2 i2 a2) (I.ok.hd hc) D hz hTI hTO h1 h2 p p' (by rcases hx with hx | hx; · left; simp; omega
                                                                                                       · right; simp; omega) fun h' kk=>⟨rfl,I.turnedL (t':=s.toks) [z,TO,i1,i2] (fun b o hb e=>kk b o (fun q=>hb (by simp [q])) (fun q=>hb (by simp [q])) (fun q=>hb (by simp [q])) (fun q=>hb (by simp [q])) e) fun b hb=>hf b ?_⟩
    have hb':b=z\/b=TO\/b=i1\/b=i2:=by simpa using hb
    rcases hb' with rfl | rfl | rfl | rfl <;> simp
  self:=fun _ _ _ _ _ st h=>wpAny_pyIter_zip st.1 h
theorem zapart (n l1 l2:Nat) (h1:l1 < n) (h2:l2 < n):ZipApart (n+4) (n+2) (n+3) n (n+1) l1 l2:=by
  constructor <;> (intro e; simp only [Addr] at e; omega)
def iZip (K:PySem.W.Frag) (ta:TA):TI:=fun σ H R=>ta σ H fun vs H1=>∃ a1 a2 b1 b2,vs=[.ref a1,.ref a2]/\(∃ xs,SqB b1 K H1 a1 xs)/\(∃ ys,SqB b2 K H1 a2 ys)/\R (Itz K b1 b2 a1 a2) H1
theorem pi_zip {X:Cx} {a b:Expr} {ta:TA} {p pos tp:Pos} {es:List Expr} {k:Nat} (hg:Gl X "zip") (hm:X.mg "zip"=none) (ha:PA X [a,b] ta) (hs:starEach [a,b] X.env=[(false,eval a X.env),(false,eval b X.env)]:=by rfl) (hs2:starEach [b] X.env=[(false,eval b X.env)]:=by rfl):
    PI X (.Tuple es k tp) (.Call (.Name "zip" p) [a,b] [] pos) (iZip X.K ta):=by
  intro pins s σ H R I h
  refine Call_ (ld_blt I hg hm boot_zip (PyProof.Rows.callWith_type1 (thn (ha pos pins s σ H _ I h) fun us s1 ⟨vs,H1,I1,r1,q1⟩=>?_) (by rw [hs,hs2]) (by rw [hs2]; rfl)))
  obtain⟨a1,a2,b1,b2,e,⟨xs,e1⟩,⟨ys,e2⟩,q⟩:=q1
  subst e
  cases r1 with
  | cons r rr=>
    cases rr with
    | cons r' rr=>
      cases rr
      cases r
      cases r'
      obtain⟨its,rv,p1⟩:=I1.sqB e1
      obtain⟨jts,rw',p2⟩:=I1.sqB e2
      refine call_zip (beginsB b1 a1) (beginsB b2 a2) p1 p2 fun h' c1 c2 c3 c4 c5 c6=>?_
      refine wpAny_pyIter_zip (s:={s1 with heap:=h'}) c1 ?_
      have fr:∀ j,H1 (s1.heap.objs.size+j)=none:=fun j=>I1.hok.fresh (Nat.le_add_right _ _)
      refine⟨_,[s1.heap.objs.size+4,s1.heap.objs.size+2,s1.heap.objs.size+3,s1.heap.objs.size,s1.heap.objs.size+1],_,_,H1,rfl,I1.kept (t':=s1.toks) c6,turn_zip b1 b2 (zapart _ _ _ (sqB_lt p1) (sqB_lt p2)),⟨c1,c2,⟨_,_,c3⟩,itB_new c4,itB_new c5⟩,fun b hb=>?_,q⟩
      have hb':b=s1.heap.objs.size+4\/b=s1.heap.objs.size+2\/b=s1.heap.objs.size+3\/b=s1.heap.objs.size\/b=s1.heap.objs.size+1:=by simpa using hb
      rcases hb' with rfl | rfl | rfl | rfl | rfl
      · exact I1.fpOk (Nat.le_add_right _ _) (fr 4)
      · exact I1.fpOk (Nat.le_add_right _ _) (fr 2)
      · exact I1.fpOk (Nat.le_add_right _ _) (fr 3)
      · exact I1.fpOk (Nat.le_refl _) (fr 0)
      · exact I1.fpOk (Nat.le_add_right _ _) (fr 1)
end L2
namespace DL
open PySem PySem.Spec PyProof.Rows L2
section
variable {K:Fg} {ok:DH->Prop} {gg:DG} {ge:DE} {k:DK} {ds:List D} {L:Lo} {S:DH} {σ:L2.St} {H:Hp} {J:It} {p:Addr} {Q:V->Hp->Prop}
theorem comp_coreG (hL:Lc K H L σ) (hS:Hs K H S) (hp:H p=none) (h:dCLoop ok p gg (bdAll ge) k ds [] L (put S p (.lst [])))
    (n:∀ d S' v H',k d S'->Kp H H'->Hs K H' S'->IsD K H' d v->Q v H')
    (hgo:∀ i d S1 H1,ds[i]?=some d->Kp H H1->Hs K H1 S1->ok S1->J.go i H1/\∀ x H',J.yld i H1 x H'->Kp H1 H'/\Hs K H' S1/\IsD K H' d x)
    (hst:∀ S1 H1,Kp H H1->Hs K H1 S1->ok S1->J.stop ds.length H1):
    ∃ W:Nat->Nat->L2.St->Hp->Prop,(∃ m,W 0 m σ (upd H p (.lst [])))/\∀ i m σ' H',W i m σ' H'->
      (J.stop i H'/\Q (.ref p) H')\/(J.go i H'/\∃ N:L2.St->Hp->Prop,(∀ σ2 H2,N σ2 H2->∃ m',m' < m/\W (i+1) m' σ2 H2)/\∀ x H2,J.yld i H' x H2->upG K gg x σ' H2 fun σ3 H3=>up K ge σ3 H3 fun v H4=>∃ ys,H4 p=some (.lst ys)/\ys.length < sizeLine/\N σ3 (upd H4 p (.lst (ys++[v])))):=by
  refine⟨fun i m σ1 H1=>m=ds.length - i/\i<=ds.length/\∃ acc L1 S1,Lc K H1 L1 σ1/\Hs K H1 S1/\Kp H H1/\dCLoop ok p gg (bdAll ge) k (ds.drop i) acc L1 S1,⟨ds.length,by simp,Nat.zero_le _,[],L,_,hL.kp (Kp.new hp),hS.newL hp IsDs.nil,Kp.new hp,h⟩,?_⟩
  rintro i m σ1 H1 ⟨rfl,hi,acc,L1,S1,hL1,hS1,k1,w1⟩
  by_cases hlt:i < ds.length
  · have e:ds.drop i=ds[i]::ds.drop (i+1):=List.drop_eq_getElem_cons hlt
    rw [e] at w1
    obtain⟨o1,w1⟩:=w1
    obtain⟨g1,y1⟩:=hgo i ds[i] S1 H1 (by simp [hlt]) k1 hS1 o1
    refine .inr ⟨g1,fun σ' H'=>i+1<=ds.length/\∃ acc L' S',Lc K H' L' σ'/\Hs K H' S'/\Kp H H'/\dCLoop ok p gg (bdAll ge) k (ds.drop (i+1)) acc L' S',fun σ' H' ⟨q1,q2⟩=>⟨ds.length - (i+1),by omega,rfl,q1,q2⟩,fun x H' y=>?_⟩
    obtain⟨k0,hS0,ix⟩:=y1 x H' y
    refine⟨ds[i],L1,S1,_,ix,hL1.kp k0,hS0,w1,fun L2 S2 σ2 H2 q k2 hL2 hS2=>up.go hL2 hS2 q fun d S3 v H3 h3 k3 hL3 hS3 i3=>?_⟩
    obtain⟨z1,z2,z3⟩:=h3
    obtain⟨xs,hl,j⟩:=hS3.lst z1
    have k4:Kp H3 (upd H3 p (.lst (xs++[v]))):=Kp.mut hl (fun z=>z)
    exact⟨xs,hl,by rw [<- j.length]; exact z2,hlt,_,L2,_,hL3.kp k4,hS3.setL hl (j.append (IsDs.cons i3 IsDs.nil)),(((k1.trans k0).trans k2).trans k3).trans k4,z3⟩
  · have e:i=ds.length:=by omega
    subst e
    rw [List.drop_length] at w1
    obtain⟨o1,w1⟩:=w1
    exact .inl ⟨hst S1 H1 k1 hS1 o1,n _ S1 _ H1 w1 k1 hS1 (isRef.mpr rfl)⟩
end
theorem seq_kd {K:Fg} {S1:DH} {H1:Hp} {d:D} {v:V} {p:List D×Option Addr} (hS1:Hs K H1 S1) (i1:IsD K H1 d v) (hp:dItems S1 d=some p):∃ a b,v=.ref a/\
    (∃ xs,SqB b K H1 a xs)/\∀ S2 H2,Kp H1 H2->Hs K H2 S2->okFor p S2->∃ xs,SqB b K H2 a xs/\IsDs K H2 p.1 xs:=by
  cases d with
  | tup ds=>
    cases hp
    obtain⟨a,xs,rfl,t,j⟩:=isTup.mp i1
    exact⟨a,false,rfl,⟨xs,t⟩,fun S2 H2 k2 _ _=>⟨xs,k2.tup t,j.kp k2⟩⟩
  | rl ds=>
    cases hp
    obtain⟨a,xs,rfl,t,j⟩:=isRl.mp i1
    exact⟨a,true,rfl,⟨xs,t.sq⟩,fun S2 H2 k2 _ _=>⟨xs,(k2.fro t).sq,j.kp k2⟩⟩
  | ref a=>
    have e1:=isRef.mp i1
    subst e1
    cases z:S1 a with
    | none=>simp only [dItems,z] at hp; cases hp
    | some o=>
      cases o with
      | dic=>simp only [dItems,z] at hp; cases hp
      | exc _=>simp only [dItems,z] at hp; cases hp
      | fn _=>simp only [dItems,z] at hp; cases hp
      | tbl _=>simp only [dItems,z] at hp; cases hp
      | gen _=>simp only [dItems,z] at hp; cases hp
      | lst ds=>
        simp only [dItems,z] at hp
        cases hp
        obtain⟨xs,hl,j⟩:=hS1.lst z
        refine⟨a,true,rfl,⟨xs,SqL.of hl⟩,fun S2 H2 k2 hS2 o2=>?_⟩
        obtain⟨ys,hl2,j2⟩:=hS2.lst o2
        exact⟨ys,SqL.of hl2,j2⟩
  | _=>cases hp
def zipD (xs ys:List D):List D:=List.zipWith (fun a b=>D.tup [a,b]) xs ys
def dCompZ (cap:List (Option Nat)) (ta:DA) (g:DG) (bd:DB):DE:=fun L S k=>ta L S fun ds S1=>match ds with
  | [d1,d2]=>∃ q1 q2,dItems S1 d1=some q1/\dItems S1 d2=some q2/\∀ p,S1 p=none->dCLoop (fun S=>okFor q1 S/\okFor q2 S) p g bd k (zipD q1.1 q2.1) [] (capL cap L) (put S1 p (.lst []))
  | _=>False
section
variable {X:Cx} {elt a b:Expr} {es:List Expr} {kt:Nat} {tp:Pos} {scope:Scope} {cl:List (Str×Addr)} {N:List Str} {cap:List (Option Nat)} {pos p pos':Pos} {gg:DG} {ge:DE} {ta:DA}
theorem d_compZj (hc:X.calm=true) (Sc:CompSc X scope cl N cap) (hgl:Gl X "zip") (hm:X.mg "zip"=none) (ha:AJ X [a,b] ta) (hg:∀ s0 H0 ex C,GJ (cxC X scope cl N s0 H0 ex C) (.Tuple es kt tp) gg) (he:∀ s0 H0 ex C,EJ (cxC X scope cl N s0 H0 ex C) elt ge)
    (hs1:starEach [a,b] X.env=[(false,eval a X.env),(false,eval b X.env)]:=by rfl) (hs2:starEach [b] X.env=[(false,eval b X.env)]:=by rfl) (hs:∀ x,foldedSetIterable (.Call (.Name "zip" p) [a,b] [] pos') X.env x=pure x:=by intro _; rfl):
    EJ X (.ListComp elt [⟨.Tuple es kt tp,.Call (.Name "zip" p) [a,b] [] pos',[],0⟩] scope pos) (dCompZ cap ta gg (bdAll ge)):=
  ⟨PE.imp (pe_comp hc Sc (pi_zip hgl hm ha.h hs1 hs2) (fun s0 H0 ex C=>(hg s0 H0 ex C).h) (fun s0 H0 ex C=>(he s0 H0 ex C).h) hs) fun σ H Q ⟨L,S,k,hL,hS,h,n⟩=>upA.go hL hS h fun ds S1 vs H1 h1 k1 hL1 hS1 i1=>by
    split at h1
    · rename_i d1 d2
      obtain⟨v1,v2,rfl,j1,j2⟩:∃ v1 v2,vs=[v1,v2]/\IsD X.K H1 d1 v1/\IsD X.K H1 d2 v2:=isDs2 i1
      obtain⟨q1,q2,e1,e2,h1⟩:=h1
      obtain⟨a1,b1,rfl,x1,y1⟩:=seq_kd hS1 j1 e1
      obtain⟨a2,b2,rfl,x2,y2⟩:=seq_kd hS1 j2 e2
      refine⟨a1,a2,b1,b2,rfl,x1,x2,fun pa hD=>comp_coreG (hL1.cap cap) hS1 hD (h1 pa (hS1.free hD)) (fun d S' v H' q k3=>n d S' v H' q (k1.trans k3)) (fun i c S2 H2 e k2 hS2 o2=>?_) fun S2 H2 k2 hS2 o2=>?_⟩
      · obtain⟨xs,w1,u1⟩:=y1 S2 H2 k2 hS2 o2.1
        obtain⟨ys,w2,u2⟩:=y2 S2 H2 k2 hS2 o2.2
        obtain⟨c1,c2,f1,f2,rfl⟩:∃ c1 c2,q1.1[i]?=some c1/\q2.1[i]?=some c2/\D.tup [c1,c2]=c:=by
          unfold zipD at e
          rw [List.getElem?_zipWith] at e
          cases z1:q1.1[i]? with
          | none=>rw [z1] at e; cases e
          | some c1=>
            cases z2:q2.1[i]? with
            | none=>rw [z1,z2] at e; cases e
            | some c2=>rw [z1,z2] at e; exact⟨c1,c2,rfl,rfl,Option.some.inj e⟩
        obtain⟨v1,g1,r1⟩:=u1.get f1
        obtain⟨v2,g2,r2⟩:=u2.get f2
        refine⟨⟨xs,ys,v1,v2,w1,w2,g1,g2⟩,?_⟩
        rintro x H' ⟨T,x',y',rfl,hT,rfl,al⟩
        obtain⟨l1,l2⟩:=al xs ys w1 w2
        rw [g1] at l1
        rw [g2] at l2
        cases l1
        cases l2
        have kn:Kp H2 (upd H2 T (.tup [v1,v2])):=Kp.new hT
        exact⟨kn,hS2.new hT,isTup.mpr ⟨T,[v1,v2],rfl,SqT.of upd_same,IsDs.cons (r1.kp kn) (IsDs.cons (r2.kp kn) IsDs.nil)⟩⟩
      · obtain⟨xs,w1,u1⟩:=y1 S2 H2 k2 hS2 o2.1
        obtain⟨ys,w2,u2⟩:=y2 S2 H2 k2 hS2 o2.2
        refine⟨xs,ys,w1,w2,?_⟩
        rw [<- u1.length,<- u2.length]
        unfold zipD
        rw [List.length_zipWith]
        omega
    · exact h1.elim⟩
end
theorem isDs_bls {K:Fg} {H:Hp}:∀ {bs:List Bool} {xs:List V},IsDs K H (bs.map D.bl) xs->xs=bs.map V.bl
  | [],_,h=>isNil.mp h
  | b::bs,_,h=>by
    obtain⟨v,r,rfl,h1,h2⟩:=isCons.mp h
    rw [isBl.mp h1,isDs_bls h2]
    rfl
theorem vals_bls:∀ {bs:List Bool} {us:List Value},Vals (bs.map V.bl) us->us=bs.map Value.bool
  | [],_,.nil=>rfl
  | b::bs,_,.cons r t=>by
    cases r
    rw [vals_bls t]
    rfl
theorem all_range:∀ (bs:List Bool),(List.range bs.length).all (fun i=>bs.getD i true)=bs.all id
  | []=>rfl
  | b::bs=>by
    rw [List.length_cons,List.range_succ_eq_map,List.all_cons,List.all_map,List.all_cons]
    exact congrArg (b && ·) (all_range bs)
theorem ok_self {S:DH} {d:D} {q:List D×Option Addr} (h:dItems S d=some q):okFor q S:=by
  cases d with
  | tup ds=>cases h; trivial
  | rl ds=>cases h; trivial
  | ref a=>
    simp only [dItems] at h
    split at h
    · rename_i z; cases h; exact z
    · cases h
  | _=>cases h
def bAllE:DSp:=fun ds S k=>match ds with
  | [d]=>∃ (q:List D×Option Addr) (bs:List Bool),dItems S d=some q/\q.1=bs.map D.bl/\k (.bl (bs.all id)) S
  | _=>False
theorem b_allE {X:Cx} (hc:X.calm=true:=by rfl):CallR X (.builtin "all") (upC X.K bAllE):=by
  intro pins s σ H xs us Q I rs h
  obtain⟨ds,S,k,i,hS,r,n⟩:=h
  unfold bAllE at r
  split at r
  · obtain⟨x,rfl,i1⟩:=isDs1 i
    obtain⟨q,bs,e1,e2,r⟩:=r
    obtain⟨a,b,rfl,_,y⟩:=seq_kd hS i1 e1
    obtain⟨vs,w1,w2⟩:=y S H (Kp.refl H) hS (ok_self e1)
    rw [e2] at w2
    have ev:=isDs_bls w2
    subst ev
    obtain⟨its,rv,p⟩:=I.sqB w1
    have ei:=vals_bls rv
    subst ei
    cases rs with
    | cons r0 rr=>
      cases rr
      cases r0
      have hh:X.A.in1.handled=none:=I.ok.hd hc
      have hlt:=sqB_lt p
      have fin:∀ (nm:String) (h':Heap) (tk:Nat),(∀ c o,c∉[s.heap.objs.size]->(s.heap.push {cls:=.type nm,data:=.fields #[.ref a,.int 0 0]}).get? c=some o->h'.get? c=some o)->
          EP X pins σ Q (.bool (bs.all id)) {s with heap:=h',toks:=tk}:=fun nm h' tk kk=>by
        have I1:Inv X pins σ H {s with heap:=s.heap.push {cls:=.type nm,data:=.fields #[.ref a,.int 0 0]}}:=I.kept (t':=s.toks) fun c o e=>Heap.get?_push_of_some _ e
        refine⟨.bl (bs.all id),H,Inv.turnedL (s:={s with heap:=s.heap.push {cls:=.type nm,data:=.fields #[.ref a,.int 0 0]}}) (t':=tk) [s.heap.objs.size] I1 kk (fun c hc=>?_),rfl,n _ _ _ _ r (Kp.refl H) hS (isBl.mpr rfl)⟩
        have e:c=s.heap.objs.size:=by simpa using hc
        subst e
        exact I.fpOk (Nat.le_refl _) (I.hok.fresh (Nat.le_refl _))
      have len:(bs.map Value.bool).toArray.size=bs.length:=by simp
      have tr:∀ A',TruthOf X.prog X.w A' (fun i v=>(bs.map Value.bool).toArray[i]?=some v) (fun i=>bs.getD i true):=fun A' i v s' Q' E' hP hQ=>by
        have hP':(bs[i]?).map Value.bool=some v:=by simpa using hP
        cases z:bs[i]? with
        | none=>rw [z] at hP'; cases hP'
        | some c=>
          rw [z] at hP'
          cases hP'
          refine wpAny_truthy_bool ?_
          simpa [List.getD,z] using hQ
      refine call_all_walk ?_
      cases b with
      | true=>
        refine wpAny_pyIter_list (show s.heap.IsList a _ from p) ?_
        refine⟨s.heap.objs.size,_,_,_,_,_,_,rfl,Walks.list hh s.heap.objs.size a (Nat.ne_of_lt hlt) (bs.map Value.bool).toArray,⟨⟨_,Heap.get?_push_size _ rfl,rfl,rfl⟩,Heap.IsList.at p fun o e=>Heap.get?_push_of_some _ e⟩,tr _,fun h' tk kk=>?_⟩
        rw [len,all_range]
        exact fin _ h' tk kk
      | false=>
        refine wpAny_pyIter_tuple (show s.heap.IsTuple a _ from p) ?_
        refine⟨s.heap.objs.size,_,_,_,_,_,_,rfl,Walks.tuple hh s.heap.objs.size a (Nat.ne_of_lt hlt) (bs.map Value.bool).toArray,⟨⟨_,Heap.get?_push_size _ rfl,rfl,rfl⟩,Heap.IsTuple.at p fun o e=>Heap.get?_push_of_some _ e⟩,tr _,fun h' tk kk=>?_⟩
        rw [len,all_range]
        exact fin _ h' tk kk
  · exact r.elim
theorem kitx_D {X:Cx} {pins:List (Addr×Obj)} {σ:L2.St} {H:Hp} {s:Shared} {S:DH} {d:D} {x:V} {u:Value} {t:Ty} (I:Inv X pins σ H s) (hS:Hs X.K H S) (i:IsD X.K H d x) (r:RelV x u) (h:tyD S d=some t):
    ∃ Hh:Heap->Prop,PySem.W.KitX X.K u (.type t.name) Hh/\Hh s.heap/\u≠.builtin "__main__.__loader__#opaque":=by
  cases d with
  | non=>cases h; rw [isNon.mp i] at r; cases (show u=Value.none from r); exact⟨_,PySem.W.kitx_none,True.intro,fun z=>nomatch z⟩
  | bl b=>cases h; rw [isBl.mp i] at r; cases (show u=Value.bool b from r); exact⟨_,PySem.W.kitx_bool,True.intro,fun z=>nomatch z⟩
  | int b=>cases h; rw [isInt.mp i] at r; obtain⟨tk,q⟩:=(show ∃ t,u=Value.int b t from r); cases q; exact⟨_,PySem.W.kitx_int,True.intro,fun z=>nomatch z⟩
  | str b=>cases h; rw [isStr.mp i] at r; obtain⟨tk,q⟩:=(show ∃ t,u=Value.str b t from r); cases q; exact⟨_,PySem.W.kitx_str,True.intro,fun z=>nomatch z⟩
  | tup ds=>
    cases h
    obtain⟨a,vs,rfl,q,_⟩:=isTup.mp i
    cases (show u=Value.ref a from r)
    obtain⟨its,_,⟨o,h1,h2,_⟩,_⟩:=I.tuple q
    exact⟨_,PySem.W.kitx_tuple,⟨o,h1,h2⟩,fun z=>nomatch z⟩
  | rl ds=>cases h
  | ty n=>cases h
  | ref a=>
    rw [isRef.mp i] at r
    cases (show u=Value.ref a from r)
    have h:tyR (S a)=some t:=h
    cases z:S a with
    | none=>rw [z] at h; cases h
    | some o=>
      rw [z] at h
      cases o with
      | lst ds=>
        cases h
        obtain⟨vs,e,_⟩:=hS.lst z
        obtain⟨its,_,⟨o,n,h1,h2,_⟩,_⟩:=I.list (SqL.of e)
        exact⟨_,PySem.W.kitx_list,⟨o,h1,h2⟩,fun z=>nomatch z⟩
      | dic=>
        cases h
        obtain⟨vs,e⟩:=hS _ _ z
        obtain⟨_,_,vs',_,p⟩:=(show ObjOk X.prog X.w H s.heap a (.dK vs) from I.hok a _ e)
        obtain⟨o,es,ep,h1,h2,_⟩:=p
        exact⟨_,PySem.W.kitx_dict,⟨o,h1,h2.1⟩,fun z=>nomatch z⟩
      | exc _=>cases h
      | fn _=>cases h
      | tbl _=>cases h
      | gen _=>cases h
theorem kitAny_of {K:Fg} (t:Ty):∀ cs:List Ty,PySem.W.kitAny K (.type t.name) (cs.map fun c=>.type c.name)=some (cs.any (subT t))
  | []=>rfl
  | c::r=>by
    have ih:=kitAny_of (K:=K) t r
    rw [List.map_cons,PySem.W.kitAny,kit_of]
    cases z:subT t c with
    | true=>simp [z]
    | false=>simp only [List.any_cons,z,Bool.false_or]; exact ih
theorem isDs_tys {K:Fg} {H:Hp}:∀ {cs:List Ty} {xs:List V},IsDs K H (cs.map D.ty) xs->xs=cs.map fun c=>V.ty c.name
  | [],_,h=>isNil.mp h
  | b::bs,_,h=>by
    obtain⟨v,r,rfl,h1,h2⟩:=isCons.mp h
    rw [isTy.mp h1,isDs_tys h2]
    rfl
theorem vals_tys:∀ {cs:List Ty} {us:List Value},Vals (cs.map fun c=>V.ty c.name) us->us=cs.map fun c=>Value.type c.name
  | [],_,.nil=>rfl
  | b::bs,_,.cons r t=>by
    cases r
    rw [vals_tys t]
    rfl
def bIsiX:DSp:=fun ds S k=>match ds with
  | [d,.ty c]=>∃ t,tyD S d=some t/\k (.bl (subT t c)) S
  | [d,.tup cs]=>∃ (t:Ty) (ts:List Ty),tyD S d=some t/\cs=ts.map D.ty/\k (.bl (ts.any (subT t))) S
  | _=>False
theorem b_isiX {X:Cx}:CallR X (.builtin "isinstance") (upC X.K bIsiX):=by
  intro pins s σ H xs us Q I rs h
  obtain⟨ds,S,k,i,hS,r,n⟩:=h
  unfold bIsiX at r
  split at r
  · rename_i d c
    obtain⟨t,ht,r⟩:=r
    obtain⟨x,y,rfl,i1,i2⟩:=isDs2 i
    have e2:=isTy.mp i2
    subst e2
    obtain⟨u,w',rfl,r1,r2⟩:=vals2 rs
    cases (show w'=Value.type c.name from r2)
    obtain⟨Hh,kx,p,nb⟩:=kitx_D I hS i1 r1 ht
    exact PySem.W.kia_one kx I.kIn p (kit_of t c) nb fun tk=>⟨.bl (subT t c),H,I.tok tk,rfl,n _ _ _ _ r (Kp.refl H) hS (isBl.mpr rfl)⟩
  · rename_i d cs
    obtain⟨t,ts,ht,rfl,r⟩:=r
    obtain⟨x,y,rfl,i1,i2⟩:=isDs2 i
    obtain⟨a,vs,rfl,q,j⟩:=isTup.mp i2
    have ev:=isDs_tys j
    subst ev
    obtain⟨u,w',rfl,r1,r2⟩:=vals2 rs
    cases (show w'=Value.ref a from r2)
    obtain⟨Hh,kx,p,nb⟩:=kitx_D I hS i1 r1 ht
    obtain⟨its,rv,⟨o,h1,h2,m,h3⟩,_⟩:=I.tuple q
    have ei:=vals_tys rv
    subst ei
    obtain⟨oc,od,odt,os⟩:=o
    cases h2
    cases h3
    exact PySem.W.kia_tup kx I.kIn p h1 (kitAny_of t ts) nb fun tk=>⟨.bl (ts.any (subT t)),H,I.tok tk,rfl,n _ _ _ _ r (Kp.refl H) hS (isBl.mpr rfl)⟩
  · exact r.elim
section
variable {X:Cx} {o e a b c:Expr} {go ge ga gb gc:DE} {apos cpos pos:Pos}
def dApp (go ge:DE):DE:=fun L S k=>go L S fun d S1=>match d with
  | .ref a=>(∃ ds,S1 a=some (.lst ds))/\ge L S1 fun e S2=>∃ ds,S2 a=some (.lst ds)/\ds.length < sizeLine/\k .non (put S2 a (.lst (ds++[e])))
  | _=>False
theorem d_appj (ho:EJ X o go) (he:EJ X e ge) (hbase:attributeBase o "append" X.env (eval o X.env)=eval o X.env:=by rfl)
    (hfew:((backTo cpos (starEach [e] X.env)).all (fun x=>!x.1) && (backToKw cpos (keywordEach [] X.env)).all (fun x=>x.1.isSome) && decide ([e].length+([]:List Keyword).length+(if ([]:List Keyword).isEmpty then 0 else 1) < 30))=true:=by rfl)
    (hline:(apos.endLine == cpos.line)=true:=by rfl) (hs:starEach [e] X.env=(false,eval e X.env)::starEach [] X.env:=by rfl) (hpl:(backTo cpos (starEach [] X.env)).any (·.1)=false:=by rfl):
    EJ X (.Call (.Attribute o "append" apos) [e] [] cpos) (dApp go ge):=
  ⟨PE.imp (pe_bm PySem.F.plainAttrs_list PySem.F.slot_list_append PySem.F.type_list_append mt_append ho.h (pa_cons he.h pa_nil hs) hbase hfew hline hs hpl) fun σ H Q ⟨L,S,k,hL,hS,h,n⟩=>up.go hL hS h fun d S1 v H1 h1 k1 hL1 hS1 i1=>by
    cases d with
    | ref a=>
      have e1:=isRef.mp i1
      subst e1
      obtain⟨⟨ds1,z1⟩,h1⟩:=h1
      obtain⟨xs1,hl1,_⟩:=hS1.lst z1
      refine⟨.inl ⟨rfl,xs1,SqL.of hl1⟩,up.go hL1 hS1 h1 fun d2 S2 v2 H2 h2 k2 hL2 hS2 i2=>?_⟩
      obtain⟨ds,z,hz,w⟩:=h2
      obtain⟨xs,hl,j⟩:=hS2.lst z
      have k3:Kp H2 (upd H2 a (.lst (xs++[v2]))):=Kp.mut hl (fun z=>z)
      exact⟨a,xs,v2,rfl,rfl,hl,by rw [<- j.length]; exact hz,n _ _ _ _ w (k1.trans (k2.trans k3)) (hS2.setL hl (j.append (IsDs.cons i2 IsDs.nil))) (isNon.mpr rfl)⟩
    | _=>exact(show False from h1).elim⟩
def dExt (go ge:DE):DE:=fun L S k=>go L S fun d S1=>match d with
  | .ref a=>(∃ ds,S1 a=some (.lst ds))/\ge L S1 fun e S2=>match e with
    | .ref b=>∃ ds es,S2 a=some (.lst ds)/\S2 b=some (.lst es)/\ds.length+es.length<=sizeLine/\k .non (put S2 a (.lst (ds++es)))
    | _=>False
  | _=>False
theorem d_extj (ho:EJ X o go) (he:EJ X e ge) (hbase:attributeBase o "extend" X.env (eval o X.env)=eval o X.env:=by rfl)
    (hfew:((backTo cpos (starEach [e] X.env)).all (fun x=>!x.1) && (backToKw cpos (keywordEach [] X.env)).all (fun x=>x.1.isSome) && decide ([e].length+([]:List Keyword).length+(if ([]:List Keyword).isEmpty then 0 else 1) < 30))=true:=by rfl)
    (hline:(apos.endLine == cpos.line)=true:=by rfl) (hs:starEach [e] X.env=(false,eval e X.env)::starEach [] X.env:=by rfl) (hpl:(backTo cpos (starEach [] X.env)).any (·.1)=false:=by rfl):
    EJ X (.Call (.Attribute o "extend" apos) [e] [] cpos) (dExt go ge):=
  ⟨PE.imp (pe_bm PySem.F.plainAttrs_list PySem.F.slot_list_extend PySem.F.type_list_extend mt_extend ho.h (pa_cons he.h pa_nil hs) hbase hfew hline hs hpl) fun σ H Q ⟨L,S,k,hL,hS,h,n⟩=>up.go hL hS h fun d S1 v H1 h1 k1 hL1 hS1 i1=>by
    cases d with
    | ref a=>
      have e1:=isRef.mp i1
      subst e1
      obtain⟨⟨ds1,z1⟩,h1⟩:=h1
      obtain⟨xs1,hl1,_⟩:=hS1.lst z1
      refine⟨.inl ⟨rfl,xs1,SqL.of hl1⟩,up.go hL1 hS1 h1 fun d2 S2 v2 H2 h2 k2 hL2 hS2 i2=>?_⟩
      cases d2 with
      | ref b=>
        have e2:=isRef.mp i2
        subst e2
        obtain⟨ds,es,z,y,hz,w⟩:=h2
        obtain⟨xs,hl,j⟩:=hS2.lst z
        obtain⟨ys,hm,i⟩:=hS2.lst y
        have k3:Kp H2 (upd H2 a (.lst (xs++ys))):=Kp.mut hl (fun z=>z)
        exact⟨a,b,xs,ys,rfl,rfl,hl,hm,by rw [<- j.length,<- i.length]; exact hz,n _ _ _ _ w (k1.trans (k2.trans k3)) (hS2.setL hl (j.append i)) (isNon.mpr rfl)⟩
      | _=>exact(show False from h2).elim
    | _=>exact(show False from h1).elim⟩
end
theorem for_coreG {K:Fg} {ok:DH->Prop} {gg:DG} {b:DS} {M:DEnds} {ds:List D} {L:Lo} {S:DH} {N:Ends} {σ:L2.St} {H:Hp} {J:It} (hL:Lc K H L σ) (hS:Hs K H S) (h:dLoop ok gg b M ds L S) (r:Rch K H M N)
    (hgo:∀ i d S1 H1,ds[i]?=some d->Kp H H1->Hs K H1 S1->ok S1->J.go i H1/\∀ x H',J.yld i H1 x H'->Kp H1 H'/\Hs K H' S1/\IsD K H' d x)
    (hst:∀ S1 H1,Kp H H1->Hs K H1 S1->ok S1->J.stop ds.length H1):
    ∃ W:Nat->Nat->L2.St->Hp->Prop,(∃ m,W 0 m σ H)/\∀ i m σ H,W i m σ H->
      (J.stop i H/\N.nx σ H)\/(J.go i H/\∃ N':L2.St->Hp->Prop,(∀ σ' H',N' σ' H'->∃ m',m' < m/\W (i+1) m' σ' H')/\∀ x H',J.yld i H x H'->upG K gg x σ H' fun σ2 H2=>upS K b {N with nx:=N',ct:=N',bk:=N.nx} σ2 H2):=by
  refine⟨fun i m σ1 H1=>m=ds.length - i/\i<=ds.length/\∃ L1 S1,Lc K H1 L1 σ1/\Hs K H1 S1/\Kp H H1/\dLoop ok gg b M (ds.drop i) L1 S1,⟨ds.length,by simp,Nat.zero_le _,L,S,hL,hS,Kp.refl H,h⟩,?_⟩
  rintro i m σ1 H1 ⟨rfl,hi,L1,S1,hL1,hS1,k1,w1⟩
  by_cases hlt:i < ds.length
  · have e:ds.drop i=ds[i]::ds.drop (i+1):=List.drop_eq_getElem_cons hlt
    rw [e] at w1
    obtain⟨o1,w1⟩:=w1
    obtain⟨g1,y1⟩:=hgo i ds[i] S1 H1 (by simp [hlt]) k1 hS1 o1
    refine .inr ⟨g1,fun σ' H'=>i+1<=ds.length/\∃ L' S',Lc K H' L' σ'/\Hs K H' S'/\Kp H H'/\dLoop ok gg b M (ds.drop (i+1)) L' S',fun σ' H' ⟨q1,q2⟩=>⟨ds.length - (i+1),by omega,rfl,q1,q2⟩,fun x H' y=>?_⟩
    obtain⟨k0,hS0,ix⟩:=y1 x H' y
    have k10:=k1.trans k0
    refine⟨ds[i],L1,S1,_,ix,hL1.kp k0,hS0,w1,fun L2 S2 σ2 H2 q k2 hL2 hS2=>⟨L2,S2,_,hL2,hS2,q,?_⟩⟩
    have r2:=r.kp (k10.trans k2)
    exact⟨fun L3 S3 σ3 H3 q3 k3 hL3 hS3=>⟨hlt,L3,S3,hL3,hS3,(k10.trans k2).trans k3,q3⟩,r2.rt,r2.nx,fun L3 S3 σ3 H3 q3 k3 hL3 hS3=>⟨hlt,L3,S3,hL3,hS3,(k10.trans k2).trans k3,q3⟩⟩
  · have e:i=ds.length:=by omega
    subst e
    rw [List.drop_length] at w1
    obtain⟨o1,w1⟩:=w1
    exact .inl ⟨hst S1 H1 k1 hS1 o1,r.nx L1 S1 σ1 H1 w1 k1 hL1 hS1⟩
theorem zip_go {K:Fg} {H1:Hp} {q1 q2:List D×Option Addr} {a1 a2:Addr} {b1 b2:Bool} (y1:∀ S2 H2,Kp H1 H2->Hs K H2 S2->okFor q1 S2->∃ xs,SqB b1 K H2 a1 xs/\IsDs K H2 q1.1 xs) (y2:∀ S2 H2,Kp H1 H2->Hs K H2 S2->okFor q2 S2->∃ xs,SqB b2 K H2 a2 xs/\IsDs K H2 q2.1 xs):
    (∀ i d S2 H2,(zipD q1.1 q2.1)[i]?=some d->Kp H1 H2->Hs K H2 S2->(okFor q1 S2/\okFor q2 S2)->(Itz K b1 b2 a1 a2).go i H2/\∀ x H',(Itz K b1 b2 a1 a2).yld i H2 x H'->Kp H2 H'/\Hs K H' S2/\IsD K H' d x)/\
    ∀ S2 H2,Kp H1 H2->Hs K H2 S2->(okFor q1 S2/\okFor q2 S2)->(Itz K b1 b2 a1 a2).stop (zipD q1.1 q2.1).length H2:=by
  refine⟨fun i c S2 H2 e k2 hS2 o2=>?_,fun S2 H2 k2 hS2 o2=>?_⟩
  · obtain⟨xs,w1,u1⟩:=y1 S2 H2 k2 hS2 o2.1
    obtain⟨ys,w2,u2⟩:=y2 S2 H2 k2 hS2 o2.2
    obtain⟨c1,c2,f1,f2,rfl⟩:∃ c1 c2,q1.1[i]?=some c1/\q2.1[i]?=some c2/\D.tup [c1,c2]=c:=by
      unfold zipD at e
      rw [List.getElem?_zipWith] at e
      cases z1:q1.1[i]? with
      | none=>rw [z1] at e; cases e
      | some c1=>
        cases z2:q2.1[i]? with
        | none=>rw [z1,z2] at e; cases e
        | some c2=>rw [z1,z2] at e; exact⟨c1,c2,rfl,rfl,Option.some.inj e⟩
    obtain⟨v1,g1,r1⟩:=u1.get f1
    obtain⟨v2,g2,r2⟩:=u2.get f2
    refine⟨⟨xs,ys,v1,v2,w1,w2,g1,g2⟩,?_⟩
    rintro x H' ⟨T,x',y',rfl,hT,rfl,al⟩
    obtain⟨l1,l2⟩:=al xs ys w1 w2
    rw [g1] at l1
    rw [g2] at l2
    cases l1
    cases l2
    have kn:Kp H2 (upd H2 T (.tup [v1,v2])):=Kp.new hT
    exact⟨kn,hS2.new hT,isTup.mpr ⟨T,[v1,v2],rfl,SqT.of upd_same,IsDs.cons (r1.kp kn) (IsDs.cons (r2.kp kn) IsDs.nil)⟩⟩
  · obtain⟨xs,w1,u1⟩:=y1 S2 H2 k2 hS2 o2.1
    obtain⟨ys,w2,u2⟩:=y2 S2 H2 k2 hS2 o2.2
    refine⟨xs,ys,w1,w2,?_⟩
    rw [<- u1.length,<- u2.length]
    unfold zipD
    rw [List.length_zipWith]
    omega
def dForZ (ta:DA) (g:DG) (b:DS):DS:=fun M L S=>ta L S fun ds S1=>match ds with
  | [d1,d2]=>∃ q1 q2,dItems S1 d1=some q1/\dItems S1 d2=some q2/\dLoop (fun S=>okFor q1 S/\okFor q2 S) g b M (zipD q1.1 q2.1) L S1
  | _=>False
section
variable {X:Cx} {a b:Expr} {es:List Expr} {kt:Nat} {tp p pos pos':Pos} {gg:DG} {ta:DA} {g:DS} {body:List Stmt} {tg:Expr}
theorem dst_forZj (hp:PassesOwn (model X.prog X.w) X.A X.env X.xe) (hc:X.calm=true) (hgl:Gl X "zip") (hm:X.mg "zip"=none) (ha:AJ X [a,b] ta) (hg:GJ X (.Tuple es kt tp) gg) (hb:SsJ X body g)
    (hs1:starEach [a,b] X.env=[(false,eval a X.env),(false,eval b X.env)]:=by rfl) (hs2:starEach [b] X.env=[(false,eval b X.env)]:=by rfl) (hs:∀ x,foldedSetIterable (.Call (.Name "zip" p) [a,b] [] pos') X.env x=pure x:=by intro _; rfl):
    SJ X (.For (.Tuple es kt tp) (.Call (.Name "zip" p) [a,b] [] pos') body [] pos) (dForZ ta gg g):=
  ⟨PS.imp (ps_for hp hc (pi_zip hgl hm ha.h hs1 hs2) hg.h hb.h hs) fun N σ H ⟨L,S,M,hL,hS,h,r⟩=>upA.go hL hS h fun ds S1 vs H1 h1 k1 hL1 hS1 i1=>by
    split at h1
    · rename_i d1 d2
      obtain⟨v1,v2,rfl,j1,j2⟩:=isDs2 i1
      obtain⟨q1,q2,e1,e2,h1⟩:=h1
      obtain⟨a1,b1,rfl,x1,y1⟩:=seq_kd hS1 j1 e1
      obtain⟨a2,b2,rfl,x2,y2⟩:=seq_kd hS1 j2 e2
      obtain⟨z1,z2⟩:=zip_go y1 y2
      exact⟨a1,a2,b1,b2,rfl,x1,x2,for_coreG hL1 hS1 h1 (r.kp k1) z1 z2⟩
    · exact h1.elim⟩
def rngD (i j:Int):List D:=(List.range (j - i).toNat).map fun(n:Nat)=>D.int (i+n)
theorem rng_go {K:Fg} {H:Hp} {i j:Int}:(∀ n d (S1:DH) H1,(rngD i j)[n]?=some d->Kp H H1->Hs K H1 S1->(fun _=>True:DH->Prop) S1->(Itr i (j - i).toNat).go n H1/\∀ x H',(Itr i (j - i).toNat).yld n H1 x H'->H'=H1/\IsD K H1 d x)/\
    ∀ (S1:DH) H1,Kp H H1->Hs K H1 S1->(fun _=>True:DH->Prop) S1->(Itr i (j - i).toNat).stop (rngD i j).length H1:=by
  refine⟨fun n d S1 H1 e _ _ _=>?_,fun _ _ _ _ _=>?_⟩
  · unfold rngD at e
    rw [List.getElem?_map] at e
    cases q:(List.range (j - i).toNat)[n]? with
    | none=>rw [q] at e; cases e
    | some z=>
      rw [q] at e
      cases e
      obtain⟨hz1,hz2⟩:=List.getElem?_eq_some_iff.mp q
      rw [List.length_range] at hz1
      rw [List.getElem_range] at hz2
      subst hz2
      exact⟨hz1,fun x H' y=>⟨y.1,by rw [y.2]; exact isInt.mpr rfl⟩⟩
  · show(j - i).toNat<=(rngD i j).length
    unfold rngD
    rw [List.length_map,List.length_range]
    exact Nat.le_refl _
def dForR2 (ta:DA) (g:DG) (b:DS):DS:=fun M L S=>ta L S fun ds S1=>match ds with
  | [.int i,.int j]=>(-(2 ^ 62)<=i/\i < 2 ^ 62/\-(2 ^ 62)<=j/\j < 2 ^ 62)/\dLoop (fun _=>True) g b M (rngD i j) L S1
  | _=>False
theorem dst_forR2j (hp:PassesOwn (model X.prog X.w) X.A X.env X.xe) (hc:X.calm=true) (hgl:Gl X "range") (hm:X.mg "range"=none) (ha:AJ X [a,b] ta) (hg:GJ X tg gg) (hb:SsJ X body g)
    (hs1:starEach [a,b] X.env=[(false,eval a X.env),(false,eval b X.env)]:=by rfl) (hs2:starEach [b] X.env=[(false,eval b X.env)]:=by rfl) (hs:∀ x,foldedSetIterable (.Call (.Name "range" p) [a,b] [] pos') X.env x=pure x:=by intro _; rfl):
    SJ X (.For tg (.Call (.Name "range" p) [a,b] [] pos') body [] pos) (dForR2 ta gg g):=
  ⟨PS.imp (ps_for hp hc (pi_range2 hgl hm ha.h hs1 hs2) hg.h hb.h hs) fun N σ H ⟨L,S,M,hL,hS,h,r⟩=>upA.go hL hS h fun ds S1 vs H1 h1 k1 hL1 hS1 i1=>by
    split at h1
    · obtain⟨v1,v2,rfl,j1,j2⟩:=isDs2 i1
      have e1:=isInt.mp j1
      have e2:=isInt.mp j2
      subst e1
      subst e2
      obtain⟨hh,h1⟩:=h1
      obtain⟨z1,z2⟩:=rng_go (K:=X.K) (H:=H1)
      exact⟨_,_,rfl,hh,for_core hL1 hS1 h1 (r.kp k1) z1 z2⟩
    · exact h1.elim⟩
end
section
variable {X:Cx} {elt tg a b:Expr} {scope:Scope} {cl:List (Str×Addr)} {N:List Str} {cap:List (Option Nat)} {pos p pos':Pos} {gg:DG} {ge:DE} {ta:DA}
def dCompR2 (cap:List (Option Nat)) (ta:DA) (g:DG) (bd:DB):DE:=fun L S k=>ta L S fun ds S1=>match ds with
  | [.int i,.int j]=>(-(2 ^ 62)<=i/\i < 2 ^ 62/\-(2 ^ 62)<=j/\j < 2 ^ 62)/\∀ p,S1 p=none->dCLoop (fun _=>True) p g bd k (rngD i j) [] (capL cap L) (put S1 p (.lst []))
  | _=>False
theorem d_compR2j (hc:X.calm=true) (Sc:CompSc X scope cl N cap) (hgl:Gl X "range") (hm:X.mg "range"=none) (ha:AJ X [a,b] ta) (hg:∀ s0 H0 ex C,GJ (cxC X scope cl N s0 H0 ex C) tg gg) (he:∀ s0 H0 ex C,EJ (cxC X scope cl N s0 H0 ex C) elt ge)
    (hs1:starEach [a,b] X.env=[(false,eval a X.env),(false,eval b X.env)]:=by rfl) (hs2:starEach [b] X.env=[(false,eval b X.env)]:=by rfl) (hs:∀ x,foldedSetIterable (.Call (.Name "range" p) [a,b] [] pos') X.env x=pure x:=by intro _; rfl):
    EJ X (.ListComp elt [⟨tg,.Call (.Name "range" p) [a,b] [] pos',[],0⟩] scope pos) (dCompR2 cap ta gg (bdAll ge)):=
  ⟨PE.imp (pe_comp hc Sc (pi_range2 hgl hm ha.h hs1 hs2) (fun s0 H0 ex C=>(hg s0 H0 ex C).h) (fun s0 H0 ex C=>(he s0 H0 ex C).h) hs) fun σ H Q ⟨L,S,k,hL,hS,h,n⟩=>upA.go hL hS h fun ds S1 vs H1 h1 k1 hL1 hS1 i1=>by
    split at h1
    · obtain⟨v1,v2,rfl,j1,j2⟩:=isDs2 i1
      have e1:=isInt.mp j1
      have e2:=isInt.mp j2
      subst e1
      subst e2
      obtain⟨hh,h1⟩:=h1
      obtain⟨z1,z2⟩:=rng_go (K:=X.K) (H:=H1)
      exact⟨_,_,rfl,hh,fun pa hD=>comp_core (hL1.cap cap) hS1 hD (h1 pa (hS1.free hD)) (fun d S' v H' q k3=>n d S' v H' q (k1.trans k3)) z1 z2⟩
    · exact h1.elim⟩
end
def flatD:D->Bool
  | .int _=>true | .bl _=>true | .str _=>true | .non=>true | _=>false
def vOf:D->V
  | .int i=>.int i | .bl b=>.bl b | .str x=>.str x | _=>.non
theorem isFlat {K:Fg} {H:Hp} {d:D} {v:V} (f:flatD d=true) (i:IsD K H d v):v=vOf d/\flatV v=true:=by
  cases d with
  | int n=>rw [isInt.mp i]; exact⟨rfl,rfl⟩
  | bl n=>rw [isBl.mp i]; exact⟨rfl,rfl⟩
  | str n=>rw [isStr.mp i]; exact⟨rfl,rfl⟩
  | non=>rw [isNon.mp i]; exact⟨rfl,rfl⟩
  | _=>cases f
theorem isFlats {K:Fg} {H:Hp}:∀ {ds:List D} {vs:List V},ds.all flatD=true->IsDs K H ds vs->vs=ds.map vOf/\vs.all flatV=true
  | [],_,_,i=>by rw [isNil.mp i]; exact⟨rfl,rfl⟩
  | d::ds,_,f,i=>by
    obtain⟨v,r,rfl,h1,h2⟩:=isCons.mp i
    rw [List.all_cons,Bool.and_eq_true] at f
    obtain⟨a1,a2⟩:=isFlat f.1 h1
    obtain⟨b1,b2⟩:=isFlats f.2 h2
    exact⟨by rw [a1,b1]; rfl,by rw [List.all_cons,a2,b2]; rfl⟩
def dInE (neg:Bool):D2:=fun d e S k=>∃ q,dItems S e=some q/\flatD d=true/\q.1.all flatD=true/\k (.bl (if neg then !inV (vOf d) (q.1.map vOf) else inV (vOf d) (q.1.map vOf))) S
theorem in_go {K:Fg} {neg:Bool}:∀ x y H Q,upR K (dInE neg) x y H Q->rIn K neg x y H Q:=fun x y H Q ⟨d,e,S,k,i1,i2,hS,h,n⟩=>by
  obtain⟨q,e1,f1,f2,w⟩:=h
  obtain⟨a,b,rfl,_,y⟩:=seq_kd hS i2 e1
  obtain⟨xs,w1,w2⟩:=y S H (Kp.refl H) hS (ok_self e1)
  obtain⟨a1,a2⟩:=isFlat f1 i1
  obtain⟨b1,b2⟩:=isFlats f2 w2
  refine⟨a,xs,rfl,(by cases b with | true=>exact .inl w1 | false=>exact .inr w1),a2,b2,n _ _ _ _ w (Kp.refl H) hS (isBl.mpr ?_)⟩
  rw [a1,b1]
theorem o_inE {X:Cx}:OpR X (compareOp .In) (upR X.K (dInE false)):=OpR.imp op_in_seq in_go
theorem o_notInE {X:Cx}:OpR X (compareOp .NotIn) (upR X.K (dInE true)):=OpR.imp op_notIn_seq in_go
theorem IsDs.erase {K:Fg} {H:Hp}:∀ {ds:List D} {vs:List V} (i:Nat),IsDs K H ds vs->IsDs K H (ds.eraseIdx i) (vs.eraseIdx i)
  | [],_,_,h=>by rw [isNil.mp h]; exact IsDs.nil
  | d::ds,_,0,h=>by
    obtain⟨v,r,rfl,_,h2⟩:=isCons.mp h
    exact h2
  | d::ds,_,i+1,h=>by
    obtain⟨v,r,rfl,h1,h2⟩:=isCons.mp h
    exact IsDs.cons h1 (IsDs.erase i h2)
section
variable {X:Cx} {o e:Expr} {go ge:DE} {apos cpos pos:Pos}
def dPop1 (go ge:DE):DE:=fun L S k=>go L S fun d S1=>match d with
  | .ref a=>(∃ ds,S1 a=some (.lst ds))/\ge L S1 fun e S2=>match e with
    | .int i=>∃ ds n c,S2 a=some (.lst ds)/\-(2 ^ 63)<=i/\i < 2 ^ 63/\seqIndex? i ds.length=some n/\ds[n]?=some c/\k c (put S2 a (.lst (ds.eraseIdx n)))
    | _=>False
  | _=>False
theorem d_pop1j (ho:EJ X o go) (he:EJ X e ge) (hbase:attributeBase o "pop" X.env (eval o X.env)=eval o X.env:=by rfl)
    (hfew:((backTo cpos (starEach [e] X.env)).all (fun x=>!x.1) && (backToKw cpos (keywordEach [] X.env)).all (fun x=>x.1.isSome) && decide ([e].length+([]:List Keyword).length+(if ([]:List Keyword).isEmpty then 0 else 1) < 30))=true:=by rfl)
    (hline:(apos.endLine == cpos.line)=true:=by rfl) (hs:starEach [e] X.env=(false,eval e X.env)::starEach [] X.env:=by rfl) (hpl:(backTo cpos (starEach [] X.env)).any (·.1)=false:=by rfl):
    EJ X (.Call (.Attribute o "pop" apos) [e] [] cpos) (dPop1 go ge):=
  ⟨PE.imp (pe_bm PySem.F.plainAttrs_list PySem.F.slot_list_pop PySem.F.type_list_pop mt_popAt ho.h (pa_cons he.h pa_nil hs) hbase hfew hline hs hpl) fun σ H Q ⟨L,S,k,hL,hS,h,n⟩=>up.go hL hS h fun d S1 v H1 h1 k1 hL1 hS1 i1=>by
    cases d with
    | ref a=>
      have e1:=isRef.mp i1
      subst e1
      obtain⟨⟨ds1,z1⟩,h1⟩:=h1
      obtain⟨xs1,hl1,_⟩:=hS1.lst z1
      refine⟨.inl ⟨rfl,xs1,SqL.of hl1⟩,up.go hL1 hS1 h1 fun d2 S2 v2 H2 h2 k2 hL2 hS2 i2=>?_⟩
      cases d2 with
      | int i=>
        have e2:=isInt.mp i2
        subst e2
        obtain⟨ds,m,c,z,b1,b2,hm,hc,w⟩:=h2
        obtain⟨xs,hl,j⟩:=hS2.lst z
        obtain⟨y,hy,iy⟩:=j.get hc
        have k3:Kp H2 (upd H2 a (.lst (xs.eraseIdx m))):=Kp.mut hl (fun z=>z)
        exact⟨a,xs,i,m,y,rfl,rfl,hl,b1,b2,by rw [<- j.length]; exact hm,hy,n _ _ _ _ w (k1.trans (k2.trans k3)) (hS2.setL hl (j.erase m)) (iy.kp k3)⟩
      | _=>exact(show False from h2).elim
    | _=>exact(show False from h1).elim⟩
end
section
variable {X:Cx} {pos:Pos}
def dCutE (g:DE) (tl th:DOp):DE:=fun L S k=>g L S fun x S1=>tl L S1 fun lo S2=>th L S2 fun hi S3=>match x with
  | .tup xs=>¬ (HT.sIx xs.length 0 lo=0/\HT.sIx xs.length xs.length hi=xs.length)/\k (.tup (cutD xs lo hi)) S3
  | .rl xs=>∀ p,S3 p=none->k (.ref p) (put S3 p (.lst (cutD xs lo hi)))
  | .ref a=>∃ xs,S3 a=some (.lst xs)/\∀ p,S3 p=none->k (.ref p) (put S3 p (.lst (cutD xs lo hi)))
  | _=>False
theorem d_cutEj {e:Expr} {g:DE} {lo hi:Option Expr} {tl th:DOp} {p2 pos:Pos} (he:EJ X e g) (hl:OJ X lo tl) (hu:OJ X hi th):EJ X (.Subscript e (.Slice lo hi none p2) pos) (dCutE g tl th):=
  ⟨PE.imp (pe_slice (SlR.or sl_tup sl_list) he.h hl.h hu.h) fun σ H Q ⟨L,S,k,hL,hS,h,n⟩=>up.go hL hS h fun d S1 v H1 h1 k1 hL1 hS1 i1=>by
    refine⟨L,S1,_,hL1,hS1,h1,fun lo' S2 H2 h2 k2 hS2=>⟨L,S2,_,hL1.kp k2,hS2,h2,fun hi' S3 H3 h3 k3 hS3=>?_⟩⟩
    cases d with
    | tup xs=>
      obtain⟨a,vs,rfl,t,j⟩:=isTup.mp i1
      have j3:=j.kp (k2.trans k3)
      refine .inl ⟨a,vs,rfl,(k2.trans k3).tup t,by rw [<- j.length]; exact h3.1,fun p hp=>?_⟩
      have k4:Kp H3 (upd H3 p (.tup (cutV vs lo' hi'))):=Kp.new hp
      refine n _ S3 _ _ h3.2 (k1.trans (k2.trans (k3.trans k4))) (hS3.new hp) (isTup.mpr ⟨p,_,rfl,SqT.of upd_same,?_⟩)
      unfold cutD cutV
      rw [j.length]
      exact((j3.drop _).take _).kp k4
    | rl xs=>
      obtain⟨a,vs,rfl,t,j⟩:=isRl.mp i1
      have j3:=j.kp (k2.trans k3)
      refine .inr ⟨a,vs,rfl,((k2.trans k3).fro t).sq,fun p hp=>?_⟩
      refine n _ _ _ _ (h3 p (hS3.free hp)) (k1.trans (k2.trans (k3.trans (Kp.new hp)))) (hS3.newL hp ?_) (isRef.mpr rfl)
      unfold cutD cutV
      rw [j.length]
      exact(j3.drop _).take _
    | ref a=>
      have e1:=isRef.mp i1
      subst e1
      obtain⟨xs,z,h3⟩:=h3
      obtain⟨vs,hl,j⟩:=hS3.lst z
      refine .inr ⟨a,vs,rfl,SqL.of hl,fun p hp=>?_⟩
      refine n _ _ _ _ (h3 p (hS3.free hp)) (k1.trans (k2.trans (k3.trans (Kp.new hp)))) (hS3.newL hp ?_) (isRef.mpr rfl)
      unfold cutD cutV
      rw [j.length]
      exact(j.drop _).take _
    | _=>exact(show False from h3).elim⟩
theorem d_compEIfj {elt tg iter c:Expr} {scope:Scope} {cl:List (Str×Addr)} {N:List Str} {cap:List (Option Nat)} {gg:DG} {ge gi:DE} {gc:DT} (hc:X.calm=true) (Sc:CompSc X scope cl N cap) (hi:EJ X iter gi) (hg:∀ s0 H0 ex C,GJ (cxC X scope cl N s0 H0 ex C) tg gg) (hcnd:∀ s0 H0 ex C,TJ (cxC X scope cl N s0 H0 ex C) c gc) (he:∀ s0 H0 ex C,EJ (cxC X scope cl N s0 H0 ex C) elt ge)
    (hs:∀ x,foldedSetIterable iter X.env x=pure x:=by intro _; rfl):EJ X (.ListComp elt [⟨tg,iter,[c],0⟩] scope pos) (dCompE cap gi gg (bdIf gc ge)):=
  ⟨PE.imp (pe_compIf hc Sc (pi_seq hi.h) (fun s0 H0 ex C=>(hg s0 H0 ex C).h) (fun s0 H0 ex C=>(hcnd s0 H0 ex C).h) (fun s0 H0 ex C=>(he s0 H0 ex C).h) hs) fun σ H Q ⟨L,S,k,hL,hS,h,n⟩=>up.go hL hS h fun d S1 v H1 h1 k1 hL1 hS1 i1=>by
    obtain⟨p,hp,h1⟩:=h1
    obtain⟨a,e,q⟩:=seq_go hS1 i1 hp
    refine⟨a,e,?_⟩
    have n':∀ d S' v H',k d S'->Kp H1 H'->Hs X.K H' S'->IsD X.K H' d v->Q v H':=fun d S' v H' q k3=>n d S' v H' q (k1.trans k3)
    rcases q with ⟨q1,q2,q3⟩ | ⟨q1,q2,q3⟩
    · exact .inl ⟨q1,fun D hD=>comp_coreIf (hL1.cap cap) hS1 hD (h1 D (hS1.free hD)) n' q2 q3⟩
    · exact .inr ⟨q1,fun D hD=>comp_coreIf (hL1.cap cap) hS1 hD (h1 D (hS1.free hD)) n' q2 q3⟩⟩
theorem loop_ix {ok:DH->Prop} {g:DG} {b:DS} {M:DEnds} (Iv:List D->Lo->DH->Prop) (hok:∀ r L S,Iv r L S->ok S)
    (hs:∀ d r L S N,Iv (d::r) L S->(∀ L' S',Iv r L' S'->N L' S')->g d L S fun L1 S1=>b {M with nx:=N,ct:=N,bk:=M.nx} L1 S1) (hd:∀ L S,Iv [] L S->M.nx L S):∀ r L S,Iv r L S->dLoop ok g b M r L S
  | [],L,S,i=>⟨hok [] L S i,hd L S i⟩
  | d::r,L,S,i=>⟨hok _ L S i,hs d r L S _ i fun L' S' i'=>loop_ix Iv hok hs hd r L' S' i'⟩
end
end DL
namespace L2
open PySem PySem.Spec PyProof.Rows
section
variable {X:Cx} {elt tg iter c:Expr} {scope:Scope} {cl:List (Str×Addr)} {N:List Str} {cap:List (Option Nat)} {pos:Pos} {wi:TI} {g:TG} {te:TE} {tc:TT}
theorem comp_store (Sc:CompSc X scope cl N cap) {pins:List (Addr×Obj)} {σ σ3:St} {H2 H3:Hp} {s2 s4:Shared} {fp:List Addr} {h1':Heap} {C:Addr} (I2:Inv X pins σ H2 s2) (f2:∀ b∈fp,FpOk X pins H2 b) {H1:Hp}
    (un3:Un (frs X.stack) fp H2 H1 s2.heap h1') (I4:Inv (cxC X scope cl N {s2 with heap:=h1'} H1 fp C) [] σ3 H3 s4) (hC:s2.heap.objs.size<=C) {x:Str} {pos':Pos} {i:Nat} {D:Ends} {a:Addr} (pg:PG X (.Name x pos') (gName i)) (qn:D.nx (σ.set i (some (.ref a))) H3):
    wpAny (model X.prog X.w) X.A (assign (.Name x pos') X.env (.ref a)) (fun _ s''=>∃ m,s''.heap.Ns C m/\∀ h',Heap.SameBut C s''.heap h'->∃ σ' H',Inv X pins σ' H' {s'' with heap:=h'}/\D.nx σ' H') X.xe s4:=by
  have J:Inv X pins σ H3 s4:=comp_out Sc I2 f2 un3 I4 (h':=s4.heap) hC ⟨rfl,fun _ _=>rfl⟩
  obtain⟨m,⟨o,es,ep,ho,hd,hr⟩,_⟩:=I4.loc
  have ltC:∀ b u,s2.heap.get? b=some u->b≠C:=fun b u e=>Nat.ne_of_lt (Nat.lt_of_lt_of_le (Heap.lt_size e) hC)
  have hL:C≠X.env.locals:=fun z=>by
    have:=I2.lt
    rw [<- z] at this
    exact absurd (Nat.lt_of_lt_of_le this hC) (Nat.lt_irrefl _)
  have hn:H3 C=none:=I4.free
  have J':Inv X ((C,o)::pins) σ H3 s4:=⟨J.ok,J.os,J.bare,J.base,J.loc,J.cell,J.free,J.freeC,fun p hp=>by
    rcases List.mem_append.mp hp with hp | hp
    · exact J.pin p (List.mem_append_left _ hp)
    · rcases List.mem_cons.mp hp with rfl | hp
      · exact⟨ho,hn,hL,I2.nofs hC,fun v z=>by rw [hd] at z; cases z⟩
      · exact J.pin p (List.mem_append_right _ hp),J.hok,J.len⟩
  refine thn (pg _ s4 σ H3 (.ref a) (.ref a) (fun σ' H'=>σ'=σ.set i (some (.ref a))/\H'=H3) J' rfl ⟨rfl,rfl⟩) fun _ s5 h5=>?_
  obtain⟨_,_,I5,rfl,rfl⟩:=h5
  have h6:=I5.pin (C,o) (List.mem_append_right _ List.mem_cons_self)
  refine⟨m,⟨o,es,ep,h6.1,hd,hr⟩,fun h' sb=>⟨_,_,?_,qn⟩⟩
  have I6:Inv X pins (σ.set i (some (.ref a))) _ s5:=⟨I5.ok,I5.os,I5.bare,I5.base,I5.loc,I5.cell,I5.free,I5.freeC,fun p hp=>I5.pin p (by
    rcases List.mem_append.mp hp with hp | hp
    · exact List.mem_append_left _ hp
    · exact List.mem_append_right _ (List.mem_cons_of_mem _ hp)),I5.hok,I5.len⟩
  exact I6.turned (t':=s5.toks) (it:=C) (fun b u hb e=>(sb.2 b hb).trans e) hn hL (.inr (Nat.le_trans I2.sz hC)) (fun y c e=>by
    obtain⟨v,u,q,_⟩:=I2.cell y c e
    exact ltC c u q) (fun p hp=>ltC p.1 p.2 (I2.pin p hp).1)
theorem ps_compS {x:Str} {i:Nat} {pos' spos:Pos} (hN:X.N.Nodup) (hi':X.N[i]?=some x) (hx':X.env.scope.names.lookup x=some .local) (hsw:swapsWith (.ListComp elt [⟨tg,iter,[],0⟩] scope pos) (some (.Name x pos')) spos.line X.env=pure true) (hc:X.calm=true) (Sc:CompSc X scope cl N cap) (hi:PI X tg iter wi) (hg:∀ s0 H0 ex C,PG (cxC X scope cl N s0 H0 ex C) tg g) (he:∀ s0 H0 ex C,PE (cxC X scope cl N s0 H0 ex C) elt te)
    (hs:∀ x,foldedSetIterable iter X.env x=pure x:=by intro _; rfl):PS X (.Assign [.Name x pos'] (.ListComp elt [⟨tg,iter,[],0⟩] scope pos) spos) (tAsg (tComp cap wi g te) (gName i)):=by
  intro pins s σ H D I h
  have pg:PG X (.Name x pos') (gName i):=pg_name hN hi' (.inl hx') (.inr hx')
  rw [exec_Assign_Name_used _ _ _ _ hsw]
  refine wpAny_bind (wpAny_standAt (wpAny_bind ?_))
  show wpAny _ _ (evalThenUse _ X.env _) _ _ _
  unfold evalThenUse
  have Q:=fun v H1=>D.nx (σ.set i (some v)) H1
  refine wpAny_bind (wpAny_mono (Q:=fun _ s'=>∃ σ' H',Inv X pins σ' H' s'/\D.nx σ' H') ?_ (fun v s' q=>wpAny_pure (wpAny_pure q)) fun _ _ q=>q)
  have hcell:∀ y∈scope.names,y.2≠.cell:=fun y hy=>by simpa using List.all_eq_true.mp Sc.nocell y hy
  have hnames:∀ y∈scope.names,y.2=.local->scope.names.lookup y.1=some .local:=fun y hy e=>by
    have:=List.all_eq_true.mp Sc.names y hy
    rw [e] at this
    simpa using this
  refine wpAny_comprehension_free (use:=some (assign (.Name x pos') X.env)) rfl hs Sc.clos Sc.kind hnames (thn (hi pins s σ H _ I h) fun v s1 h1=>thn h1 fun itv s2 h2=>?_)
  obtain⟨it,fp,tn,J,H2,e,I2,T,st2,f2,hW⟩:=h2
  subst e
  refine wpAny_newObj_type (wpAny_newFunctionEnv hcell (by intro y hy; simp at hy) (fun h1 hns hsb=>?_) Sc.kind)
  obtain⟨W,⟨m0,w0⟩,turn⟩:=hW s2.heap.objs.size I2.fresh
  dsimp only at hns hsb ⊢
  generalize hD:s2.heap.push {cls:=.type "list",dict:=none,data:=.seq ([]:List Value).toArray}=h1' at hns hsb ⊢
  obtain⟨I3,un3⟩:=inv_comp (tk:=s2.toks+([]:List (Str×Value)).length) Sc I2 f2 (fun b hb=>let ⟨o,e,_⟩:=T.obj 0 _ st2 b hb; ⟨o,e⟩) hD hns hsb
  have hC:s2.heap.objs.size<=h1'.objs.size:=by rw [<- hD,Heap.size_push]; exact Nat.le_succ _
  have k1:∀ b o,s2.heap.get? b=some o->h1.get? b=some o:=fun b o e=>by
    have e1:h1'.get? b=some o:=by rw [<- hD]; exact Heap.get?_push_of_some _ e
    exact(hsb.2 b (Nat.ne_of_lt (Heap.lt_size e1))).trans (Heap.get?_push_of_some _ e1)
  have st3:tn 0 h1:=T.keep 0 _ _ st2 fun b _ o e=>k1 b o e
  have fr3:∀ b∈fp,(upd H2 s2.heap.objs.size (.lst [])) b=none:=fun b hb=>by
    obtain⟨o,e,_⟩:=T.obj 0 _ st2 b hb
    rw [upd_ne (Nat.ne_of_lt (Heap.lt_size e))]
    exact(f2 b hb).1
  have loop:∀ s3:Shared,s3={s2 with heap:=h1,toks:=s2.toks+([]:List (Str×Value)).length}->
      codeAny (model X.prog X.w) X.A (.compLoop (.ListComp elt [⟨tg,iter,[],0⟩] scope pos) 0 (.ref it) (.ref s2.heap.objs.size) (compEnvC scope cl h1'.objs.size X.env))
        (compPost (model X.prog X.w) X.A X.xe (some (assign (.Name x pos') X.env)) (fun _ s'=>∃ σ' H',Inv X pins σ' H' s'/\D.nx σ' H') (.ref s2.heap.objs.size) h1'.objs.size) s3:=by
    rintro s3 rfl
    refine compLoop_if0 (fun n s'=>∃ i σ' H',Inv (cxC X scope cl N {s2 with heap:=h1'} (upd H2 s2.heap.objs.size (.lst [])) fp h1'.objs.size) [] σ' H' s'/\tn i s'.heap/\(∀ b∈fp,H' b=none)/\W i n σ' H') ?_ m0 ⟨0,_,_,I3,st3,fr3,w0⟩
    rintro n s3 ⟨i,σ3,H3,I3,st3,fr3,w3⟩
    rcases turn i n σ3 H3 w3 with ⟨stop,qn⟩ | ⟨go,Nn,hN,step⟩
    · refine thn (T.done (cxC X scope cl N {s2 with heap:=h1'} (upd H2 s2.heap.objs.size (.lst [])) fp h1'.objs.size) rfl rfl rfl hc i [] s3 σ3 H3 NoE I3 (comp_fp I3 fr3) st3 stop) fun r s4 ⟨hr,I4⟩=>?_
      subst hr
      exact comp_store Sc I2 f2 un3 I4 hC pg qn
    · refine thn (T.item (cxC X scope cl N {s2 with heap:=h1'} (upd H2 s2.heap.objs.size (.lst [])) fp h1'.objs.size) rfl rfl rfl hc i [] s3 σ3 H3 NoE I3 (comp_fp I3 fr3) st3 go) fun r s4 ⟨u,hr,h4⟩=>?_
      subst hr
      refine thn h4 fun _ s5 ⟨x,H5,I5,r5,y5,st5,fr5⟩=>?_
      have I5':=I5.pinned (comp_fp I5 fr5) (T.obj _ _ st5)
      refine thn (hg _ _ _ _ _ s5 σ3 H5 x u _ I5' r5 (step x H5 y5)) fun _ s6 ⟨σ6,H6,I6,q6⟩=>?_
      refine thn (he _ _ _ _ _ s6 σ6 H6 _ I6 q6) fun uv s7 ⟨v,H7,I7,r7,ys,hy,hl,q7⟩=>?_
      refine thn (mt_append (X:=cxC X scope cl N {s2 with heap:=h1'} (upd H2 s2.heap.objs.size (.lst [])) fp h1'.objs.size) _ s7 σ6 H7 (.ref s2.heap.objs.size) [v] (.ref s2.heap.objs.size) [uv] (fun _ H8=>Nn σ6 H8) I7 rfl (.cons r7 .nil) ⟨_,ys,v,rfl,rfl,hy,hl,q7⟩) fun _ s8 ⟨_,H8,I8,_,n8⟩=>?_
      obtain⟨m',hm,w8⟩:=hN σ6 H8 n8
      refine⟨m',hm,i+1,σ6,H8,I8.unpinned,T.keep _ _ _ st5 fun b hb o e=>(I8.pin (b,o) (List.mem_append_right _ (List.mem_append_right _ (mem_pinsAt hb e)))).1,fun b hb=>?_,w8⟩
      obtain⟨o,e,d⟩:=T.obj _ _ st5 b hb
      exact(I8.pin (b,o) (List.mem_append_right _ (List.mem_append_right _ (mem_pinsAt hb e)))).2.1
  exact codeAny_compStart_list (loop _ rfl) (T.self _ 0 _ _ _ st3 (loop _ rfl))
theorem ps_compIfS {x:Str} {i:Nat} {pos' spos:Pos} (hN:X.N.Nodup) (hi':X.N[i]?=some x) (hx':X.env.scope.names.lookup x=some .local) (hsw:swapsWith (.ListComp elt [⟨tg,iter,[c],0⟩] scope pos) (some (.Name x pos')) spos.line X.env=pure true) (hc:X.calm=true) (Sc:CompSc X scope cl N cap) (hi:PI X tg iter wi) (hg:∀ s0 H0 ex C,PG (cxC X scope cl N s0 H0 ex C) tg g) (hcnd:∀ s0 H0 ex C,PT (cxC X scope cl N s0 H0 ex C) c tc) (he:∀ s0 H0 ex C,PE (cxC X scope cl N s0 H0 ex C) elt te)
    (hs:∀ x,foldedSetIterable iter X.env x=pure x:=by intro _; rfl):PS X (.Assign [.Name x pos'] (.ListComp elt [⟨tg,iter,[c],0⟩] scope pos) spos) (tAsg (tCompIf cap wi g tc te) (gName i)):=by
  intro pins s σ H D I h
  have pg:PG X (.Name x pos') (gName i):=pg_name hN hi' (.inl hx') (.inr hx')
  rw [exec_Assign_Name_used _ _ _ _ hsw]
  refine wpAny_bind (wpAny_standAt (wpAny_bind ?_))
  show wpAny _ _ (evalThenUse _ X.env _) _ _ _
  unfold evalThenUse
  have Q:=fun v H1=>D.nx (σ.set i (some v)) H1
  refine wpAny_bind (wpAny_mono (Q:=fun _ s'=>∃ σ' H',Inv X pins σ' H' s'/\D.nx σ' H') ?_ (fun v s' q=>wpAny_pure (wpAny_pure q)) fun _ _ q=>q)
  have hcell:∀ y∈scope.names,y.2≠.cell:=fun y hy=>by simpa using List.all_eq_true.mp Sc.nocell y hy
  have hnames:∀ y∈scope.names,y.2=.local->scope.names.lookup y.1=some .local:=fun y hy e=>by
    have:=List.all_eq_true.mp Sc.names y hy
    rw [e] at this
    simpa using this
  refine wpAny_comprehension_free (use:=some (assign (.Name x pos') X.env)) rfl hs Sc.clos Sc.kind hnames (thn (hi pins s σ H _ I h) fun v s1 h1=>thn h1 fun itv s2 h2=>?_)
  obtain⟨it,fp,tn,J,H2,e,I2,T,st2,f2,hW⟩:=h2
  subst e
  refine wpAny_newObj_type (wpAny_newFunctionEnv hcell (by intro y hy; simp at hy) (fun h1 hns hsb=>?_) Sc.kind)
  obtain⟨W,⟨m0,w0⟩,turn⟩:=hW s2.heap.objs.size I2.fresh
  dsimp only at hns hsb ⊢
  generalize hD:s2.heap.push {cls:=.type "list",dict:=none,data:=.seq ([]:List Value).toArray}=h1' at hns hsb ⊢
  obtain⟨I3,un3⟩:=inv_comp (tk:=s2.toks+([]:List (Str×Value)).length) Sc I2 f2 (fun b hb=>let ⟨o,e,_⟩:=T.obj 0 _ st2 b hb; ⟨o,e⟩) hD hns hsb
  have hC:s2.heap.objs.size<=h1'.objs.size:=by rw [<- hD,Heap.size_push]; exact Nat.le_succ _
  have k1:∀ b o,s2.heap.get? b=some o->h1.get? b=some o:=fun b o e=>by
    have e1:h1'.get? b=some o:=by rw [<- hD]; exact Heap.get?_push_of_some _ e
    exact(hsb.2 b (Nat.ne_of_lt (Heap.lt_size e1))).trans (Heap.get?_push_of_some _ e1)
  have st3:tn 0 h1:=T.keep 0 _ _ st2 fun b _ o e=>k1 b o e
  have fr3:∀ b∈fp,(upd H2 s2.heap.objs.size (.lst [])) b=none:=fun b hb=>by
    obtain⟨o,e,_⟩:=T.obj 0 _ st2 b hb
    rw [upd_ne (Nat.ne_of_lt (Heap.lt_size e))]
    exact(f2 b hb).1
  have loop:∀ s3:Shared,s3={s2 with heap:=h1,toks:=s2.toks+([]:List (Str×Value)).length}->
      codeAny (model X.prog X.w) X.A (.compLoop (.ListComp elt [⟨tg,iter,[c],0⟩] scope pos) 0 (.ref it) (.ref s2.heap.objs.size) (compEnvC scope cl h1'.objs.size X.env))
        (compPost (model X.prog X.w) X.A X.xe (some (assign (.Name x pos') X.env)) (fun _ s'=>∃ σ' H',Inv X pins σ' H' s'/\D.nx σ' H') (.ref s2.heap.objs.size) h1'.objs.size) s3:=by
    rintro s3 rfl
    refine compLoop_if1 (fun n s'=>∃ i σ' H',Inv (cxC X scope cl N {s2 with heap:=h1'} (upd H2 s2.heap.objs.size (.lst [])) fp h1'.objs.size) [] σ' H' s'/\tn i s'.heap/\(∀ b∈fp,H' b=none)/\W i n σ' H') ?_ m0 ⟨0,_,_,I3,st3,fr3,w0⟩
    rintro n s3 ⟨i,σ3,H3,I3,st3,fr3,w3⟩
    rcases turn i n σ3 H3 w3 with ⟨stop,qn⟩ | ⟨go,Nn,hN,step⟩
    · refine thn (T.done (cxC X scope cl N {s2 with heap:=h1'} (upd H2 s2.heap.objs.size (.lst [])) fp h1'.objs.size) rfl rfl rfl hc i [] s3 σ3 H3 NoE I3 (comp_fp I3 fr3) st3 stop) fun r s4 ⟨hr,I4⟩=>?_
      subst hr
      exact comp_store Sc I2 f2 un3 I4 hC pg qn
    · refine thn (T.item (cxC X scope cl N {s2 with heap:=h1'} (upd H2 s2.heap.objs.size (.lst [])) fp h1'.objs.size) rfl rfl rfl hc i [] s3 σ3 H3 NoE I3 (comp_fp I3 fr3) st3 go) fun r s4 ⟨u,hr,h4⟩=>?_
      subst hr
      refine thn h4 fun _ s5 ⟨x,H5,I5,r5,y5,st5,fr5⟩=>?_
      have I5':=I5.pinned (comp_fp I5 fr5) (T.obj _ _ st5)
      refine thn (hg _ _ _ _ _ s5 σ3 H5 x u _ I5' r5 (step x H5 y5)) fun _ s6 ⟨σ6,H6,I6,q6⟩=>?_
      have again:∀ {s8:Shared} {H8:Hp},Inv (cxC X scope cl N {s2 with heap:=h1'} (upd H2 s2.heap.objs.size (.lst [])) fp h1'.objs.size) ([]++pinsAt fp s5.heap) σ6 H8 s8->Nn σ6 H8->
          ∃ m,m < n/\∃ i σ' H',Inv (cxC X scope cl N {s2 with heap:=h1'} (upd H2 s2.heap.objs.size (.lst [])) fp h1'.objs.size) [] σ' H' s8/\tn i s8.heap/\(∀ b∈fp,H' b=none)/\W i m σ' H':=fun {s8 H8} I8 n8=>by
        obtain⟨m',hm,w8⟩:=hN σ6 H8 n8
        refine⟨m',hm,i+1,σ6,H8,I8.unpinned,T.keep _ _ _ st5 fun b hb o e=>(I8.pin (b,o) (List.mem_append_right _ (List.mem_append_right _ (mem_pinsAt hb e)))).1,fun b hb=>?_,w8⟩
        obtain⟨o,e,d⟩:=T.obj _ _ st5 b hb
        exact(I8.pin (b,o) (List.mem_append_right _ (List.mem_append_right _ (mem_pinsAt hb e)))).2.1
      refine thn (hcnd _ _ _ _ _ s6 σ6 H6 _ I6 q6) fun b s6' ⟨H6',I6',q6'⟩=>?_
      cases b with
      | true=>
        rw [if_pos rfl] at q6' ⊢
        refine thn (he _ _ _ _ _ s6' σ6 H6' _ I6' q6') fun uv s7 ⟨v,H7,I7,r7,ys,hy,hl,q7⟩=>?_
        refine thn (mt_append (X:=cxC X scope cl N {s2 with heap:=h1'} (upd H2 s2.heap.objs.size (.lst [])) fp h1'.objs.size) _ s7 σ6 H7 (.ref s2.heap.objs.size) [v] (.ref s2.heap.objs.size) [uv] (fun _ H8=>Nn σ6 H8) I7 rfl (.cons r7 .nil) ⟨_,ys,v,rfl,rfl,hy,hl,q7⟩) fun _ s8 ⟨_,H8,I8,_,n8⟩=>?_
        exact again I8 n8
      | false=>
        rw [if_neg Bool.false_ne_true] at q6' ⊢
        exact again I6' q6'
  exact codeAny_compStart_list (loop _ rfl) (T.self _ 0 _ _ _ st3 (loop _ rfl))
end
end L2
namespace DL
open PySem PySem.Spec PyProof.Rows L2
theorem setC {K:Fg} {ge:DE} {tc:TE} {i:Nat} (f:∀ σ H Q,up K ge σ H Q->tc σ H Q):∀ N σ H,upS K (dSet i ge) N σ H->tAsg tc (gName i) N σ H:=fun N σ H ⟨L,S,M,hL,hS,h,r⟩=>
  f σ H _ (up.go hL hS h fun d S1 v H1 h1 k1 hL1 hS1 i1=>r.nx _ S1 _ H1 h1 k1 (hL1.set i1 i) hS1)
section
variable {X:Cx} {pos pos' p:Pos} {elt tg a b c:Expr} {scope:Scope} {cl:List (Str×Addr)} {N:List Str} {cap:List (Option Nat)} {gg:DG} {ge gi:DE} {gc:DT} {ta:DA}
theorem dst_compRjS {xv:Str} {iv:Nat} {pv sv:Pos} (hNv:X.N.Nodup) (hc:X.calm=true) (Sc:CompSc X scope cl N cap) (hgl:Gl X "range") (hm:X.mg "range"=none) (ha:AJ X [a] ta) (hg:∀ s0 H0 ex C,GJ (cxC X scope cl N s0 H0 ex C) tg gg) (he:∀ s0 H0 ex C,EJ (cxC X scope cl N s0 H0 ex C) elt ge)
    (hs1:starEach [a] X.env=[(false,eval a X.env)]:=by exact star_cons rfl) (hs:∀ x,foldedSetIterable (.Call (.Name "range" p) [a] [] pos') X.env x=pure x:=by intro _; rfl) (hiv:X.N[iv]?=some xv:=by rfl) (hxv:X.env.scope.names.lookup xv=some .local:=by rfl) (hswv:swapsWith (.ListComp elt [⟨tg,.Call (.Name "range" p) [a] [] pos',[],0⟩] scope pos) (some (.Name xv pv)) sv.line X.env=pure true:=by rfl):SJ X (.Assign [.Name xv pv] (.ListComp elt [⟨tg,.Call (.Name "range" p) [a] [] pos',[],0⟩] scope pos) sv) (dSet iv (dCompR cap ta gg (bdAll ge))):=
  ⟨PS.imp (ps_compS hNv hiv hxv hswv hc Sc (pi_range1 hgl hm ha.h hs1) (fun s0 H0 ex C=>(hg s0 H0 ex C).h) (fun s0 H0 ex C=>(he s0 H0 ex C).h) hs) (setC (fun σ H Q ⟨L,S,k,hL,hS,h,n⟩=>upA.go hL hS h fun ds S1 vs H1 h1 k1 hL1 hS1 i1=>by
    split at h1
    · obtain⟨v,rfl,j⟩:=isDs1 i1
      have e:=isInt.mp j
      subst e
      obtain⟨⟨h2,h3⟩,h1⟩:=h1
      refine⟨_,rfl,h2,h3,fun D hD=>comp_core (hL1.cap cap) hS1 hD (h1 D (hS1.free hD)) (fun d S' v H' q k3=>n d S' v H' q (k1.trans k3)) range_go fun S2 H2 k2 hS2 _=>?_⟩
      rw [List.length_map,List.length_range]
      exact Nat.le_refl _
    · exact h1.elim))⟩
theorem dst_compRIfjS {xv:Str} {iv:Nat} {pv sv:Pos} (hNv:X.N.Nodup) (hc:X.calm=true) (Sc:CompSc X scope cl N cap) (hgl:Gl X "range") (hm:X.mg "range"=none) (ha:AJ X [a] ta) (hg:∀ s0 H0 ex C,GJ (cxC X scope cl N s0 H0 ex C) tg gg) (hcn:∀ s0 H0 ex C,TJ (cxC X scope cl N s0 H0 ex C) c gc) (he:∀ s0 H0 ex C,EJ (cxC X scope cl N s0 H0 ex C) elt ge)
    (hs1:starEach [a] X.env=[(false,eval a X.env)]:=by exact star_cons rfl) (hs:∀ x,foldedSetIterable (.Call (.Name "range" p) [a] [] pos') X.env x=pure x:=by intro _; rfl) (hiv:X.N[iv]?=some xv:=by rfl) (hxv:X.env.scope.names.lookup xv=some .local:=by rfl) (hswv:swapsWith (.ListComp elt [⟨tg,.Call (.Name "range" p) [a] [] pos',[c],0⟩] scope pos) (some (.Name xv pv)) sv.line X.env=pure true:=by rfl):SJ X (.Assign [.Name xv pv] (.ListComp elt [⟨tg,.Call (.Name "range" p) [a] [] pos',[c],0⟩] scope pos) sv) (dSet iv (dCompR cap ta gg (bdIf gc ge))):=
  ⟨PS.imp (ps_compIfS hNv hiv hxv hswv hc Sc (pi_range1 hgl hm ha.h hs1) (fun s0 H0 ex C=>(hg s0 H0 ex C).h) (fun s0 H0 ex C=>(hcn s0 H0 ex C).h) (fun s0 H0 ex C=>(he s0 H0 ex C).h) hs) (setC (fun σ H Q ⟨L,S,k,hL,hS,h,n⟩=>upA.go hL hS h fun ds S1 vs H1 h1 k1 hL1 hS1 i1=>by
    split at h1
    · obtain⟨v,rfl,j⟩:=isDs1 i1
      have e:=isInt.mp j
      subst e
      obtain⟨⟨h2,h3⟩,h1⟩:=h1
      refine⟨_,rfl,h2,h3,fun D hD=>comp_coreIf (hL1.cap cap) hS1 hD (h1 D (hS1.free hD)) (fun d S' v H' q k3=>n d S' v H' q (k1.trans k3)) range_go fun S2 H2 k2 hS2 _=>?_⟩
      rw [List.length_map,List.length_range]
      exact Nat.le_refl _
    · exact h1.elim))⟩
theorem dst_compEjS {xv:Str} {iv:Nat} {pv sv:Pos} (hNv:X.N.Nodup) {elt tg iter:Expr} {scope:Scope} {cl:List (Str×Addr)} {N:List Str} {cap:List (Option Nat)} {gg:DG} {ge gi:DE} (hc:X.calm=true) (Sc:CompSc X scope cl N cap) (hi:EJ X iter gi) (hg:∀ s0 H0 ex C,GJ (cxC X scope cl N s0 H0 ex C) tg gg) (he:∀ s0 H0 ex C,EJ (cxC X scope cl N s0 H0 ex C) elt ge)
    (hs:∀ x,foldedSetIterable iter X.env x=pure x:=by intro _; rfl) (hiv:X.N[iv]?=some xv:=by rfl) (hxv:X.env.scope.names.lookup xv=some .local:=by rfl) (hswv:swapsWith (.ListComp elt [⟨tg,iter,[],0⟩] scope pos) (some (.Name xv pv)) sv.line X.env=pure true:=by rfl):SJ X (.Assign [.Name xv pv] (.ListComp elt [⟨tg,iter,[],0⟩] scope pos) sv) (dSet iv (dCompE cap gi gg (bdAll ge))):=
  ⟨PS.imp (ps_compS hNv hiv hxv hswv hc Sc (pi_seq hi.h) (fun s0 H0 ex C=>(hg s0 H0 ex C).h) (fun s0 H0 ex C=>(he s0 H0 ex C).h) hs) (setC (fun σ H Q ⟨L,S,k,hL,hS,h,n⟩=>up.go hL hS h fun d S1 v H1 h1 k1 hL1 hS1 i1=>by
    obtain⟨p,hp,h1⟩:=h1
    obtain⟨a,e,q⟩:=seq_go hS1 i1 hp
    refine⟨a,e,?_⟩
    have n':∀ d S' v H',k d S'->Kp H1 H'->Hs X.K H' S'->IsD X.K H' d v->Q v H':=fun d S' v H' q k3=>n d S' v H' q (k1.trans k3)
    rcases q with ⟨q1,q2,q3⟩ | ⟨q1,q2,q3⟩
    · exact .inl ⟨q1,fun D hD=>comp_core (hL1.cap cap) hS1 hD (h1 D (hS1.free hD)) n' q2 q3⟩
    · exact .inr ⟨q1,fun D hD=>comp_core (hL1.cap cap) hS1 hD (h1 D (hS1.free hD)) n' q2 q3⟩))⟩
theorem dst_compEIfjS {xv:Str} {iv:Nat} {pv sv:Pos} (hNv:X.N.Nodup) {elt tg iter c:Expr} {scope:Scope} {cl:List (Str×Addr)} {N:List Str} {cap:List (Option Nat)} {gg:DG} {ge gi:DE} {gc:DT} (hc:X.calm=true) (Sc:CompSc X scope cl N cap) (hi:EJ X iter gi) (hg:∀ s0 H0 ex C,GJ (cxC X scope cl N s0 H0 ex C) tg gg) (hcnd:∀ s0 H0 ex C,TJ (cxC X scope cl N s0 H0 ex C) c gc) (he:∀ s0 H0 ex C,EJ (cxC X scope cl N s0 H0 ex C) elt ge)
    (hs:∀ x,foldedSetIterable iter X.env x=pure x:=by intro _; rfl) (hiv:X.N[iv]?=some xv:=by rfl) (hxv:X.env.scope.names.lookup xv=some .local:=by rfl) (hswv:swapsWith (.ListComp elt [⟨tg,iter,[c],0⟩] scope pos) (some (.Name xv pv)) sv.line X.env=pure true:=by rfl):SJ X (.Assign [.Name xv pv] (.ListComp elt [⟨tg,iter,[c],0⟩] scope pos) sv) (dSet iv (dCompE cap gi gg (bdIf gc ge))):=
  ⟨PS.imp (ps_compIfS hNv hiv hxv hswv hc Sc (pi_seq hi.h) (fun s0 H0 ex C=>(hg s0 H0 ex C).h) (fun s0 H0 ex C=>(hcnd s0 H0 ex C).h) (fun s0 H0 ex C=>(he s0 H0 ex C).h) hs) (setC (fun σ H Q ⟨L,S,k,hL,hS,h,n⟩=>up.go hL hS h fun d S1 v H1 h1 k1 hL1 hS1 i1=>by
    obtain⟨p,hp,h1⟩:=h1
    obtain⟨a,e,q⟩:=seq_go hS1 i1 hp
    refine⟨a,e,?_⟩
    have n':∀ d S' v H',k d S'->Kp H1 H'->Hs X.K H' S'->IsD X.K H' d v->Q v H':=fun d S' v H' q k3=>n d S' v H' q (k1.trans k3)
    rcases q with ⟨q1,q2,q3⟩ | ⟨q1,q2,q3⟩
    · exact .inl ⟨q1,fun D hD=>comp_coreIf (hL1.cap cap) hS1 hD (h1 D (hS1.free hD)) n' q2 q3⟩
    · exact .inr ⟨q1,fun D hD=>comp_coreIf (hL1.cap cap) hS1 hD (h1 D (hS1.free hD)) n' q2 q3⟩))⟩
end
section
variable {X:Cx} {pins:List (Addr×Obj)} {σ:L2.St} {H:Hp} {s:Shared}
theorem eqL_at (I:Inv X pins σ H s) {S:DH} {a c:Addr} {ds es:List D} {b:Bool} (hS:Hs X.K H S) (h1:S a=some (.lst ds)) (h2:S c=some (.lst es)) (hl:ds.length=es.length) (A:Around) (hu:A.units+8 < cLine) (h:eqTs (eqT 7) ds es=some b):
    SeqAt.RcAt A s (.ref a) (.ref c) b/\SeqAt.RcNeAt A s (.ref a) (.ref c) (!b):=by
  obtain⟨xs,q1,j1⟩:=hS.lst h1
  obtain⟨ys,q2,j2⟩:=hS.lst h2
  obtain⟨us,r1,p1,_⟩:=I.list (SqL.of q1)
  obtain⟨ws,r2,p2,_⟩:=I.list (SqL.of q2)
  have l1:=j1.length
  have l2:=j2.length
  have l3:=r1.length
  have l4:=r2.length
  have hsz:us.toArray.size=ws.toArray.size:=by simp only [List.size_toArray]; omega
  have he:∀ j (h1:j < us.toArray.size) (h2:j < ws.toArray.size),SeqAt.EqAt A.in1 s us.toArray[j] ws.toArray[j] (eqAts (eqT 7) ds es j):=fun j h1 h2=>by
    simp only [List.size_toArray] at h1 h2
    obtain⟨d,e,x,y,q1,q2,d1,d2,rx,ry⟩:=pair_at j1 j2 r1 r2 h1 h2
    have:=(eqT_at I 7 A.in1 d e x y us[j] ws[j] _ (by show A.units+1+7 < cLine; omega) (eqTs_at h q1 q2) d1 d2 rx ry).1
    simpa using this
  have e:=eqTs_all h
  rw [hl,Nat.min_self] at e
  have e:(List.range us.toArray.size).all (eqAts (eqT 7) ds es)=b:=by
    simp only [List.size_toArray]
    rw [<- l3,<- l1,hl]
    simpa using e
  refine⟨?_,?_⟩
  · have z:=SeqAt.RcAt.lists p1.isList p2.isList hsz (by omega) he
    rw [e] at z
    exact z
  · have z:=SeqAt.RcNeAt.lists p1.isList p2.isList hsz (by omega) he
    rw [e] at z
    exact z
end
def dEqX:D2:=fun d e S k=>match d,e with
  | .ref a,.ref c=>∃ xs ys b,S a=some (.lst xs)/\S c=some (.lst ys)/\xs.length=ys.length/\eqTs (eqT 7) xs ys=some b/\k (.bl b) S
  | d,e=>∃ b,eqT 8 d e=some b/\k (.bl b) S
theorem o_eqX {X:Cx} {n:Nat} (hr:Room n X.A):OpR X (compareOp .Eq) (upR X.K dEqX):=by
  intro pins s σ H x y v u Q I rx ry h
  obtain⟨d,e,S,k,i1,i2,hS,r,m⟩:=h
  have hu:=hr.units
  unfold dEqX at r
  split at r
  · obtain⟨xs,ys,b,h1,h2,h3,h4,w⟩:=r
    have e1:=isRef.mp i1
    have e2:=isRef.mp i2
    subst e1 e2
    cases rx
    cases ry
    exact(eqL_at I hS h1 h2 h3 X.A (by omega) h4).1 X.prog X.w X.xe _ ⟨.bl b,H,I,rfl,up1 m hS w (isBl.mpr rfl)⟩
  · obtain⟨b,h1,w⟩:=r
    exact(eqT_at I 8 X.A d e x y v u b (by omega) h1 i1 i2 rx ry).2 X.prog X.w X.xe _ ⟨.bl b,H,I,rfl,up1 m hS w (isBl.mpr rfl)⟩
def bTuple:DSp:=fun ds S k=>match ds with
  | [.tup xs]=>k (.tup xs) S
  | [.ref a]=>∃ xs,S a=some (.lst xs)/\k (.tup xs) S
  | _=>False
theorem b_tuple {X:Cx}:CallR X (.type "tuple") (upC X.K bTuple):=by
  intro pins s σ H xs us Q I rs h
  obtain⟨ds,S,k,i,hS,r,n⟩:=h
  unfold bTuple at r
  split at r
  · obtain⟨x,rfl,i1⟩:=isDs1 i
    obtain⟨a,vs,rfl,t,j⟩:=isTup.mp i1
    exact call_tuple_of pins s σ H _ us Q I rs ⟨a,vs,rfl,.inr ⟨t,n _ S _ H r (Kp.refl H) hS i1⟩⟩
  · obtain⟨x,rfl,i1⟩:=isDs1 i
    have e1:=isRef.mp i1
    subst e1
    obtain⟨xs,z,r⟩:=r
    obtain⟨vs,hl,j⟩:=hS.lst z
    refine call_tuple_of pins s σ H _ us Q I rs ⟨_,vs,rfl,.inl ⟨SqL.of hl,fun p hp=>?_⟩⟩
    have kp:Kp H (upd H p (.tup vs)):=Kp.new hp
    exact n _ S _ _ r kp (hS.new hp) (isTup.mpr ⟨p,vs,rfl,SqT.of upd_same,j.kp kp⟩)
  · exact r.elim
theorem neLen_at {X:Cx} {pins:List (Addr×Obj)} {σ:L2.St} {H:Hp} {s:Shared} (I:Inv X pins σ H s) {S:DH} {a c:Addr} {ds es:List D} (hS:Hs X.K H S) (h1:S a=some (.lst ds)) (h2:S c=some (.lst es)) (hl:ds.length≠es.length) (A:Around) (hu:A.units+8 < cLine):
    SeqAt.RcNeAt A s (.ref a) (.ref c) true:=by
  obtain⟨xs,q1,j1⟩:=hS.lst h1
  obtain⟨ys,q2,j2⟩:=hS.lst h2
  obtain⟨us,r1,p1,_⟩:=I.list (SqL.of q1)
  obtain⟨ws,r2,p2,_⟩:=I.list (SqL.of q2)
  have l1:=j1.length
  have l2:=j2.length
  have l3:=r1.length
  have l4:=r2.length
  exact SeqAt.RcNeAt.lists_lengths p1.isList p2.isList (by simp only [List.size_toArray,bne_iff_ne]; omega) (by omega)
def dNeL:D2:=fun d e S k=>match d,e with
  | .ref a,.ref c=>∃ xs ys b,S a=some (.lst xs)/\S c=some (.lst ys)/\((xs.length=ys.length/\eqTs (eqT 7) xs ys=some b)\/(xs.length≠ys.length/\b=false))/\k (.bl (!b)) S
  | d,e=>∃ b,eqT 8 d e=some b/\k (.bl (!b)) S
theorem o_neL {X:Cx} {n:Nat} (hr:Room n X.A):OpR X (compareOp .NotEq) (upR X.K dNeL):=by
  intro pins s σ H x y v u Q I rx ry h
  obtain⟨d,e,S,k,i1,i2,hS,r,m⟩:=h
  have hu:=hr.units
  unfold dNeL at r
  split at r
  · obtain⟨xs,ys,b,h1,h2,h3,w⟩:=r
    have e1:=isRef.mp i1
    have e2:=isRef.mp i2
    subst e1 e2
    cases rx
    cases ry
    rcases h3 with ⟨h3,h4⟩ | ⟨h3,rfl⟩
    · exact(eqL_at I hS h1 h2 h3 X.A (by omega) h4).2 X.prog X.w X.xe _ ⟨.bl (!b),H,I,rfl,up1 m hS w (isBl.mpr rfl)⟩
    · exact(neLen_at I hS h1 h2 h3 X.A (by omega)) X.prog X.w X.xe _ ⟨.bl true,H,I,rfl,up1 m hS w (isBl.mpr rfl)⟩
  · obtain⟨b,h1,w⟩:=r
    exact eqT_ne I 8 X.A d e x y v u b (by omega) h1 i1 i2 rx ry X.prog X.w X.xe _ ⟨.bl (!b),H,I,rfl,up1 m hS w (isBl.mpr rfl)⟩
def dIxF:D2:=fun d e S k=>match d,e with
  | .tup ds,.int i=>∃ c,L2.atI ds i=some c/\k c S
  | .rl ds,.int i=>∃ c,L2.atI ds i=some c/\k c S
  | .ref a,.int i=>∃ ds c,S a=some (.lst ds)/\L2.atI ds i=some c/\k c S
  | _,_=>False
theorem x_ixF {X:Cx}:IxR X (upR X.K dIxF):=IxR.imp x_ix (upR.imp fun d e S k h=>by
  unfold dIxF at h
  split at h
  · obtain⟨c,h1,h2⟩:=h
    simp only [dIx,h1]
    exact h2
  · obtain⟨c,h1,h2⟩:=h
    simp only [dIx,h1]
    exact h2
  · obtain⟨ds,c,h0,h1,h2⟩:=h
    simp only [dIx,h0,h1]
    exact h2
  · exact h.elim)
theorem isDs.rep {K:Fg} {H:Hp} {ds:List D} {vs:List V} (h:IsDs K H ds vs):∀ n:Nat,IsDs K H (List.replicate n ds).flatten (List.replicate n vs).flatten
  | 0=>IsDs.nil
  | n+1=>by
    rw [List.replicate_succ,List.flatten_cons,List.replicate_succ,List.flatten_cons]
    exact h.append (isDs.rep h n)
def dMulF:D2:=fun d e S k=>match d,e with
  | .ref a,.int j=>∃ xs,S a=some (.lst xs)/\-(2 ^ 63)<=j/\j < 2 ^ 63/\xs.length*j.toNat<=sizeLine/\∀ p,S p=none->k (.ref p) (put S p (.lst (List.replicate j.toNat xs).flatten))
  | d,e=>dMul d e S k
theorem o_mulF {X:Cx}:OpR X (binaryOp .Mult) (upR X.K dMulF):=by
  intro pins s σ H x y v u Q I rx ry h
  obtain⟨d,e,S,k,i1,i2,hS,r,m⟩:=h
  unfold dMulF at r
  split at r
  · rename_i a j
    obtain⟨xs,h1,h2,h3,h4,w⟩:=r
    have e1:=isRef.mp i1
    have e2:=isInt.mp i2
    subst e1 e2
    obtain⟨vs,hl,jj⟩:=hS.lst h1
    refine op_rep pins s σ H _ _ v u Q I rx ry ⟨a,j,vs,rfl,rfl,hl,h2,h3,by rw [<- jj.length]; exact h4,fun p hp=>?_⟩
    exact m _ _ _ _ (w p (hS.free hp)) (Kp.new hp) (hS.newL hp (isDs.rep jj _)) (isRef.mpr rfl)
  · exact o_mul pins s σ H x y v u Q I rx ry ⟨_,_,S,k,i1,i2,hS,r,m⟩
end DL
namespace HT
open PySem PyProof.Rows
theorem cat_tup0 {prog:Program} {w:World} {A:Around} {E:Value->Shared->Prop} {s:Shared} {t b:Addr} {ws:List Value} {Q:Value->Shared->Prop} (ht:IsTup s.heap t ([]:List Value).toArray) (hb:IsTup s.heap b ws.toArray)
    (h0:Q (.ref b) s):wpAny (model prog w) A (binaryOp .Add (.ref t) (.ref b)) Q E s:=by
  obtain⟨⟨cls,dd,data,sl⟩,ho,hc,n,hd⟩:=id ht
  obtain⟨⟨cls2,dd2,data2,sl2⟩,ho2,hc2,n2,hd2⟩:=id hb
  simp only at hc hd hc2 hd2
  subst hc hd hc2 hd2
  exact concat_meets ⟨_,ho,rfl⟩ ⟨_,ho2,rfl⟩ noFill_tuple_add seq_tuple_add PySem.F.slot_tuple_add PySem.F.entry_tuple_add (PySem.F.args_tuple_add_2 _ _)
      (tuple_addW0 t b ([]:List Value).toArray ws.toArray n n2 dd dd2 sl sl2 (by simp)) ⟨ho,ho2,h0⟩
end HT
namespace L2
open PySem PySem.Spec PyProof.Rows
section
variable {X:Cx}
theorem op_catT0:OpR X (binaryOp .Add) (fun x y H Q=>∃ a b ys,x=.ref a/\y=.ref b/\SqT X.K H a []/\SqT X.K H b ys/\Q (.ref b) H):=by
  intro pins s σ H x y v u Q I rx ry h
  obtain⟨a,b,ys,rfl,rfl,ha,hb,q⟩:=h
  cases rx
  cases ry
  obtain⟨its,r1,p1,_⟩:=I.tuple ha
  obtain⟨its2,r2,p2,_⟩:=I.tuple hb
  have e:its=[]:=r1.nil_iff.mpr rfl
  subst e
  exact HT.cat_tup0 p1 p2 ⟨.ref b,H,I,rfl,q⟩
end
end L2
namespace DL
open PySem PySem.Spec PyProof.Rows L2
def dAddT:D2:=fun d e S k=>match d,e with
  | .tup xs,.tup ys=>xs.length+ys.length<=sizeLine/\k (.tup (xs++ys)) S
  | d,e=>dAdd d e S k
theorem o_addT {X:Cx}:OpR X (binaryOp .Add) (upR X.K dAddT):=by
  intro pins s σ H x y v u Q I rx ry h
  obtain⟨d,e,S,k,i1,i2,hS,r,n⟩:=h
  unfold dAddT at r
  split at r
  · rename_i xs ys
    obtain⟨hl,r⟩:=r
    by_cases h1:xs=[]
    · subst h1
      obtain⟨a,vs,rfl,t1,j1⟩:=isTup.mp i1
      obtain⟨b,us,rfl,t2,j2⟩:=isTup.mp i2
      have e:vs=[]:=by
        have:=j1.length
        exact List.length_eq_zero_iff.mp this.symm
      subst e
      exact op_catT0 pins s σ H _ _ v u Q I rx ry ⟨a,b,us,rfl,rfl,t1,t2,n _ S _ H r (Kp.refl H) hS i2⟩
    · by_cases h2:ys=[]
      · subst h2
        obtain⟨a,vs,rfl,t1,j1⟩:=isTup.mp i1
        obtain⟨b,us,rfl,t2,j2⟩:=isTup.mp i2
        have e:us=[]:=by
          have:=j2.length
          exact List.length_eq_zero_iff.mp this.symm
        subst e
        rw [List.append_nil] at r
        exact op_catT pins s σ H _ _ v u Q I rx ry ⟨a,b,vs,[],rfl,rfl,t1,t2,ne_nil_of j1 h1,by rw [<- j1.length]; exact hl,fun _=>n _ S _ H r (Kp.refl H) hS i1,fun z=>absurd rfl z⟩
      · exact o_add pins s σ H x y v u Q I rx ry ⟨_,_,S,k,i1,i2,hS,⟨h1,h2,hl,r⟩,n⟩
  · exact o_add pins s σ H x y v u Q I rx ry ⟨_,_,S,k,i1,i2,hS,r,n⟩
def dEqS:D2:=fun d e S k=>match e with
  | .str y=>(match d with
    | .str x=>k (.bl (x == y)) S
    | .int _=>k (.bl false) S
    | .bl _=>k (.bl false) S
    | .non=>k (.bl false) S
    | .tup _=>k (.bl false) S
    | .ref a=>(∃ ds,S a=some (.lst ds))/\k (.bl false) S
    | _=>False)
  | _=>False
theorem o_eqS {X:Cx} {n:Nat} (hr:Room n X.A):OpR X (compareOp .Eq) (upR X.K dEqS):=by
  intro pins s σ H x y v u Q I rx ry h
  obtain⟨d,e,S,k,i1,i2,hS,r,m⟩:=h
  have hu:=hr.units
  cases e with
  | str z=>
    rw [isStr.mp i2] at ry
    obtain⟨t',rfl⟩:=ry
    cases d with
    | str w=>rw [isStr.mp i1] at rx; obtain⟨t,rfl⟩:=rx; exact SeqAt.RcAt.str_str _ _ _ _ X.prog X.w X.xe _ ⟨.bl _,H,I,rfl,up1 m hS r (isBl.mpr rfl)⟩
    | int w=>rw [isInt.mp i1] at rx; obtain⟨t,rfl⟩:=rx; exact SeqAt.RcAt.int_str _ _ _ _ X.prog X.w X.xe _ ⟨.bl _,H,I,rfl,up1 m hS r (isBl.mpr rfl)⟩
    | bl w=>rw [isBl.mp i1] at rx; cases rx; exact SeqAt.RcAt.bool_str _ _ _ X.prog X.w X.xe _ ⟨.bl _,H,I,rfl,up1 m hS r (isBl.mpr rfl)⟩
    | non=>rw [isNon.mp i1] at rx; cases rx; exact SeqAt.RcAt.none_str _ _ X.prog X.w X.xe _ ⟨.bl _,H,I,rfl,up1 m hS r (isBl.mpr rfl)⟩
    | tup xs=>
      obtain⟨p,vs,rfl,t1,j1⟩:=isTup.mp i1
      cases rx
      obtain⟨us,r1,p1,_⟩:=I.tuple t1
      exact SeqAt.RcAt.tuple_str (items:=us.toArray) _ _ (show s.heap.IsTuple p us.toArray from p1) (by omega) X.prog X.w X.xe _ ⟨.bl _,H,I,rfl,up1 m hS r (isBl.mpr rfl)⟩
    | ref a=>
      have e1:=isRef.mp i1
      subst e1
      cases rx
      obtain⟨⟨ds,h1⟩,r⟩:=r
      obtain⟨xs,q1,j1⟩:=hS.lst h1
      obtain⟨us,r1,p1,_⟩:=I.list (SqL.of q1)
      exact SeqAt.RcAt.list_str (items:=us.toArray) _ _ p1.isList (by omega) X.prog X.w X.xe _ ⟨.bl _,H,I,rfl,up1 m hS r (isBl.mpr rfl)⟩
    | _=>exact r.elim
  | _=>exact(show False from r).elim
end DL
namespace HT
open PySem PyProof.Rows
section
variable {prog:Program} {w:World} {A:Around} {E:Value->Shared->Prop} {s:Shared}
theorem getItem_tuple_whole {t sl:Addr} {items:Array Value} {vl vu:Value} {lo hi:Option Int} {Q:Value->Shared->Prop} (ht:IsTup s.heap t items) (hs:s.heap.IsSliceOf sl vl vu .none) (pl:IsPart vl lo) (pu:IsPart vu hi)
    (hw:sIx items.size 0 lo=0/\sIx items.size items.size hi=items.size) (h:Q (.ref t) s):wpAny (model prog w) A (getItem (.ref t) (.ref sl)) Q E s:=by
  obtain⟨os,hos,hcs,hds⟩:=id hs
  have hTs:s.TypeIs (.ref sl) "slice":=⟨os,hos,hcs⟩
  unfold getItem
  try with_reducible refine wpAny_holding ?_
  first | refine wpAny_bind (wpAny_pure ?_) | skip
  refine wpAny_bind (wpAny_sequenceKey ht.typeIs (by decide) ?_)
  refine wpAny_bind (wpAny_callSpecial?_slot (name:=Str.ofString "__getitem__") ht.typeIs PyProof.Rows.slot_tuple_getitem
    (wpAny_call_entry PyProof.Rows.slot_tuple_getitem ht.typeIs entry_tuple_getitem ?_ (args_tuple_getitem _ _)))
  show wpAny _ _ (Builtin.Tuple.tupleItemsOf (.ref t) >>= _) _ _ s
  refine wpAny_bind (tupleItemsOf_ ht (wpAny_bind (wpAny_typeOf hTs ?_)))
  rw [if_pos (by decide)]
  refine wpAny_bind (sliceApplied_gen hs pl pu ?_)
  rw [hw.1,hw.2]
  show wpAny _ _ (if ((((0:Nat):Int) == 0) && (1:Int) == 1 && (items.size - 0) == items.size)=true then _ else _) _ _ s
  rw [if_pos (by simp)]
  refine wpAny_bind (m:=Builtin.Tuple.tupleIsExact (.ref t)) (wpAny_bind (wpAny_typeOf ht.typeIs (wpAny_pure ?_)))
  rw [if_pos (by decide)]
  first
    | exact wpAny_pure ⟨_,rfl,wpAny_pure h⟩
    | exact wpAny_bind (wpAny_pure (wpAny_pure ⟨_,rfl,wpAny_pure h⟩))
    | (wp_walk; exact⟨_,rfl,wpAny_pure h⟩)
end
end HT
namespace PySem
open Sem (wp)
open Builtin
theorem noFill_tuple_mulM:fillsNumberSlot (.type "tuple") "mul"=pure false:=
  fillsNumberSlot_seq (id:="tuple.__mul__") (r:=some (.builtin "tuple.__rmul__")) F.slot_tuple_mul.lookup (by decide +kernel) F.slot_tuple_rmul.lookup (by decide +kernel)
theorem repeat_tupleM:seqRepeat? (.type "tuple")=pure (some (.builtin "tuple.__mul__")):=by
  unfold seqRepeat?
  rw [seqSlot_of (T:="tuple") (name:="__mul__") (id:="tuple.__mul__") F.slot_tuple_mul.lookup (by decide +kernel),seqSlot_of (T:="tuple") (name:="__rmul__") (id:="tuple.__rmul__") F.slot_tuple_rmul.lookup (by decide +kernel)]
  rfl
theorem int_rmul_tupleM (a:Int) (t:Tok) (l:Addr) (items:Array Value) (n:Nat) (dd:Option Addr) (sl:Array (Option Value)):
    Meets (Builtin.«int.__rmul__» ⟨[.int a t,.ref l],[]⟩) (fun _ R s=>s.heap.get? l=some {cls:=.type "tuple",dict:=dd,data:=.seq items n,slots:=sl}/\R (.ok (.ret Value.notImplemented)) s):=
  .of_wp fun prog w A R s h=>by obtain⟨hp,g,d,tk,os⟩:=s; obtain⟨hl,h⟩:=h; wp_walk; exact⟨_,rfl,h⟩
theorem tuple_mulM (l:Addr) (items:Array Value) (n:Nat) (dd:Option Addr) (sl:Array (Option Value)) (x:Int) (u:Tok) (h0:items.isEmpty=false) (h1:2<=x) (h2:x < 1000) (h3:items.size*x.toNat<=1000):
    Meets (Builtin.«tuple.__mul__» ⟨[.ref l,.int x u],[]⟩) (fun _ R s=>s.heap.get? l=some {cls:=.type "tuple",dict:=dd,data:=.seq items n,slots:=sl}/\R (.ok (.ret (Value.ref s.heap.objs.size))) {s with heap:=s.heap.push {cls:=Value.type "tuple",data:=Data.seq (List.foldl (fun x1 x2=>x1++x2) #[] (List.replicate x.toNat items))},toks:=s.toks}):=
  .of_wp fun prog w A R s h=>by
    obtain⟨hp,g,d,tk,os⟩:=s
    obtain⟨hl,h⟩:=h
    have e1:(x < -(2 ^ 63) || x ≥ 2 ^ 63)=false:=by simp; omega
    have e2:(items.isEmpty || x == 1)=false:=by rw [h0,Bool.false_or]; simp; omega
    have e3:(decide (x<=0) || items.isEmpty)=false:=by rw [h0,Bool.or_false]; simp; omega
    unfold Builtin.«tuple.__mul__»
    wp_walk
    have e4:¬ ((items.size:Int)*x > (2 ^ 63 - 1) / 8):=by
      have:((items.size*x.toNat:Nat):Int)=(items.size:Int)*x:=by rw [Int.natCast_mul,Int.toNat_of_nonneg (by omega)]
      omega
    have e5:Tuple.tupleTooMany ((items.size:Int)*x)=false:=by
      have:((items.size*x.toNat:Nat):Int)=(items.size:Int)*x:=by rw [Int.natCast_mul,Int.toNat_of_nonneg (by omega)]
      have hz:1000<=sizeLine:=Nat.le_of_ble_eq_true rfl
      unfold Tuple.tupleTooMany
      rw [decide_eq_false]
      omega
    have e6:sizeOk (.seq (List.foldl (fun x1 x2=>x1++x2) #[] (List.replicate x.toNat items))):=by
      show(List.foldl (fun x1 x2=>x1++x2) #[] (List.replicate x.toNat items)).size<=sizeLine
      have hz:1000<=sizeLine:=Nat.le_of_ble_eq_true rfl
      have:∀ (m:Nat) (a:Array Value),(List.foldl (fun x1 x2=>x1++x2) a (List.replicate m items)).size=a.size+items.size*m:=fun m=>by
        induction m with
        | zero=>intro a; rfl
        | succ m ih=>intro a; rw [List.replicate_succ,List.foldl_cons,ih,Array.size_append,Nat.mul_succ]; omega
      rw [this]
      simp
      omega
    rw [if_neg (by simp; omega)]
    show wpAny _ _ (Tuple.tupleItemsOf (.ref l) >>= _) _ _ _
    refine wpAny_bind (PyProof.Rows.tupleItemsOf_ (s:={heap:=hp,gens:=g,drawn:=d,toks:=tk,os:=os}) ⟨_,hl,rfl,n,rfl⟩ ?_)
    simp only [e2,e3,if_neg e4,e5,Bool.false_eq_true,if_false]
    exact wpAny_bind (m:=Tuple.tupleExact _) (wpAny_newObj_type (wpAny_pure ⟨_,rfl,h⟩) e6)
end PySem
namespace L2
open PySem PySem.Spec PyProof.Rows
section
variable {X:Cx}
theorem op_repT:OpR X (binaryOp .Mult) (fun x y H Q=>∃ a i xs,x=.ref a/\y=.int i/\SqT X.K H a xs/\xs≠[]/\2<=i/\i < 1000/\xs.length*i.toNat<=1000/\∀ p,H p=none->Q (.ref p) (upd H p (.tup (List.replicate i.toNat xs).flatten))):=by
  intro pins s σ H x y v u Q I rx ry h
  obtain⟨a,i,xs,rfl,rfl,hx,hne,h1,h2,h3,q⟩:=h
  cases rx
  obtain⟨t,rfl⟩:=ry
  obtain⟨its,r,pt,hz⟩:=I.tuple hx
  have hl:=r.length
  obtain⟨⟨cls,dd,data,sl⟩,ho,hc,n,hd⟩:=pt
  simp only at hc hd
  subst hc hd
  have f0:∀ m:Nat,List.foldl (fun x1 x2=>x1++x2) #[] (List.replicate m its.toArray)=(List.replicate m its).flatten.toArray:=fun m=>by
    have:=foldl_rep its m []
    rw [List.nil_append] at this
    exact this
  have e0:its.toArray.isEmpty=false:=by
    cases its with
    | nil=>exact absurd (List.length_eq_zero_iff.mp hl) hne
    | cons _ _=>rfl
  have hz3:its.toArray.size*i.toNat<=1000:=by rw [List.size_toArray,<- hl]; exact h3
  refine wpAny_binaryOp_repeat_ref (T:="tuple") (U:="int") (by decide) ⟨_,ho,rfl⟩ (fun s'=>typeIs_int s' i t) noFill_tuple_mulM F.fills_int_mul F.slot_int_rmul repeat_tupleM F.slot_int_index.lookup
    (call_meets F.slot_int_rmul (typeIs_int s i t) F.entry_int_rmul (F.args_int_rmul_2 _ _) (int_rmul_tupleM i t a its.toArray n dd sl)
      ⟨ho,rfl,⟨_,ho,rfl⟩,call_meets F.slot_tuple_mul ⟨_,ho,rfl⟩ F.entry_tuple_mul (F.args_tuple_mul_2 _ _) (tuple_mulM a its.toArray n dd sl i t e0 h1 h2 hz3) ⟨ho,?_⟩⟩)
  rw [f0]
  have rr:∀ m:Nat,Vals (List.replicate m xs).flatten (List.replicate m its).flatten:=fun m=>by
    induction m with
    | zero=>exact .nil
    | succ m ih=>rw [List.replicate_succ,List.flatten_cons,List.replicate_succ,List.flatten_cons]; exact r.append ih
  have hlen:∀ m:Nat,(List.replicate m xs).flatten.length=xs.length*m:=fun m=>by
    induction m with
    | zero=>rfl
    | succ m ih=>rw [List.replicate_succ,List.flatten_cons,List.length_append,ih,Nat.mul_succ]; omega
  refine⟨.ref s.heap.objs.size,_,I.laid (t':=s.toks) (o:=.tup (List.replicate i.toNat xs).flatten) (fun b ob q=>Heap.get?_push_of_some _ q) (Nat.le_refl _) ?_,rfl,q _ (I.hok.fresh (Nat.le_refl _))⟩
  refine⟨by rw [hlen]; exact Nat.le_trans h3 (Nat.le_of_ble_eq_true rfl),_,rr _,IsTup.new _ _⟩
theorem sl_tupW:SlR X (fun x lo hi H Q=>∃ a xs,x=.ref a/\SqT X.K H a xs/\(HT.sIx xs.length 0 lo=0/\HT.sIx xs.length xs.length hi=xs.length)/\Q (.ref a) H):=by
  intro pins s σ H x v vl vu lo hi sl Q I rx hs pl pu h
  obtain⟨a,xs,rfl,hx,hw,q⟩:=h
  cases rx
  obtain⟨its,r,ht,hz⟩:=I.tuple hx
  have hlen:its.toArray.size=xs.length:=by rw [List.size_toArray]; exact r.length.symm
  refine⟨"tuple",_,PyProof.Rows.slot_tuple_getitem.lookup,ht.typeIs,?_⟩
  exact HT.getItem_tuple_whole ht hs pl pu (by rw [hlen]; exact hw) ⟨.ref a,H,I,rfl,q⟩
end
end L2
namespace DL
open PySem PySem.Spec PyProof.Rows L2
def dCutX (g:DE) (tl th:DOp):DE:=fun L S k=>g L S fun x S1=>tl L S1 fun lo S2=>th L S2 fun hi S3=>match x with
  | .tup xs=>k (.tup (cutD xs lo hi)) S3
  | _=>False
theorem cut_whole {xs:List D} {lo hi:Option Int} (h:HT.sIx xs.length 0 lo=0/\HT.sIx xs.length xs.length hi=xs.length):cutD xs lo hi=xs:=by
  unfold cutD
  rw [h.1,h.2]
  simp
theorem d_cutXj {X:Cx} {e:Expr} {g:DE} {lo hi:Option Expr} {tl th:DOp} {p2 pos:Pos} (he:EJ X e g) (hl:OJ X lo tl) (hu:OJ X hi th):EJ X (.Subscript e (.Slice lo hi none p2) pos) (dCutX g tl th):=
  ⟨PE.imp (pe_slice (SlR.or sl_tup sl_tupW) he.h hl.h hu.h) fun σ H Q ⟨L,S,k,hL,hS,h,n⟩=>up.go hL hS h fun d S1 v H1 h1 k1 hL1 hS1 i1=>by
    refine⟨L,S1,_,hL1,hS1,h1,fun lo' S2 H2 h2 k2 hS2=>⟨L,S2,_,hL1.kp k2,hS2,h2,fun hi' S3 H3 h3 k3 hS3=>?_⟩⟩
    cases d with
    | tup xs=>
      obtain⟨a,vs,rfl,t,j⟩:=isTup.mp i1
      have j3:=j.kp (k2.trans k3)
      by_cases hw:HT.sIx xs.length 0 lo'=0/\HT.sIx xs.length xs.length hi'=xs.length
      · refine .inr ⟨a,vs,rfl,(k2.trans k3).tup t,by rw [<- j.length]; exact hw,?_⟩
        have h3:k (.tup (cutD xs lo' hi')) S3:=h3
        rw [cut_whole hw] at h3
        exact n _ S3 _ _ h3 (k1.trans (k2.trans k3)) hS3 (isTup.mpr ⟨a,vs,rfl,(k2.trans k3).tup t,j3⟩)
      · refine .inl ⟨a,vs,rfl,(k2.trans k3).tup t,by rw [<- j.length]; exact hw,fun p hp=>?_⟩
        have k4:Kp H3 (upd H3 p (.tup (cutV vs lo' hi'))):=Kp.new hp
        refine n _ S3 _ _ h3 (k1.trans (k2.trans (k3.trans k4))) (hS3.new hp) (isTup.mpr ⟨p,_,rfl,SqT.of upd_same,?_⟩)
        unfold cutD cutV
        rw [j.length]
        exact((j3.drop _).take _).kp k4
    | _=>exact(show False from h3).elim⟩
def dMulT:D2:=fun d e S k=>match d,e with
  | .tup xs,.int j=>xs≠[]/\2<=j/\j < 1000/\xs.length*j.toNat<=1000/\k (.tup (List.replicate j.toNat xs).flatten) S
  | d,e=>dMul d e S k
theorem o_mulT {X:Cx}:OpR X (binaryOp .Mult) (upR X.K dMulT):=by
  intro pins s σ H x y v u Q I rx ry h
  obtain⟨d,e,S,k,i1,i2,hS,r,m⟩:=h
  unfold dMulT at r
  split at r
  · rename_i xs j
    obtain⟨h1,h2,h3,h4,w⟩:=r
    obtain⟨a,vs,rfl,t1,j1⟩:=isTup.mp i1
    have e2:=isInt.mp i2
    subst e2
    refine op_repT pins s σ H _ _ v u Q I rx ry ⟨a,j,vs,rfl,rfl,t1,ne_nil_of j1 h1,h2,h3,by rw [<- j1.length]; exact h4,fun p hp=>?_⟩
    have kp:Kp H (upd H p (.tup (List.replicate j.toNat vs).flatten)):=Kp.new hp
    exact m _ S _ _ w kp (hS.new hp) (isTup.mpr ⟨p,_,rfl,SqT.of upd_same,(isDs.rep j1 _).kp kp⟩)
  · exact o_mul pins s σ H x y v u Q I rx ry ⟨_,_,S,k,i1,i2,hS,r,m⟩
end DL
set_option linter.all false
namespace DT
abbrev Mx:=Nat->Nat->Rat
def sm:Nat->(Nat->Rat)->Rat
  | 0,_=>0
  | n+1,f=>sm n f+f n
theorem sm_congr {n:Nat} {f g:Nat->Rat} (h:∀ i,i < n->f i=g i):sm n f=sm n g:=by
  induction n with
  | zero=>rfl
  | succ n ih=>unfold sm; rw [ih fun i hi=>h i (by omega),h n (by omega)]
theorem sm_add {n:Nat} {f g:Nat->Rat}:sm n (fun i=>f i+g i)=sm n f+sm n g:=by
  induction n with
  | zero=>unfold sm; grind
  | succ n ih=>unfold sm; rw [ih]; grind
theorem sm_mul {n:Nat} {f:Nat->Rat} {c:Rat}:sm n (fun i=>c*f i)=c*sm n f:=by
  induction n with
  | zero=>unfold sm; grind
  | succ n ih=>unfold sm; rw [ih]; grind
theorem sm_zero {n:Nat} {f:Nat->Rat} (h:∀ i,i < n->f i=0):sm n f=0:=by
  induction n with
  | zero=>rfl
  | succ n ih=>unfold sm; rw [ih fun i hi=>h i (by omega),h n (by omega)]; grind
def sk (i r:Nat):Nat:=if r < i then r else r+1
def sg (n:Nat):Rat:=if n % 2=0 then 1 else -1
theorem sg_succ (n:Nat):sg (n+1)=- sg n:=by
  unfold sg
  by_cases h:n % 2=0
  · rw [if_pos h,if_neg (by omega)]
  · rw [if_neg h,if_pos (by omega)]; grind
def det:Nat->Mx->Rat
  | 0,_=>1
  | n+1,M=>sm (n+1) fun i=>sg (n+i)*M i n*det n (fun r c=>M (sk i r) c)
theorem det_congr:∀ {n:Nat} {M M':Mx},(∀ r c,r < n->c < n->M r c=M' r c)->det n M=det n M'
  | 0,_,_,_=>rfl
  | n+1,M,M',h=>by
    unfold det
    refine sm_congr fun i hi=>?_
    rw [h i n hi (by omega),det_congr (M:=fun r c=>M (sk i r) c) (M':=fun r c=>M' (sk i r) c) fun r c hr hc=>h _ _ (by unfold sk; split <;> omega) (by omega)]
def cl (M:Mx) (a:Nat) (u:Nat->Rat):Mx:=fun r c=>if c=a then u r else M r c
theorem det_add:∀ {n a:Nat} {M:Mx} {u v:Nat->Rat},a < n->det n (cl M a fun r=>u r+v r)=det n (cl M a u)+det n (cl M a v)
  | 0,a,_,_,_,h=>absurd h (by omega)
  | n+1,a,M,u,v,h=>by
    unfold det
    rw [<- sm_add]
    refine sm_congr fun i hi=>?_
    by_cases e:a=n
    · subst e
      have z:∀ w:Nat->Rat,det a (fun r c=>cl M a w (sk i r) c)=det a (fun r c=>M (sk i r) c):=fun w=>det_congr fun r c hr hc=>by unfold cl; rw [if_neg (by omega)]
      rw [z,z,z]
      unfold cl
      rw [if_pos rfl,if_pos rfl,if_pos rfl]
      grind
    · have z:∀ w:Nat->Rat,(fun r c=>cl M a w (sk i r) c)=cl (fun r c=>M (sk i r) c) a fun r=>w (sk i r):=fun w=>rfl
      rw [z,z,z,det_add (u:=fun r=>u (sk i r)) (v:=fun r=>v (sk i r)) (by omega)]
      unfold cl
      rw [if_neg (Ne.symm e),if_neg (Ne.symm e),if_neg (Ne.symm e)]
      grind
theorem det_mul:∀ {n a:Nat} {M:Mx} {u:Nat->Rat} {k:Rat},a < n->det n (cl M a fun r=>k*u r)=k*det n (cl M a u)
  | 0,a,_,_,_,h=>absurd h (by omega)
  | n+1,a,M,u,k,h=>by
    unfold det
    rw [<- sm_mul]
    refine sm_congr fun i hi=>?_
    by_cases e:a=n
    · subst e
      have z:∀ w:Nat->Rat,det a (fun r c=>cl M a w (sk i r) c)=det a (fun r c=>M (sk i r) c):=fun w=>det_congr fun r c hr hc=>by unfold cl; rw [if_neg (by omega)]
      rw [z,z]
      unfold cl
      rw [if_pos rfl,if_pos rfl]
      grind
    · have z:∀ w:Nat->Rat,(fun r c=>cl M a w (sk i r) c)=cl (fun r c=>M (sk i r) c) a fun r=>w (sk i r):=fun w=>rfl
      rw [z,z,det_mul (u:=fun r=>u (sk i r)) (by omega)]
      unfold cl
      rw [if_neg (Ne.symm e),if_neg (Ne.symm e)]
      grind
theorem alt_sum {T:Nat->Nat->Rat} (h:∀ p j,p<=j->T p j=- T (j+1) p):∀ m:Nat,sm (m+1) (fun i=>sm m (T i))=0
  | 0=>by show(0:Rat)+0=0; grind
  | m+1=>by
    have ih:=alt_sum h m
    have e1:sm (m+1) (fun i=>sm (m+1) (T i))=sm (m+1) (fun i=>sm m (T i))+sm (m+1) (fun i=>T i m):=by rw [<- sm_add]; rfl
    have e2:sm (m+1) (fun i=>T i m)=- sm (m+1) (T (m+1)):=by
      have:sm (m+1) (fun i=>T i m)=sm (m+1) (fun i=>(-1)*T (m+1) i):=sm_congr fun i hi=>by rw [h i m (by omega)]; grind
      rw [this,sm_mul]; grind
    show sm (m+1) (fun i=>sm (m+1) (T i))+sm (m+1) (T (m+1))=0
    rw [e1,ih,e2]
    grind
theorem sk_two {p j r:Nat} (h:p<=j):sk p (sk j r)=sk (j+1) (sk p r):=by
  unfold sk
  by_cases h1:r < j <;> by_cases h2:r < p <;> simp only [h1,h2,if_true,if_false] <;> (repeat' split) <;> omega
theorem det_alt_last {n:Nat} {M:Mx} (h:∀ r,M r n=M r (n+1)):det (n+2) M=0:=by
  show sm (n+2) (fun i=>sg (n+1+i)*M i (n+1)*sm (n+1) fun j=>sg (n+j)*M (sk i j) n*det n (fun r c=>M (sk i (sk j r)) c))=0
  have e:sm (n+2) (fun i=>sg (n+1+i)*M i (n+1)*sm (n+1) fun j=>sg (n+j)*M (sk i j) n*det n (fun r c=>M (sk i (sk j r)) c))=
      sm (n+2) (fun i=>sm (n+1) ((fun i j=>sg (n+1+i)*M i (n+1)*(sg (n+j)*M (sk i j) n*det n (fun r c=>M (sk i (sk j r)) c))) i)):=sm_congr fun i hi=>by rw [<- sm_mul]
  rw [e]
  refine alt_sum (fun p j hp=>?_) (n+1)
  show sg (n+1+p)*M p (n+1)*(sg (n+j)*M (sk p j) n*det n (fun r c=>M (sk p (sk j r)) c))=-(sg (n+1+(j+1))*M (j+1) (n+1)*(sg (n+p)*M (sk (j+1) p) n*det n (fun r c=>M (sk (j+1) (sk p r)) c)))
  have e1:sk p j=j+1:=by unfold sk; rw [if_neg (by omega)]
  have e2:sk (j+1) p=p:=by unfold sk; rw [if_pos (by omega)]
  have e3:(fun r c=>M (sk p (sk j r)) c)=fun r c=>M (sk (j+1) (sk p r)) c:=by funext r c; rw [sk_two hp]
  rw [e1,e2,e3,h,h,show n+1+p=(n+p)+1 by omega,show n+1+(j+1)=(n+j)+1+1 by omega,sg_succ,sg_succ,sg_succ]
  grind
theorem cl_cl_ne {M:Mx} {a b:Nat} {u v:Nat->Rat} (h:a≠b):cl (cl M a u) b v=cl (cl M b v) a u:=by
  funext r c
  unfold cl
  by_cases h1:c=a
  · subst h1; simp [h]
  · simp [h1]
theorem det_swap {n:Nat} {M:Mx} {u v:Nat->Rat}:det (n+2) (cl (cl M n u) (n+1) v)=- det (n+2) (cl (cl M n v) (n+1) u):=by
  have F:∀ w:Nat->Rat,det (n+2) (cl (cl M n w) (n+1) w)=0:=fun w=>det_alt_last fun r=>by
    unfold cl
    rw [if_neg (by omega),if_pos rfl,if_pos rfl]
  have A:∀ w:Nat->Rat,det (n+2) (cl (cl M n fun r=>u r+v r) (n+1) w)=det (n+2) (cl (cl M n u) (n+1) w)+det (n+2) (cl (cl M n v) (n+1) w):=fun w=>by
    have c:∀ x:Nat->Rat,cl (cl M n x) (n+1) w=cl (cl M (n+1) w) n x:=fun x=>cl_cl_ne (by omega)
    rw [c,c,c,det_add (by omega)]
  have h:=F fun r=>u r+v r
  rw [det_add (by omega),A,A,F,F] at h
  grind
theorem cl_self {M:Mx} {a:Nat}:cl M a (fun r=>M r a)=M:=by
  funext r c
  unfold cl
  split
  · rename_i h; rw [h]
  · rfl
theorem det_alt:∀ {n a b:Nat} {M:Mx},a < b->b < n->(∀ r,M r a=M r b)->det n M=0
  | 0,a,b,M,_,h,_=>absurd h (by omega)
  | 1,a,b,M,h1,h2,_=>absurd h1 (by omega)
  | n+2,a,b,M,h1,h2,h=>by
    have minor:∀ {a b:Nat} {M:Mx},a < b->b < n+1->(∀ r,M r a=M r b)->det (n+2) M=0:=fun {a b M} h1 h2 h=>by
      unfold det
      refine sm_zero fun i hi=>?_
      rw [det_alt (M:=fun r c=>M (sk i r) c) h1 h2 fun r=>h _]
      grind
    by_cases hb:b < n+1
    · exact minor h1 hb h
    · have e:b=n+1:=by omega
      subst e
      by_cases ha:a=n
      · subst ha
        exact det_alt_last h
      · have e1:M=cl (cl M n fun r=>M r n) (n+1) fun r=>M r (n+1):=by rw [cl_self,cl_self]
        rw [e1,det_swap,minor (a:=a) (b:=n) (by omega) (by omega) fun r=>?_]
        · grind
        · unfold cl
          rw [if_neg (by omega),if_neg (by omega),if_neg (by omega),if_pos rfl]
          exact h r
theorem det_sum {n j:Nat} {M:Mx} (hj:j < n) {m:Nat} {f:Nat->Nat->Rat}:det n (cl M j fun r=>sm m fun i=>f i r)=sm m fun i=>det n (cl M j (f i)):=by
  induction m with
  | zero=>
    have:(fun r=>sm 0 fun i=>f i r)=fun r:Nat=>(0:Rat)*0:=by funext r; unfold sm; grind
    rw [this,det_mul hj]
    unfold sm
    grind
  | succ m ih=>
    have:(fun r=>sm (m+1) fun i=>f i r)=fun r=>(sm m fun i=>f i r)+f m r:=rfl
    rw [this,det_add hj,ih]
    rfl
theorem cramer {n j:Nat} {M:Mx} {z u:Nat->Rat} (hj:j < n) (h:∀ r,r < n->sm n (fun i=>z i*M r i)=u r):det n (cl M j u)=z j*det n M:=by
  have e:det n (cl M j u)=det n (cl M j fun r=>sm n fun i=>z i*M r i):=det_congr fun r c hr hc=>by
    unfold cl
    split
    · exact(h r hr).symm
    · rfl
  rw [e,det_sum (f:=fun i r=>z i*M r i) hj]
  have t:∀ i,i < n->det n (cl M j fun r=>z i*M r i)=if i=j then z j*det n M else 0:=fun i hi=>by
    rw [det_mul hj]
    by_cases hij:i=j
    · subst hij; rw [cl_self,if_pos rfl]
    · rw [if_neg hij]
      have zz:det n (cl M j fun r=>M r i)=0:=by
        rcases Nat.lt_or_gt_of_ne hij with hl | hl
        · exact det_alt hl hj fun r=>by unfold cl; rw [if_neg hij,if_pos rfl]
        · exact det_alt hl hi fun r=>by unfold cl; rw [if_pos rfl,if_neg hij]
      rw [zz]; grind
  rw [sm_congr t]
  have s:∀ m,sm m (fun i=>if i=j then z j*det n M else 0)=if j < m then z j*det n M else 0:=fun m=>by
    induction m with
    | zero=>rw [if_neg (by omega)]; rfl
    | succ m ih=>
      show sm m (fun i=>if i=j then z j*det n M else 0)+(if m=j then z j*det n M else 0)=_
      rw [ih]
      by_cases h1:j < m
      · rw [if_pos h1,if_neg (show ¬ m=j by omega),if_pos (show j < m+1 by omega)]; grind
      · by_cases h2:m=j
        · rw [if_neg h1,if_pos h2,if_pos (show j < m+1 by omega)]; grind
        · rw [if_neg h1,if_neg h2,if_neg (show ¬ j < m+1 by omega)]; grind
  rw [s,if_pos hj]
theorem det_last {n:Nat} {M:Mx} {z:Nat->Rat} (h:∀ r,r < n->sm n (fun i=>z i*M r i)=M r n):det (n+1) M=(M n n - sm n fun i=>z i*M n i)*det n M:=by
  have e:det (n+1) M=det (n+1) (cl M n fun r=>M r n - sm n fun i=>z i*M r i):=by
    have e1:(fun r=>M r n - sm n fun i=>z i*M r i)=fun r=>M r n+sm n fun i=>(- z i)*M r i:=by
      funext r
      have:sm n (fun i=>(- z i)*M r i)=(-1)*sm n fun i=>z i*M r i:=by rw [<- sm_mul]; exact sm_congr fun i _=>by grind
      rw [this]; grind
    rw [e1,det_add (by omega),cl_self,det_sum (f:=fun i r=>(- z i)*M r i) (by omega)]
    have:sm n (fun i=>det (n+1) (cl M n fun r=>(- z i)*M r i))=0:=sm_zero fun i hi=>by
      rw [det_mul (by omega),det_alt (M:=cl M n fun r=>M r i) (a:=i) (b:=n) hi (by omega) fun r=>by unfold cl; rw [if_neg (by omega),if_pos rfl]]
      grind
    rw [this]; grind
  rw [e]
  show sm n _+sg (n+n)*cl M n (fun r=>M r n - sm n fun i=>z i*M r i) n n*det n (fun r c=>cl M n (fun r=>M r n - sm n fun i=>z i*M r i) (sk n r) c)=_
  have z0:sm n (fun i=>sg (n+i)*cl M n (fun r=>M r n - sm n fun i=>z i*M r i) i n*det n (fun r c=>cl M n (fun r=>M r n - sm n fun i=>z i*M r i) (sk i r) c))=0:=sm_zero fun i hi=>by
    have:cl M n (fun r=>M r n - sm n fun i=>z i*M r i) i n=0:=by
      unfold cl
      rw [if_pos rfl]
      show M i n - (sm n fun c=>z c*M i c)=0
      rw [h i hi]; grind
    rw [this]; grind
  rw [z0]
  have z1:cl M n (fun r=>M r n - sm n fun i=>z i*M r i) n n=M n n - sm n fun i=>z i*M n i:=by unfold cl; rw [if_pos rfl]
  have z2:det n (fun r c=>cl M n (fun r=>M r n - sm n fun i=>z i*M r i) (sk n r) c)=det n M:=det_congr fun r c hr hc=>by unfold cl sk; rw [if_neg (by omega),if_pos hr]
  have z3:sg (n+n)=1:=by unfold sg; rw [if_pos (by omega)]
  rw [z1,z2,z3]; grind
def IsN (b:Nat) (q:Rat):Prop:=∃ v:Int,q=v/\v.natAbs<=b
theorem IsN.mul {a b:Nat} {p q:Rat} (h1:IsN a p) (h2:IsN b q):IsN (a*b) (p*q):=by
  obtain⟨v,rfl,hv⟩:=h1
  obtain⟨w,rfl,hw⟩:=h2
  exact⟨v*w,by rw [Rat.intCast_mul],by rw [Int.natAbs_mul]; exact Nat.mul_le_mul hv hw⟩
theorem IsN.add {a b:Nat} {p q:Rat} (h1:IsN a p) (h2:IsN b q):IsN (a+b) (p+q):=by
  obtain⟨v,rfl,hv⟩:=h1
  obtain⟨w,rfl,hw⟩:=h2
  exact⟨v+w,by rw [Rat.intCast_add],by omega⟩
theorem IsN.sg (n:Nat):IsN 1 (sg n):=by
  unfold DT.sg
  split
  · exact⟨1,rfl,by decide⟩
  · exact⟨-1,rfl,by decide⟩
theorem IsN.sm {b:Nat} {f:Nat->Rat}:∀ {n:Nat},(∀ i,i < n->IsN b (f i))->IsN (n*b) (sm n f)
  | 0,_=>⟨0,rfl,by omega⟩
  | n+1,h=>by
    have h1:=IsN.sm (n:=n) fun i hi=>h i (by omega)
    have h2:=h n (by omega)
    rw [Nat.succ_mul]
    exact h1.add h2
def fac:Nat->Nat
  | 0=>1
  | n+1=>(n+1)*fac n
theorem IsN.det {b:Nat}:∀ {n:Nat} {M:Mx},(∀ r c,r < n->c < n->IsN b (M r c))->IsN (fac n*b ^ n) (det n M)
  | 0,_,_=>⟨1,rfl,by show 1<=1*1; exact Nat.le_refl _⟩
  | n+1,M,h=>by
    have e:fac (n+1)*b ^ (n+1)=(n+1)*(1*b*(fac n*b ^ n)):=by
      have e0:fac (n+1)=(n+1)*fac n:=rfl
      rw [e0,Nat.pow_succ]
      simp only [Nat.one_mul,Nat.mul_assoc]
      congr 1
      rw [Nat.mul_comm (b ^ n) b,<- Nat.mul_assoc,<- Nat.mul_assoc,Nat.mul_comm (fac n) b]
    rw [e]
    unfold DT.det
    refine IsN.sm fun i hi=>?_
    exact((IsN.sg _).mul (h i n hi (by omega))).mul (IsN.det (M:=fun r c=>M (sk i r) c) fun r c hr hc=>h _ _ (by unfold sk; split <;> omega) (by omega))
def ups (f:Nat->Nat) (k v:Nat):Nat->Nat:=fun i=>if i=k then v else f i
structure BS (M:Mx) (P C:Nat->Nat) (k:Nat) (d:Rat) (z:Nat->Nat->Rat):Prop where
  det:d=DT.det k (fun r c=>M (P r) (C c))
  ne:d≠0
  sol:∀ r,r < k->∀ x,sm k (fun j=>z j x*M (P r) (C j))=M (P r) x
def ldE (d:Rat) (z:Nat->Nat->Rat) (j x:Nat):Rat:=d*z j x
def otE (M:Mx) (C:Nat->Nat) (k:Nat) (d:Rat) (z:Nat->Nat->Rat) (q x:Nat):Rat:=d*(M q x - sm k fun j=>z j x*M q (C j))
theorem BS.start {M:Mx} {P C:Nat->Nat} {z:Nat->Nat->Rat}:BS M P C 0 1 z:=⟨rfl,by decide,fun r h=>absurd h (by omega)⟩
theorem otE_start {M:Mx} {C:Nat->Nat} {z:Nat->Nat->Rat} {q x:Nat}:otE M C 0 1 z q x=M q x:=by unfold otE sm; grind
def zn (M:Mx) (C:Nat->Nat) (k:Nat) (d:Rat) (z:Nat->Nat->Rat) (l c:Nat):Nat->Nat->Rat:=fun j x=>if j=k then otE M C k d z l x / otE M C k d z l c else z j x - z j c*(otE M C k d z l x / otE M C k d z l c)
theorem sm_sub_mul {n:Nat} {f g h:Nat->Rat} {t:Rat}:sm n (fun j=>(f j - g j*t)*h j)=sm n (fun j=>f j*h j) - t*sm n (fun j=>g j*h j):=by
  have:sm n (fun j=>(f j - g j*t)*h j)=sm n (fun j=>f j*h j+(-t)*(g j*h j)):=sm_congr fun i _=>by grind
  rw [this,sm_add,sm_mul]; grind
theorem sm_new {M:Mx} {C:Nat->Nat} {k:Nat} {d:Rat} {z:Nat->Nat->Rat} {l c q x:Nat}:sm (k+1) (fun j=>zn M C k d z l c j x*M q (ups C k c j))=sm k (fun j=>z j x*M q (C j)) - (otE M C k d z l x / otE M C k d z l c)*sm k (fun j=>z j c*M q (C j))+(otE M C k d z l x / otE M C k d z l c)*M q c:=by
  show sm k _+zn M C k d z l c k x*M q (ups C k c k)=_
  have e1:zn M C k d z l c k x=otE M C k d z l x / otE M C k d z l c:=by unfold zn; rw [if_pos rfl]
  have e2:ups C k c k=c:=by unfold ups; rw [if_pos rfl]
  have e3:sm k (fun j=>zn M C k d z l c j x*M q (ups C k c j))=sm k (fun j=>(z j x - z j c*(otE M C k d z l x / otE M C k d z l c))*M q (C j)):=sm_congr fun i hi=>by
    unfold zn ups
    rw [if_neg (by omega),if_neg (by omega)]
  rw [e1,e2,e3,sm_sub_mul]
theorem BS.step {M:Mx} {P C:Nat->Nat} {k:Nat} {d:Rat} {z:Nat->Nat->Rat} {l c:Nat} (h:BS M P C k d z) (hn:otE M C k d z l c≠0):BS M (ups P k l) (ups C k c) (k+1) (otE M C k d z l c) (zn M C k d z l c):=by
  refine⟨?_,hn,fun r hr x=>?_⟩
  · have e:=det_last (n:=k) (M:=fun r s=>M (ups P k l r) (ups C k c s)) (z:=fun j=>z j c) fun r hr=>by
      show sm k (fun i=>z i c*M (ups P k l r) (ups C k c i))=M (ups P k l r) (ups C k c k)
      have e1:ups P k l r=P r:=by unfold ups; rw [if_neg (by omega)]
      have e2:ups C k c k=c:=by unfold ups; rw [if_pos rfl]
      rw [e1,e2,<- h.sol r hr c]
      exact sm_congr fun i hi=>by unfold ups; rw [if_neg (by omega)]
    rw [e]
    have e1:ups P k l k=l:=by unfold ups; rw [if_pos rfl]
    have e2:ups C k c k=c:=by unfold ups; rw [if_pos rfl]
    have e3:DT.det k (fun r s=>M (ups P k l r) (ups C k c s))=d:=by
      rw [h.det]
      exact det_congr fun r s hr hs=>by unfold ups; rw [if_neg (by omega),if_neg (by omega)]
    have e4:sm k (fun i=>z i c*M (ups P k l k) (ups C k c i))=sm k fun i=>z i c*M l (C i):=sm_congr fun i hi=>by rw [e1]; unfold ups; rw [if_neg (by omega)]
    rw [e3]
    show otE M C k d z l c=(M (ups P k l k) (ups C k c k) - sm k fun i=>z i c*M (ups P k l k) (ups C k c i))*d
    rw [e4,e1,e2]
    unfold otE
    grind
  · rw [sm_new]
    by_cases hk:r=k
    · subst hk
      have e1:ups P r l r=l:=by unfold ups; rw [if_pos rfl]
      rw [e1]
      have hd:=h.ne
      have hx:otE M C r d z l x=d*(M l x - sm r fun j=>z j x*M l (C j)):=rfl
      have hc:otE M C r d z l c=d*(M l c - sm r fun j=>z j c*M l (C j)):=rfl
      have key:otE M C r d z l x / otE M C r d z l c*(M l c - sm r fun j=>z j c*M l (C j))=M l x - sm r fun j=>z j x*M l (C j):=by
        have:(M l c - sm r fun j=>z j c*M l (C j))≠0:=fun z0=>hn (by rw [hc,z0]; grind)
        rw [hx,hc]
        grind
      grind
    · have e1:ups P k l r=P r:=by unfold ups; rw [if_neg hk]
      rw [e1,h.sol r (by omega) x,h.sol r (by omega) c]
      grind
theorem ld_new {M:Mx} {C:Nat->Nat} {k:Nat} {d:Rat} {z:Nat->Nat->Rat} {l c j x:Nat} (hd:d≠0) (hn:otE M C k d z l c≠0) (hj:j < k):otE M C k d z l c*ldE d z j x - ldE d z j c*otE M C k d z l x=d*ldE (otE M C k d z l c) (zn M C k d z l c) j x:=by
  have e:zn M C k d z l c j x=z j x - z j c*(otE M C k d z l x / otE M C k d z l c):=by unfold zn; rw [if_neg (by omega)]
  unfold ldE
  rw [e]
  generalize otE M C k d z l c=H at*
  generalize otE M C k d z l x=X at*
  have:H*(X / H)=X:=by grind
  grind
theorem ld_own {M:Mx} {C:Nat->Nat} {k:Nat} {d:Rat} {z:Nat->Nat->Rat} {l c x:Nat} (hn:otE M C k d z l c≠0):ldE (otE M C k d z l c) (zn M C k d z l c) k x=otE M C k d z l x:=by
  have e:zn M C k d z l c k x=otE M C k d z l x / otE M C k d z l c:=by unfold zn; rw [if_pos rfl]
  unfold ldE
  rw [e]
  generalize otE M C k d z l c=H at*
  generalize otE M C k d z l x=X at*
  grind
theorem ot_new {M:Mx} {C:Nat->Nat} {k:Nat} {d:Rat} {z:Nat->Nat->Rat} {l c q x:Nat} (hd:d≠0) (hn:otE M C k d z l c≠0):otE M C k d z l c*otE M C k d z q x - otE M C k d z q c*otE M C k d z l x=d*otE M (ups C k c) (k+1) (otE M C k d z l c) (zn M C k d z l c) q x:=by
  have e:otE M (ups C k c) (k+1) (otE M C k d z l c) (zn M C k d z l c) q x=otE M C k d z l c*(M q x - sm (k+1) fun j=>zn M C k d z l c j x*M q (ups C k c j)):=rfl
  rw [e,sm_new]
  have hx:otE M C k d z q x=d*(M q x - sm k fun j=>z j x*M q (C j)):=rfl
  have hc:otE M C k d z q c=d*(M q c - sm k fun j=>z j c*M q (C j)):=rfl
  rw [hx,hc]
  generalize otE M C k d z l c=H at*
  generalize otE M C k d z l x=X at*
  generalize sm k (fun j=>z j x*M q (C j))=A at*
  generalize sm k (fun j=>z j c*M q (C j))=B at*
  have:H*(X / H)=X:=by grind
  grind
theorem BS.ld {M:Mx} {P C:Nat->Nat} {k b:Nat} {d:Rat} {z:Nat->Nat->Rat} (h:BS M P C k d z) (hM:∀ r c,IsN b (M r c)) {j x:Nat} (hj:j < k):IsN (fac k*b ^ k) (ldE d z j x):=by
  have e:=cramer (n:=k) (j:=j) (M:=fun r c=>M (P r) (C c)) (z:=fun i=>z i x) (u:=fun r=>M (P r) x) hj fun r hr=>h.sol r hr x
  have e2:ldE d z j x=DT.det k (cl (fun r c=>M (P r) (C c)) j fun r=>M (P r) x):=by rw [e,<- h.det]; unfold ldE; grind
  rw [e2]
  exact IsN.det fun r c _ _=>by unfold cl; split <;> exact hM _ _
theorem BS.ot {M:Mx} {P C:Nat->Nat} {k b:Nat} {d:Rat} {z:Nat->Nat->Rat} (h:BS M P C k d z) (hM:∀ r c,IsN b (M r c)) {q x:Nat}:IsN (fac (k+1)*b ^ (k+1)) (otE M C k d z q x):=by
  have e:=det_last (n:=k) (M:=fun r s=>M (ups P k q r) (ups C k x s)) (z:=fun j=>z j x) fun r hr=>by
    show sm k (fun i=>z i x*M (ups P k q r) (ups C k x i))=M (ups P k q r) (ups C k x k)
    have e1:ups P k q r=P r:=by unfold ups; rw [if_neg (by omega)]
    have e2:ups C k x k=x:=by unfold ups; rw [if_pos rfl]
    rw [e1,e2,<- h.sol r hr x]
    exact sm_congr fun i hi=>by unfold ups; rw [if_neg (by omega)]
  have e1:ups P k q k=q:=by unfold ups; rw [if_pos rfl]
  have e2:ups C k x k=x:=by unfold ups; rw [if_pos rfl]
  have e3:DT.det k (fun r s=>M (ups P k q r) (ups C k x s))=d:=by
    rw [h.det]
    exact det_congr fun r s hr hs=>by unfold ups; rw [if_neg (by omega),if_neg (by omega)]
  have e4:sm k (fun i=>z i x*M (ups P k q k) (ups C k x i))=sm k fun i=>z i x*M q (C i):=sm_congr fun i hi=>by rw [e1]; unfold ups; rw [if_neg (by omega)]
  have e5:otE M C k d z q x=DT.det (k+1) (fun r s=>M (ups P k q r) (ups C k x s)):=by
    rw [e,e3]
    show otE M C k d z q x=(M (ups P k q k) (ups C k x k) - sm k fun i=>z i x*M (ups P k q k) (ups C k x i))*d
    rw [e4,e1,e2]
    unfold otE
    grind
  rw [e5]
  exact IsN.det fun r c _ _=>hM _ _
end DT
namespace L2
open PySem PySem.Spec PyProof.Rows
theorem insert_list {prog:Program} {w:World} {A:Around} {E:Value->Shared->Prop} {s:Shared} {Q:Value->Shared->Prop} (l:Addr) (items:Array Value) (n:Nat) (x:Int) (u:Tok) (y:Value) (hc0:¬(!Builtin.List.listFitsIndex x)=true) (hsz:items.size<=sizeLine) (e:s.heap.get? l=some {cls:=.type "list",dict:=none,data:=.seq items n,slots:=#[]})
    (h:Q .none {s with heap:=s.heap.update l (Obj.mapSeq fun xs=>have k:=if x < 0 then(x+((xs.size:Nat):Int)).toNat else min x.toNat xs.size; (xs.extract 0 k).push y++xs.extract k)}):
    wpAny (model prog w) A (call (.builtin "list.insert") [.ref l,.int x u,y]) Q E s:=by
  have h1:=@AutoListH.list_insert_list_int_val_1 l items n x u y hc0 hsz
  have h2:=@call_meets prog w A E s "list" "insert" "list.insert" _ (.ref l) [.int x u,y] _ Q F.slot_list_insert ⟨_,e,rfl⟩ F.entry_list_insert (F.args_list_insert_3 _ _ _) h1
  exact h2 ⟨e,h⟩
section
variable {X:Cx}
def rInsert:V->List V->Hp->VK->Prop:=fun x vs H Q=>∃ (l:Addr) (xs:List V) (i:Nat) (y:V),x=.ref l/\vs=[.int (i:Nat),y]/\H l=some (.lst xs)/\i<=xs.length/\xs.length < 300/\Q .non (upd H l (.lst (xs.take i++y::xs.drop i)))
theorem mt_insert:MtM X "list.insert" rInsert:=by
  intro pins s σ H x vs v us Q I rx rv h
  obtain⟨l,xs,i,y,rfl,rfl,hH,hi,hl9,q⟩:=h
  cases rx
  obtain⟨z,its,n,r,hl,e⟩:=I.lstM hH
  obtain⟨u1,u2,rfl,⟨t,rfl⟩,r2⟩:∃ u1 u2,us=[u1,u2]/\RelV (.int (i:Nat)) u1/\RelV y u2:=by
    match us,rv with
    | [u1,u2],.cons r1 (.cons r2 .nil)=>exact⟨u1,u2,rfl,r1,r2⟩
  have hz:300<=sizeLine:=Nat.le_of_ble_eq_true (rfl:Nat.ble 300 sizeLine=true)
  have b1:-(2 ^ 63)<=((i:Nat):Int):=by omega
  have b2:((i:Nat):Int) < 2 ^ 63:=by omega
  have hf:¬ (!Builtin.List.listFitsIndex ((i:Nat):Int))=true:=by
    rw [fitsIndex_both b1 b2]
    exact Bool.false_ne_true
  have hs:its.toArray.size<=sizeLine:=by rw [List.size_toArray]; omega
  refine insert_list l its.toArray n _ t u2 hf hs e ?_
  refine⟨.non,_,I.lset (its':=its.take i++u2::its.drop i) hH e ?_ ((r.take i).append (.cons r2 (r.drop i))) ?_,rfl,q⟩
  · have hk:(if ((i:Nat):Int) < 0 then(((i:Nat):Int)+((its.toArray.size:Nat):Int)).toNat else min ((i:Nat):Int).toNat its.toArray.size)=i:=by
      rw [if_neg (by omega),Int.toNat_natCast,List.size_toArray]
      omega
    show(its.toArray.extract 0 (if ((i:Nat):Int) < 0 then(((i:Nat):Int)+((its.toArray.size:Nat):Int)).toNat else min ((i:Nat):Int).toNat its.toArray.size)).push u2++its.toArray.extract (if ((i:Nat):Int) < 0 then(((i:Nat):Int)+((its.toArray.size:Nat):Int)).toNat else min ((i:Nat):Int).toNat its.toArray.size)=_
    rw [hk]
    apply Array.ext'
    simp
    rw [List.take_of_length_le (by rw [List.length_drop]; omega)]
  · rw [List.length_append,List.length_cons,List.length_take,List.length_drop]
    omega
end
end L2
namespace DL
open PySem PySem.Spec PyProof.Rows L2
def dIns (go gi ge:DE):DE:=fun L S k=>go L S fun d S1=>match d with
  | .ref a=>(∃ ds,S1 a=some (.lst ds))/\gi L S1 fun y S2=>ge L S2 fun e S3=>∃ (i:Nat) (ds:List D),y=.int (i:Nat)/\S3 a=some (.lst ds)/\i<=ds.length/\ds.length < 300/\k .non (put S3 a (.lst (ds.take i++e::ds.drop i)))
  | _=>False
section
variable {X:Cx} {o e1 e2:Expr} {go gi ge:DE} {apos cpos:Pos}
theorem d_insj (ho:EJ X o go) (hi:EJ X e1 gi) (he:EJ X e2 ge) (hbase:attributeBase o "insert" X.env (eval o X.env)=eval o X.env:=by rfl)
    (hfew:((backTo cpos (starEach [e1,e2] X.env)).all (fun x=>!x.1) && (backToKw cpos (keywordEach [] X.env)).all (fun x=>x.1.isSome) && decide ([e1,e2].length+([]:List Keyword).length+(if ([]:List Keyword).isEmpty then 0 else 1) < 30))=true:=by rfl)
    (hline:(apos.endLine == cpos.line)=true:=by rfl) (hs:starEach [e1,e2] X.env=(false,eval e1 X.env)::starEach [e2] X.env:=by rfl) (hs2:starEach [e2] X.env=(false,eval e2 X.env)::starEach [] X.env:=by rfl) (hpl:(backTo cpos (starEach [e2] X.env)).any (·.1)=false:=by rfl):
    EJ X (.Call (.Attribute o "insert" apos) [e1,e2] [] cpos) (dIns go gi ge):=
  ⟨PE.imp (pe_bm PySem.F.plainAttrs_list PySem.F.slot_list_insert PySem.F.type_list_insert mt_insert ho.h (pa_cons hi.h (pa_cons he.h pa_nil hs2) hs) hbase hfew hline hs hpl) fun σ H Q ⟨L,S,k,hL,hS,h,n⟩=>up.go hL hS h fun d S1 v H1 h1 k1 hL1 hS1 i1=>by
    cases d with
    | ref a=>
      have q1:=isRef.mp i1
      subst q1
      obtain⟨⟨ds1,z1⟩,h1⟩:=h1
      obtain⟨xs1,hl1,_⟩:=hS1.lst z1
      refine⟨.inl ⟨rfl,xs1,SqL.of hl1⟩,up.go hL1 hS1 h1 fun d2 S2 v2 H2 h2 k2 hL2 hS2 i2=>up.go hL2 hS2 h2 fun d3 S3 v3 H3 h3 k3 hL3 hS3 i3=>?_⟩
      obtain⟨i,ds,rfl,z,hi,hl,w⟩:=h3
      have q2:=isInt.mp i2
      subst q2
      obtain⟨xs,hl3,j⟩:=hS3.lst z
      have hj:=j.length
      have k4:Kp H3 (upd H3 a (.lst (xs.take i++v3::xs.drop i))):=Kp.mut hl3 (fun z=>z)
      exact⟨a,xs,i,v3,rfl,rfl,hl3,by omega,by omega,n _ _ _ _ w (k1.trans (k2.trans (k3.trans k4))) (hS3.setL hl3 ((j.take i).append (IsDs.cons i3 (j.drop i)))) (isNon.mpr rfl)⟩
    | _=>exact(show False from h1).elim⟩
end
end DL
namespace PySem
open Sem (wp)
open Builtin
theorem list_extend_tupM (l:Addr) (items:Array Value) (n:Nat) (b:Addr) (items2:Array Value) (n2:Nat) (dd:Option Addr) (sl:Array (Option Value)) (hs0:¬(!items.isEmpty && Builtin.List.listTooLong (items.size+items2.size))=true) (hs1:items.size<=sizeLine) (hs2:items.size+items2.size<=sizeLine+1):
    Meets (Builtin.«list.extend» ⟨[.ref l,.ref b],[]⟩) (fun _ R s=>s.heap.get? l=some {cls:=.type "list",dict:=none,data:=.seq items n,slots:=#[]}/\s.heap.get? b=some {cls:=.type "tuple",dict:=dd,data:=.seq items2 n2,slots:=sl}/\R (.ok (.ret Value.none)) {s with heap:=s.heap.update l (Obj.mapSeq fun x=>x++items2),toks:=s.toks}):=
  .of_wp fun prog w A R s h=>by
    obtain⟨hp,g,d,tk,os⟩:=s
    obtain⟨hl,hb,h⟩:=h
    have f2:=AutoSeq1.sub_tuple_tuple
    have f3:=AutoSeq1.sub_list_list
    have f4:=AutoSeq1.sub_tuple_list
    have f5:=AutoSeq1.sub_list_tuple
    have hz':(items++items2).size<=sizeLine+1:=by rw [Array.size_append]; exact hs2
    wp_walk using (wpAny_updateSeq hl rfl (hz:=hs1) (_hz':=hz')),wpAny_loadPart' hl,wpAny_loadPart' hb
    exact⟨_,rfl,h⟩
theorem tuple_mul1M (l:Addr) (items:Array Value) (n:Nat) (dd:Option Addr) (sl:Array (Option Value)) (u:Tok):
    Meets (Builtin.«tuple.__mul__» ⟨[.ref l,.int 1 u],[]⟩) (fun _ R s=>s.heap.get? l=some {cls:=.type "tuple",dict:=dd,data:=.seq items n,slots:=sl}/\R (.ok (.ret (Value.ref l))) s):=
  .of_wp fun prog w A R s h=>by
    obtain⟨hp,g,d,tk,os⟩:=s
    obtain⟨hl,h⟩:=h
    unfold Builtin.«tuple.__mul__»
    wp_walk
    exact⟨_,rfl,h⟩
end PySem
namespace L2
open PySem PySem.Spec PyProof.Rows
section
variable {X:Cx}
def rExtendT (K:PySem.W.Frag):V->List V->Hp->VK->Prop:=fun x vs H Q=>∃ l b xs zs,x=.ref l/\vs=[.ref b]/\H l=some (.lst xs)/\SqT K H b zs/\xs.length+zs.length<=sizeLine/\Q .non (upd H l (.lst (xs++zs)))
theorem mt_extendT:MtM X "list.extend" (rExtendT X.K):=by
  intro pins s σ H x vs v us Q I rx rv h
  obtain⟨l,b,xs,zs,rfl,rfl,hH,hB,hz,q⟩:=h
  cases rx
  obtain⟨u,rfl,ru⟩:=rv.one
  cases ru
  obtain⟨z,its,n,r,hl,e⟩:=I.lstM hH
  obtain⟨its2,r2,pt,z2⟩:=I.tuple hB
  have hl2:=r2.length
  obtain⟨⟨cls,dd,data,sl⟩,ho,hc,n2,hd⟩:=pt
  simp only at hc hd
  subst hc hd
  have hsz:its.toArray.size+its2.toArray.size<=sizeLine:=by rw [List.size_toArray,List.size_toArray]; omega
  have hlong:¬ (!its.toArray.isEmpty && Builtin.List.listTooLong (its.toArray.size+its2.toArray.size))=true:=by
    rw [notLongL hsz,Bool.and_false]
    exact Bool.false_ne_true
  refine call_meets F.slot_list_extend ⟨_,e,rfl⟩ F.entry_list_extend (F.args_list_extend_2 _ _)
    (list_extend_tupM l its.toArray n b its2.toArray n2 dd sl hlong (by rw [List.size_toArray]; omega) (by omega)) ⟨e,ho,?_⟩
  refine⟨.non,_,I.lset (its':=its++its2) hH e (by simp) (r.append r2) ?_,rfl,q⟩
  rw [List.length_append]
  omega
theorem MtM.or {id:String} {r r':V->List V->Hp->VK->Prop} (h:MtM X id r) (h':MtM X id r'):MtM X id (fun x vs H Q=>r x vs H Q\/r' x vs H Q):=by
  intro pins s σ H x vs v us Q I rx rv q
  rcases q with q | q
  · exact h pins s σ H x vs v us Q I rx rv q
  · exact h' pins s σ H x vs v us Q I rx rv q
theorem op_repT1:OpR X (binaryOp .Mult) (fun x y H Q=>∃ a xs,x=.ref a/\y=.int 1/\SqT X.K H a xs/\Q (.ref a) H):=by
  intro pins s σ H x y v u Q I rx ry h
  obtain⟨a,xs,rfl,rfl,hx,q⟩:=h
  cases rx
  obtain⟨t,rfl⟩:=ry
  obtain⟨its,r,pt,hz⟩:=I.tuple hx
  obtain⟨⟨cls,dd,data,sl⟩,ho,hc,n,hd⟩:=pt
  simp only at hc hd
  subst hc hd
  exact wpAny_binaryOp_repeat_ref (T:="tuple") (U:="int") (by decide) ⟨_,ho,rfl⟩ (fun s'=>typeIs_int s' 1 t) noFill_tuple_mulM F.fills_int_mul F.slot_int_rmul repeat_tupleM F.slot_int_index.lookup
    (call_meets F.slot_int_rmul (typeIs_int s 1 t) F.entry_int_rmul (F.args_int_rmul_2 _ _) (int_rmul_tupleM 1 t a its.toArray n dd sl)
      ⟨ho,rfl,⟨_,ho,rfl⟩,call_meets F.slot_tuple_mul ⟨_,ho,rfl⟩ F.entry_tuple_mul (F.args_tuple_mul_2 _ _) (tuple_mul1M a its.toArray n dd sl t) ⟨ho,⟨.ref a,H,I,rfl,q⟩⟩⟩)
end
end L2
namespace DL
open PySem PySem.Spec PyProof.Rows L2
def dExtT (go ge:DE):DE:=fun L S k=>go L S fun d S1=>match d with
  | .ref a=>(∃ ds,S1 a=some (.lst ds))/\ge L S1 fun e S2=>match e with
    | .ref b=>∃ ds es,S2 a=some (.lst ds)/\S2 b=some (.lst es)/\ds.length+es.length<=sizeLine/\k .non (put S2 a (.lst (ds++es)))
    | .tup es=>∃ ds,S2 a=some (.lst ds)/\ds.length+es.length<=sizeLine/\k .non (put S2 a (.lst (ds++es)))
    | _=>False
  | _=>False
section
variable {X:Cx} {o e:Expr} {go ge:DE} {apos cpos:Pos}
theorem d_extTj (ho:EJ X o go) (he:EJ X e ge) (hbase:attributeBase o "extend" X.env (eval o X.env)=eval o X.env:=by rfl)
    (hfew:((backTo cpos (starEach [e] X.env)).all (fun x=>!x.1) && (backToKw cpos (keywordEach [] X.env)).all (fun x=>x.1.isSome) && decide ([e].length+([]:List Keyword).length+(if ([]:List Keyword).isEmpty then 0 else 1) < 30))=true:=by rfl)
    (hline:(apos.endLine == cpos.line)=true:=by rfl) (hs:starEach [e] X.env=(false,eval e X.env)::starEach [] X.env:=by rfl) (hpl:(backTo cpos (starEach [] X.env)).any (·.1)=false:=by rfl):
    EJ X (.Call (.Attribute o "extend" apos) [e] [] cpos) (dExtT go ge):=
  ⟨PE.imp (pe_bm PySem.F.plainAttrs_list PySem.F.slot_list_extend PySem.F.type_list_extend (MtM.or mt_extend mt_extendT) ho.h (pa_cons he.h pa_nil hs) hbase hfew hline hs hpl) fun σ H Q ⟨L,S,k,hL,hS,h,n⟩=>up.go hL hS h fun d S1 v H1 h1 k1 hL1 hS1 i1=>by
    cases d with
    | ref a=>
      have e1:=isRef.mp i1
      subst e1
      obtain⟨⟨ds1,z1⟩,h1⟩:=h1
      obtain⟨xs1,hl1,_⟩:=hS1.lst z1
      refine⟨.inl ⟨rfl,xs1,SqL.of hl1⟩,up.go hL1 hS1 h1 fun d2 S2 v2 H2 h2 k2 hL2 hS2 i2=>?_⟩
      cases d2 with
      | ref b=>
        have e2:=isRef.mp i2
        subst e2
        obtain⟨ds,es,z,y,hz,w⟩:=h2
        obtain⟨xs,hl,j⟩:=hS2.lst z
        obtain⟨ys,hm,i⟩:=hS2.lst y
        have k3:Kp H2 (upd H2 a (.lst (xs++ys))):=Kp.mut hl (fun z=>z)
        exact .inl ⟨a,b,xs,ys,rfl,rfl,hl,hm,by rw [<- j.length,<- i.length]; exact hz,n _ _ _ _ w (k1.trans (k2.trans k3)) (hS2.setL hl (j.append i)) (isNon.mpr rfl)⟩
      | tup es=>
        obtain⟨b,ys,rfl,t,i⟩:=isTup.mp i2
        obtain⟨ds,z,hz,w⟩:=h2
        obtain⟨xs,hl,j⟩:=hS2.lst z
        have k3:Kp H2 (upd H2 a (.lst (xs++ys))):=Kp.mut hl (fun z=>z)
        exact .inr ⟨a,b,xs,ys,rfl,rfl,hl,t,by rw [<- j.length,<- i.length]; exact hz,n _ _ _ _ w (k1.trans (k2.trans k3)) (hS2.setL hl (j.append i)) (isNon.mpr rfl)⟩
      | _=>exact(show False from h2).elim
    | _=>exact(show False from h1).elim⟩
end
def dMulU:D2:=fun d e S k=>match d,e with
  | .tup xs,.int j=>xs≠[]/\1<=j/\j < 1000/\xs.length*j.toNat<=1000/\k (.tup (List.replicate j.toNat xs).flatten) S
  | d,e=>dMulF d e S k
theorem o_mulU {X:Cx}:OpR X (binaryOp .Mult) (upR X.K dMulU):=by
  intro pins s σ H x y v u Q I rx ry h
  obtain⟨d,e,S,k,i1,i2,hS,r,m⟩:=h
  unfold dMulU at r
  split at r
  · rename_i xs j
    obtain⟨h1,h2,h3,h4,w⟩:=r
    by_cases hj:j=1
    · subst hj
      obtain⟨a,vs,rfl,t1,j1⟩:=isTup.mp i1
      have e2:=isInt.mp i2
      subst e2
      have ew:(List.replicate (1:Int).toNat xs).flatten=xs:=by show(List.replicate 1 xs).flatten=xs; simp
      rw [ew] at w
      exact op_repT1 pins s σ H _ _ v u Q I rx ry ⟨a,vs,rfl,rfl,t1,m _ S _ H w (Kp.refl H) hS i1⟩
    · exact o_mulT pins s σ H x y v u Q I rx ry ⟨.tup xs,.int j,S,k,i1,i2,hS,⟨h1,by omega,h3,h4,w⟩,m⟩
  · exact o_mulF pins s σ H x y v u Q I rx ry ⟨_,_,S,k,i1,i2,hS,r,m⟩
inductive Kept (K:Fg):List Value->List (List Int)->Prop
  | nil:Kept K [] []
  | cons {p:Addr} {o:Obj} {its:Array Value} {n:Nat} {ns:List Int} {vs:List Value} {nss:List (List Int)} (h1:K.lookup p=some o) (h2:o.cls=.type "tuple") (h3:o.data=.seq its n) (h4:its.size<=sizeLine) (h5:Vals (ns.map V.int) its.toList) (r:Kept K vs nss):Kept K (.ref p::vs) (ns::nss)
def GTup2 (K:Fg) (mg:Str->Option Value) (x:Str) (nss:List (List Int)):Prop:=∃ p o its n,mg x=some (.ref p)/\K.lookup p=some o/\o.cls=.type "tuple"/\o.data=.seq its n/\its.size<=sizeLine/\Kept K its.toList nss
theorem Kept.vals {K:Fg}:∀ {vs:List Value} {nss:List (List Int)},Kept K vs nss->∃ us:List V,Vals us vs/\∀ H,IsDs K H (nss.map fun ns=>.tup (ns.map D.int)) us
  | _,_,.nil=>⟨[],.nil,fun _=>IsDs.nil⟩
  | _,_,.cons (p:=p) h1 h2 h3 h4 h5 r=>by
    obtain⟨us,a,b⟩:=r.vals
    exact⟨.ref p::us,.cons rfl a,fun H=>IsDs.cons (isTup.mpr ⟨p,_,rfl,.inr ⟨_,_,_,h1,h2,h3,h4,h5⟩,isDs_ints _⟩) (b H)⟩
theorem d_gtup2 {X:Cx} {x:Str} {nss:List (List Int)} {pos:Pos} (g:GTup2 X.K X.mg x nss) (hg:Gl X x) (hd:(x == ("__debug__":Str))=false:=by decide):EJ X (.Name x pos) (dC (.tup (nss.map fun ns=>.tup (ns.map D.int)))):=by
  obtain⟨p,o,its,n,hm,h1,h2,h3,h4,h5⟩:=g
  obtain⟨us,a,b⟩:=h5.vals
  exact⟨d_c (pe_glob (v:=.ref p) hg hm rfl hd) fun H=>isTup.mpr ⟨p,us,rfl,.inr ⟨o,its,n,h1,h2,h3,h4,a⟩,b H⟩⟩
end DL
namespace DT
theorem sm_sk {f:Nat->Rat}:∀ {n j:Nat},j < n+1->sm (n+1) f=f j+sm n (fun i=>f (sk j i))
  | 0,j,h=>by
    have:j=0:=by omega
    subst this
    unfold sm sm
    grind
  | n+1,j,h=>by
    by_cases e:j=n+1
    · subst e
      have:sm (n+1) (fun i=>f (sk (n+1) i))=sm (n+1) f:=sm_congr fun i hi=>by unfold sk; rw [if_pos hi]
      rw [this]
      show sm (n+1) f+f (n+1)=_
      grind
    · have ih:=sm_sk (f:=f) (n:=n) (j:=j) (by omega)
      show sm (n+1) f+f (n+1)=f j+(sm n (fun i=>f (sk j i))+f (sk j n))
      have:sk j n=n+1:=by unfold sk; rw [if_neg (by omega)]
      rw [ih,this]
      grind
theorem sm_swap {f:Nat->Nat->Rat}:∀ {m n:Nat},sm m (fun i=>sm n (f i))=sm n (fun j=>sm m (fun i=>f i j))
  | 0,n=>by
    show(0:Rat)=_
    exact(sm_zero fun _ _=>rfl).symm
  | m+1,n=>by
    show sm m (fun i=>sm n (f i))+sm n (f m)=_
    rw [sm_swap (m:=m),<- sm_add]
    rfl
theorem null_vec:∀ (c k:Nat) (A:Mx),c < k->∃ x:Nat->Rat,(∃ j,j < k/\x j≠0)/\∀ i,i < c->sm k (fun j=>x j*A i j)=0
  | 0,k,A,h=>⟨fun _=>1,⟨0,h,by decide⟩,fun i hi=>absurd hi (by omega)⟩
  | c+1,k,A,h=>by
    by_cases hz:∀ j,j < k->A c j=0
    · obtain⟨x,hx,hs⟩:=null_vec c k A (by omega)
      refine⟨x,hx,fun i hi=>?_⟩
      by_cases e:i=c
      · subst e
        exact sm_zero fun j hj=>by rw [hz j hj]; grind
      · exact hs i (by omega)
    · obtain⟨j0,hj0⟩:=Classical.not_forall.mp hz
      obtain⟨hj,hne⟩:=Classical.not_imp.mp hj0
      obtain⟨n,rfl⟩:∃ n,k=n+1:=⟨k - 1,by omega⟩
      obtain⟨y,⟨j1,hj1,hy1⟩,hs⟩:=null_vec c n (fun i j=>A i (sk j0 j) - A i j0*(A c (sk j0 j) / A c j0)) (by omega)
      have hsk:∀ j,(if sk j0 j < j0 then sk j0 j else sk j0 j - 1)=j:=fun j=>by
        by_cases h:j < j0
        · have:sk j0 j=j:=by unfold sk; rw [if_pos h]
          rw [this,if_pos h]
        · have:sk j0 j=j+1:=by unfold sk; rw [if_neg h]
          rw [this,if_neg (by omega)]
          omega
      have hskn:∀ j,sk j0 j≠j0:=fun j=>by unfold sk; split <;> omega
      refine⟨fun i=>if i=j0 then - (sm n fun j=>y j*(A c (sk j0 j) / A c j0)) else y (if i < j0 then i else i - 1),⟨sk j0 j1,by unfold sk; split <;> omega,by dsimp only; rw [if_neg (hskn j1),hsk]; exact hy1⟩,fun i hi=>?_⟩
      rw [sm_sk hj]
      dsimp only
      rw [if_pos rfl]
      have e1:sm n (fun j=>(if sk j0 j=j0 then - (sm n fun j=>y j*(A c (sk j0 j) / A c j0)) else y (if sk j0 j < j0 then sk j0 j else sk j0 j - 1))*A i (sk j0 j))=sm n (fun j=>y j*A i (sk j0 j)):=sm_congr fun j _=>by rw [if_neg (hskn j),hsk]
      rw [e1]
      by_cases e:i=c
      · subst e
        have e2:sm n (fun j=>y j*A i (sk j0 j))=A i j0*sm n (fun j=>y j*(A i (sk j0 j) / A i j0)):=by
          rw [<- sm_mul]
          refine sm_congr fun j _=>?_
          grind
        rw [e2]
        grind
      · have h2:=hs i (by omega)
        have e3:sm n (fun j=>y j*(A i (sk j0 j) - A i j0*(A c (sk j0 j) / A c j0)))=sm n (fun j=>y j*A i (sk j0 j))+(- A i j0)*sm n (fun j=>y j*(A c (sk j0 j) / A c j0)):=by
          rw [<- sm_mul,<- sm_add]
          refine sm_congr fun j _=>?_
          grind
        rw [e3] at h2
        grind
theorem rank_le {M:Mx} {P P' C C':Nat->Nat} {k k' R N:Nat} {d':Rat} {z z':Nat->Nat->Rat} (h':BS M P' C' k' d' z') (hP':∀ r,r < k'->P' r < R) (hC':∀ r,r < k'->C' r < N)
    (hall:∀ q,q < R->∀ x,x < N->M q x=sm k (fun j=>z j x*M q (C j))):k'<=k:=by
  rcases Nat.lt_or_ge k k' with hlt | hge
  · obtain⟨y,⟨j1,hj1,hy1⟩,hs⟩:=null_vec k k' (fun j i=>z j (C' i)) hlt
    exfalso
    have key:∀ r,r < k'->sm k' (fun i=>y i*M (P' r) (C' i))=0:=fun r hr=>by
      have e1:sm k' (fun i=>y i*M (P' r) (C' i))=sm k' (fun i=>sm k (fun j=>y i*(z j (C' i)*M (P' r) (C j)))):=sm_congr fun i hi=>by
        rw [hall _ (hP' r hr) _ (hC' i hi),sm_mul]
      rw [e1,sm_swap]
      refine sm_zero fun j hj=>?_
      have e2:sm k' (fun i=>y i*(z j (C' i)*M (P' r) (C j)))=M (P' r) (C j)*sm k' (fun i=>y i*z j (C' i)):=by
        rw [<- sm_mul]
        exact sm_congr fun i _=>by grind
      rw [e2,hs j hj]
      grind
    have hc:=cramer (n:=k') (j:=j1) (M:=fun r c=>M (P' r) (C' c)) (z:=y) (u:=fun _=>0) hj1 key
    have hd:det k' (cl (fun r c=>M (P' r) (C' c)) j1 fun _=>0)=0:=by
      have:=det_mul (n:=k') (a:=j1) (M:=fun r c=>M (P' r) (C' c)) (u:=fun _=>0) (k:=0) hj1
      have e:(fun r:Nat=>(0:Rat)*(fun _:Nat=>(0:Rat)) r)=fun _=>0:=by funext r; grind
      rw [e] at this
      grind
    rw [hd] at hc
    have:=h'.ne
    rw [h'.det] at this
    grind
  · exact hge
end DT
namespace DL
open PySem PySem.Spec PyProof.Rows L2
theorem IsDs.dropLast {K:Fg} {H:Hp}:∀ {ds:List D} {vs:List V},IsDs K H ds vs->IsDs K H ds.dropLast vs.dropLast
  | [],_,h=>by rw [isNil.mp h]; exact IsDs.nil
  | [d],_,h=>by
    obtain⟨v,r,rfl,h1,h2⟩:=isCons.mp h
    rw [isNil.mp h2]
    exact IsDs.nil
  | d::d'::ds,_,h=>by
    obtain⟨v,r,rfl,h1,h2⟩:=isCons.mp h
    obtain⟨v',r',rfl,h3,h4⟩:=isCons.mp h2
    exact IsDs.cons h1 (IsDs.dropLast (IsDs.cons h3 h4))
section
variable {X:Cx} {o:Expr} {go:DE} {apos cpos:Pos}
def dPop0 (go:DE):DE:=fun L S k=>go L S fun d S1=>match d with
  | .ref a=>∃ ds c,S1 a=some (.lst ds)/\ds[ds.length - 1]?=some c/\k c (put S1 a (.lst ds.dropLast))
  | _=>False
theorem d_pop0j (ho:EJ X o go) (hbase:attributeBase o "pop" X.env (eval o X.env)=eval o X.env:=by rfl) (hline:(apos.endLine == cpos.line)=true:=by rfl):EJ X (.Call (.Attribute o "pop" apos) [] [] cpos) (dPop0 go):=
  ⟨PE.imp (pe_bm0 PySem.F.plainAttrs_list PySem.F.slot_list_pop PySem.F.type_list_pop mt_pop ho.h hbase hline) fun σ H Q ⟨L,S,k,hL,hS,h,n⟩=>up.go hL hS h fun d S1 v H1 h1 k1 hL1 hS1 i1=>by
    cases d with
    | ref a=>
      have e1:=isRef.mp i1
      subst e1
      obtain⟨ds,c,z,hc,w⟩:=h1
      obtain⟨xs,hl,j⟩:=hS1.lst z
      obtain⟨y,hy,iy⟩:=j.get hc
      have k3:Kp H1 (upd H1 a (.lst xs.dropLast)):=Kp.mut hl (fun z=>z)
      exact⟨.inl ⟨rfl,xs,SqL.of hl⟩,a,xs,y,rfl,rfl,hl,by rw [<- j.length]; exact hy,n _ _ _ _ w (k1.trans k3) (hS1.setL hl j.dropLast) (iy.kp k3)⟩
    | _=>exact(show False from h1).elim⟩
end
def dEqL:D2:=fun d e S k=>match d,e with
  | .ref a,.ref c=>∃ xs ys b,S a=some (.lst xs)/\S c=some (.lst ys)/\((xs.length=ys.length/\eqTs (eqT 7) xs ys=some b)\/(xs.length≠ys.length/\b=false))/\k (.bl b) S
  | d,e=>∃ b,eqT 8 d e=some b/\k (.bl b) S
theorem eqLen_at {X:Cx} {pins:List (Addr×Obj)} {σ:L2.St} {H:Hp} {s:Shared} {S:DH} {a c:Addr} {xs ys:List D} (I:Inv X pins σ H s) (hS:Hs X.K H S) (h1:S a=some (.lst xs)) (h2:S c=some (.lst ys)) (hl:xs.length≠ys.length) (A:Around) (hu:A.units < cLine):
    SeqAt.RcAt A s (.ref a) (.ref c) false:=by
  obtain⟨v1,g1,j1⟩:=hS.lst h1
  obtain⟨v2,g2,j2⟩:=hS.lst h2
  obtain⟨u1,r1,p1,_⟩:=I.list (SqL.of g1)
  obtain⟨u2,r2,p2,_⟩:=I.list (SqL.of g2)
  refine SeqAt.RcAt.lists_lengths p1.isList p2.isList ?_ hu
  have e1:=j1.length.trans r1.length
  have e2:=j2.length.trans r2.length
  simp only [List.size_toArray,bne_iff_ne,ne_eq]
  omega
theorem o_eqL {X:Cx} {n:Nat} (hr:Room n X.A):OpR X (compareOp .Eq) (upR X.K dEqL):=by
  intro pins s σ H x y v u Q I rx ry h
  obtain⟨d,e,S,k,i1,i2,hS,r,m⟩:=h
  have hu:=hr.units
  unfold dEqL at r
  split at r
  · obtain⟨xs,ys,b,h1,h2,h3,w⟩:=r
    rcases h3 with ⟨h3,h4⟩ | ⟨h3,rfl⟩
    · exact o_eqX hr pins s σ H x y v u Q I rx ry ⟨_,_,S,k,i1,i2,hS,⟨xs,ys,b,h1,h2,h3,h4,w⟩,m⟩
    · have e1:=isRef.mp i1
      have e2:=isRef.mp i2
      subst e1 e2
      cases rx
      cases ry
      exact(eqLen_at I hS h1 h2 h3 X.A (by omega)) X.prog X.w X.xe _ ⟨.bl false,H,I,rfl,up1 m hS w (isBl.mpr rfl)⟩
  · rename_i hn
    obtain⟨b,h1,w⟩:=r
    refine o_eqX hr pins s σ H x y v u Q I rx ry ⟨_,_,S,k,i1,i2,hS,?_,m⟩
    unfold dEqX
    split
    · rename_i a c
      exact(hn a c rfl rfl).elim
    · exact⟨b,h1,w⟩
end DL
namespace PySem
open Sem (wp)
open Builtin
theorem tuple_mul0M (l:Addr) (items:Array Value) (n:Nat) (dd:Option Addr) (sl:Array (Option Value)) (u:Tok) (h0:items.isEmpty=false):
    Meets (Builtin.«tuple.__mul__» ⟨[.ref l,.int 0 u],[]⟩) (fun _ R s=>s.heap.get? l=some {cls:=.type "tuple",dict:=dd,data:=.seq items n,slots:=sl}/\R (.ok (.ret (Value.ref s.heap.objs.size))) {s with heap:=s.heap.push {cls:=Value.type "tuple",data:=Data.seq #[]},toks:=s.toks}):=
  .of_wp fun prog w A R s h=>by
    obtain⟨hp,g,d,tk,os⟩:=s
    obtain⟨hl,h⟩:=h
    have e2:(items.isEmpty || (0:Int) == 1)=false:=by rw [h0]; rfl
    unfold Builtin.«tuple.__mul__»
    wp_walk
    exact⟨_,rfl,h⟩
end PySem
namespace L2
open PySem PySem.Spec PyProof.Rows
theorem op_repT0 {X:Cx}:OpR X (binaryOp .Mult) (fun x y H Q=>∃ a xs,x=.ref a/\y=.int 0/\SqT X.K H a xs/\xs≠[]/\∀ p,H p=none->Q (.ref p) (upd H p (.tup []))):=by
  intro pins s σ H x y v u Q I rx ry h
  obtain⟨a,xs,rfl,rfl,hx,hne,q⟩:=h
  cases rx
  obtain⟨t,rfl⟩:=ry
  obtain⟨its,r,pt,hz⟩:=I.tuple hx
  have hl:=r.length
  obtain⟨⟨cls,dd,data,sl⟩,ho,hc,n,hd⟩:=pt
  simp only at hc hd
  subst hc hd
  have e0:its.toArray.isEmpty=false:=by
    cases its with
    | nil=>exact absurd (List.length_eq_zero_iff.mp hl) hne
    | cons _ _=>rfl
  refine wpAny_binaryOp_repeat_ref (T:="tuple") (U:="int") (by decide) ⟨_,ho,rfl⟩ (fun s'=>typeIs_int s' 0 t) noFill_tuple_mulM F.fills_int_mul F.slot_int_rmul repeat_tupleM F.slot_int_index.lookup
    (call_meets F.slot_int_rmul (typeIs_int s 0 t) F.entry_int_rmul (F.args_int_rmul_2 _ _) (int_rmul_tupleM 0 t a its.toArray n dd sl)
      ⟨ho,rfl,⟨_,ho,rfl⟩,call_meets F.slot_tuple_mul ⟨_,ho,rfl⟩ F.entry_tuple_mul (F.args_tuple_mul_2 _ _) (tuple_mul0M a its.toArray n dd sl t e0) ⟨ho,?_⟩⟩)
  refine⟨.ref s.heap.objs.size,_,I.laid (t':=s.toks) (o:=.tup []) (fun b ob q=>Heap.get?_push_of_some _ q) (Nat.le_refl _) ?_,rfl,q _ (I.hok.fresh (Nat.le_refl _))⟩
  exact⟨Nat.zero_le _,_,.nil,IsTup.new _ _⟩
end L2
namespace DL
open PySem PySem.Spec PyProof.Rows L2
def dMulV:D2:=fun d e S k=>match d,e with
  | .tup xs,.int j=>xs≠[]/\0<=j/\j < 1000/\xs.length*j.toNat<=1000/\k (.tup (List.replicate j.toNat xs).flatten) S
  | d,e=>dMulF d e S k
theorem o_mulV {X:Cx}:OpR X (binaryOp .Mult) (upR X.K dMulV):=by
  intro pins s σ H x y v u Q I rx ry h
  obtain⟨d,e,S,k,i1,i2,hS,r,m⟩:=h
  unfold dMulV at r
  split at r
  · rename_i xs j
    obtain⟨h1,h2,h3,h4,w⟩:=r
    by_cases hj:j=0
    · subst hj
      obtain⟨a,vs,rfl,t1,j1⟩:=isTup.mp i1
      have e2:=isInt.mp i2
      subst e2
      refine op_repT0 pins s σ H _ _ v u Q I rx ry ⟨a,vs,rfl,rfl,t1,ne_nil_of j1 h1,fun p hp=>?_⟩
      have kp:Kp H (upd H p (.tup [])):=Kp.new hp
      exact m _ S _ _ w kp (hS.new hp) (isTup.mpr ⟨p,_,rfl,SqT.of upd_same,IsDs.nil⟩)
    · exact o_mulU pins s σ H x y v u Q I rx ry ⟨.tup xs,.int j,S,k,i1,i2,hS,⟨h1,by omega,h3,h4,w⟩,m⟩
  · exact o_mulF pins s σ H x y v u Q I rx ry ⟨_,_,S,k,i1,i2,hS,r,m⟩
end DL
namespace My
open PySem PySem.Spec PyProof.Rows L2 DL HM
set_option maxHeartbeats 4000000
def top (i : Nat) : Stmt := PySem.Challenge.pw_hingedraw_k35_weights_and_papers.main.body.getD i (.Pass ⟨0, 0, 0, 0⟩)
abbrev s_common_divisor:Stmt:=top 5
abbrev s_ratio:Stmt:=top 6
abbrev s_plus:Stmt:=top 7
abbrev s_minus:Stmt:=top 8
abbrev s_times:Stmt:=top 9
abbrev s_negative:Stmt:=top 10
abbrev s_place_of:Stmt:=top 12
abbrev s_plain_way:Stmt:=top 13
abbrev s_in_whole_numbers:Stmt:=top 17
abbrev s_cleared:Stmt:=top 20
abbrev s_first_with:Stmt:=top 19
abbrev s_reduced:Stmt:=top 21
abbrev s_without_shared:Stmt:=top 18
abbrev s_solutions:Stmt:=top 23
abbrev s_free_joints:Stmt:=top 26
abbrev s_way_of_rod:Stmt:=top 27
abbrev s_row_of_rod:Stmt:=top 28
abbrev s_rows_of_rods:Stmt:=top 29
abbrev s_rank_of:Stmt:=top 22
abbrev s_many_swings:Stmt:=top 30
abbrev s__law_cell_at:Stmt:=top 37
abbrev s__law_state:Stmt:=top 38
abbrev s__law_take:Stmt:=top 39
abbrev s__law_divisor:Stmt:=top 40
abbrev s__law_ratio:Stmt:=top 41
abbrev s__law_plus:Stmt:=top 42
abbrev s__law_minus:Stmt:=top 43
abbrev s__law_times:Stmt:=top 44
abbrev s__law_fraction:Stmt:=top 45
abbrev s__law_plain_point:Stmt:=top 46
abbrev s__law_way:Stmt:=top 48
abbrev s__law_linkage:Stmt:=top 47
abbrev s__law_table:Stmt:=top 49
abbrev s__law_rank:Stmt:=top 50
abbrev s_freedom:Stmt:=top 15
abbrev s_pull_at:Stmt:=top 31
abbrev s_balance:Stmt:=top 32
abbrev s_column_of:Stmt:=top 33
abbrev s_paper_of:Stmt:=top 34
abbrev s_is_right:Stmt:=top 35
abbrev s__law_balance:Stmt:=top 51
abbrev s__law_weights:Stmt:=top 52
abbrev s_law:Stmt:=top 53
theorem bt_abs:bootBuiltins "abs"=some (.builtin "abs"):=by decide +kernel
theorem bt_len:bootBuiltins "len"=some (.builtin "len"):=by decide +kernel
theorem bt_tuple:bootBuiltins "tuple"=some (.type "tuple"):=by decide +kernel
theorem bt_int:bootBuiltins "int"=some (.type "int"):=by decide +kernel
theorem bt_list:bootBuiltins "list"=some (.type "list"):=by decide +kernel
theorem bt_all:bootBuiltins "all"=some (.builtin "all"):=by decide +kernel
theorem bt_max:bootBuiltins "max"=some (.builtin "max"):=by decide +kernel
theorem bt_min:bootBuiltins "min"=some (.builtin "min"):=by decide +kernel
theorem bt_isinstance:bootBuiltins "isinstance"=some (.builtin "isinstance"):=by decide +kernel
theorem bt_bool:bootBuiltins "bool"=some (.type "bool"):=by decide +kernel
theorem ite_ne {y:Int} {A B:Prop} (h1:y≠0->A) (h2:y=0->B):if (!decide (y=0))=true then A else B:=by
  by_cases h:y=0
  · rw [if_neg (by simp [h])]; exact h2 h
  · rw [if_pos (by simp [h])]; exact h1 h
theorem ite_dec {p:Prop} [Decidable p] {A B:Prop} (h1:p->A) (h2:¬ p->B):if decide p=true then A else B:=by
  by_cases h:p
  · rw [if_pos (by simp [h])]; exact h1 h
  · rw [if_neg (by simp [h])]; exact h2 h
theorem ite_ndec {p:Prop} [Decidable p] {A B:Prop} (h1:¬ p->A) (h2:p->B):if (!decide p)=true then A else B:=by
  by_cases h:p
  · rw [if_neg (by simp [h])]; exact h2 h
  · rw [if_pos (by simp [h])]; exact h1 h
theorem ite_b {c:Bool} {A B:Prop} (h1:c=true->A) (h2:c=false->B):if c=true then A else B:=by
  cases c
  · exact iteF (h2 rfl)
  · exact iteT (h1 rfl)
theorem ite_nb {c:Bool} {A B:Prop} (h1:c=false->A) (h2:c=true->B):if (!c)=true then A else B:=by
  cases c
  · exact iteT (h1 rfl)
  · exact iteF (h2 rfl)
theorem atI_mem {ds:List D} {i:Int} (h0:0<=i) (h1:i < (ds.length:Int)):∃ d,L2.atI ds i=some d/\d∈ds:=by
  obtain⟨n,rfl⟩:=Int.eq_ofNat_of_zero_le h0
  have hn:n < ds.length:=by omega
  exact⟨ds[n],atI_nat (by simp [hn]),List.getElem_mem hn⟩
theorem loop_all {ok:DH->Prop} {g:DG} {b:DS} {M:DEnds} {P:D->Prop} (Iv:Lo->DH->Prop) (hok:∀ L S,Iv L S->ok S)
    (hs:∀ d L S N,P d->Iv L S->(∀ L' S',Iv L' S'->N L' S')->g d L S fun L1 S1=>b {M with nx:=N,ct:=N,bk:=M.nx} L1 S1) (hd:∀ L S,Iv L S->M.nx L S):∀ r,(∀ d∈r,P d)->∀ L S,Iv L S->dLoop ok g b M r L S
  | [],_,L,S,i=>⟨hok L S i,hd L S i⟩
  | d::r,hp,L,S,i=>⟨hok L S i,hs d L S _ (hp d List.mem_cons_self) i fun L' S' i'=>loop_all Iv hok hs hd r (fun e he=>hp e (List.mem_cons_of_mem _ he)) L' S' i'⟩
instance {n:Nat} {x:Int}:Decidable (Bt n x):=inferInstanceAs (Decidable (x.natAbs < 2 ^ n))
theorem few {ds:List D} (h:Nat.ble ds.length sizeLine=true:=by rfl):ds.length<=sizeLine:=Nat.le_of_ble_eq_true h
def SOK (S:DH) (a:Addr):Prop:=∃ n b,S a=some (.lst [.int n,.bl b])/\(b=false->0<=n/\n < 2147483647)
def Dr (a:Addr) (S S':DH):Prop:=SOK S' a/\∀ b o,b≠a->S b=some o->S' b=some o
theorem Dr.trans {a:Addr} {S S1 S2:DH} (h1:Dr a S S1) (h2:Dr a S1 S2):Dr a S S2:=⟨h2.1,fun b o n e=>h2.2 b o n (h1.2 b o n e)⟩
theorem SOK.ne {a p:Addr} {S:DH} (h:SOK S a) (hp:S p=none):p≠a:=by
  obtain⟨n,b,e,_⟩:=h
  intro z
  subst z
  rw [e] at hp
  cases hp
theorem SOK.new {a p:Addr} {S:DH} {o:DO} (h:SOK S a) (hp:S p=none):SOK (put S p o) a:=by
  have z:=h.ne hp
  obtain⟨n,b,e,q⟩:=h
  exact⟨n,b,by rw [put_ne (Ne.symm z)]; exact e,q⟩
theorem Dr.new {a p:Addr} {S:DH} {o:DO} (h:SOK S a) (hp:S p=none):Dr a S (put S p o):=
  ⟨h.new hp,fun b u n e=>by rw [put_ne (ne_put e hp)]; exact e⟩
theorem bt31 {x:Int} (h1:0<=x) (h2:x < 2147483648):Bt 31 x:=by
  unfold Bt
  omega
def N (u a b:Rat):D:=.tup [fr a,fr (ss b*u)]
theorem fr_neg {q:Rat}:D.tup [.int (-q.num),.int (q.den:Int)]=fr (-q):=by
  show _=D.tup [.int (-q).num,.int ((-q).den:Int)]
  rw [Rat.neg_num,Rat.neg_den]
theorem gcd_bt {n:Nat} {t b:Int} (h:b≠0) (hb:Bt n b):Bt n ((Int.gcd t b:Nat):Int):=by
  refine hb.le ?_
  have h1:Int.gcd t b ∣ b.natAbs:=by
    have:=Int.gcd_dvd_right t b
    exact(by have:=Int.natAbs_dvd_natAbs.mpr this; simpa using this)
  have:=Nat.le_of_dvd (by omega) h1
  omega
def F_common_divisor:DSp:=fun ds S k=>match ds with
  | [.int a,.int b]=>k (.int ((Int.gcd a b:Nat):Int)) S
  | _=>False
theorem sc_common_divisor:FnScope ["one","other","rest"] ["one","other"] (defScope s_common_divisor):=⟨rfl,rfl,rfl,by decide +kernel,rfl,by decide +kernel,by decide +kernel⟩
theorem ok_common_divisor {P:Program} {w:World} {K:Fg} {mg:Str->Option Value} {base:Heap} {f:Addr} {fd:FuncData} (Fn:Fun K "common_divisor" "common_divisor" s_common_divisor f fd) (z_abs:mg "abs"=none):
    FnOk P w K mg base CX0 1 f fd ["one","other"] (spU K F_common_divisor):=by
  refine Fn.okJ sc_common_divisor (fun ds S k h=>?_) (fun cdv A outer s H E hr=>⟨_,(ds_consj (dst_whilej PassesOwn.never (dt_cmpj o_ne (d_varj 1) d_intj (nomark _)) (ds_consj (dst_setj (i:=2) sc_common_divisor.nd (d_opj o_mod (d_varj 0) (d_varj 1))) (ds_consj (dst_setj (i:=0) sc_common_divisor.nd (d_varj 1)) (ds_onej (dst_setj (i:=1) sc_common_divisor.nd (d_varj 2)))))) (ds_onej (dst_retj (d_callBj b_abs rfl z_abs bt_abs (da_consj (d_varj 0) da_nilj))))),fun ds S k h=>?_⟩)
  · unfold F_common_divisor at h
    split at h
    · rfl
    · exact h.elim
  · unfold F_common_divisor at h
    split at h
    · rename_i a b
      refine⟨fun m L S'=>S'=S/\∃ x y r,L=[some (.int x),some (.int y),r]/\m=y.natAbs/\Int.gcd x y=Int.gcd a b,⟨_,rfl,a,b,_,rfl,rfl,rfl⟩,?_⟩
      rintro m L S' ⟨rfl,x,y,r,rfl,rfl,e⟩
      refine ite_ne (fun hy=>⟨fun L' S''=>∃ m',m' < y.natAbs/\S''=S'/\∃ x y r,L'=[some (.int x),some (.int y),r]/\m'=y.natAbs/\Int.gcd x y=Int.gcd a b,fun _ _ z=>z,hy,?_⟩) (fun hy=>?_)
      · exact⟨_,fmod_lt x y hy,rfl,y,x.fmod y,_,rfl,rfl,(gcd_fmod x y).trans e⟩
      · subst hy
        have e2:=gcd_zero x
        rw [e] at e2
        show k (.int (if x < 0 then -x else x)) S'
        rw [<- e2]
        exact h
    · exact h.elim
def F_ratio:DSp:=fun ds S k=>match ds with
  | [.int t,.int b]=>b≠0/\Bt 8000 b/\k (fr (Rat.divInt t b)) S
  | _=>False
theorem ratio_go {S:DH} {k:DK} {t b:Int} {q:Rat} (e:Rat.divInt t b=q) (h0:b≠0) (hb:Bt 8000 b) (h:k (fr q) S):F_ratio [.int t,.int b] S k:=by subst e; exact⟨h0,hb,h⟩
theorem sc_ratio:FnScope ["top","bottom","shared"] ["top","bottom"] (defScope s_ratio):=⟨rfl,rfl,rfl,by decide +kernel,rfl,by decide +kernel,by decide +kernel⟩
theorem ok_ratio {P:Program} {w:World} {K:Fg} {mg:Str->Option Value} {base:Heap} {f:Addr} {fd:FuncData} (Fn:Fun K "ratio" "ratio" s_ratio f fd) (c_common_divisor:Own P w K mg base "common_divisor" 1 F_common_divisor):
    FnOk P w K mg base CX0 2 f fd ["top","bottom"] (spU K F_ratio):=by
  refine Fn.okJ sc_ratio (fun ds S k h=>?_) (fun cdv A outer s H E hr=>⟨_,(ds_consj (dst_ifj (dt_cmpj o_eq (d_varj 1) d_intj (nomark _)) (ds_onej dst_neverj) ds_nilj) (ds_consj (dst_setj (i:=2) sc_ratio.nd (d_callj c_common_divisor (hr.mono (by decide)) rfl (da_consj (d_varj 0) (da_consj (d_varj 1) da_nilj)))) (ds_consj (dst_ifj (dt_cmpj o_lt (d_varj 1) d_intj (nomark _)) (ds_onej (dst_setj (i:=2) sc_ratio.nd (d_unj o_neg (d_varj 2)))) ds_nilj) (ds_onej (dst_retj (d_tupj (da_consj (d_opj o_div (d_varj 0) (d_varj 2)) (da_consj (d_opj o_div (d_varj 1) (d_varj 2)) da_nilj)))))))),fun ds S k h=>?_⟩)
  · unfold F_ratio at h
    split at h
    · rfl
    · exact h.elim
  · unfold F_ratio at h
    split at h
    · rename_i t b
      obtain⟨h0,hb,q⟩:=h
      have hg:=gcd_bt (t:=t) h0 hb
      have hs:=shr_ne (t:=t) h0
      have e1:=div_num (t:=t) h0
      have e2:=div_den (t:=t) h0
      have qq:k (.tup [.int (t.fdiv (shr t b)),.int (b.fdiv (shr t b))]) S:=by rw [e1,e2]; exact q
      unfold shr at qq hs
      refine ite_dec (fun z=>absurd z h0) (fun _=>ite_dec (fun hl=>?_) (fun hl=>?_))
      · rw [if_pos hl] at qq hs
        exact⟨dok hs hg.neg,dok hs hg.neg,few,qq⟩
      · rw [if_neg hl] at qq hs
        exact⟨dok hs hg,dok hs hg,few,qq⟩
    · exact h.elim
def F_plus:DSp:=fun ds S k=>∃ p q:Rat,ds=[fr p,fr q]/\Sz 4000 p/\Sz 4000 q/\k (fr (p+q)) S
theorem sc_plus:FnScope ["one","other"] ["one","other"] (defScope s_plus):=⟨rfl,rfl,rfl,by decide +kernel,rfl,by decide +kernel,by decide +kernel⟩
theorem ok_plus {P:Program} {w:World} {K:Fg} {mg:Str->Option Value} {base:Heap} {f:Addr} {fd:FuncData} (Fn:Fun K "plus" "plus" s_plus f fd) (c_ratio:Own P w K mg base "ratio" 2 F_ratio):
    FnOk P w K mg base CX0 3 f fd ["one","other"] (spU K F_plus):=by
  refine Fn.okJ sc_plus (fun ds S k h=>?_) (fun cdv A outer s H E hr=>⟨_,(ds_onej (dst_retj (d_callj c_ratio (hr.mono (by decide)) rfl (da_consj (d_opj o_add (d_opj o_mul (d_ixj x_ixE (d_varj 0) d_intj (fun _ _=>rfl)) (d_ixj x_ixE (d_varj 1) d_intj (fun _ _=>rfl))) (d_opj o_mul (d_ixj x_ixE (d_varj 1) d_intj (fun _ _=>rfl)) (d_ixj x_ixE (d_varj 0) d_intj (fun _ _=>rfl)))) (da_consj (d_opj o_mul (d_ixj x_ixE (d_varj 0) d_intj (fun _ _=>rfl)) (d_ixj x_ixE (d_varj 1) d_intj (fun _ _=>rfl))) da_nilj))))),fun ds S k h=>?_⟩)
  · obtain⟨_,_,rfl,_⟩:=h
    rfl
  · obtain⟨p,q,rfl,hp,hq,w⟩:=h
    exact⟨mok hp.num hq.den,mok hq.num hp.den,mok hp.den hq.den,ratio_go (add_of p q) (den_mul_ne p q) ((hp.den.mul hq.den).mono (by decide)) w⟩
def F_minus:DSp:=fun ds S k=>∃ p q:Rat,ds=[fr p,fr q]/\Sz 4000 p/\Sz 4000 q/\k (fr (p - q)) S
theorem sc_minus:FnScope ["one","other"] ["one","other"] (defScope s_minus):=⟨rfl,rfl,rfl,by decide +kernel,rfl,by decide +kernel,by decide +kernel⟩
theorem ok_minus {P:Program} {w:World} {K:Fg} {mg:Str->Option Value} {base:Heap} {f:Addr} {fd:FuncData} (Fn:Fun K "minus" "minus" s_minus f fd) (c_ratio:Own P w K mg base "ratio" 2 F_ratio):
    FnOk P w K mg base CX0 3 f fd ["one","other"] (spU K F_minus):=by
  refine Fn.okJ sc_minus (fun ds S k h=>?_) (fun cdv A outer s H E hr=>⟨_,(ds_onej (dst_retj (d_callj c_ratio (hr.mono (by decide)) rfl (da_consj (d_opj o_sub (d_opj o_mul (d_ixj x_ixE (d_varj 0) d_intj (fun _ _=>rfl)) (d_ixj x_ixE (d_varj 1) d_intj (fun _ _=>rfl))) (d_opj o_mul (d_ixj x_ixE (d_varj 1) d_intj (fun _ _=>rfl)) (d_ixj x_ixE (d_varj 0) d_intj (fun _ _=>rfl)))) (da_consj (d_opj o_mul (d_ixj x_ixE (d_varj 0) d_intj (fun _ _=>rfl)) (d_ixj x_ixE (d_varj 1) d_intj (fun _ _=>rfl))) da_nilj))))),fun ds S k h=>?_⟩)
  · obtain⟨_,_,rfl,_⟩:=h
    rfl
  · obtain⟨p,q,rfl,hp,hq,w⟩:=h
    exact⟨mok hp.num hq.den,mok hq.num hp.den,mok hp.den hq.den,ratio_go (sub_of p q) (den_mul_ne p q) ((hp.den.mul hq.den).mono (by decide)) w⟩
def F_times:DSp:=fun ds S k=>∃ p q:Rat,ds=[fr p,fr q]/\Sz 4000 p/\Sz 4000 q/\k (fr (p*q)) S
theorem sc_times:FnScope ["one","other"] ["one","other"] (defScope s_times):=⟨rfl,rfl,rfl,by decide +kernel,rfl,by decide +kernel,by decide +kernel⟩
theorem ok_times {P:Program} {w:World} {K:Fg} {mg:Str->Option Value} {base:Heap} {f:Addr} {fd:FuncData} (Fn:Fun K "times" "times" s_times f fd) (c_ratio:Own P w K mg base "ratio" 2 F_ratio):
    FnOk P w K mg base CX0 3 f fd ["one","other"] (spU K F_times):=by
  refine Fn.okJ sc_times (fun ds S k h=>?_) (fun cdv A outer s H E hr=>⟨_,(ds_onej (dst_retj (d_callj c_ratio (hr.mono (by decide)) rfl (da_consj (d_opj o_mul (d_ixj x_ixE (d_varj 0) d_intj (fun _ _=>rfl)) (d_ixj x_ixE (d_varj 1) d_intj (fun _ _=>rfl))) (da_consj (d_opj o_mul (d_ixj x_ixE (d_varj 0) d_intj (fun _ _=>rfl)) (d_ixj x_ixE (d_varj 1) d_intj (fun _ _=>rfl))) da_nilj))))),fun ds S k h=>?_⟩)
  · obtain⟨_,_,rfl,_⟩:=h
    rfl
  · obtain⟨p,q,rfl,hp,hq,w⟩:=h
    exact⟨mok hp.num hq.num,mok hp.den hq.den,ratio_go (mul_of p q) (den_mul_ne p q) ((hp.den.mul hq.den).mono (by decide)) w⟩
def F_negative:DSp:=fun ds S k=>∃ q:Rat,ds=[fr q]/\k (fr (-q)) S
theorem sc_negative:FnScope ["one"] ["one"] (defScope s_negative):=⟨rfl,rfl,rfl,by decide +kernel,rfl,by decide +kernel,by decide +kernel⟩
theorem ok_negative {P:Program} {w:World} {K:Fg} {mg:Str->Option Value} {base:Heap} {f:Addr} {fd:FuncData} (Fn:Fun K "negative" "negative" s_negative f fd):
    FnOk P w K mg base CX0 1 f fd ["one"] (spU K F_negative):=by
  refine Fn.okJ sc_negative (fun ds S k h=>?_) (fun cdv A outer s H E hr=>⟨_,(ds_onej (dst_retj (d_tupj (da_consj (d_unj o_neg (d_ixj x_ixE (d_varj 0) d_intj (fun _ _=>rfl))) (da_consj (d_ixj x_ixE (d_varj 0) d_intj (fun _ _=>rfl)) da_nilj))))),fun ds S k h=>?_⟩)
  · obtain⟨_,rfl,_⟩:=h
    rfl
  · obtain⟨q,rfl,w⟩:=h
    rw [<- fr_neg] at w
    exact⟨few,w⟩
set_option maxHeartbeats 4000000
def bs (u b d:Rat):Rat:=pick b d*pick b d*u
set_option maxHeartbeats 4000000
def Ext (S S':DH):Prop:=∀ b o,S b=some o->S' b=some o
theorem Ext.trans {S S1 S2:DH} (a:Ext S S1) (b:Ext S1 S2):Ext S S2:=fun c o h=>b c o (a c o h)
theorem Ext.new {S:DH} {p:Addr} {o:DO} (h:S p=none):Ext S (put S p o):=fun b u e=>by
  unfold put
  split
  · rename_i z; subst z; rw [h] at e; cases e
  · exact e
theorem Ext.put {S S1:DH} {p:Addr} {o:DO} (e:Ext S S1) (h:S p=none):Ext S (put S1 p o):=fun b u z=>by
  unfold DL.put
  split
  · rename_i y; subst y; rw [h] at z; cases z
  · exact e b u z
theorem Ext.none {S S1:DH} {p:Addr} (e:Ext S S1) (h:S1 p=none):S p=none:=by
  cases q:S p with
  | none=>rfl
  | some o=>rw [e p o q] at h; cases h
abbrev Q:=Rat×Rat
def qs (x y:Q):Q:=(x.1 - y.1,x.2 - y.2)
def W (x y:Rat):D:=.tup [fr x,fr y]
def PP (x y:Rat):D:=.tup [.tup [fr x,fr 0],.tup [fr y,fr 0]]
def F_place_of:DSp:=fun ds S k=>∃ x y:Rat,ds=[PP x y]/\k (W x y) S
theorem sc_place_of:FnScope ["point"] ["point"] (defScope s_place_of):=⟨rfl,rfl,rfl,by decide +kernel,rfl,by decide +kernel,by decide +kernel⟩
theorem ok_place_of {P:Program} {w:World} {K:Fg} {mg:Str->Option Value} {base:Heap} {f:Addr} {fd:FuncData} (Fn:Fun K "place_of" "place_of" s_place_of f fd):
    FnOk P w K mg base CX0 1 f fd ["point"] (spU K F_place_of):=by
  refine Fn.okJ sc_place_of (fun ds S k h=>?_) (fun cdv A outer s H E hr=>⟨_,(ds_onej (dst_retj (d_tupj (da_consj (d_ixj x_ixE (d_ixj x_ixE (d_varj 0) d_intj (fun _ _=>rfl)) d_intj (fun _ _=>rfl)) (da_consj (d_ixj x_ixE (d_ixj x_ixE (d_varj 0) d_intj (fun _ _=>rfl)) d_intj (fun _ _=>rfl)) da_nilj))))),fun ds S k h=>?_⟩)
  · obtain⟨_,_,rfl,_⟩:=h
    rfl
  · obtain⟨x,y,rfl,w⟩:=h
    exact⟨few,w⟩
def F_plain_way:DSp:=fun ds S k=>∃ x y z v:Rat,ds=[W x y,W z v]/\Sz 4000 x/\Sz 4000 y/\Sz 4000 z/\Sz 4000 v/\k (W (z - x) (v - y)) S
theorem sc_plain_way:FnScope ["one","other"] ["one","other"] (defScope s_plain_way):=⟨rfl,rfl,rfl,by decide +kernel,rfl,by decide +kernel,by decide +kernel⟩
theorem ok_plain_way {P:Program} {w:World} {K:Fg} {mg:Str->Option Value} {base:Heap} {f:Addr} {fd:FuncData} (Fn:Fun K "plain_way" "plain_way" s_plain_way f fd) (c_minus:Own P w K mg base "minus" 3 F_minus):
    FnOk P w K mg base CX0 4 f fd ["one","other"] (spU K F_plain_way):=by
  refine Fn.okJ sc_plain_way (fun ds S k h=>?_) (fun cdv A outer s H E hr=>⟨_,(ds_onej (dst_retj (d_tupj (da_consj (d_callj c_minus (hr.mono (by decide)) rfl (da_consj (d_ixj x_ixE (d_varj 1) d_intj (fun _ _=>rfl)) (da_consj (d_ixj x_ixE (d_varj 0) d_intj (fun _ _=>rfl)) da_nilj))) (da_consj (d_callj c_minus (hr.mono (by decide)) rfl (da_consj (d_ixj x_ixE (d_varj 1) d_intj (fun _ _=>rfl)) (da_consj (d_ixj x_ixE (d_varj 0) d_intj (fun _ _=>rfl)) da_nilj))) da_nilj))))),fun ds S k h=>?_⟩)
  · obtain⟨_,_,_,_,rfl,_⟩:=h
    rfl
  · obtain⟨x,y,z,v,rfl,hx,hy,hz,hv,w⟩:=h
    exact⟨z,x,rfl,hz,hx,v,y,rfl,hv,hy,few,w⟩
set_option maxHeartbeats 4000000
abbrev iL (vs:List Int):DO:=.lst (vs.map D.int)
theorem big1 {n:Nat} (h:n < 300):n < sizeLine:=Nat.lt_of_lt_of_le h (Nat.le_of_ble_eq_true (rfl:Nat.ble 300 sizeLine=true))
def wn (s:Nat) (q:Rat):Int:=q.num*((s / q.den:Nat):Int)
theorem wn_is {s:Nat} {q:Rat} (h:q.den ∣ s):((wn s q:Int):Rat)=q*s:=by
  obtain⟨t,rfl⟩:=h
  unfold wn
  rw [Nat.mul_div_cancel_left t q.den_pos,Rat.intCast_mul]
  have h1:=rat_num_den q
  have h2:((q.den*t:Nat):Rat)=(q.den:Rat)*(t:Rat):=by rw [Rat.natCast_mul]
  rw [h2,Rat.intCast_natCast]
  have h3:=rat_den_ne q
  grind
def QOk (W A:Nat) (q:Rat):Prop:=q.den ∣ W/\q.num.natAbs<=A*q.den
theorem wn_bt {W A s:Nat} {q:Rat} (h:QOk W A q) (hs:s ∣ W) (hq:q.den ∣ s) (h0:0 < W):(wn s q).natAbs<=A*W:=by
  obtain⟨t,rfl⟩:=hq
  unfold wn
  rw [Nat.mul_div_cancel_left t q.den_pos,Int.natAbs_mul,Int.natAbs_natCast]
  have h1:=Nat.le_of_dvd h0 hs
  calc q.num.natAbs*t<=A*q.den*t:=Nat.mul_le_mul_right t h.2
    _=A*(q.den*t):=Nat.mul_assoc ..
    _<=A*W:=Nat.mul_le_mul_left A h1
theorem map_loop {α:Type} {f g:α->D} {all:List α} {S:DH} {p:Addr} {ok:DH->Prop} {bd:DB} {k:DK} {L1:Lo} (hp:S p=none) (hok:∀ S',Ext S S'->ok S')
    (hbd:∀ (x:α) (S':DH) (k':Option D->DH->Prop),x∈all->Ext S S'->k' (some (g x)) S'->bd (some (f x)::L1) S' k'):
    ∀ (r:List α) (acc:List D) (l0:Option D),(∀ x∈r,x∈all)->acc.length+r.length<=100->(∀ S',Ext S S'->S' p=some (.lst (acc++r.map g))->k (.ref p) S')->dCLoop ok p (dgName 0) bd k (r.map f) acc (l0::L1) (put S p (.lst acc))
  | [],acc,l0,_,_,w=>⟨hok _ (Ext.new hp),w _ (Ext.new hp) (by rw [put_same]; simp)⟩
  | x::r,acc,l0,hr,hl,w=>by
    have hl:acc.length+(r.length+1)<=100:=hl
    refine⟨hok _ (Ext.new hp),hbd x _ _ (hr x List.mem_cons_self) (Ext.new hp) ⟨put_same,big1 (by omega),?_⟩⟩
    rw [put_put]
    exact map_loop hp hok hbd r _ _ (fun y hy=>hr y (List.mem_cons_of_mem _ hy)) (by rw [List.length_append]; show acc.length+1+r.length<=100; omega) fun S' e h=>w S' e (by rw [h,List.append_assoc]; rfl)
theorem lcm_eq (s d:Nat):s / Nat.gcd s d*d=Nat.lcm s d:=by
  unfold Nat.lcm
  rw [Nat.div_mul_right_comm (Nat.gcd_dvd_left s d)]
theorem fdiv_nat (a b:Nat):((a:Nat):Int).fdiv ((b:Nat):Int)=((a / b:Nat):Int):=by
  rw [Int.fdiv_eq_ediv_of_nonneg _ (by omega),Int.natCast_ediv]
def F_in_whole_numbers:DSp:=fun ds S k=>∃ (a:Addr) (qs:List Rat) (W A:Nat),ds=[.ref a]/\S a=some (.lst (qs.map fr))/\(∀ q∈qs,QOk W A q)/\0 < W/\W<=2 ^ 15/\A<=2 ^ 15/\qs.length<=100/\∀ (s:Nat) p S',0 < s->s ∣ W->(∀ q∈qs,q.den ∣ s)->S p=none->Ext S S'->S' p=some (iL (qs.map (wn s)))->k (.ref p) S'
theorem sc_in_whole_numbers:FnScope ["row","shared","cell"] ["row"] (defScope s_in_whole_numbers):=⟨rfl,rfl,rfl,by decide +kernel,rfl,by decide +kernel,by decide +kernel⟩
theorem ok_in_whole_numbers {P:Program} {w:World} {K:Fg} {mg:Str->Option Value} {base:Heap} {f:Addr} {fd:FuncData} (Fn:Fun K "in_whole_numbers" "in_whole_numbers" s_in_whole_numbers f fd) (c_common_divisor:Own P w K mg base "common_divisor" 1 F_common_divisor):
    FnOk P w K mg base CX0 2 f fd ["row"] (spU K F_in_whole_numbers):=by
  refine Fn.okJ sc_in_whole_numbers (fun ds S k h=>?_) (fun cdv A outer s H E hr=>⟨_,(ds_consj (dst_setj (i:=1) sc_in_whole_numbers.nd d_intj) (ds_consj (dst_forEj PassesOwn.never rfl (d_varj 0) (dg_namej (i:=2) sc_in_whole_numbers.nd) (ds_onej (dst_setj (i:=1) sc_in_whole_numbers.nd (d_opj o_mul (d_opj o_div (d_varj 1) (d_callj c_common_divisor (hr.mono (by decide)) rfl (da_consj (d_varj 1) (da_consj (d_ixj x_ixE (d_varj 2) d_intj (fun _ _=>rfl)) da_nilj)))) (d_ixj x_ixE (d_varj 2) d_intj (fun _ _=>rfl)))))) (ds_onej (dst_retj (d_compEj rfl (compSc (N:=["cell","shared"]) (cap:=[none,some 1]) rfl rfl rfl rfl ⟨rfl,trivial⟩ rfl rfl ⟨⟨rfl,.inl rfl,.inl rfl⟩,trivial⟩) (d_varj 0) (fun _ _ _ _=>(dg_namej (i:=0) (show List.Nodup (["cell","shared"]:List Str) from by decide +kernel))) (fun _ _ _ _=>(d_opj o_mul (d_ixj x_ixE (d_varj 0) d_intj (fun _ _=>rfl)) (d_opj o_div (d_varj 1) (d_ixj x_ixE (d_varj 0) d_intj (fun _ _=>rfl)))))))))),fun ds S k h=>?_⟩)
  · obtain⟨_,_,_,_,rfl,_⟩:=h
    rfl
  · obtain⟨a,qs,W,A,rfl,ha,hq,w0,hW,hA,hl,w⟩:=h
    have bs:∀ s:Nat,0 < s->s ∣ W->Bt 20 (s:Int):=fun s _ h=>by
      have:=Nat.le_of_dvd w0 h
      unfold Bt
      rw [Int.natAbs_natCast]
      exact Nat.lt_of_le_of_lt (Nat.le_trans this hW) (by decide)
    refine⟨(qs.map fr,some a),by simp only [dItems,ha],?_⟩
    refine loop_ix (fun r L S'=>∃ (s:Nat) (rs:List Rat) (l2:Option D),L=[some (.ref a),some (.int (s:Nat)),l2]/\S'=S/\r=rs.map fr/\0 < s/\s ∣ W/\(∀ q∈rs,q∈qs)/\∀ q∈qs,q∈rs\/q.den ∣ s) (fun r L S' ⟨_,_,_,_,e,_⟩=>by subst e; exact ha) ?_ ?_ _ _ _ ⟨1,qs,none,rfl,rfl,rfl,by decide,Nat.one_dvd _,fun _ h=>h,fun _ h=>.inl h⟩
    · rintro d r L S1 N1 ⟨s,rs,l2,rfl,rfl,er,s0,sW,hin,hall⟩ hN
      cases rs with
      | nil=>cases er
      | cons q rs=>
        cases er
        have dW:=(hq q (hin q List.mem_cons_self)).1
        have g0:0 < Nat.gcd s q.den:=Nat.gcd_pos_of_pos_left _ s0
        have gW:Nat.gcd s q.den ∣ W:=Nat.dvd_trans (Nat.gcd_dvd_left _ _) sW
        have lW:Nat.lcm s q.den ∣ W:=Nat.lcm_dvd sW dW
        have l0:0 < Nat.lcm s q.den:=Nat.lcm_pos s0 q.den_pos
        have eg:Int.gcd (s:Int) (q.den:Int)=Nat.gcd s q.den:=rfl
        have sg:s / Nat.gcd s q.den ∣ W:=Nat.dvd_trans (Nat.div_dvd_of_dvd (Nat.gcd_dvd_left _ _)) sW
        have s1:0 < s / Nat.gcd s q.den:=Nat.div_pos (Nat.le_of_dvd s0 (Nat.gcd_dvd_left _ _)) g0
        refine⟨dok (show ((Nat.gcd s q.den:Nat):Int)≠0 by omega) (bs _ g0 gW),mok (n:=20) (m:=20) (by show Bt 20 (((s:Nat):Int).fdiv ((Nat.gcd s q.den:Nat):Int)); rw [fdiv_nat]; exact bs _ s1 sg) (bs _ q.den_pos dW),?_⟩
        refine hN _ _ ⟨Nat.lcm s q.den,rs,some (fr q),?_,rfl,rfl,l0,lW,fun x hx=>hin x (List.mem_cons_of_mem _ hx),fun x hx=>?_⟩
        · show [some (D.ref a),some (.int (((s:Nat):Int).fdiv ((Nat.gcd s q.den:Nat):Int)*((q.den:Nat):Int))),some (fr q)]=_
          rw [fdiv_nat,<- Int.natCast_mul,lcm_eq]
        · rcases hall x hx with h | h
          · rcases List.mem_cons.mp h with rfl | h
            · exact .inr (Nat.dvd_lcm_right _ _)
            · exact .inl h
          · exact .inr (Nat.dvd_trans h (Nat.dvd_lcm_left _ _))
    · rintro L S1 ⟨s,rs,l2,rfl,rfl,er,s0,sW,hin,hall⟩
      cases rs with
      | cons q rs=>cases er
      | nil=>
        have hall:∀ q∈qs,q.den ∣ s:=fun q hq=>(hall q hq).resolve_left (fun h=>by cases h)
        refine⟨(qs.map fr,some a),by simp only [dItems,ha],fun p hp=>?_⟩
        refine map_loop (g:=fun q=>.int (wn s q)) (all:=qs) hp (fun S' e=>e _ _ ha) ?bb qs [] none (fun _ h=>h) (by show 0+qs.length<=100; omega) fun S' e h=>w s p S' s0 sW hall hp e ?mm
        case bb=>
          intro q S' k' hqq e hk
          have hd:=hall q hqq
          have sd:s / q.den ∣ W:=Nat.dvd_trans (Nat.div_dvd_of_dvd hd) sW
          have s1:0 < s / q.den:=Nat.div_pos (Nat.le_of_dvd s0 hd) q.den_pos
          have hn:Bt 40 q.num:=by
            have h1:=(hq q hqq).2
            have h2:=Nat.le_of_dvd w0 (hq q hqq).1
            have h3:A*q.den<=2 ^ 15*2 ^ 15:=Nat.mul_le_mul hA (Nat.le_trans h2 hW)
            exact Nat.lt_of_le_of_lt (Nat.le_trans h1 h3) (by decide)
          have ev:q.num*(((s:Nat):Int).fdiv ((q.den:Nat):Int))=wn s q:=by unfold wn; rw [fdiv_nat]
          refine⟨dok (show ((q.den:Nat):Int)≠0 by have:=q.den_pos; omega) (bs _ q.den_pos (hq q hqq).1),mok (m:=40) (n:=20) hn (by show Bt 20 (((s:Nat):Int).fdiv ((q.den:Nat):Int)); rw [fdiv_nat]; exact bs _ s1 sd),?_⟩
          show k' (some (.int (q.num*(((s:Nat):Int).fdiv ((q.den:Nat):Int))))) S'
          rw [ev]
          exact hk
        case mm=>
          rw [h]
          simp
theorem zip_loop {g:Int->Int->Int} {all:List (Int×Int)} {S:DH} {p:Addr} {ok:DH->Prop} {bd:DB} {k:DK} {L1:Lo} (hp:S p=none) (hok:∀ S',Ext S S'->ok S')
    (hbd:∀ (x:Int×Int) (S':DH) (k':Option D->DH->Prop),x∈all->Ext S S'->k' (some (.int (g x.1 x.2))) S'->bd (some (.int x.1)::some (.int x.2)::L1) S' k'):
    ∀ (r:List (Int×Int)) (acc:List D) (l0 l1:Option D),(∀ x∈r,x∈all)->acc.length+r.length<=100->(∀ S',Ext S S'->S' p=some (.lst (acc++r.map fun x=>.int (g x.1 x.2)))->k (.ref p) S')->dCLoop ok p (dgSeqE 2 (dgCons (dgName 0) (dgCons (dgName 1) dgNil))) bd k (r.map fun x=>.tup [.int x.1,.int x.2]) acc (l0::l1::L1) (put S p (.lst acc))
  | [],acc,l0,l1,_,_,w=>⟨hok _ (Ext.new hp),w _ (Ext.new hp) (by rw [put_same]; simp)⟩
  | x::r,acc,l0,l1,hr,hl,w=>by
    have hl:acc.length+(r.length+1)<=100:=hl
    refine⟨hok _ (Ext.new hp),([.int x.1,.int x.2],none),rfl,rfl,rfl,hbd x _ _ (hr x List.mem_cons_self) (Ext.new hp) ⟨put_same,big1 (by omega),?_⟩⟩
    rw [put_put]
    exact zip_loop hp hok hbd r _ _ _ (fun y hy=>hr y (List.mem_cons_of_mem _ hy)) (by rw [List.length_append]; show acc.length+1+r.length<=100; omega) fun S' e h=>w S' e (by rw [h,List.append_assoc]; rfl)
theorem zip_ints:∀ (vs ws:List Int),zipD (vs.map D.int) (ws.map D.int)=(vs.zip ws).map fun x=>.tup [.int x.1,.int x.2]
  | [],_=>by simp [zipD]
  | _::_,[]=>by simp [zipD]
  | v::vs,w::ws=>by
    have:=zip_ints vs ws
    unfold zipD at this ⊢
    simp only [List.map_cons,List.zipWith_cons_cons,List.zip_cons_cons]
    rw [this]
theorem at_int {vs:List Int} {c:Nat} (h:c < vs.length):L2.atI (vs.map D.int) ((c:Nat):Int)=some (.int (vs.getD c 0)):=L2.atI_nat (by rw [List.getElem?_map,List.getElem?_eq_getElem h,List.getD_eq_getElem?_getD,List.getElem?_eq_getElem h]; rfl)
theorem getD_mem {vs:List Int} {c:Nat} (h:c < vs.length):vs.getD c 0∈vs:=by
  rw [List.getD_eq_getElem?_getD,List.getElem?_eq_getElem h]
  exact List.getElem_mem h
def clr (vs ws:List Int) (c:Nat) (dv:Int):List Int:=(vs.zip ws).map fun x=>(ws.getD c 0*x.1 - vs.getD c 0*x.2).fdiv dv
def F_cleared:DSp:=fun ds S k=>∃ (a b:Addr) (vs ws:List Int) (c:Nat) (dv:Int),ds=[.ref a,.ref b,.int (c:Nat),.int dv]/\S a=some (iL vs)/\S b=some (iL ws)/\vs.length=ws.length/\c < vs.length/\vs.length<=100/\dv≠0/\Bt 500 dv/\(∀ v∈vs,Bt 500 v)/\(∀ v∈ws,Bt 500 v)/\∀ p S',S p=none->Ext S S'->S' p=some (iL (clr vs ws c dv))->k (.ref p) S'
theorem sc_cleared:FnScope ["row","lead","column","divisor","head","factor"] ["row","lead","column","divisor"] (defScope s_cleared):=⟨rfl,rfl,rfl,by decide +kernel,rfl,by decide +kernel,by decide +kernel⟩
theorem ok_cleared {P:Program} {w:World} {K:Fg} {mg:Str->Option Value} {base:Heap} {f:Addr} {fd:FuncData} (Fn:Fun K "cleared" "cleared" s_cleared f fd) (z_zip:mg "zip"=none):
    FnOk P w K mg base CX0 1 f fd ["row","lead","column","divisor"] (spU K F_cleared):=by
  refine Fn.okJ sc_cleared (fun ds S k h=>?_) (fun cdv A outer s H E hr=>⟨_,(ds_consj (dst_setj (i:=4) sc_cleared.nd (d_ixj x_ixE (d_varj 1) (d_varj 2) (fun _ _=>rfl))) (ds_consj (dst_setj (i:=5) sc_cleared.nd (d_ixj x_ixE (d_varj 0) (d_varj 2) (fun _ _=>rfl))) (ds_onej (dst_retj (d_compZj rfl (compSc (N:=["cell","above","divisor","head","factor"]) (cap:=[none,none,some 3,some 4,some 5]) rfl rfl rfl rfl ⟨rfl,rfl,rfl,trivial⟩ rfl rfl ⟨⟨rfl,.inl rfl,.inl rfl⟩,⟨rfl,.inl rfl,.inl rfl⟩,⟨rfl,.inl rfl,.inl rfl⟩,trivial⟩) rfl z_zip (da_consj (d_varj 0) (da_consj (d_varj 1) da_nilj)) (fun _ _ _ _=>(dg_seqE (n:=2) rfl (dgs_consj (dg_namej (i:=0) (show List.Nodup (["cell","above","divisor","head","factor"]:List Str) from by decide +kernel)) (dgs_consj (dg_namej (i:=1) (show List.Nodup (["cell","above","divisor","head","factor"]:List Str) from by decide +kernel)) dgs_nilj)))) (fun _ _ _ _=>(d_opj o_div (d_opj o_sub (d_opj o_mul (d_varj 3) (d_varj 0)) (d_opj o_mul (d_varj 4) (d_varj 1))) (d_varj 2)))))))),fun ds S k h=>?_⟩)
  · obtain⟨_,_,_,_,_,_,rfl,_⟩:=h
    rfl
  · obtain⟨a,b,vs,ws,c,dv,rfl,ha,hb,hl,hc,h100,d0,hd,hv,hw,w⟩:=h
    refine⟨_,_,hb,at_int (by omega),_,_,ha,at_int hc,?_⟩
    refine⟨(vs.map D.int,some a),(ws.map D.int,some b),by simp only [dItems,ha],by simp only [dItems,hb],fun p hp=>?_⟩
    rw [zip_ints]
    refine zip_loop (g:=fun x y=>(ws.getD c 0*x - vs.getD c 0*y).fdiv dv) (all:=vs.zip ws) hp (fun S' e=>⟨e _ _ ha,e _ _ hb⟩) ?bb _ [] none none (fun _ h=>h) (by rw [List.length_zip]; show 0+_<=100; omega) fun S' e h=>w p S' hp e ?mm
    case bb=>
      rintro⟨x,y⟩ S' k' hx e hk
      have h1:=hv x (List.of_mem_zip hx).1
      have h2:=hw y (List.of_mem_zip hx).2
      have h3:=hw _ (getD_mem (c:=c) (vs:=ws) (by omega))
      have h4:=hv _ (getD_mem hc)
      exact⟨mok h3 h1,mok h4 h2,dok d0 hd,hk⟩
    case mm=>
      rw [h]
      unfold clr
      simp
structure RowsAt (S:DH) (r:Addr) (as:List Addr) (vss:List (List Int)):Prop where
  own:S r=some (.lst (as.map D.ref))
  len:as.length=vss.length
  row:∀ (i:Nat) (a:Addr) (v:List Int),as[i]?=some a->vss[i]?=some v->S a=some (iL v)
theorem RowsAt.get {S:DH} {r:Addr} {as:List Addr} {vss:List (List Int)} (h:RowsAt S r as vss) {i:Nat} (hi:i < vss.length):∃ a,L2.atI (as.map D.ref) ((i:Nat):Int)=some (.ref a)/\S a=some (iL vss[i])/\as[i]?=some a:=by
  have hi2:i < as.length:=by rw [h.len]; exact hi
  refine⟨as[i],L2.atI_nat (by rw [List.getElem?_map,List.getElem?_eq_getElem hi2]; rfl),h.row i _ _ (List.getElem?_eq_getElem hi2) (List.getElem?_eq_getElem hi),List.getElem?_eq_getElem hi2⟩
def F_first_with:DSp:=fun ds S k=>∃ (r:Addr) (as:List Addr) (vss:List (List Int)) (st c m:Nat),ds=[.ref r,.int (st:Nat),.int (c:Nat)]/\RowsAt S r as vss/\(∀ v∈vss,v.length=m)/\c < m/\vss.length<=100/\st<=vss.length/\(∀ (i:Nat) (hi:i < vss.length),st<=i->vss[i].getD c 0≠0->k (.int (i:Nat)) S)/\((∀ (i:Nat) (hi:i < vss.length),st<=i->vss[i].getD c 0=0)->k .non S)
theorem sc_first_with:FnScope ["rows","start","column","at"] ["rows","start","column"] (defScope s_first_with):=⟨rfl,rfl,rfl,by decide +kernel,rfl,by decide +kernel,by decide +kernel⟩
theorem ok_first_with {P:Program} {w:World} {K:Fg} {mg:Str->Option Value} {base:Heap} {f:Addr} {fd:FuncData} (Fn:Fun K "first_with" "first_with" s_first_with f fd) (z_range:mg "range"=none) (z_len:mg "len"=none):
    FnOk P w K mg base CX0 1 f fd ["rows","start","column"] (spU K F_first_with):=by
  refine Fn.okJ sc_first_with (fun ds S k h=>?_) (fun cdv A outer s H E hr=>⟨_,(ds_consj (dst_forR2j PassesOwn.never rfl rfl z_range (da_consj (d_varj 1) (da_consj (d_callBj b_lenE rfl z_len bt_len (da_consj (d_varj 0) da_nilj)) da_nilj)) (dg_namej (i:=3) sc_first_with.nd) (ds_onej (dst_ifj (dt_cmpj o_ne (d_ixj x_ixE (d_ixj x_ixE (d_varj 0) (d_varj 3) (fun _ _=>rfl)) (d_varj 2) (fun _ _=>rfl)) d_intj (nomark _)) (ds_onej (dst_retj (d_varj 3))) ds_nilj))) (ds_onej (dst_retj d_nonj))),fun ds S k h=>?_⟩)
  · obtain⟨_,_,_,_,_,_,rfl,_⟩:=h
    rfl
  · obtain⟨r,as,vss,st,c,m,rfl,hR,hm,hc,h100,hst,w1,w2⟩:=h
    have la:(as.map D.ref).length=vss.length:=by rw [List.length_map,hR.len]
    refine⟨_,hR.own,⟨by omega,by omega,by omega,by omega⟩,?_⟩
    refine loop_ix (fun rr L S'=>∃ (j:Nat) (l3:Option D),L=[some (.ref r),some (.int (st:Nat)),some (.int (c:Nat)),l3]/\S'=S/\rr=rngD ((j:Nat):Int) ((as.map D.ref).length:Int)/\j<=vss.length/\st<=j/\∀ (i:Nat) (hi:i < vss.length),st<=i->i < j->vss[i].getD c 0=0) (fun _ _ _ _=>trivial) ?_ ?_ _ _ _ ⟨st,none,rfl,rfl,rfl,hst,Nat.le_refl _,fun i hi h1 h2=>absurd h2 (by omega)⟩
    · rintro d rr L S1 N1 ⟨j,l3,rfl,rfl,er,hj,hsj,hz⟩ hN
      have hlt:j < vss.length:=by
        rcases Nat.lt_or_ge j vss.length with h | h
        · exact h
        · have:rngD ((j:Nat):Int) ((as.map D.ref).length:Int)=[]:=by unfold rngD; rw [show (((as.map D.ref).length:Int) - ((j:Nat):Int)).toNat=0 by omega]; rfl
          rw [this] at er
          cases er
      have e2:rngD ((j:Nat):Int) ((as.map D.ref).length:Int)=.int ((j:Nat):Int)::rngD (((j+1:Nat):Nat):Int) ((as.map D.ref).length:Int):=by
        unfold rngD
        rw [show (((as.map D.ref).length:Int) - ((j:Nat):Int)).toNat=(((as.map D.ref).length:Int) - ((j+1:Nat):Int)).toNat+1 by omega,List.range_succ_eq_map,List.map_cons,List.map_map]
        refine congr (congrArg List.cons ?_) ?_
        · show D.int (((j:Nat):Int)+((0:Nat):Int))=D.int ((j:Nat):Int)
          rw [show ((j:Nat):Int)+((0:Nat):Int)=((j:Nat):Int) by omega]
        · refine List.map_congr_left fun i _=>?_
          show D.int (((j:Nat):Int)+((i+1:Nat):Int))=D.int (((j+1:Nat):Int)+((i:Nat):Int))
          congr 1; omega
      rw [e2] at er
      cases er
      obtain⟨a,ha,hv,_⟩:=hR.get hlt
      refine⟨_,_,hR.own,ha,_,_,hv,at_int (by rw [hm _ (List.getElem_mem hlt)]; exact hc),ite_ndec (fun h=>w1 j hlt hsj h) (fun h=>hN _ _ ⟨j+1,_,rfl,rfl,rfl,hlt,by omega,fun i hi h1 h2=>?_⟩)⟩
      by_cases hij:i=j
      · subst hij; exact h
      · exact hz i hi h1 (by omega)
    · rintro L S1 ⟨j,l3,rfl,rfl,er,hj,hsj,hz⟩
      refine w2 fun i hi h1=>hz i hi h1 ?_
      rcases Nat.lt_or_ge j vss.length with h | h
      · have:=congrArg List.length er
        unfold rngD at this
        rw [List.length_map,List.length_range] at this
        have:0=(((as.map D.ref).length:Int) - ((j:Nat):Int)).toNat:=this
        omega
      · omega
set_option maxHeartbeats 4000000
open DT in
structure RS (M:Mx) (many m:Nat) (P C Qo:Nat->Nat) (k:Nat) (d:Int) (z:Nat->Nat->Rat) (vss:List (List Int)) (cc:Nat):Prop where
  bs:BS M P C k (d:Rat) z
  len:vss.length=m
  row:∀ v∈vss,v.length=many
  km:k<=m
  ld:∀ i v x,vss[i]?=some v->i < k->x < many->((v.getD x 0:Int):Rat)=ldE d z i x
  ot:∀ i v x,vss[i]?=some v->k<=i->x < many->((v.getD x 0:Int):Rat)=otE M C k d z (Qo i) x
  zero:∀ i v x,vss[i]?=some v->k<=i->x < cc->x < many->v.getD x 0=0
  col:∀ j,j < k->C j < cc
  inc:∀ i j,i < j->j < k->C i < C j
  prm:∀ r,r < k->P r < m
  qrm:∀ i,k<=i->i < m->Qo i < m
  cov:∀ q,q < m->(∃ r,r < k/\P r=q)\/∃ i,k<=i/\i < m/\Qo i=q
theorem fit1 {k:Nat} (h:k<=12):DT.fac (k+1)*(2 ^ 30) ^ (k+1) < 2 ^ 500:=by
  have:k=0\/k=1\/k=2\/k=3\/k=4\/k=5\/k=6\/k=7\/k=8\/k=9\/k=10\/k=11\/k=12:=by omega
  rcases this with rfl | rfl | rfl | rfl | rfl | rfl | rfl | rfl | rfl | rfl | rfl | rfl | rfl <;> decide +kernel
theorem fit0 {k:Nat} (h:k<=12):DT.fac k*(2 ^ 30) ^ k < 2 ^ 500:=by
  cases k with
  | zero=>decide +kernel
  | succ k=>exact fit1 (by omega)
theorem isN_bt {b:Nat} {v:Int} {q:Rat} (h:DT.IsN b q) (e:(v:Rat)=q) (hb:b < 2 ^ 500):Bt 500 v:=by
  obtain⟨w,hw,hl⟩:=h
  have:v=w:=by rw [hw] at e; exact_mod_cast e
  subst this
  exact Nat.lt_of_le_of_lt hl hb
theorem RS.bt {M:DT.Mx} {many m:Nat} {P C Qo:Nat->Nat} {k:Nat} {d:Int} {z:Nat->Nat->Rat} {vss:List (List Int)} {cc:Nat} (h:RS M many m P C Qo k d z vss cc) (hM:∀ r c,DT.IsN (2 ^ 30) (M r c)) (hk:k<=12) {v:List Int} (hv:v∈vss):∀ x∈v,Bt 500 x:=by
  intro x hx
  obtain⟨i,hi,rfl⟩:=List.mem_iff_getElem.mp hv
  obtain⟨j,hj,rfl⟩:=List.mem_iff_getElem.mp hx
  have hlen:=h.row _ (List.getElem_mem hi)
  have e:vss[i][j]=vss[i].getD j 0:=by rw [List.getD_eq_getElem?_getD,List.getElem?_eq_getElem hj]; rfl
  rw [e]
  rcases Nat.lt_or_ge i k with hik | hik
  · exact isN_bt (h.bs.ld hM hik) (h.ld i _ j (List.getElem?_eq_getElem hi) hik (by omega)) (fit0 hk)
  · exact isN_bt (h.bs.ot hM) (h.ot i _ j (List.getElem?_eq_getElem hi) hik (by omega)) (fit1 hk)
theorem RS.dbt {M:DT.Mx} {many m:Nat} {P C Qo:Nat->Nat} {k:Nat} {d:Int} {z:Nat->Nat->Rat} {vss:List (List Int)} {cc:Nat} (h:RS M many m P C Qo k d z vss cc) (hM:∀ r c,DT.IsN (2 ^ 30) (M r c)) (hk:k<=12):Bt 500 d/\d≠0:=
  ⟨isN_bt (DT.IsN.det fun r c _ _=>hM _ _) h.bs.det (fit0 hk),fun e=>h.bs.ne (by rw [e]; rfl)⟩
theorem fdiv_exact {n d t:Int} (hd:d≠0) (h:n=d*t):n.fdiv d=t:=by rw [h]; exact Int.mul_fdiv_cancel_left t hd
theorem clr_len {vs ws:List Int} {c:Nat} {dv:Int} (h:vs.length=ws.length):(clr vs ws c dv).length=vs.length:=by
  unfold clr
  rw [List.length_map,List.length_zip]
  omega
theorem clr_at {vs ws:List Int} {c x:Nat} {dv:Int} (h:vs.length=ws.length) (hx:x < vs.length):(clr vs ws c dv).getD x 0=(ws.getD c 0*vs.getD x 0 - vs.getD c 0*ws.getD x 0).fdiv dv:=by
  have hw:x < ws.length:=by omega
  have hz:(vs.zip ws)[x]?=some (vs[x],ws[x]):=List.getElem?_zip_eq_some.mpr ⟨List.getElem?_eq_getElem hx,List.getElem?_eq_getElem hw⟩
  unfold clr
  rw [List.getD_eq_getElem?_getD,List.getElem?_map,hz]
  rw [List.getD_eq_getElem?_getD (l:=vs) (i:=x),List.getElem?_eq_getElem hx,List.getD_eq_getElem?_getD (l:=ws) (i:=x),List.getElem?_eq_getElem hw]
  rfl
theorem ins_get {α:Type} {W:List α} {a:α} {k i:Nat} (hk:k<=W.length):(W.take k++a::W.drop k)[i]?=if i < k then W[i]? else if i=k then some a else W[i - 1]?:=by
  have hl:(W.take k).length=k:=by rw [List.length_take]; omega
  by_cases h1:i < k
  · rw [if_pos h1,List.getElem?_append_left (by omega),List.getElem?_take_of_lt h1]
  · rw [if_neg h1,List.getElem?_append_right (by omega),hl]
    by_cases h2:i=k
    · rw [if_pos h2,h2,Nat.sub_self]; rfl
    · rw [if_neg h2,show i - k=(i - 1 - k)+1 by omega,List.getElem?_cons_succ,List.getElem?_drop,show k+(i - 1 - k)=i - 1 by omega]
theorem RS.skip {M:DT.Mx} {many m:Nat} {P C Qo:Nat->Nat} {k:Nat} {d:Int} {z:Nat->Nat->Rat} {vss:List (List Int)} {cc:Nat} (h:RS M many m P C Qo k d z vss cc) (h0:∀ i v,vss[i]?=some v->k<=i->v.getD cc 0=0):RS M many m P C Qo k d z vss (cc+1):=
  ⟨h.bs,h.len,h.row,h.km,h.ld,h.ot,fun i v x hv hi hx hm=>by
    by_cases e:x=cc
    · rw [e]; exact h0 i v hv hi
    · exact h.zero i v x hv hi (by omega) hm,fun j hj=>by have:=h.col j hj; omega,h.inc,h.prm,h.qrm,h.cov⟩
def qn (Qo:Nat->Nat) (at0:Nat):Nat->Nat:=fun i=>if i - 1 < at0 then Qo (i - 1) else Qo i
theorem RS.step {M:DT.Mx} {many m:Nat} {P C Qo:Nat->Nat} {k:Nat} {d:Int} {z:Nat->Nat->Rat} {vss:List (List Int)} {cc at0:Nat} {lead:List Int} (h:RS M many m P C Qo k d z vss cc) (hM:∀ r c,DT.IsN (2 ^ 30) (M r c)) (hcc:cc < many) (hat:vss[at0]?=some lead) (hk:k<=at0) (hne:lead.getD cc 0≠0):
    RS M many m (DT.ups P k (Qo at0)) (DT.ups C k cc) (qn Qo at0) (k+1) (lead.getD cc 0) (DT.zn M C k d z (Qo at0) cc) (((vss.eraseIdx at0).map fun v=>clr v lead cc d).take k++lead::((vss.eraseIdx at0).map fun v=>clr v lead cc d).drop k) (cc+1):=by
  have hatl:at0 < vss.length:=(List.getElem?_eq_some_iff.mp hat).1
  have hlead:lead∈vss:=List.mem_of_getElem? hat
  have ll:=h.row _ hlead
  have eH:((lead.getD cc 0:Int):Rat)=DT.otE M C k d z (Qo at0) cc:=h.ot at0 lead cc hat hk hcc
  have eX:∀ x,x < many->((lead.getD x 0:Int):Rat)=DT.otE M C k d z (Qo at0) x:=fun x hx=>h.ot at0 lead x hat hk hx
  have hn:DT.otE M C k d z (Qo at0) cc≠0:=by rw [<- eH]; exact fun e=>hne (by exact_mod_cast e)
  have hd0:d≠0:=fun e=>h.bs.ne (by rw [e]; rfl)
  have B:=h.bs.step hn
  have lW:((vss.eraseIdx at0).map fun v=>clr v lead cc d).length=m - 1:=by rw [List.length_map,List.length_eraseIdx_of_lt hatl,h.len]
  have hkW:k<=((vss.eraseIdx at0).map fun v=>clr v lead cc d).length:=by rw [lW]; have:=h.len; omega
  have new:∀ i v,(((vss.eraseIdx at0).map fun v=>clr v lead cc d).take k++lead::((vss.eraseIdx at0).map fun v=>clr v lead cc d).drop k)[i]?=some v->
      (i < k/\∃ u,vss[i]?=some u/\v=clr u lead cc d)\/(i=k/\v=lead)\/(k < i/\∃ j u,vss[j]?=some u/\k<=j/\Qo j=qn Qo at0 i/\v=clr u lead cc d):=fun i v hv=>by
    rw [ins_get hkW] at hv
    by_cases h1:i < k
    · rw [if_pos h1,List.getElem?_map,List.getElem?_eraseIdx_of_lt (by omega)] at hv
      cases hu:vss[i]? with
      | none=>rw [hu] at hv; cases hv
      | some u=>rw [hu] at hv; cases hv; exact .inl ⟨h1,u,rfl,rfl⟩
    · rw [if_neg h1] at hv
      by_cases h2:i=k
      · rw [if_pos h2] at hv; cases hv; exact .inr (.inl ⟨h2,rfl⟩)
      · rw [if_neg h2,List.getElem?_map] at hv
        by_cases h3:i - 1 < at0
        · rw [List.getElem?_eraseIdx_of_lt h3] at hv
          cases hu:vss[i - 1]? with
          | none=>rw [hu] at hv; cases hv
          | some u=>rw [hu] at hv; cases hv; exact .inr (.inr ⟨by omega,i - 1,u,hu,by omega,by unfold qn; rw [if_pos h3],rfl⟩)
        · rw [List.getElem?_eraseIdx_of_ge (by omega),show i - 1+1=i by omega] at hv
          cases hu:vss[i]? with
          | none=>rw [hu] at hv; cases hv
          | some u=>rw [hu] at hv; cases hv; exact .inr (.inr ⟨by omega,i,u,hu,by omega,by unfold qn; rw [if_neg h3],rfl⟩)
  have clrv:∀ (u:List Int) (t:Rat) (x:Nat),u∈vss->x < many->(∃ b,DT.IsN b t)->((lead.getD cc 0:Int):Rat)*((u.getD x 0:Int):Rat) - ((u.getD cc 0:Int):Rat)*((lead.getD x 0:Int):Rat)=(d:Rat)*t->(((clr u lead cc d).getD x 0:Int):Rat)=t:=fun u t x hu hx ⟨b,w,hw,_⟩ e=>by
    have lu:=h.row _ hu
    rw [clr_at (by omega) (by omega),hw]
    rw [hw] at e
    have e2:lead.getD cc 0*u.getD x 0 - u.getD cc 0*lead.getD x 0=d*w:=by exact_mod_cast e
    rw [fdiv_exact hd0 e2]
  refine⟨?_,?_,fun v hv=>?_,?_,fun i v x hv hi hx=>?_,fun i v x hv hi hx=>?_,fun i v x hv hi hx hm=>?_,fun j hj=>?_,fun i j hij hj=>?_,fun r hr=>?_,fun i hi him=>?_,fun q hq=>?_⟩
  · rw [eH]; exact B
  · rw [List.length_append,List.length_cons,List.length_take,List.length_drop,lW]
    have:=h.len
    omega
  · obtain⟨i,hi,rfl⟩:=List.mem_iff_getElem.mp hv
    rcases new i _ (List.getElem?_eq_getElem hi) with ⟨_,u,hu,e⟩ | ⟨_,e⟩ | ⟨_,j,u,hu,_,_,e⟩
    · rw [e,clr_len (by rw [h.row _ (List.mem_of_getElem? hu),ll])]; exact h.row _ (List.mem_of_getElem? hu)
    · rw [e]; exact ll
    · rw [e,clr_len (by rw [h.row _ (List.mem_of_getElem? hu),ll])]; exact h.row _ (List.mem_of_getElem? hu)
  · have:=h.len; omega
  · rcases new i v hv with ⟨h1,u,hu,rfl⟩ | ⟨rfl,rfl⟩ | ⟨h1,_⟩
    · rw [eH]
      refine clrv u _ x (List.mem_of_getElem? hu) hx ⟨_,B.ld hM (by omega)⟩ ?_
      rw [eH,eX x hx,h.ld i u x hu h1 hx,h.ld i u cc hu h1 hcc]
      exact DT.ld_new h.bs.ne hn h1
    · rw [eH,eX x hx]
      exact(DT.ld_own hn).symm
    · omega
  · rcases new i v hv with ⟨h1,_⟩ | ⟨h1,_⟩ | ⟨h1,j,u,hu,hj,hq,rfl⟩
    · omega
    · omega
    · rw [eH,<- hq]
      refine clrv u _ x (List.mem_of_getElem? hu) hx ⟨_,B.ot hM⟩ ?_
      rw [eH,eX x hx,h.ot j u x hu hj hx,h.ot j u cc hu hj hcc]
      exact DT.ot_new h.bs.ne hn
  · rcases new i v hv with ⟨h1,_⟩ | ⟨h1,_⟩ | ⟨h1,j,u,hu,hj,hq,rfl⟩
    · omega
    · omega
    · have lu:=h.row _ (List.mem_of_getElem? hu)
      rw [clr_at (by omega) (by omega)]
      by_cases e:x=cc
      · subst e
        rw [Int.mul_comm,Int.sub_self]
        exact Int.zero_fdiv _
      · rw [h.zero j u x hu hj (by omega) hm,h.zero at0 lead x hat hk (by omega) hm,Int.mul_zero,Int.mul_zero,Int.sub_zero]
        exact Int.zero_fdiv _
  · unfold DT.ups
    split
    · omega
    · have:=h.col j (by omega); omega
  · unfold DT.ups
    by_cases e:j=k
    · rw [if_pos e,if_neg (by omega)]; exact h.col i (by omega)
    · rw [if_neg e,if_neg (by omega)]; exact h.inc i j hij (by omega)
  · unfold DT.ups
    split
    · exact h.qrm at0 hk (by have:=h.len; omega)
    · exact h.prm r (by omega)
  · unfold qn
    split
    · exact h.qrm (i - 1) (by omega) (by omega)
    · exact h.qrm i (by omega) him
  · rcases h.cov q hq with ⟨r,hr,e⟩ | ⟨i,hi,him,e⟩
    · exact .inl ⟨r,by omega,by unfold DT.ups; rw [if_neg (by omega)]; exact e⟩
    · by_cases e1:i=at0
      · exact .inl ⟨k,by omega,by unfold DT.ups; rw [if_pos rfl,<- e1]; exact e⟩
      · by_cases e2:i < at0
        · exact .inr ⟨i+1,by omega,by have:=h.len; omega,by unfold qn; rw [Nat.add_sub_cancel,if_pos e2]; exact e⟩
        · exact .inr ⟨i,by omega,him,by unfold qn; rw [if_neg (by omega)]; exact e⟩
set_option maxHeartbeats 4000000
theorem rows_loop {β:Type} {S:DH} {p:Addr} {ok:DH->Prop} {bd:DB} {k:DK} {L1:Lo} {R:Addr×β->List Int->Prop} {all:List (Addr×β)} (hp:S p=none) (hok:∀ S',Ext S S'->ok S')
    (hbd:∀ (x:Addr×β) (S':DH) (k':Option D->DH->Prop),x∈all->Ext S S'->(∀ q vs S2,S' q=none->Ext S' S2->R x vs->S2 q=some (iL vs)->k' (some (.ref q)) S2)->bd (some (.ref x.1)::L1) S' k'):
    ∀ (r:List (Addr×β)) (as:List Addr) (vss:List (List Int)) (S1:DH) (l0:Option D),(∀ x∈r,x∈all)->Ext S S1->RowsAt S1 p as vss->(∀ a∈as,a≠p)->as.length+r.length<=100->(∀ as' wss S',Ext S S'->RowsAt S' p as' (vss++wss)->(∀ a∈as',a≠p)->wss.length=r.length->(∀ (i:Nat) x v,r[i]?=some x->wss[i]?=some v->R x v)->(∀ a∈as',a∈as\/S a=none)->k (.ref p) S')->
    dCLoop ok p (dgName 0) bd k (r.map fun x=>.ref x.1) (as.map D.ref) (l0::L1) S1
  | [],as,vss,S1,l0,_,e1,h1,hne,_,w=>⟨hok _ e1,w as [] S1 e1 (by rw [List.append_nil]; exact h1) hne rfl (fun i x v h=>by simp at h) fun a h=>.inl h⟩
  | x::r,as,vss,S1,l0,hr,e1,h1,hne,hl,w=>by
    have hl:as.length+(r.length+1)<=100:=hl
    refine⟨hok _ e1,hbd x S1 _ (hr x List.mem_cons_self) e1 fun q vs S2 hq e2 hR h2=>?_⟩
    have hqp:q≠p:=fun z=>by rw [z,h1.own] at hq; cases hq
    refine⟨e2 _ _ h1.own,by rw [List.length_map]; exact big1 (by omega),?_⟩
    have ea:as.map D.ref++[.ref q]=(as++[q]).map D.ref:=by rw [List.map_append]; rfl
    rw [ea]
    have e3:Ext S (put S2 p (.lst ((as++[q]).map D.ref))):=(e1.trans e2).put hp
    refine rows_loop hp hok hbd r (as++[q]) (vss++[vs]) _ _ (fun y hy=>hr y (List.mem_cons_of_mem _ hy)) e3 ⟨put_same,by rw [List.length_append,List.length_append,h1.len]; rfl,fun i a v hi hv=>?_⟩ (fun a ha=>?_) (by rw [List.length_append]; show as.length+1+r.length<=100; omega) fun as' wss S' e' hR' hne' hl' hw' hold=>w as' (vs::wss) S' e' (by rw [List.append_assoc] at hR'; exact hR') hne' (by show wss.length+1=r.length+1; omega) (fun i y v hi hv=>?_) (fun a ha=>?_)
    · rcases Nat.lt_or_ge i as.length with h | h
      · rw [List.getElem?_append_left h] at hi
        rw [List.getElem?_append_left (by rw [<- h1.len]; exact h)] at hv
        rw [put_ne (hne a (List.mem_of_getElem? hi))]
        exact e2 _ _ (h1.row i a v hi hv)
      · have hi2:=(List.getElem?_eq_some_iff.mp hi).1
        have hi3:i < as.length+1:=by simpa using hi2
        have e:i=as.length:=by omega
        subst e
        rw [List.getElem?_append_right (Nat.le_refl _),Nat.sub_self] at hi
        rw [List.getElem?_append_right (by rw [h1.len]; exact Nat.le_refl _),h1.len,Nat.sub_self] at hv
        have hi:some q=some a:=hi
        have hv:some vs=some v:=hv
        cases hi
        cases hv
        rw [put_ne hqp]
        exact h2
    · rcases List.mem_append.mp ha with h | h
      · exact hne a h
      · simp only [List.mem_cons,List.not_mem_nil,or_false] at h; subst h; exact hqp
    · cases i with
      | zero=>cases hi; cases hv; exact hR
      | succ i=>exact hw' i y v hi hv
    · rcases hold a ha with h | h
      · rcases List.mem_append.mp h with h | h
        · exact .inl h
        · simp only [List.mem_cons,List.not_mem_nil,or_false] at h; subst h; exact .inr (e1.none hq)
      · exact .inr h
def Mof (vss:List (List Int)):DT.Mx:=fun q x=>(((vss.getD q []).getD x 0:Int):Rat)
theorem RS.k_le {M:DT.Mx} {many m:Nat} {P C Qo:Nat->Nat} {k:Nat} {d:Int} {z:Nat->Nat->Rat} {vss:List (List Int)} {cc:Nat} (h:RS M many m P C Qo k d z vss cc):k<=cc:=by
  have:∀ j,j < k->j<=C j:=fun j=>by
    induction j with
    | zero=>intro _; omega
    | succ j ih=>intro hj; have h1:=ih (by omega); have h2:=h.inc j (j+1) (by omega) hj; omega
  rcases Nat.eq_zero_or_pos k with h0 | h0
  · omega
  · have h1:=this (k - 1) (by omega)
    have h2:=h.col (k - 1) (by omega)
    omega
theorem mof_at {vss:List (List Int)} {i x:Nat} {v:List Int} (h:vss[i]?=some v):Mof vss i x=((v.getD x 0:Int):Rat):=by
  unfold Mof
  rw [List.getD_eq_getElem?_getD (l:=vss),h]
  rfl
theorem RS.start {vss:List (List Int)} {many:Nat} (h:∀ v∈vss,v.length=many):RS (Mof vss) many vss.length id id id 0 1 (fun _ _=>0) vss 0:=
  ⟨DT.BS.start,rfl,h,Nat.zero_le _,fun i v x _ hi=>absurd hi (by omega),fun i v x hv _ _=>by
    have e:((1:Int):Rat)=1:=rfl
    rw [e,DT.otE_start]
    exact(mof_at hv).symm,fun i v x _ _ hx=>absurd hx (by omega),fun j hj=>absurd hj (by omega),fun i j _ hj=>absurd hj (by omega),fun r hr=>absurd hr (by omega),fun i _ hi=>hi,fun q hq=>.inr ⟨q,Nat.zero_le _,hq,rfl⟩⟩
theorem mof_isN {vss:List (List Int)} (h:∀ v∈vss,∀ x∈v,x.natAbs<=2 ^ 30) (r c:Nat):DT.IsN (2 ^ 30) (Mof vss r c):=by
  refine⟨(vss.getD r []).getD c 0,rfl,?_⟩
  rw [List.getD_eq_getElem?_getD,List.getD_eq_getElem?_getD]
  cases h1:vss[r]? with
  | none=>simp
  | some v=>
    cases h2:v[c]? with
    | none=>simp [h2]
    | some x=>
      have:=h v (List.mem_of_getElem? h1) x (List.mem_of_getElem? h2)
      simpa [h2] using this
set_option maxHeartbeats 4000000
theorem cut_to {ds:List D} {j:Nat} (h:j<=ds.length):DL.cutD ds none (some (j:Nat))=ds.take j:=by
  unfold DL.cutD
  have h1:HT.sIx ds.length 0 none=0:=rfl
  have h2:HT.sIx ds.length ds.length (some ((j:Nat):Int))=j:=by unfold HT.sIx; simp; rw [if_neg (by omega),Nat.min_eq_left h]
  rw [h1,h2]
  simp
theorem six_nat {i n:Nat} (h:i < n):seqIndex? ((i:Nat):Int) n=some i:=by
  unfold seqIndex?
  simp
  omega
theorem zip_fst {as:List Addr} {vss:List (List Int)} (h:as.length=vss.length):(as.zip vss).map (fun x=>D.ref x.1)=as.map D.ref:=by
  have:(as.zip vss).map (fun x=>x.1)=as:=List.map_fst_zip (by omega)
  calc (as.zip vss).map (fun x=>D.ref x.1)=((as.zip vss).map (fun x=>x.1)).map D.ref:=by rw [List.map_map]; rfl
    _=as.map D.ref:=by rw [this]
theorem map_erase {α β:Type} (f:α->β):∀ (l:List α) (i:Nat),(l.map f).eraseIdx i=(l.eraseIdx i).map f
  | [],_=>rfl
  | _::_,0=>rfl
  | x::l,i+1=>by show f x::(l.map f).eraseIdx i=f x::(l.eraseIdx i).map f; rw [map_erase f l i]
def F_reduced:DSp:=fun ds S k'=>∃ (r:Addr) (rs:List (Addr×List Rat)) (many W A:Nat),ds=[.ref r,.int (many:Nat)]/\S r=some (.lst (rs.map fun x=>.ref x.1))/\(∀ x∈rs,S x.1=some (.lst (x.2.map fr))/\x.2.length=many/\∀ q∈x.2,QOk W A q)/\0 < W/\W<=2 ^ 15/\A<=2 ^ 15/\many<=14/\rs.length<=14/\(many<=12\/rs.length<=12)/\
  ∀ (vss0 vss:List (List Int)) (k:Nat) (P C Qo:Nat->Nat) (d:Int) (z:Nat->Nat->Rat) (p1 p2:Addr) (as:List Addr) (S':DH),vss0.length=rs.length->(∀ (i:Nat) x v,rs[i]?=some x->vss0[i]?=some v->∃ s,0 < s/\s ∣ W/\(∀ q∈x.2,q.den ∣ s)/\v=x.2.map (wn s))->RS (Mof vss0) many rs.length P C Qo k d z vss many->(∀ r c,DT.IsN (2 ^ 30) (Mof vss0 r c))->k<=12->Ext S S'->RowsAt S' p1 as (vss.take k)->S' p2=some (.lst ((List.range k).map fun j=>.int (C j:Nat)))->k' (.tup [.ref p1,.ref p2,.int d]) S'
theorem sc_reduced:FnScope ["rows","many","columns","divisor","column","place","at","lead"] ["rows","many"] (defScope s_reduced):=⟨rfl,rfl,rfl,by decide +kernel,rfl,by decide +kernel,by decide +kernel⟩
theorem ok_reduced {P:Program} {w:World} {K:Fg} {mg:Str->Option Value} {base:Heap} {f:Addr} {fd:FuncData} (Fn:Fun K "reduced" "reduced" s_reduced f fd) (c_in_whole_numbers:Own P w K mg base "in_whole_numbers" 2 F_in_whole_numbers) (c_first_with:Own P w K mg base "first_with" 1 F_first_with) (c_cleared:Own P w K mg base "cleared" 1 F_cleared) (z_range:mg "range"=none) (z_len:mg "len"=none):
    FnOk P w K mg base CX0 3 f fd ["rows","many"] (spU K F_reduced):=by
  refine Fn.okJ sc_reduced (fun ds S k h=>?_) (fun cdv A outer s H E hr=>⟨_,(ds_consj (dst_compEjS (iv:=0) sc_reduced.nd rfl (compSc (N:=["row"]) (cap:=[none]) rfl rfl rfl rfl trivial rfl rfl trivial) (d_varj 0) (fun _ _ _ _=>(dg_namej (i:=0) (show List.Nodup (["row"]:List Str) from by decide +kernel))) (fun _ _ _ _=>(d_callj c_in_whole_numbers (hr.mono (by decide)) rfl (da_consj (d_varj 0) da_nilj)))) (ds_consj (dst_setj (i:=2) sc_reduced.nd (d_lstj da_nilj)) (ds_consj (dst_setj (i:=3) sc_reduced.nd d_intj) (ds_consj (dst_forRj PassesOwn.never rfl rfl z_range (da_consj (d_varj 1) da_nilj) (dg_namej (i:=4) sc_reduced.nd) (ds_consj (dst_setj (i:=5) sc_reduced.nd (d_callBj b_lenE rfl z_len bt_len (da_consj (d_varj 2) da_nilj))) (ds_consj (dst_setj (i:=6) sc_reduced.nd (d_callj c_first_with (hr.mono (by decide)) rfl (da_consj (d_varj 0) (da_consj (d_varj 5) (da_consj (d_varj 4) da_nilj))))) (ds_onej (dst_ifj (dt_cmpj o_isNot (d_varj 6) d_nonj (nomark _)) (ds_consj (dst_setj (i:=7) sc_reduced.nd (d_pop1j (d_varj 0) (d_varj 6))) (ds_consj (dst_compEjS (iv:=0) sc_reduced.nd rfl (compSc (N:=["row","lead","column","divisor"]) (cap:=[none,some 7,some 4,some 3]) rfl rfl rfl rfl ⟨rfl,rfl,rfl,trivial⟩ rfl rfl ⟨⟨rfl,.inl rfl,.inl rfl⟩,⟨rfl,.inl rfl,.inl rfl⟩,⟨rfl,.inl rfl,.inl rfl⟩,trivial⟩) (d_varj 0) (fun _ _ _ _=>(dg_namej (i:=0) (show List.Nodup (["row","lead","column","divisor"]:List Str) from by decide +kernel))) (fun _ _ _ _=>(d_callj c_cleared (hr.mono (by decide)) rfl (da_consj (d_varj 0) (da_consj (d_varj 1) (da_consj (d_varj 2) (da_consj (d_varj 3) da_nilj))))))) (ds_consj (dst_exprj (d_insj (d_varj 0) (d_varj 5) (d_varj 7))) (ds_consj (dst_exprj (d_appj (d_varj 2) (d_varj 4))) (ds_onej (dst_setj (i:=3) sc_reduced.nd (d_ixj x_ixE (d_varj 7) (d_varj 4) (fun _ _=>rfl)))))))) ds_nilj))))) (ds_onej (dst_retj (d_tupj (da_consj (d_cutEj (d_varj 0) do_nonej (do_somej (d_callBj b_lenE rfl z_len bt_len (da_consj (d_varj 2) da_nilj)))) (da_consj (d_varj 2) (da_consj (d_varj 3) da_nilj)))))))))),fun ds S k h=>?_⟩)
  · obtain⟨_,_,_,_,_,rfl,_⟩:=h
    rfl
  · obtain⟨r,rs,many,W,A,rfl,hr,hx,w0,hW,hA,hmany,hrs,h12,w⟩:=h
    refine⟨(rs.map fun x=>.ref x.1,some r),by simp only [dItems,hr],fun pr0 hpr0=>?_⟩
    refine rows_loop (R:=fun x v=>∃ s,0 < s/\s ∣ W/\(∀ q∈x.2,q.den ∣ s)/\v=x.2.map (wn s)) (all:=rs) hpr0 (fun S' e=>e _ _ hr) ?bb rs [] [] _ none (fun _ h=>h) (Ext.new hpr0) ⟨put_same,rfl,(fun i a v h=>by simp at h)⟩ (fun a h=>by cases h) (by show 0+rs.length<=100; omega) ?mm
    case bb=>
      intro x S' kk hxx e hk
      obtain⟨h1,h2,h3⟩:=hx x hxx
      exact⟨x.1,x.2,W,A,rfl,e _ _ h1,h3,w0,hW,hA,by omega,fun s p S2 s0 sW sd hp e2 h=>hk p _ S2 hp e2 ⟨s,s0,sW,sd,rfl⟩ h⟩
    case mm=>
      intro as0 vss0 S1 e1 R1 ne1 l0 rel0 _
      rw [List.nil_append] at R1
      have vlen:∀ v∈vss0,v.length=many/\∀ y∈v,y.natAbs<=2 ^ 30:=fun v hv=>by
        obtain⟨i,hi,rfl⟩:=List.mem_iff_getElem.mp hv
        have hi2:i < rs.length:=by omega
        obtain⟨s,s0,sW,sd,e⟩:=rel0 i _ _ (List.getElem?_eq_getElem hi2) (List.getElem?_eq_getElem hi)
        obtain⟨_,h2,h3⟩:=hx _ (List.getElem_mem hi2)
        rw [e]
        refine⟨by rw [List.length_map]; exact h2,fun y hy=>?_⟩
        obtain⟨q,hq,rfl⟩:=List.mem_map.mp hy
        exact Nat.le_trans (wn_bt (h3 q hq) sW (sd q hq) w0) (Nat.le_trans (Nat.mul_le_mul hA hW) (by decide))
      have hM:=mof_isN (vss:=vss0) fun v hv=>(vlen v hv).2
      have st:=RS.start (vss:=vss0) (many:=many) fun v hv=>(vlen v hv).1
      rw [l0] at st
      refine⟨few,fun pc hpc=>⟨⟨by omega,by omega⟩,?_⟩⟩
      have spc:S pc=none:=e1.none hpc
      have e2:Ext S (put S1 pc (.lst [])):=e1.put spc
      have npc:pr0≠pc:=fun zz=>by rw [<- zz,R1.own] at hpc; cases hpc
      have nac:∀ a∈as0,a≠pc:=fun a ha zz=>by
        obtain⟨i,hi,rfl⟩:=List.mem_iff_getElem.mp ha
        have hi2:i < vss0.length:=by rw [<- R1.len]; exact hi
        have:=R1.row i _ _ (List.getElem?_eq_getElem hi) (List.getElem?_eq_getElem hi2)
        rw [zz,hpc] at this
        cases this
      refine loop_ix (fun rr L S'=>∃ (j k:Nat) (P C Qo:Nat->Nat) (d:Int) (z:Nat->Nat->Rat) (vss:List (List Int)) (pr:Addr) (as:List Addr) (l4 l5 l6 l7:Option D),L=[some (.ref pr),some (.int (many:Nat)),some (.ref pc),some (.int d),l4,l5,l6,l7]/\Ext S S'/\S pr=none/\pr≠pc/\RowsAt S' pr as vss/\(∀ a∈as,a≠pr/\a≠pc)/\S' pc=some (.lst ((List.range k).map fun j=>.int (C j:Nat)))/\RS (Mof vss0) many rs.length P C Qo k d z vss j/\j<=many/\rr=(List.range' j (many - j)).map fun(i:Nat)=>D.int (i:Nat)) (fun _ _ _ _=>trivial) ?_ ?_ _ _ _ ⟨0,0,id,id,id,1,_,vss0,pr0,as0,none,none,none,none,rfl,e2,hpr0,npc,⟨by rw [put_ne npc]; exact R1.own,R1.len,fun i a v hi hv=>by rw [put_ne (nac a (List.mem_of_getElem? hi))]; exact R1.row i a v hi hv⟩,fun a ha=>⟨ne1 a ha,nac a ha⟩,put_same,st,Nat.zero_le _,by rw [Int.toNat_natCast,List.range_eq_range',Nat.sub_zero]⟩
      · rintro dd rr L S2 N1 ⟨j,k,P,C,Qo,d,z,vss,pr,as,l4,l5,l6,l7,rfl,e3,hpr,nrc,R2,na,hcs,hRS,hj,er⟩ hN
        have hlt:j < many:=by
          rcases Nat.lt_or_ge j many with h | h
          · exact h
          · rw [show many - j=0 by omega] at er; cases er
        rw [show many - j=(many - (j+1))+1 by omega] at er
        have er:dd::rr=D.int (j:Nat)::((List.range' (j+1) (many - (j+1))).map fun(i:Nat)=>D.int (i:Nat)):=er
        cases er
        have hk12:k<=12:=by have h1:=hRS.km; have h2:=hRS.k_le; omega
        have lc:((List.range k).map fun j=>D.int (C j:Nat)).length=k:=by rw [List.length_map,List.length_range]
        refine⟨_,hcs,?_⟩
        refine⟨pr,as,vss,_,j,many,rfl,R2,hRS.row,hlt,by have:=hRS.len; omega,by rw [lc,hRS.len]; exact hRS.km,fun i hi hki hne=>?_,fun hz=>?_⟩
        · rw [lc] at hki
          obtain⟨a,_,hva,hai⟩:=R2.get hi
          have hat:vss[i]?=some vss[i]:=List.getElem?_eq_getElem hi
          have hil:i < as.length:=by rw [R2.len]; exact hi
          have ham:a∈as:=List.mem_of_getElem? hai
          have hvl:=hRS.len
          have el:(as.map D.ref).eraseIdx i=(as.eraseIdx i).map D.ref:=(map_erase _ _ _)
          refine⟨⟨_,R2.own⟩,_,i,.ref a,R2.own,by omega,by omega,six_nat (by rw [List.length_map]; exact hil),by rw [List.getElem?_map,hai]; rfl,?_⟩
          rw [el]
          have e4:Ext S (put S2 pr (.lst ((as.eraseIdx i).map D.ref))):=e3.put hpr
          have R3:RowsAt (put S2 pr (.lst ((as.eraseIdx i).map D.ref))) pr (as.eraseIdx i) (vss.eraseIdx i):=by
            refine⟨put_same,by rw [List.length_eraseIdx_of_lt hil,List.length_eraseIdx_of_lt hi,R2.len],fun n b v hb hv=>?_⟩
            have hb2:b∈as:=List.mem_of_mem_eraseIdx (List.mem_of_getElem? hb)
            rw [put_ne (na b hb2).1]
            rcases Nat.lt_or_ge n i with h | h
            · rw [List.getElem?_eraseIdx_of_lt h] at hb hv
              exact R2.row n b v hb hv
            · rw [List.getElem?_eraseIdx_of_ge h] at hb hv
              exact R2.row (n+1) b v hb hv
          have h5:put S2 pr (.lst ((as.eraseIdx i).map D.ref)) a=some (iL vss[i]):=by rw [put_ne (na a ham).1]; exact hva
          have h6:put S2 pr (.lst ((as.eraseIdx i).map D.ref)) pc=some (.lst ((List.range k).map fun j=>.int (C j:Nat))):=by rw [put_ne (Ne.symm nrc)]; exact hcs
          generalize put S2 pr (.lst ((as.eraseIdx i).map D.ref))=S3 at e4 R3 h5 h6 ⊢
          have bt:∀ v∈vss,∀ x∈v,Bt 500 x:=fun v hv=>hRS.bt hM hk12 hv
          have db:=hRS.dbt hM hk12
          have zl:=zip_fst (as:=as.eraseIdx i) (vss:=vss.eraseIdx i) R3.len
          refine⟨((as.eraseIdx i).map D.ref,some pr),by simp only [dItems,R3.own],fun pn hpn=>?_⟩
          rw [<- zl]
          refine rows_loop (R:=fun x v=>v=clr x.2 vss[i] j d) (all:=(as.eraseIdx i).zip (vss.eraseIdx i)) hpn (fun S' e=>by show S' pr=some (.lst _); rw [zl]; exact e _ _ R3.own) ?b2 _ [] [] _ none (fun _ h=>h) (Ext.new hpn) ⟨put_same,rfl,(fun i a v h=>by simp at h)⟩ (fun a h=>by cases h) (by rw [List.length_zip,R3.len,Nat.min_self,List.length_eraseIdx_of_lt hi]; have:=hRS.len; show 0+_<=100; omega) ?m2
          case b2=>
            rintro⟨b,v⟩ S' kk hxx e hk
            obtain⟨n,hn,en⟩:=List.mem_iff_getElem.mp hxx
            have hb:(as.eraseIdx i)[n]?=some b/\(vss.eraseIdx i)[n]?=some v:=List.getElem?_zip_eq_some.mp (by rw [List.getElem?_eq_getElem hn,en])
            have hv2:v∈vss:=List.mem_of_mem_eraseIdx (List.mem_of_getElem? hb.2)
            exact⟨b,a,v,vss[i],j,d,rfl,e _ _ (R3.row n b v hb.1 hb.2),e _ _ h5,by rw [hRS.row v hv2,hRS.row _ (List.getElem_mem hi)],by rw [hRS.row v hv2]; exact hlt,by rw [hRS.row v hv2]; omega,db.2,db.1,bt _ hv2,bt _ (List.getElem_mem hi),fun p S' hp e2 h=>hk p _ S' hp e2 rfl h⟩
          case m2=>
            intro as2 wss S4 e5 R4 ne4 l4' rel4 old4
            rw [List.nil_append] at R4
            have lz:wss.length=(vss.eraseIdx i).length:=by rw [l4',List.length_zip,R3.len,Nat.min_self]
            have ew:wss=(vss.eraseIdx i).map fun v=>clr v vss[i] j d:=by
              refine List.ext_getElem (by rw [List.length_map]; exact lz) fun n h1 h2=>?_
              have h3:n < (vss.eraseIdx i).length:=by omega
              have h4:n < (as.eraseIdx i).length:=by rw [R3.len]; exact h3
              have hz:((as.eraseIdx i).zip (vss.eraseIdx i))[n]?=some ((as.eraseIdx i)[n],(vss.eraseIdx i)[n]):=List.getElem?_zip_eq_some.mpr ⟨List.getElem?_eq_getElem h4,List.getElem?_eq_getElem h3⟩
              rw [rel4 n _ _ hz (List.getElem?_eq_getElem h1),List.getElem_map]
            have hkw:k<=wss.length:=by rw [lz,List.length_eraseIdx_of_lt hi]; omega
            have hka:k<=as2.length:=by rw [R4.len]; exact hkw
            have nnc:pn≠pc:=fun zz=>by rw [zz,h6] at hpn; cases hpn
            have nan:a≠pn:=fun zz=>by rw [<- zz,h5] at hpn; cases hpn
            have o4:∀ b∈as2,b≠pn/\b≠pc:=fun b hb=>⟨ne4 b hb,fun zz=>by
              rcases old4 b hb with h | h
              · cases h
              · rw [zz,h6] at h; cases h⟩
            have hw14:wss.length<=14:=by rw [lz,List.length_eraseIdx_of_lt hi]; omega
            have h7:=e5 _ _ h6
            have h8:=e5 _ _ h5
            refine⟨⟨_,R4.own⟩,k,_,congrArg D.int (congrArg Nat.cast lc),R4.own,by rw [List.length_map]; exact hka,by rw [List.length_map,R4.len]; omega,?_⟩
            have ei:(as2.map D.ref).take k++.ref a::(as2.map D.ref).drop k=(as2.take k++a::as2.drop k).map D.ref:=by rw [List.map_append,List.map_cons,List.map_take,List.map_drop]
            rw [ei]
            have g7:put S4 pn (.lst ((as2.take k++a::as2.drop k).map D.ref)) pc=some (.lst ((List.range k).map fun j=>.int (C j:Nat))):=by rw [put_ne (Ne.symm nnc)]; exact h7
            refine⟨⟨_,g7⟩,_,g7,by rw [lc]; exact big1 (by omega),?_⟩
            have g8:put (put S4 pn (.lst ((as2.take k++a::as2.drop k).map D.ref))) pc (.lst (((List.range k).map fun j=>D.int (C j:Nat))++[.int (j:Nat)])) a=some (iL vss[i]):=by rw [put_ne (na a ham).2,put_ne nan]; exact h8
            refine⟨_,_,g8,at_int (by rw [hRS.row _ (List.getElem_mem hi)]; exact hlt),?_⟩
            have spn:S pn=none:=e4.none hpn
            refine hN _ _ ⟨j+1,k+1,DT.ups P k (Qo i),DT.ups C k j,qn Qo i,vss[i].getD j 0,DT.zn (Mof vss0) C k d z (Qo i) j,_,pn,as2.take k++a::as2.drop k,_,_,_,_,rfl,((e4.trans e5).put spn).put spc,spn,nnc,⟨by rw [put_ne nnc]; exact put_same,?_,fun n b v hb hv=>?_⟩,fun b hb=>?_,?_,hRS.step hM hlt hat hki hne,hlt,rfl⟩
            · rw [<- ew,List.length_append,List.length_append,List.length_cons,List.length_cons,List.length_take,List.length_take,List.length_drop,List.length_drop,R4.len]
            · rw [<- ew] at hv
              rw [ins_get hka] at hb
              rw [ins_get hkw] at hv
              have hbb:put (put S4 pn (.lst ((as2.take k++a::as2.drop k).map D.ref))) pc (.lst (((List.range k).map fun j=>D.int (C j:Nat))++[.int (j:Nat)])) b=S4 b\/b=a:=by
                by_cases h1:n < k
                · rw [if_pos h1] at hb
                  have:=o4 b (List.mem_of_getElem? hb)
                  left; rw [put_ne this.2,put_ne this.1]
                · rw [if_neg h1] at hb
                  by_cases h2:n=k
                  · rw [if_pos h2] at hb; cases hb; exact .inr rfl
                  · rw [if_neg h2] at hb
                    have:=o4 b (List.mem_of_getElem? hb)
                    left; rw [put_ne this.2,put_ne this.1]
              by_cases h1:n < k
              · rw [if_pos h1] at hb hv
                have:=o4 b (List.mem_of_getElem? hb)
                rw [put_ne this.2,put_ne this.1]
                exact R4.row n b v hb hv
              · rw [if_neg h1] at hb hv
                by_cases h2:n=k
                · rw [if_pos h2] at hb hv
                  cases hb
                  cases hv
                  exact g8
                · rw [if_neg h2] at hb hv
                  have:=o4 b (List.mem_of_getElem? hb)
                  rw [put_ne this.2,put_ne this.1]
                  exact R4.row (n - 1) b v hb hv
            · rcases List.mem_append.mp hb with h | h
              · exact o4 b (List.mem_of_mem_take h)
              · rcases List.mem_cons.mp h with rfl | h
                · exact⟨nan,(na b ham).2⟩
                · exact o4 b (List.mem_of_mem_drop h)
            · rw [put_same,List.range_succ,List.map_append]
              congr 3
              · refine List.map_congr_left fun n hn=>?_
                have:=List.mem_range.mp hn
                unfold DT.ups
                rw [if_neg (by omega)]
              · show [D.int (j:Nat)]=[D.int (DT.ups C k j k:Nat)]
                unfold DT.ups
                rw [if_pos rfl]
        · refine hN _ _ ⟨j+1,k,P,C,Qo,d,z,vss,pr,as,_,_,_,_,rfl,e3,hpr,nrc,R2,na,hcs,hRS.skip fun i v hv hki=>?_,hlt,rfl⟩
          obtain⟨hi,e⟩:=List.getElem?_eq_some_iff.mp hv
          have:=hz i hi (by rw [lc]; exact hki)
          rw [e] at this
          exact this
      · rintro L S2 ⟨j,k,P,C,Qo,d,z,vss,pr,as,l4,l5,l6,l7,rfl,e3,hpr,nrc,R2,na,hcs,hRS,hj,er⟩
        have hjm:j=many:=by
          have:=congrArg List.length er
          rw [List.length_map,List.length_range'] at this
          have:0=many - j:=this
          omega
        subst hjm
        have hk12:k<=12:=by have h1:=hRS.km; have h2:=hRS.k_le; omega
        have lc:((List.range k).map fun j=>D.int (C j:Nat)).length=k:=by rw [List.length_map,List.length_range]
        have kv:k<=vss.length:=by rw [hRS.len]; exact hRS.km
        refine⟨_,hcs,_,R2.own,fun p1 hp1=>⟨few,?_⟩⟩
        have ec:DL.cutD (as.map D.ref) none (some (((List.range k).map fun j=>D.int (C j:Nat)).length:Nat))=(as.take k).map D.ref:=by rw [lc,cut_to (by rw [List.length_map,R2.len]; exact kv),List.map_take]
        rw [ec]
        have e5:=Ext.new (o:=.lst ((as.take k).map D.ref)) hp1
        refine w vss0 vss k P C Qo d z p1 pc (as.take k) _ l0 rel0 hRS hM hk12 (e3.trans e5) ⟨put_same,by rw [List.length_take,List.length_take,R2.len],fun i a v hi hv=>?_⟩ (e5 _ _ hcs)
        rw [List.getElem?_take] at hi hv
        split at hi
        · rw [if_pos (by assumption)] at hv
          exact e5 _ _ (R2.row i a v hi hv)
        · cases hi
set_option maxHeartbeats 4000000
def F_without_shared:DSp:=fun ds S k=>∃ (a:Addr) (vs:List Int),ds=[.ref a]/\S a=some (iL vs)/\(∃ v∈vs,v≠0)/\(∀ v∈vs,Bt 500 v)/\vs.length<=100/\∀ (g:Nat) p S',0 < g->(∀ v∈vs,(g:Int) ∣ v)->S p=none->Ext S S'->S' p=some (iL (vs.map fun v=>v.fdiv (g:Int)))->k (.ref p) S'
theorem sc_without_shared:FnScope ["numbers","shared","number"] ["numbers"] (defScope s_without_shared):=⟨rfl,rfl,rfl,by decide +kernel,rfl,by decide +kernel,by decide +kernel⟩
theorem ok_without_shared {P:Program} {w:World} {K:Fg} {mg:Str->Option Value} {base:Heap} {f:Addr} {fd:FuncData} (Fn:Fun K "without_shared" "without_shared" s_without_shared f fd) (c_common_divisor:Own P w K mg base "common_divisor" 1 F_common_divisor):
    FnOk P w K mg base CX0 2 f fd ["numbers"] (spU K F_without_shared):=by
  refine Fn.okJ sc_without_shared (fun ds S k h=>?_) (fun cdv A outer s H E hr=>⟨_,(ds_consj (dst_setj (i:=1) sc_without_shared.nd d_intj) (ds_consj (dst_forEj PassesOwn.never rfl (d_varj 0) (dg_namej (i:=2) sc_without_shared.nd) (ds_onej (dst_setj (i:=1) sc_without_shared.nd (d_callj c_common_divisor (hr.mono (by decide)) rfl (da_consj (d_varj 1) (da_consj (d_varj 2) da_nilj)))))) (ds_onej (dst_retj (d_compEj rfl (compSc (N:=["number","shared"]) (cap:=[none,some 1]) rfl rfl rfl rfl ⟨rfl,trivial⟩ rfl rfl ⟨⟨rfl,.inl rfl,.inl rfl⟩,trivial⟩) (d_varj 0) (fun _ _ _ _=>(dg_namej (i:=0) (show List.Nodup (["number","shared"]:List Str) from by decide +kernel))) (fun _ _ _ _=>(d_opj o_div (d_varj 0) (d_varj 1)))))))),fun ds S k h=>?_⟩)
  · obtain⟨_,_,rfl,_⟩:=h
    rfl
  · obtain⟨a,vs,rfl,ha,⟨v0,hv0,hne⟩,hb,hl,w⟩:=h
    refine⟨(vs.map D.int,some a),by simp only [dItems,ha],?_⟩
    refine loop_ix (fun r L S'=>∃ (s:Nat) (rs:List Int) (l2:Option D),L=[some (.ref a),some (.int (s:Nat)),l2]/\S'=S/\r=rs.map D.int/\(∀ v∈rs,v∈vs)/\∀ v∈vs,v∈rs\/(s:Int) ∣ v) (fun r L S' ⟨_,_,_,_,e,_⟩=>by subst e; exact ha) ?_ ?_ _ _ _ ⟨0,vs,none,rfl,rfl,rfl,fun _ h=>h,fun _ h=>.inl h⟩
    · rintro d r L S1 N1 ⟨s,rs,l2,rfl,rfl,er,hin,hall⟩ hN
      cases rs with
      | nil=>cases er
      | cons v rs=>
        cases er
        refine hN _ _ ⟨Int.gcd (s:Int) v,rs,_,rfl,rfl,rfl,fun x hx=>hin x (List.mem_cons_of_mem _ hx),fun x hx=>?_⟩
        rcases hall x hx with h | h
        · rcases List.mem_cons.mp h with rfl | h
          · exact .inr (Int.gcd_dvd_right ..)
          · exact .inl h
        · exact .inr (Int.dvd_trans (Int.gcd_dvd_left ..) h)
    · rintro L S1 ⟨s,rs,l2,rfl,rfl,er,hin,hall⟩
      cases rs with
      | cons q rs=>cases er
      | nil=>
        have hall:∀ v∈vs,(s:Int) ∣ v:=fun v hv=>(hall v hv).resolve_left (fun h=>by cases h)
        have s0:0 < s:=by
          rcases Nat.eq_zero_or_pos s with h | h
          · have:=hall v0 hv0
            rw [h] at this
            exact absurd (Int.zero_dvd.mp this) hne
          · exact h
        have sb:Bt 500 (s:Int):=by
          have h1:s ∣ v0.natAbs:=by have:=Int.natAbs_dvd_natAbs.mpr (hall v0 hv0); simpa using this
          have h2:=Nat.le_of_dvd (by omega) h1
          have h3:=hb v0 hv0
          unfold Bt at h3 ⊢
          rw [Int.natAbs_natCast]
          exact Nat.lt_of_le_of_lt h2 h3
        refine⟨(vs.map D.int,some a),by simp only [dItems,ha],fun p hp=>?_⟩
        refine map_loop (f:=D.int) (g:=fun v=>.int (v.fdiv (s:Int))) (all:=vs) hp (fun S' e=>e _ _ ha) ?bb vs [] none (fun _ h=>h) (by show 0+vs.length<=100; omega) fun S' e h=>w s p S' s0 hall hp e ?mm
        case bb=>
          intro v S' k' hv e hk
          exact⟨dok (by omega) sb,hk⟩
        case mm=>
          rw [h]
          simp
theorem inV_cols {C:Nat->Nat} {c:Nat}:∀ k:Nat,inV (vOf (.int (c:Nat))) (((List.range k).map fun j=>D.int (C j:Nat)).map vOf)=decide (∃ j,j < k/\C j=c)
  | 0=>by
    have:¬ ∃ j,j < 0/\C j=c:=fun⟨j,h,_⟩=>absurd h (by omega)
    rw [decide_eq_false this]; rfl
  | k+1=>by
    have ih:=inV_cols (C:=C) (c:=c) k
    rw [List.range_succ,List.map_append,List.map_append]
    unfold inV at ih ⊢
    rw [List.any_append,ih]
    show(decide _ || (eqV (V.int (C k:Nat)) (V.int (c:Nat)) || false))=_
    rw [Bool.or_false]
    show(decide _ || (((C k:Nat):Int) == ((c:Nat):Int)))=_
    by_cases h:C k=c
    · rw [decide_eq_true (show ∃ j,j < k+1/\C j=c from⟨k,by omega,h⟩)]
      have:(((C k:Nat):Int) == ((c:Nat):Int))=true:=by simp [h]
      rw [this,Bool.or_true]
    · have:(((C k:Nat):Int) == ((c:Nat):Int))=false:=by simp; omega
      rw [this,Bool.or_false]
      by_cases h2:∃ j,j < k/\C j=c
      · rw [decide_eq_true h2,decide_eq_true]
        obtain⟨j,h3,h4⟩:=h2
        exact⟨j,by omega,h4⟩
      · rw [decide_eq_false h2,decide_eq_false]
        rintro⟨j,h3,h4⟩
        by_cases e:j=k
        · subst e; exact h h4
        · exact h2 ⟨j,by omega,h4⟩
structure SolOk (many k:Nat) (C:Nat->Nat) (d:Int) (vss:List (List Int)) (c g:Nat) (w:List Int):Prop where
  lt:c < many
  free:∀ j,j < k->C j≠c
  pos:0 < g
  len:w.length=many
  own:w.getD c 0=d
  piv:∀ j v,j < k->vss[j]?=some v->w.getD (C j) 0=- v.getD c 0
  oth:∀ x,x < many->x≠c->(∀ j,j < k->C j≠x)->w.getD x 0=0
  dvd:∀ v∈w,(g:Int) ∣ v
  bt:∀ v∈w,Bt 500 v
abbrev solL (x:Addr×(Nat×Nat×List Int)):D:=.ref x.1
theorem getD_set {w:List Int} {i x:Nat} {a:Int} (h:i < w.length):(w.set i a).getD x 0=if x=i then a else w.getD x 0:=by
  rw [List.getD_eq_getElem?_getD,List.getElem?_set]
  by_cases e:i=x
  · subst e
    rw [if_pos rfl,if_pos h,if_pos rfl]; rfl
  · rw [if_neg e,if_neg (Ne.symm e),List.getD_eq_getElem?_getD]
theorem ixN_nat {n i:Nat} (h:i < n):ixN n ((i:Nat):Int)=some i:=by
  unfold ixN
  simp
  omega
theorem rep_zero (n:Nat):(List.replicate n [D.int 0]).flatten=(List.replicate n (0:Int)).map D.int:=by
  induction n with
  | zero=>rfl
  | succ n ih=>rw [List.replicate_succ,List.flatten_cons,ih,List.replicate_succ]; rfl
theorem zip_cols {as:List Addr} {C:Nat->Nat} {k:Nat} (h:as.length=k):zipD (as.map D.ref) ((List.range k).map fun j=>D.int (C j:Nat))=(List.range' 0 k).map fun t=>.tup [.ref (as.getD t 0),.int (C t:Nat)]:=by
  unfold zipD
  refine List.ext_getElem (by simp [h]) fun n h1 h2=>?_
  have hn:n < as.length:=by simp at h1; omega
  simp [List.getD_eq_getElem?_getD,hn]
def F_solutions:DSp:=fun ds S k'=>∃ (r:Addr) (rs:List (Addr×List Rat)) (many W A:Nat),ds=[.ref r,.int (many:Nat)]/\S r=some (.lst (rs.map fun x=>.ref x.1))/\(∀ x∈rs,S x.1=some (.lst (x.2.map fr))/\x.2.length=many/\∀ q∈x.2,QOk W A q)/\0 < W/\W<=2 ^ 15/\A<=2 ^ 15/\many<=14/\rs.length<=14/\(many<=12\/rs.length<=12)/\
  ∀ (vss0 vss:List (List Int)) (k:Nat) (P C Qo:Nat->Nat) (d:Int) (z:Nat->Nat->Rat) (p:Addr) (fs:List (Addr×(Nat×Nat×List Int))) (S':DH),vss0.length=rs.length->(∀ (i:Nat) x v,rs[i]?=some x->vss0[i]?=some v->∃ s,0 < s/\s ∣ W/\(∀ q∈x.2,q.den ∣ s)/\v=x.2.map (wn s))->RS (Mof vss0) many rs.length P C Qo k d z vss many->k<=12->fs.map (fun x=>x.2.1)=(List.range many).filter (fun c=>!decide (∃ j,j < k/\C j=c))->(∀ x∈fs,SolOk many k C d vss x.2.1 x.2.2.1 x.2.2.2/\S' x.1=some (iL (x.2.2.2.map fun v=>v.fdiv (x.2.2.1:Nat))))->Ext S S'->S' p=some (.lst (fs.map solL))->k' (.ref p) S'
theorem sc_solutions:FnScope ["rows","many","told","found","column","numbers","row","own"] ["rows","many"] (defScope s_solutions):=⟨rfl,rfl,rfl,by decide +kernel,rfl,by decide +kernel,by decide +kernel⟩
theorem ok_solutions {P:Program} {w:World} {K:Fg} {mg:Str->Option Value} {base:Heap} {f:Addr} {fd:FuncData} (Fn:Fun K "solutions" "solutions" s_solutions f fd) (c_reduced:Own P w K mg base "reduced" 3 F_reduced) (c_without_shared:Own P w K mg base "without_shared" 2 F_without_shared) (z_range:mg "range"=none) (z_zip:mg "zip"=none):
    FnOk P w K mg base CX0 4 f fd ["rows","many"] (spU K F_solutions):=by
  refine Fn.okJ sc_solutions (fun ds S k h=>?_) (fun cdv A outer s H E hr=>⟨_,(ds_consj (dst_setj (i:=2) sc_solutions.nd (d_callj c_reduced (hr.mono (by decide)) rfl (da_consj (d_varj 0) (da_consj (d_varj 1) da_nilj)))) (ds_consj (dst_setj (i:=3) sc_solutions.nd (d_lstj da_nilj)) (ds_consj (dst_forRj PassesOwn.never rfl rfl z_range (da_consj (d_varj 1) da_nilj) (dg_namej (i:=4) sc_solutions.nd) (ds_onej (dst_ifj (dt_cmpj o_notInE (d_varj 4) (d_ixj x_ixE (d_varj 2) d_intj (fun _ _=>rfl)) (by with_unfolding_all rfl)) (ds_consj (dst_setj (i:=5) sc_solutions.nd (d_opj o_mulF (d_lstj (da_consj d_intj da_nilj)) (d_varj 1))) (ds_consj (dst_asgj (d_ixj x_ixE (d_varj 2) d_intj (fun _ _=>rfl)) (dg_subE (d_varj 5) (d_varj 4))) (ds_consj (dst_forZj PassesOwn.never rfl rfl z_zip (da_consj (d_ixj x_ixE (d_varj 2) d_intj (fun _ _=>rfl)) (da_consj (d_ixj x_ixE (d_varj 2) d_intj (fun _ _=>rfl)) da_nilj)) (dg_seqE (n:=2) rfl (dgs_consj (dg_namej (i:=6) sc_solutions.nd) (dgs_consj (dg_namej (i:=7) sc_solutions.nd) dgs_nilj))) (ds_onej (dst_asgj (d_unj o_neg (d_ixj x_ixE (d_varj 6) (d_varj 4) (fun _ _=>rfl))) (dg_subE (d_varj 5) (d_varj 7))))) (ds_onej (dst_exprj (d_appj (d_varj 3) (d_callj c_without_shared (hr.mono (by decide)) rfl (da_consj (d_varj 5) da_nilj)))))))) ds_nilj))) (ds_onej (dst_retj (d_varj 3)))))),fun ds S k h=>?_⟩)
  · obtain⟨_,_,_,_,_,rfl,_⟩:=h
    rfl
  · obtain⟨r,rs,many,W,A,rfl,hr,hx,w0,hW,hA,hmany,hrs,h12,w⟩:=h
    refine⟨r,rs,many,W,A,rfl,hr,hx,w0,hW,hA,hmany,hrs,h12,fun vss0 vss k P C Qo d z p1 p2 as S1 l0 rel0 hRS hM hk12 e1 R1 hcs=>?_⟩
    have kv:k<=vss.length:=by rw [hRS.len]; exact hRS.km
    have la:as.length=k:=by rw [R1.len,List.length_take]; omega
    have arow:∀ t v,t < k->vss[t]?=some v->S1 (as.getD t 0)=some (iL v):=fun t v ht hv=>by
      have h1:as[t]?=some (as.getD t 0):=by rw [List.getD_eq_getElem?_getD,List.getElem?_eq_getElem (by omega)]; rfl
      exact R1.row t _ v h1 (by rw [List.getElem?_take,if_pos ht]; exact hv)
    have bt:∀ v∈vss,∀ x∈v,Bt 500 x:=fun v hv=>hRS.bt hM hk12 hv
    have db:=hRS.dbt hM hk12
    refine⟨few,fun pf hpf=>⟨⟨by omega,by omega⟩,?_⟩⟩
    have spf:S pf=none:=e1.none hpf
    refine loop_ix (fun rr L S'=>∃ (j:Nat) (fs:List (Addr×(Nat×Nat×List Int))) (l4 l5 l6 l7:Option D),L=[some (.ref r),some (.int (many:Nat)),some (.tup [.ref p1,.ref p2,.int d]),some (.ref pf),l4,l5,l6,l7]/\Ext S1 S'/\S' pf=some (.lst (fs.map solL))/\fs.map (fun x=>x.2.1)=(List.range j).filter (fun c=>!decide (∃ j,j < k/\C j=c))/\(∀ x∈fs,SolOk many k C d vss x.2.1 x.2.2.1 x.2.2.2/\S' x.1=some (iL (x.2.2.2.map fun v=>v.fdiv (x.2.2.1:Nat)))/\x.1≠pf)/\fs.length<=j/\j<=many/\rr=(List.range' j (many - j)).map fun(i:Nat)=>D.int (i:Nat)) (fun _ _ _ _=>trivial) ?_ ?_ _ _ _ ⟨0,[],none,none,none,none,rfl,Ext.new hpf,put_same,rfl,(fun _ h=>by cases h),Nat.le_refl _,Nat.zero_le _,by rw [Int.toNat_natCast,List.range_eq_range',Nat.sub_zero]⟩
    · rintro dd rr L S2 N1 ⟨j,fs,l4,l5,l6,l7,rfl,e2,hf,hfree,hfs,hfl,hj,er⟩ hN
      have hlt:j < many:=by
        rcases Nat.lt_or_ge j many with h | h
        · exact h
        · rw [show many - j=0 by omega] at er; cases er
      rw [show many - j=(many - (j+1))+1 by omega] at er
      have er:dd::rr=D.int (j:Nat)::((List.range' (j+1) (many - (j+1))).map fun(i:Nat)=>D.int (i:Nat)):=er
      cases er
      have hI:=inV_cols (C:=C) (c:=j) k
      refine⟨((List.range k).map fun j=>.int (C j:Nat),some p2),by simp only [dItems,e2 _ _ hcs],rfl,by simp [flatD],?_⟩
      show(if (!inV (vOf (.int (j:Nat))) (((List.range k).map fun j=>D.int (C j:Nat)).map vOf))=true then _ else _)
      rw [hI]
      refine ite_ndec (fun hno=>?_) (fun hyes=>?_)
      · have hno':∀ t,t < k->C t≠j:=fun t ht e=>hno ⟨t,ht,e⟩
        refine⟨few,fun pz hpz=>⟨_,put_same,by omega,by omega,?_,fun pn hpn=>?_⟩⟩
        · show 1*many<=sizeLine
          exact Nat.le_of_lt (big1 (by omega))
        have rz:(List.replicate ((many:Nat):Int).toNat [D.int 0]).flatten=(List.replicate many (0:Int)).map D.int:=by rw [Int.toNat_natCast,rep_zero]
        rw [rz]
        have e3:Ext S2 (put S2 pz (.lst [.int 0])):=Ext.new hpz
        have s2n:S2 pn=none:=e3.none hpn
        have npf:pn≠pf:=fun zz=>by rw [zz,hf] at s2n; cases s2n
        refine⟨_,j,put_same,ixN_nat (by rw [List.length_map,List.length_replicate]; exact hlt),?_⟩
        have es:((List.replicate many (0:Int)).map D.int).set j (.int d)=((List.replicate many (0:Int)).set j d).map D.int:=by rw [List.map_set]
        rw [es]
        have e4:Ext S2 (put (put (put S2 pz (.lst [.int 0])) pn (.lst ((List.replicate many (0:Int)).map D.int))) pn (.lst (((List.replicate many (0:Int)).set j d).map D.int))):=(e3.put s2n).put s2n
        have f4:put (put (put S2 pz (.lst [.int 0])) pn (.lst ((List.replicate many (0:Int)).map D.int))) pn (.lst (((List.replicate many (0:Int)).set j d).map D.int)) pn=some (iL ((List.replicate many (0:Int)).set j d)):=put_same
        generalize put (put (put S2 pz (.lst [.int 0])) pn (.lst ((List.replicate many (0:Int)).map D.int))) pn (.lst (((List.replicate many (0:Int)).set j d).map D.int))=T0 at e4 f4 ⊢
        have e14:=e2.trans e4
        refine⟨(as.map D.ref,some p1),((List.range k).map fun j=>.int (C j:Nat),some p2),by simp only [dItems,e14 _ _ R1.own],by simp only [dItems,e14 _ _ hcs],?_⟩
        rw [zip_cols la]
        have lz:(List.replicate many (0:Int)).length=many:=List.length_replicate
        have gz:∀ x,((List.replicate many (0:Int)).set j d).getD x 0=if x=j then d else 0:=fun x=>by
          rw [getD_set (by rw [lz]; exact hlt)]
          by_cases h:x=j
          · rw [if_pos h,if_pos h]
          · rw [if_neg h,if_neg h,List.getD_eq_getElem?_getD,List.getElem?_replicate]
            split <;> rfl
        refine loop_ix (fun rr L S'=>∃ (t:Nat) (u:List Int) (l6 l7:Option D),L=[some (.ref r),some (.int (many:Nat)),some (.tup [.ref p1,.ref p2,.int d]),some (.ref pf),some (.int (j:Nat)),some (.ref pn),l6,l7]/\Ext S2 S'/\S' pn=some (iL u)/\u.length=many/\u.getD j 0=d/\(∀ i v,i < t->vss[i]?=some v->u.getD (C i) 0=- v.getD j 0)/\(∀ x,x < many->x≠j->(∀ i,i < t->C i≠x)->u.getD x 0=0)/\(∀ x∈u,Bt 500 x)/\t<=k/\rr=(List.range' t (k - t)).map fun t=>.tup [.ref (as.getD t 0),.int (C t:Nat)]) (fun rr L S' ⟨_,_,_,_,_,e,_⟩=>⟨(e2.trans e) _ _ R1.own,(e2.trans e) _ _ hcs⟩) ?_ ?_ _ _ _ ⟨0,_,l6,l7,rfl,e4,f4,by rw [List.length_set,lz],by rw [gz,if_pos rfl],fun i v h=>absurd h (by omega),fun x hx hxj _=>by rw [gz,if_neg hxj],fun x hx=>?_,Nat.zero_le _,by rw [Nat.sub_zero]⟩
        · rintro dd rr L S3 N2 ⟨t,u,l6,l7,rfl,e5,f5,hu,hud,hup,hu0,hub,htk,er⟩ hN2
          have htl:t < k:=by
            rcases Nat.lt_or_ge t k with h | h
            · exact h
            · rw [show k - t=0 by omega] at er; cases er
          rw [show k - t=(k - (t+1))+1 by omega] at er
          have er:dd::rr=.tup [.ref (as.getD t 0),.int (C t:Nat)]::((List.range' (t+1) (k - (t+1))).map fun t=>.tup [.ref (as.getD t 0),.int (C t:Nat)]):=er
          cases er
          have htv:t < vss.length:=by omega
          have hvt:vss[t]?=some vss[t]:=List.getElem?_eq_getElem htv
          have hCt:C t < many:=hRS.col t htl
          have hvl:=hRS.row _ (List.getElem_mem htv)
          refine⟨(_,none),rfl,rfl,rfl,_,_,(e2.trans e5) _ _ (arow t _ htl hvt),at_int (by rw [hvl]; exact hlt),_,C t,f5,ixN_nat (by rw [List.length_map,hu]; exact hCt),?_⟩
          have hCu:C t < u.length:=by rw [hu]; exact hCt
          refine hN2 _ _ ⟨t+1,u.set (C t) (- vss[t].getD j 0),_,_,rfl,e5.put s2n,by rw [put_same]; show some (DO.lst ((u.map D.int).set (C t) (.int (- vss[t].getD j 0))))=some (DO.lst ((u.set (C t) (- vss[t].getD j 0)).map D.int)); rw [List.map_set],by rw [List.length_set]; exact hu,?_,fun i v hi hv=>?_,fun x hx hxj hfr=>?_,fun x hx=>?_,htl,rfl⟩
          · rw [getD_set hCu,if_neg (Ne.symm (hno' t htl))]; exact hud
          · rw [getD_set hCu]
            by_cases e:i=t
            · subst e
              rw [if_pos rfl]
              rw [hvt] at hv
              cases hv
              rfl
            · rw [if_neg (by have:=hRS.inc i t (by omega) htl; omega)]
              exact hup i v (by omega) hv
          · rw [getD_set hCu,if_neg (Ne.symm (hfr t (by omega)))]
            exact hu0 x hx hxj fun i hi=>hfr i (by omega)
          · rcases List.mem_or_eq_of_mem_set hx with h | h
            · exact hub x h
            · rw [h]
              exact(bt _ (List.getElem_mem htv) _ (getD_mem (by rw [hvl]; exact hlt))).neg
        · rintro L S3 ⟨t,u,l6,l7,rfl,e5,f5,hu,hud,hup,hu0,hub,htk,er⟩
          have htk2:t=k:=by
            have:=congrArg List.length er
            rw [List.length_map,List.length_range'] at this
            have:0=k - t:=this
            omega
          subst htk2
          have f6:=e5 _ _ hf
          have hdm:d∈u:=by rw [<- hud]; exact getD_mem (by rw [hu]; exact hlt)
          refine⟨⟨_,f6⟩,pn,u,rfl,f5,⟨d,hdm,db.2⟩,hub,by omega,fun g q S5 g0 dv hq e6 h6=>⟨_,e6 _ _ f6,by rw [List.length_map]; exact big1 (by omega),?_⟩⟩
          have hqf:q≠pf:=fun zz=>by rw [zz,f6] at hq; cases hq
          have el:fs.map solL++[.ref q]=(fs++[(q,(j,g,u))]).map solL:=by rw [List.map_append]; rfl
          rw [el]
          refine hN _ _ ⟨j+1,fs++[(q,(j,g,u))],_,_,_,_,rfl,((e2.trans e5).trans e6).put hpf,put_same,?_,fun x hx=>?_,by rw [List.length_append]; show fs.length+1<=j+1; omega,hlt,rfl⟩
          · rw [List.map_append,hfree,List.range_succ,List.filter_append]
            have:List.filter (fun c=>!decide (∃ j,j < t/\C j=c)) [j]=[j]:=by simp only [List.filter_cons,List.filter_nil]; rw [decide_eq_false hno]; rfl
            rw [this]
            rfl
          · rcases List.mem_append.mp hx with h | h
            · obtain⟨g1,g2,g3⟩:=hfs x h
              exact⟨g1,by rw [put_ne g3]; exact e6 _ _ (e5 _ _ g2),g3⟩
            · simp only [List.mem_cons,List.not_mem_nil,or_false] at h
              subst h
              exact⟨⟨hlt,hno',g0,hu,hud,fun i v hi hv=>hup i v hi hv,hu0,dv,hub⟩,by rw [put_ne hqf]; exact h6,hqf⟩
        · rcases List.mem_or_eq_of_mem_set hx with h | h
          · rw [(List.mem_replicate.mp h).2]; decide
          · rw [h]; exact db.1
      · refine hN _ _ ⟨j+1,fs,_,_,_,_,rfl,e2,hf,?_,hfs,by omega,hlt,rfl⟩
        rw [hfree,List.range_succ,List.filter_append]
        have:List.filter (fun c=>!decide (∃ j,j < k/\C j=c)) [j]=[]:=by simp only [List.filter_cons,List.filter_nil]; rw [decide_eq_true hyes]; rfl
        rw [this,List.append_nil]
    · rintro L S2 ⟨j,fs,l4,l5,l6,l7,rfl,e2,hf,hfree,hfs,hfl,hj,er⟩
      have hjm:j=many:=by
        have:=congrArg List.length er
        rw [List.length_map,List.length_range'] at this
        have:0=many - j:=this
        omega
      subst hjm
      exact w vss0 vss k P C Qo d z pf fs S2 l0 rel0 hRS hk12 hfree (fun x hx=>⟨(hfs x hx).1,(hfs x hx).2.1⟩) (e1.trans e2) hf
set_option maxHeartbeats 4000000
abbrev W2 (v:Rat×Rat):D:=W v.1 v.2
abbrev P2 (v:Rat×Rat):D:=PP v.1 v.2
abbrev Rod:=Nat×Nat×Int
abbrev rodD (r:Rod):D:=.tup [.int (r.1:Nat),.int (r.2.1:Nat),.tup [.int r.2.2,.int 1]]
abbrev natD (f:Nat):D:=.int (f:Nat)
abbrev LK (many:Nat) (fx:List Nat) (rods:List Rod):D:=.tup [.int (many:Nat),.tup (fx.map natD),.tup (rods.map rodD)]
structure LkOk (many:Nat) (fx:List Nat) (rods:List Rod):Prop where
  m1:1<=many
  m7:many<=7
  fl:fx.length<=7
  fxl:∀ f∈fx,f < many
  rl:rods.length<=12
  rd:∀ r∈rods,r.1 < many/\r.2.1 < many/\r.1≠r.2.1
  nd:fx.Nodup
structure PlOk (many:Nat) (pts:List (Rat×Rat)):Prop where
  len:pts.length=many
  ok:∀ p∈pts,QOk 12 4 p.1/\QOk 12 4 p.2
def freeL (many:Nat) (fx:List Nat):List Nat:=(List.range many).filter fun j=>!decide (j∈fx)
theorem free_len {many:Nat} {fx:List Nat}:(freeL many fx).length<=many:=by
  unfold freeL
  have:=List.length_filter_le (fun j=>!decide (j∈fx)) (List.range many)
  rw [List.length_range] at this
  exact this
theorem inV_nats {c:Nat}:∀ fx:List Nat,inV (vOf (.int (c:Nat))) ((fx.map natD).map vOf)=decide (c∈fx)
  | []=>rfl
  | f::fx=>by
    have ih:=inV_nats (c:=c) fx
    unfold inV at ih ⊢
    rw [List.map_cons,List.map_cons,List.any_cons,ih]
    show((((f:Nat):Int) == ((c:Nat):Int)) || decide _)=_
    by_cases h:f=c
    · rw [decide_eq_true (show c∈f::fx from h▸List.mem_cons_self)]
      have:(((f:Nat):Int) == ((c:Nat):Int))=true:=by simp [h]
      rw [this,Bool.true_or]
    · have:(((f:Nat):Int) == ((c:Nat):Int))=false:=by simp; omega
      rw [this,Bool.false_or]
      have e:(c∈f::fx)=(c∈fx):=by simp [List.mem_cons,Ne.symm h]
      simp only [e]
theorem filter_loop {α:Type} {f g:α->D} {q:α->Bool} {all:List α} {S:DH} {p:Addr} {ok:DH->Prop} {bd:DB} {k:DK} {L1:Lo} (hp:S p=none) (hok:∀ S',Ext S S'->ok S')
    (hbd:∀ (x:α) (S':DH) (k':Option D->DH->Prop),x∈all->Ext S S'->k' (if q x then some (g x) else none) S'->bd (some (f x)::L1) S' k'):
    ∀ (r:List α) (acc:List D) (l0:Option D),(∀ x∈r,x∈all)->acc.length+r.length<=100->(∀ S',Ext S S'->S' p=some (.lst (acc++(r.filter q).map g))->k (.ref p) S')->dCLoop ok p (dgName 0) bd k (r.map f) acc (l0::L1) (put S p (.lst acc))
  | [],acc,l0,_,_,w=>⟨hok _ (Ext.new hp),w _ (Ext.new hp) (by rw [put_same]; simp)⟩
  | x::r,acc,l0,hr,hl,w=>by
    have hl:acc.length+(r.length+1)<=100:=hl
    refine⟨hok _ (Ext.new hp),hbd x _ _ (hr x List.mem_cons_self) (Ext.new hp) ?_⟩
    cases hq:q x with
    | true=>
      refine⟨put_same,big1 (by omega),?_⟩
      rw [put_put]
      exact filter_loop hp hok hbd r _ _ (fun y hy=>hr y (List.mem_cons_of_mem _ hy)) (by rw [List.length_append]; show acc.length+1+r.length<=100; omega) fun S' e h=>w S' e (by rw [h,List.append_assoc,List.filter_cons_of_pos (by rw [hq])]; rfl)
    | false=>
      exact filter_loop hp hok hbd r _ _ (fun y hy=>hr y (List.mem_cons_of_mem _ hy)) (by omega) fun S' e h=>w S' e (by rw [h,List.filter_cons_of_neg (by rw [hq]; decide)])
def F_free_joints:DSp:=fun ds S k=>∃ (many:Nat) (fx:List Nat) (rods:List Rod),ds=[LK many fx rods]/\LkOk many fx rods/\∀ p S',S p=none->Ext S S'->S' p=some (.lst ((freeL many fx).map natD))->k (.ref p) S'
theorem sc_free_joints:FnScope ["linkage"] ["linkage"] (defScope s_free_joints):=⟨rfl,rfl,rfl,by decide +kernel,rfl,by decide +kernel,by decide +kernel⟩
theorem ok_free_joints {P:Program} {w:World} {K:Fg} {mg:Str->Option Value} {base:Heap} {f:Addr} {fd:FuncData} (Fn:Fun K "free_joints" "free_joints" s_free_joints f fd) (z_range:mg "range"=none):
    FnOk P w K mg base CX0 1 f fd ["linkage"] (spU K F_free_joints):=by
  refine Fn.okJ sc_free_joints (fun ds S k h=>?_) (fun cdv A outer s H E hr=>⟨_,(ds_onej (dst_retj (d_compRIfj rfl (compSc (N:=["joint","linkage"]) (cap:=[none,some 0]) rfl rfl rfl rfl ⟨rfl,trivial⟩ rfl rfl ⟨⟨rfl,.inl rfl,.inl rfl⟩,trivial⟩) rfl z_range (da_consj (d_ixj x_ixE (d_varj 0) d_intj (fun _ _=>rfl)) da_nilj) (fun _ _ _ _=>(dg_namej (i:=0) (show List.Nodup (["joint","linkage"]:List Str) from by decide +kernel))) (fun _ _ _ _=>(dt_cmpj o_notInE (d_varj 0) (d_ixj x_ixE (d_varj 1) d_intj (fun _ _=>rfl)) (by with_unfolding_all rfl))) (fun _ _ _ _=>(d_varj 0))))),fun ds S k h=>?_⟩)
  · obtain⟨_,_,_,rfl,_⟩:=h
    rfl
  · obtain⟨many,fx,rods,rfl,ok,w⟩:=h
    have:=ok.m7
    refine⟨⟨by omega,by omega⟩,fun p hp=>?_⟩
    rw [Int.toNat_natCast]
    refine filter_loop (f:=natD) (g:=natD) (q:=fun j=>!decide (j∈fx)) (all:=List.range many) hp (fun _ _=>trivial) ?bb (List.range many) [] none (fun _ h=>h) (by rw [List.length_range]; show 0+many<=100; omega) fun S' e h=>w p S' hp e h
    case bb=>
      intro x S' k' hx e hk
      have hI:=inV_nats (c:=x) fx
      refine⟨(fx.map natD,none),rfl,rfl,by simp [flatD],?_⟩
      show(if (!inV (vOf (.int (x:Nat))) ((fx.map natD).map vOf))=true then _ else _)
      rw [hI]
      by_cases h:x∈fx
      · rw [decide_eq_true h] at hk ⊢
        exact hk
      · rw [decide_eq_false h] at hk ⊢
        exact hk
theorem QOk.to {A:Nat} {q:Rat} (h:QOk 12 A q):∃ z:Int,q*12=(z:Rat)/\z.natAbs<=A*12:=
  ⟨wn 12 q,by have:=wn_is h.1; rw [this]; rfl,wn_bt h (Nat.dvd_refl _) h.1 (by decide)⟩
theorem QOk.of {A:Nat} {q:Rat} {z:Int} (h:q*12=(z:Rat)) (hz:z.natAbs<=A*12):QOk 12 A q:=by
  have e:q.num*12=z*q.den:=by
    have h1:=rat_num_den q
    have:((q.num*12:Int):Rat)=((z*q.den:Int):Rat):=by
      rw [Rat.intCast_mul,Rat.intCast_mul,<- h,h1,Rat.intCast_natCast]
      have:((12:Int):Rat)=12:=rfl
      rw [this]
      grind
    exact Rat.intCast_inj.mp this
  have e2:q.num.natAbs*12=z.natAbs*q.den:=by
    have:=congrArg Int.natAbs e
    rw [Int.natAbs_mul,Int.natAbs_mul] at this
    exact this
  refine⟨Nat.Coprime.dvd_of_dvd_mul_left q.reduced.symm ⟨z.natAbs,by rw [e2,Nat.mul_comm]⟩,?_⟩
  refine Nat.le_of_mul_le_mul_right (c:=12) ?_ (by decide)
  rw [e2]
  calc z.natAbs*q.den<=A*12*q.den:=Nat.mul_le_mul_right _ hz
    _=A*q.den*12:=Nat.mul_right_comm ..
theorem QOk.sub {A B:Nat} {p q:Rat} (h:QOk 12 A p) (h':QOk 12 B q):QOk 12 (A+B) (p - q):=by
  obtain⟨x,e,l⟩:=h.to
  obtain⟨y,e',l'⟩:=h'.to
  refine QOk.of (z:=x - y) ?_ (by rw [Nat.add_mul]; omega)
  rw [Rat.intCast_sub,<- e,<- e']
  grind
theorem QOk.neg {A:Nat} {p:Rat} (h:QOk 12 A p):QOk 12 A (-p):=⟨by rw [Rat.neg_den]; exact h.1,by rw [Rat.neg_num,Rat.neg_den,Int.natAbs_neg]; exact h.2⟩
theorem QOk.zero {A:Nat}:QOk 12 A 0:=⟨⟨12,rfl⟩,Nat.zero_le _⟩
theorem QOk.sz {n:Nat} {p:Rat} (h:QOk 12 (2 ^ n) p):Sz (n+4) p:=by
  have h1:p.den<=12:=Nat.le_of_dvd (by decide) h.1
  have h3:1<=2 ^ n:=Nat.one_le_two_pow
  have h2:p.num.natAbs<=2 ^ n*12:=Nat.le_trans h.2 (Nat.mul_le_mul_left _ h1)
  constructor
  · unfold Bt
    rw [Nat.pow_add]
    omega
  · unfold Bt
    rw [Nat.pow_add,Int.natAbs_natCast]
    omega
theorem at_map {α:Type} {f:α->D} {l:List α} {c:Nat} {a:α} (h:l[c]?=some a):L2.atI (l.map f) ((c:Nat):Int)=some (f a):=L2.atI_nat (by rw [List.getElem?_map,h]; rfl)
def F_way_of_rod:DSp:=fun ds S k=>∃ (r:Rod) (pts:List (Rat×Rat)) (a b:Rat×Rat),ds=[rodD r,.tup (pts.map P2)]/\pts[r.1]?=some a/\pts[r.2.1]?=some b/\(QOk 12 4 a.1/\QOk 12 4 a.2)/\(QOk 12 4 b.1/\QOk 12 4 b.2)/\k (W (b.1 - a.1) (b.2 - a.2)) S
theorem sc_way_of_rod:FnScope ["rod","place"] ["rod","place"] (defScope s_way_of_rod):=⟨rfl,rfl,rfl,by decide +kernel,rfl,by decide +kernel,by decide +kernel⟩
theorem ok_way_of_rod {P:Program} {w:World} {K:Fg} {mg:Str->Option Value} {base:Heap} {f:Addr} {fd:FuncData} (Fn:Fun K "way_of_rod" "way_of_rod" s_way_of_rod f fd) (c_plain_way:Own P w K mg base "plain_way" 4 F_plain_way) (c_place_of:Own P w K mg base "place_of" 1 F_place_of):
    FnOk P w K mg base CX0 5 f fd ["rod","place"] (spU K F_way_of_rod):=by
  refine Fn.okJ sc_way_of_rod (fun ds S k h=>?_) (fun cdv A outer s H E hr=>⟨_,(ds_onej (dst_retj (d_callj c_plain_way (hr.mono (by decide)) rfl (da_consj (d_callj c_place_of (hr.mono (by decide)) rfl (da_consj (d_ixj x_ixF (d_varj 1) (d_ixj x_ixF (d_varj 0) d_intj (fun _ _=>rfl)) (fun _ _=>rfl)) da_nilj)) (da_consj (d_callj c_place_of (hr.mono (by decide)) rfl (da_consj (d_ixj x_ixF (d_varj 1) (d_ixj x_ixF (d_varj 0) d_intj (fun _ _=>rfl)) (fun _ _=>rfl)) da_nilj)) da_nilj))))),fun ds S k h=>?_⟩)
  · obtain⟨_,_,_,_,rfl,_⟩:=h
    rfl
  · obtain⟨r,pts,a,b,rfl,ha,hb,oa,ob,w⟩:=h
    have f1:Sz 6 a.1:=QOk.sz (n:=2) oa.1
    have f2:Sz 6 a.2:=QOk.sz (n:=2) oa.2
    have f3:Sz 6 b.1:=QOk.sz (n:=2) ob.1
    have f4:Sz 6 b.2:=QOk.sz (n:=2) ob.2
    exact⟨_,rfl,_,at_map ha,_,_,rfl,_,rfl,_,at_map hb,_,_,rfl,_,_,_,_,rfl,f1.mono (by decide),f2.mono (by decide),f3.mono (by decide),f4.mono (by decide),w⟩
theorem gen_loop {α γ:Type} {f:α->D} {g:γ->D} {R:α->γ->DH->Prop} {J:DH->Prop} {Kq:DH->DH->Prop} {p:Addr} {ok:DH->Prop} {bd:DB} {k:DK} {L1:Lo} {all:List α} (hok:∀ S',J S'->ok S')
    (hKp:∀ S1 S2 o,J S1->Kq S1 S2->S1 p=some o->S2 p=some o) (hKR:∀ S1 S2 x y,Kq S1 S2->R x y S1->R x y S2) (hpR:∀ S1 x y o,R x y S1->R x y (put S1 p o)) (hJ:∀ S1 o,J S1->J (put S1 p o))
    (hbd:∀ (x:α) (S':DH) (k':Option D->DH->Prop),x∈all->J S'->(∃ o,S' p=some o)->(∀ y S2,J S2->Kq S' S2->R x y S2->k' (some (g y)) S2)->bd (some (f x)::L1) S' k'):
    ∀ (r:List α) (zs:List (α×γ)) (S1:DH) (l0:Option D),(∀ x∈r,x∈all)->J S1->S1 p=some (.lst (zs.map fun z=>g z.2))->(∀ z∈zs,R z.1 z.2 S1)->zs.length+r.length<=100->(∀ (zs':List (α×γ)) S',J S'->S' p=some (.lst (zs'.map fun z=>g z.2))->(∀ z∈zs',R z.1 z.2 S')->zs'.map Prod.fst=zs.map Prod.fst++r->k (.ref p) S')->
    dCLoop ok p (dgName 0) bd k (r.map f) (zs.map fun z=>g z.2) (l0::L1) S1
  | [],zs,S1,l0,_,j1,h1,hz,_,w=>⟨hok _ j1,w zs S1 j1 h1 hz (by rw [List.append_nil])⟩
  | x::r,zs,S1,l0,hr,j1,h1,hz,hl,w=>by
    have hl:zs.length+(r.length+1)<=100:=hl
    refine⟨hok _ j1,hbd x S1 _ (hr x List.mem_cons_self) j1 ⟨_,h1⟩ fun y S2 j2 k2 hR=>⟨hKp _ _ _ j1 k2 h1,by rw [List.length_map]; exact big1 (by omega),?_⟩⟩
    have ea:(zs.map fun z=>g z.2)++[g y]=(zs++[(x,y)]).map fun z=>g z.2:=by rw [List.map_append]; rfl
    rw [ea]
    refine gen_loop hok hKp hKR hpR hJ hbd r (zs++[(x,y)]) _ _ (fun y hy=>hr y (List.mem_cons_of_mem _ hy)) (hJ _ _ j2) put_same (fun z hz'=>?_) (by rw [List.length_append]; show zs.length+1+r.length<=100; omega) fun zs' S' j' h' hR' he=>w zs' S' j' h' hR' (by rw [he,List.map_append,List.append_assoc]; rfl)
    refine hpR _ _ _ _ ?_
    rcases List.mem_append.mp hz' with h | h
    · exact hKR _ _ _ _ k2 (hz z h)
    · simp only [List.mem_cons,List.not_mem_nil,or_false] at h
      subst h
      exact hR
set_option maxHeartbeats 4000000
theorem eq_int {n:Nat} {i j:Int}:eqT n (.int i) (.int j)=some (i == j):=by cases n <;> rfl
theorem eq_fr {n:Nat} {p q:Rat}:eqT (n+1) (fr p) (fr q)=some (decide (p=q)):=by
  show eqTs (eqT n) [.int p.num,.int (p.den:Int)] [.int q.num,.int (q.den:Int)]=_
  show(match eqT n (.int p.num) (.int q.num),(match eqT n (.int (p.den:Int)) (.int (q.den:Int)),some true with | some a,some b=>some (a && b) | _,_=>none) with | some a,some b=>some (a && b) | _,_=>none)=_
  rw [eq_int,eq_int]
  show some ((p.num == q.num) && (((p.den:Int) == (q.den:Int)) && true))=_
  congr 1
  rw [Bool.and_true,Bool.eq_iff_iff]
  simp only [Bool.and_eq_true,beq_iff_eq,decide_eq_true_eq]
  exact⟨fun ⟨a,b⟩=>Rat.ext a (by exact_mod_cast b),fun h=>by subst h; exact⟨rfl,rfl⟩⟩
theorem eq_two {n:Nat} {a b c d:D} {p q:Bool} (h1:eqT n a c=some p) (h2:eqT n b d=some q):eqT (n+1) (.tup [a,b]) (.tup [c,d])=some (p && q):=by
  show(match eqT n a c,(match eqT n b d,some true with | some a,some b=>some (a && b) | _,_=>none) with | some a,some b=>some (a && b) | _,_=>none)=_
  rw [h1,h2]
  show some (p && (q && true))=_
  rw [Bool.and_true]
theorem eq_W {p:Rat×Rat}:eqT 8 (W2 p) (.tup [fr 0,fr 0])=some (decide (p=(0,0))):=by
  rw [show W2 p=.tup [fr p.1,fr p.2] from rfl,eq_two (n:=7) eq_fr eq_fr,<- Bool.decide_and]
  congr 1
  exact decide_eq_decide.mpr ⟨fun h=>Prod.ext h.1 h.2,fun h=>by rw [h]; exact⟨rfl,rfl⟩⟩
def wy (pts:List (Rat×Rat)) (i j:Nat):Rat×Rat:=((pts.getD j (0,0)).1 - (pts.getD i (0,0)).1,(pts.getD j (0,0)).2 - (pts.getD i (0,0)).2)
theorem getP {l:List (Rat×Rat)} {i:Nat} (h:i < l.length):l[i]?=some (l.getD i (0,0)):=by
  rw [List.getD_eq_getElem?_getD,List.getElem?_eq_getElem h]; rfl
theorem memP {l:List (Rat×Rat)} {i:Nat} (h:i < l.length):l.getD i (0,0)∈l:=List.mem_of_getElem? (getP h)
theorem PlOk.at {many:Nat} {pts:List (Rat×Rat)} (h:PlOk many pts) {i:Nat} (hi:i < many):pts[i]?=some (pts.getD i (0,0))/\QOk 12 4 (pts.getD i (0,0)).1/\QOk 12 4 (pts.getD i (0,0)).2:=by
  have hl:i < pts.length:=by rw [h.len]; exact hi
  exact⟨getP hl,h.ok _ (memP hl)⟩
theorem PlOk.way {many:Nat} {pts:List (Rat×Rat)} (h:PlOk many pts) {i j:Nat} (hi:i < many) (hj:j < many):QOk 12 8 (wy pts i j).1/\QOk 12 8 (wy pts i j).2:=
  ⟨(h.at hj).2.1.sub (h.at hi).2.1,(h.at hj).2.2.sub (h.at hi).2.2⟩
def cellR (w:Rat×Rat) (r:Rod) (j:Nat):List Rat:=if j=r.2.1 then [w.1,w.2] else if j=r.1 then [-w.1,-w.2] else [0,0]
def rowR (pts:List (Rat×Rat)) (js:List Nat) (r:Rod):List Rat:=js.flatMap (cellR (wy pts r.1 r.2.1) r)
theorem row_len {pts:List (Rat×Rat)} {r:Rod}:∀ js:List Nat,(rowR pts js r).length=2*js.length
  | []=>rfl
  | j::js=>by
    have ih:=row_len (pts:=pts) (r:=r) js
    unfold rowR at ih ⊢
    rw [List.flatMap_cons,List.length_append,ih]
    have:(cellR (wy pts r.1 r.2.1) r j).length=2:=by
      unfold cellR
      split
      · rfl
      · split <;> rfl
    rw [this,List.length_cons]
    omega
theorem row_snoc {pts:List (Rat×Rat)} {r:Rod} {js:List Nat} {j:Nat}:rowR pts (js++[j]) r=rowR pts js r++cellR (wy pts r.1 r.2.1) r j:=by
  unfold rowR
  rw [List.flatMap_append]
  simp
theorem row_ok {pts:List (Rat×Rat)} {r:Rod} {js:List Nat} (h:QOk 12 8 (wy pts r.1 r.2.1).1/\QOk 12 8 (wy pts r.1 r.2.1).2):∀ q∈rowR pts js r,QOk 12 8 q:=by
  intro q hq
  obtain⟨j,_,hj⟩:=List.mem_flatMap.mp hq
  unfold cellR at hj
  split at hj
  · simp only [List.mem_cons,List.not_mem_nil,or_false] at hj
    rcases hj with rfl | rfl
    · exact h.1
    · exact h.2
  · split at hj
    · simp only [List.mem_cons,List.not_mem_nil,or_false] at hj
      rcases hj with rfl | rfl
      · exact h.1.neg
      · exact h.2.neg
    · simp only [List.mem_cons,List.not_mem_nil,or_false] at hj
      rcases hj with rfl | rfl <;> exact QOk.zero
def F_row_of_rod:DSp:=fun ds S k=>∃ (many:Nat) (r:Rod) (pts:List (Rat×Rat)) (a:Addr) (js:List Nat),ds=[rodD r,.tup (pts.map P2),.ref a]/\S a=some (.lst (js.map natD))/\js.length<=7/\PlOk many pts/\r.1 < many/\r.2.1 < many/\∀ p S',S p=none->Ext S S'->S' p=some (.lst ((rowR pts js r).map fr))->k (.ref p) S'
theorem sc_row_of_rod:FnScope ["rod","place","joints","way","row","joint"] ["rod","place","joints"] (defScope s_row_of_rod):=⟨rfl,rfl,rfl,by decide +kernel,rfl,by decide +kernel,by decide +kernel⟩
theorem ok_row_of_rod {P:Program} {w:World} {K:Fg} {mg:Str->Option Value} {base:Heap} {f:Addr} {fd:FuncData} (Fn:Fun K "row_of_rod" "row_of_rod" s_row_of_rod f fd) (c_way_of_rod:Own P w K mg base "way_of_rod" 5 F_way_of_rod) (c_negative:Own P w K mg base "negative" 1 F_negative) (g_REST:GTup2 K mg "REST" [[0,1],[0,1]]):
    FnOk P w K mg base CX0 6 f fd ["rod","place","joints"] (spU K F_row_of_rod):=by
  refine Fn.okJ sc_row_of_rod (fun ds S k h=>?_) (fun cdv A outer s H E hr=>⟨_,(ds_consj (dst_setj (i:=3) sc_row_of_rod.nd (d_callj c_way_of_rod (hr.mono (by decide)) rfl (da_consj (d_varj 0) (da_consj (d_varj 1) da_nilj)))) (ds_consj (dst_setj (i:=4) sc_row_of_rod.nd (d_lstj da_nilj)) (ds_consj (dst_forEj PassesOwn.never rfl (d_varj 2) (dg_namej (i:=5) sc_row_of_rod.nd) (ds_onej (dst_ifj (dt_cmpj (o_eqX hr) (d_varj 5) (d_ixj x_ixE (d_varj 0) d_intj (fun _ _=>rfl)) (nomark _)) (ds_onej (dst_exprj (d_extTj (d_varj 4) (d_varj 3)))) (ds_onej (dst_ifj (dt_cmpj (o_eqX hr) (d_varj 5) (d_ixj x_ixE (d_varj 0) d_intj (fun _ _=>rfl)) (nomark _)) (ds_onej (dst_exprj (d_extTj (d_varj 4) (d_lstj (da_consj (d_callj c_negative (hr.mono (by decide)) rfl (da_consj (d_ixj x_ixE (d_varj 3) d_intj (fun _ _=>rfl)) da_nilj)) (da_consj (d_callj c_negative (hr.mono (by decide)) rfl (da_consj (d_ixj x_ixE (d_varj 3) d_intj (fun _ _=>rfl)) da_nilj)) da_nilj)))))) (ds_onej (dst_exprj (d_extTj (d_varj 4) (d_gtup2 g_REST rfl))))))))) (ds_onej (dst_retj (d_varj 4)))))),fun ds S k h=>?_⟩)
  · obtain⟨_,_,_,_,_,rfl,_⟩:=h
    rfl
  · obtain⟨many,r,pts,a,js,rfl,ha,hjs,pl,h1,h2,w⟩:=h
    have b1:=pl.at h1
    have b2:=pl.at h2
    refine⟨r,pts,_,_,rfl,b1.1,b2.1,b1.2,b2.2,few,fun p hp=>⟨(js.map natD,some a),by simp only [dItems,(Ext.new hp) _ _ ha],?_⟩⟩
    refine loop_ix (fun rr L S'=>∃ (dn rs:List Nat) (l5:Option D),L=[some (rodD r),some (.tup (pts.map P2)),some (.ref a),some (W2 (wy pts r.1 r.2.1)),some (.ref p),l5]/\js=dn++rs/\rr=rs.map natD/\Ext S S'/\S' p=some (.lst ((rowR pts dn r).map fr))) (fun rr L S' ⟨_,_,_,_,_,_,e,_⟩=>e _ _ ha) ?_ ?_ _ _ _ ⟨[],js,none,rfl,rfl,rfl,Ext.new hp,put_same⟩
    · rintro d rr L S1 N1 ⟨dn,rs,l5,rfl,ej,er,e1,f1⟩ hN
      cases rs with
      | nil=>cases er
      | cons j rs=>
        cases er
        have ej2:js=(dn++[j])++rs:=by rw [ej,List.append_assoc]; rfl
        have ld:dn.length<=7:=by
          have:=congrArg List.length ej
          rw [List.length_append] at this
          omega
        have lr:((rowR pts dn r).map fr).length=2*dn.length:=by rw [List.length_map,row_len]
        have fin:∀ S2,Ext S S2->S2 p=some (.lst ((rowR pts dn r).map fr++(cellR (wy pts r.1 r.2.1) r j).map fr))->N1 [some (rodD r),some (.tup (pts.map P2)),some (.ref a),some (W2 (wy pts r.1 r.2.1)),some (.ref p),some (.int (j:Nat))] S2:=fun S2 e2 f2=>hN _ _ ⟨dn++[j],rs,_,rfl,ej2,rfl,e2,by rw [f2,row_snoc,List.map_append]⟩
        refine⟨_,eq_int,ite_b (fun h=>?_) (fun h=>?_)⟩
        · have h:((j:Nat):Int)=((r.2.1:Nat):Int):=eq_of_beq h
          have hj:j=r.2.1:=by omega
          refine⟨⟨_,f1⟩,_,f1,by rw [lr]; exact Nat.le_of_lt (big1 (by show 2*dn.length+2 < 300; omega)),fin _ (e1.put hp) ?_⟩
          rw [put_same]
          unfold cellR
          rw [if_pos hj]
          rfl
        · have h:¬ ((j:Nat):Int)=((r.2.1:Nat):Int):=fun e=>by rw [e] at h; simp at h
          have hj:¬ j=r.2.1:=by omega
          refine⟨_,eq_int,ite_b (fun h=>?_) (fun h=>?_)⟩
          · have h:((j:Nat):Int)=((r.1:Nat):Int):=eq_of_beq h
            have hj2:j=r.1:=by omega
            refine⟨⟨_,f1⟩,_,rfl,_,rfl,few,fun q hq=>⟨_,_,(Ext.new hq) _ _ f1,put_same,by rw [lr]; exact Nat.le_of_lt (big1 (by show 2*dn.length+2 < 300; omega)),fin _ ((e1.put (e1.none hq)).put hp) ?_⟩⟩
            rw [put_same]
            unfold cellR
            rw [if_neg hj,if_pos hj2]
            rfl
          · have h:¬ ((j:Nat):Int)=((r.1:Nat):Int):=fun e=>by rw [e] at h; simp at h
            have hj2:¬ j=r.1:=by omega
            refine⟨⟨_,f1⟩,_,f1,by rw [lr]; exact Nat.le_of_lt (big1 (by show 2*dn.length+2 < 300; omega)),fin _ (e1.put hp) ?_⟩
            rw [put_same]
            unfold cellR
            rw [if_neg hj,if_neg hj2]
            rfl
    · rintro L S1 ⟨dn,rs,l5,rfl,ej,er,e1,f1⟩
      cases rs with
      | cons j rs=>cases er
      | nil=>
        rw [List.append_nil] at ej
        subst ej
        exact w p S1 hp e1 f1
def F_rows_of_rods:DSp:=fun ds S k=>∃ (many:Nat) (fx:List Nat) (rods:List Rod) (pts:List (Rat×Rat)),ds=[LK many fx rods,.tup (pts.map P2)]/\LkOk many fx rods/\PlOk many pts/\∀ p (zs:List (Rod×Addr)) S',S p=none->Ext S S'->S' p=some (.lst (zs.map fun z=>.ref z.2))->(∀ z∈zs,S' z.2=some (.lst ((rowR pts (freeL many fx) z.1).map fr)))->zs.map Prod.fst=rods->k (.ref p) S'
theorem sc_rows_of_rods:FnScope ["linkage","place","joints"] ["linkage","place"] (defScope s_rows_of_rods):=⟨rfl,rfl,rfl,by decide +kernel,rfl,by decide +kernel,by decide +kernel⟩
theorem ok_rows_of_rods {P:Program} {w:World} {K:Fg} {mg:Str->Option Value} {base:Heap} {f:Addr} {fd:FuncData} (Fn:Fun K "rows_of_rods" "rows_of_rods" s_rows_of_rods f fd) (c_free_joints:Own P w K mg base "free_joints" 1 F_free_joints) (c_row_of_rod:Own P w K mg base "row_of_rod" 6 F_row_of_rod):
    FnOk P w K mg base CX0 7 f fd ["linkage","place"] (spU K F_rows_of_rods):=by
  refine Fn.okJ sc_rows_of_rods (fun ds S k h=>?_) (fun cdv A outer s H E hr=>⟨_,(ds_consj (dst_setj (i:=2) sc_rows_of_rods.nd (d_callj c_free_joints (hr.mono (by decide)) rfl (da_consj (d_varj 0) da_nilj))) (ds_onej (dst_retj (d_compEj rfl (compSc (N:=["rod","place","joints"]) (cap:=[none,some 1,some 2]) rfl rfl rfl rfl ⟨rfl,rfl,trivial⟩ rfl rfl ⟨⟨rfl,.inl rfl,.inl rfl⟩,⟨rfl,.inl rfl,.inl rfl⟩,trivial⟩) (d_ixj x_ixE (d_varj 0) d_intj (fun _ _=>rfl)) (fun _ _ _ _=>(dg_namej (i:=0) (show List.Nodup (["rod","place","joints"]:List Str) from by decide +kernel))) (fun _ _ _ _=>(d_callj c_row_of_rod (hr.mono (by decide)) rfl (da_consj (d_varj 0) (da_consj (d_varj 1) (da_consj (d_varj 2) da_nilj))))))))),fun ds S k h=>?_⟩)
  · obtain⟨_,_,_,_,rfl,_⟩:=h
    rfl
  · obtain⟨many,fx,rods,pts,rfl,ok,pl,w⟩:=h
    refine⟨many,fx,rods,rfl,ok,fun pj S1 hpj e1 hj=>⟨(rods.map rodD,none),rfl,fun p hp=>?_⟩⟩
    refine gen_loop (f:=rodD) (g:=D.ref) (R:=fun r q S'=>S' q=some (.lst ((rowR pts (freeL many fx) r).map fr))/\q≠p) (J:=Ext S1) (Kq:=Ext) (all:=rods) (fun _ _=>trivial) (fun _ _ o _ e h=>e _ _ h) (fun _ _ _ _ e h=>⟨e _ _ h.1,h.2⟩) (fun _ _ _ _ h=>⟨by rw [put_ne h.2]; exact h.1,h.2⟩) (fun _ _ e=>e.put hp) ?bb rods [] _ none (fun _ h=>h) (Ext.new hp) put_same (fun _ h=>by cases h) (by show 0+rods.length<=100; have:=ok.rl; omega) fun zs S' e h hR hz=>w p zs S' (e1.none hp) (e1.trans e) h (fun z hz=>(hR z hz).1) hz
    intro r S' k' hr e2 ⟨o,ho⟩ hk
    obtain⟨h1,h2,_⟩:=ok.rd r hr
    refine⟨many,r,pts,pj,_,rfl,e2 _ _ hj,Nat.le_trans free_len ok.m7,pl,h1,h2,fun q S2 hq e3 h3=>hk q S2 (e2.trans e3) e3 ⟨h3,fun z=>by rw [z,ho] at hq; cases hq⟩⟩
set_option maxHeartbeats 4000000
def F_rank_of:DSp:=fun ds S k'=>∃ (r:Addr) (rs:List (Addr×List Rat)) (many W A:Nat),ds=[.ref r,.int (many:Nat)]/\S r=some (.lst (rs.map fun x=>.ref x.1))/\(∀ x∈rs,S x.1=some (.lst (x.2.map fr))/\x.2.length=many/\∀ q∈x.2,QOk W A q)/\0 < W/\W<=2 ^ 15/\A<=2 ^ 15/\many<=14/\rs.length<=14/\(many<=12\/rs.length<=12)/\
  ∀ (vss0 vss:List (List Int)) (k:Nat) (P C Qo:Nat->Nat) (d:Int) (z:Nat->Nat->Rat) (S':DH),vss0.length=rs.length->(∀ (i:Nat) x v,rs[i]?=some x->vss0[i]?=some v->∃ s,0 < s/\s ∣ W/\(∀ q∈x.2,q.den ∣ s)/\v=x.2.map (wn s))->RS (Mof vss0) many rs.length P C Qo k d z vss many->k<=12->Ext S S'->k' (.int (k:Nat)) S'
theorem sc_rank_of:FnScope ["rows","many"] ["rows","many"] (defScope s_rank_of):=⟨rfl,rfl,rfl,by decide +kernel,rfl,by decide +kernel,by decide +kernel⟩
theorem ok_rank_of {P:Program} {w:World} {K:Fg} {mg:Str->Option Value} {base:Heap} {f:Addr} {fd:FuncData} (Fn:Fun K "rank_of" "rank_of" s_rank_of f fd) (c_reduced:Own P w K mg base "reduced" 3 F_reduced) (z_len:mg "len"=none):
    FnOk P w K mg base CX0 4 f fd ["rows","many"] (spU K F_rank_of):=by
  refine Fn.okJ sc_rank_of (fun ds S k h=>?_) (fun cdv A outer s H E hr=>⟨_,(ds_onej (dst_retj (d_callBj b_lenE rfl z_len bt_len (da_consj (d_ixj x_ixE (d_callj c_reduced (hr.mono (by decide)) rfl (da_consj (d_varj 0) (da_consj (d_varj 1) da_nilj))) d_intj (fun _ _=>rfl)) da_nilj)))),fun ds S k h=>?_⟩)
  · obtain⟨_,_,_,_,_,rfl,_⟩:=h
    rfl
  · obtain⟨r,rs,many,W,A,rfl,hr,hx,w0,hW,hA,hmany,hrs,h12,w⟩:=h
    refine⟨r,rs,many,W,A,rfl,hr,hx,w0,hW,hA,hmany,hrs,h12,fun vss0 vss k P C Qo d z p1 p2 as S1 l0 rel0 hRS hM hk12 e1 R1 hcs=>?_⟩
    have:=w vss0 vss k P C Qo d z S1 l0 rel0 hRS hk12 e1
    refine⟨_,hcs,?_⟩
    rw [List.length_map,List.length_range]
    exact this
def F_many_swings:DSp:=fun ds S k'=>∃ (many:Nat) (fx:List Nat) (rods:List Rod) (pts:List (Rat×Rat)),ds=[LK many fx rods,.tup (pts.map P2)]/\LkOk many fx rods/\PlOk many pts/\∀ (vss0 vss:List (List Int)) (k:Nat) (P C Qo:Nat->Nat) (d:Int) (z:Nat->Nat->Rat) (S':DH),vss0.length=rods.length->(∀ (i:Nat) x v,rods[i]?=some x->vss0[i]?=some v->∃ s,0 < s/\s ∣ 12/\(∀ q∈rowR pts (freeL many fx) x,q.den ∣ s)/\v=(rowR pts (freeL many fx) x).map (wn s))->RS (Mof vss0) (2*(freeL many fx).length) rods.length P C Qo k d z vss (2*(freeL many fx).length)->k<=12->Ext S S'->k' (.int ((2*(freeL many fx).length:Nat) - (k:Nat))) S'
theorem sc_many_swings:FnScope ["linkage","place","many"] ["linkage","place"] (defScope s_many_swings):=⟨rfl,rfl,rfl,by decide +kernel,rfl,by decide +kernel,by decide +kernel⟩
theorem ok_many_swings {P:Program} {w:World} {K:Fg} {mg:Str->Option Value} {base:Heap} {f:Addr} {fd:FuncData} (Fn:Fun K "many_swings" "many_swings" s_many_swings f fd) (c_free_joints:Own P w K mg base "free_joints" 1 F_free_joints) (c_rank_of:Own P w K mg base "rank_of" 4 F_rank_of) (c_rows_of_rods:Own P w K mg base "rows_of_rods" 7 F_rows_of_rods) (z_len:mg "len"=none):
    FnOk P w K mg base CX0 8 f fd ["linkage","place"] (spU K F_many_swings):=by
  refine Fn.okJ sc_many_swings (fun ds S k h=>?_) (fun cdv A outer s H E hr=>⟨_,(ds_consj (dst_setj (i:=2) sc_many_swings.nd (d_opj o_mul d_intj (d_callBj b_lenE rfl z_len bt_len (da_consj (d_callj c_free_joints (hr.mono (by decide)) rfl (da_consj (d_varj 0) da_nilj)) da_nilj)))) (ds_onej (dst_retj (d_opj o_sub (d_varj 2) (d_callj c_rank_of (hr.mono (by decide)) rfl (da_consj (d_callj c_rows_of_rods (hr.mono (by decide)) rfl (da_consj (d_varj 0) (da_consj (d_varj 1) da_nilj))) (da_consj (d_varj 2) da_nilj))))))),fun ds S k h=>?_⟩)
  · obtain⟨_,_,_,_,rfl,_⟩:=h
    rfl
  · obtain⟨many,fx,rods,pts,rfl,ok,pl,w⟩:=h
    have m7:=ok.m7
    have fl:=free_len (many:=many) (fx:=fx)
    refine⟨many,fx,rods,rfl,ok,fun pj S1 hpj e1 hj=>?_⟩
    have bl:Bt 4 ((((freeL many fx).map natD).length:Nat):Int):=by unfold Bt; rw [Int.natAbs_natCast,List.length_map]; show(freeL many fx).length < 16; omega
    refine⟨_,hj,mok (show Bt 2 2 by decide) bl,?_⟩
    refine⟨many,fx,rods,pts,rfl,ok,pl,fun pr zs S2 hpr e2 hr hzs hzr=>?_⟩
    have hn:(2:Int)*((((freeL many fx).map natD).length:Nat):Int)=((2*(freeL many fx).length:Nat):Int):=by rw [List.length_map]; omega
    have zl:zs.length=rods.length:=by
      have:=congrArg List.length hzr
      rw [List.length_map] at this
      exact this
    have rl:=ok.rl
    refine⟨pr,zs.map fun z=>(z.2,rowR pts (freeL many fx) z.1),2*(freeL many fx).length,12,8,congrArg (fun x=>[D.ref pr,D.int x]) hn,by rw [hr,List.map_map]; rfl,fun x hx=>?_,by decide,by decide,by decide,by omega,by rw [List.length_map]; omega,.inr (by rw [List.length_map]; omega),fun vss0 vss kk P C Qo d z S3 l0 rel hRS k12 e3=>?_⟩
    · obtain⟨z,hz,rfl⟩:=List.mem_map.mp hx
      have hzm:z.1∈rods:=by rw [<- hzr]; exact List.mem_map_of_mem hz
      obtain⟨h1,h2,_⟩:=ok.rd z.1 hzm
      exact⟨hzs z hz,row_len _,row_ok (pl.way h1 h2)⟩
    · rw [List.length_map,zl] at l0 hRS
      have:=w vss0 vss kk P C Qo d z S3 l0 (fun i x v hi hv=>?_) hRS k12 ((e1.trans e2).trans e3)
      · show k (.int ((2:Int)*((((freeL many fx).map natD).length:Nat):Int) - ((kk:Nat):Int))) S3
        rw [hn]
        exact this
      · have h1:zs[i]?.map Prod.fst=some x:=by rw [<- List.getElem?_map,hzr]; exact hi
        cases hz:zs[i]? with
        | none=>rw [hz] at h1; cases h1
        | some z0=>
          rw [hz] at h1
          have h1:some z0.1=some x:=h1
          cases h1
          exact rel i (z0.2,rowR pts (freeL many fx) z0.1) v (by rw [List.getElem?_map,hz]; rfl) hv
set_option maxHeartbeats 4000000
def F__law_cell_at:DSp:=fun ds S k=>∃ (ns:List Int) (i:Int),ds=[.rl (List.map D.int ns),.int i]/\0<=i/\∀ c:Int,k (.int c) S
theorem sc__law_cell_at:FnScope ["script","k"] ["script","k"] (defScope s__law_cell_at):=⟨rfl,rfl,rfl,by decide +kernel,rfl,by decide +kernel,by decide +kernel⟩
theorem ok__law_cell_at {P:Program} {w:World} {K:Fg} {mg:Str->Option Value} {base:Heap} {f:Addr} {fd:FuncData} (Fn:Fun K "_law_cell_at" "_law_cell_at" s__law_cell_at f fd) (z_len:mg "len"=none):
    FnOk P w K mg base CX0 1 f fd ["script","k"] (spU K F__law_cell_at):=by
  refine Fn.okJ sc__law_cell_at (fun ds S k h=>?_) (fun cdv A outer s H E hr=>⟨_,(ds_consj (dst_ifj (dt_cmpj o_lt (d_varj 1) (d_callBj b_lenE rfl z_len bt_len (da_consj (d_varj 0) da_nilj)) (nomark _)) (ds_onej (dst_retj (d_ixj x_ixE (d_varj 0) (d_varj 1) (fun _ _=>rfl)))) ds_nilj) (ds_onej (dst_retj d_intj))),fun ds S k h=>?_⟩)
  · obtain⟨_,_,rfl,_⟩:=h
    rfl
  · obtain⟨ns,i,rfl,h0,q⟩:=h
    refine ite_dec (fun hl=>?_) (fun _=>q 0)
    obtain⟨n,rfl⟩:=Int.eq_ofNat_of_zero_le h0
    have hn:n < ns.length:=by rw [List.length_map] at hl; omega
    have e:L2.atI (List.map D.int ns) (n:Int)=some (.int ns[n]):=atI_nat (by rw [List.getElem?_map,List.getElem?_eq_getElem hn] <;> rfl)
    exact⟨_,e,q _⟩
def F__law_state:DSp:=fun ds S k=>∃ ns i,ds=[.rl (List.map D.int ns),.int i]/\0<=i/\∀ (p:Addr) (n:Int) (b:Bool),S p=none->(b=false->0<=n/\n < 2147483647)->k (.ref p) (put S p (.lst [.int n,.bl b]))
theorem sc__law_state:FnScope ["script","k","cell"] ["script","k"] (defScope s__law_state):=⟨rfl,rfl,rfl,by decide +kernel,rfl,by decide +kernel,by decide +kernel⟩
theorem ok__law_state {P:Program} {w:World} {K:Fg} {mg:Str->Option Value} {base:Heap} {f:Addr} {fd:FuncData} (Fn:Fun K "_law_state" "_law_state" s__law_state f fd) (c__law_cell_at:Own P w K mg base "_law_cell_at" 1 F__law_cell_at):
    FnOk P w K mg base CX0 2 f fd ["script","k"] (spU K F__law_state):=by
  refine Fn.okJ sc__law_state (fun ds S k h=>?_) (fun cdv A outer s H E hr=>⟨_,(ds_consj (dst_setj (i:=2) sc__law_state.nd (d_callj c__law_cell_at (hr.mono (by decide)) rfl (da_consj (d_varj 0) (da_consj (d_varj 1) da_nilj)))) (ds_consj (dst_ifj (dt_cmpj o_ge (d_varj 2) (d_opj o_pow d_intj d_intj) (nomark _)) (ds_onej (dst_retj (d_lstj (da_consj (d_opj o_sub (d_varj 2) (d_opj o_pow d_intj d_intj)) (da_consj d_blj da_nilj))))) ds_nilj) (ds_onej (dst_retj (d_lstj (da_consj (d_opj o_mod (d_varj 2) d_intj) (da_consj d_blj da_nilj))))))),fun ds S k h=>?_⟩)
  · obtain⟨_,_,rfl,_⟩:=h
    rfl
  · obtain⟨ns,i,rfl,h0,q⟩:=h
    have hp:CPow 10 18:=⟨by decide,by decide,by decide⟩
    refine⟨ns,i,rfl,h0,fun c=>⟨hp,ite_dec (fun hl=>⟨hp,few,fun p hn=>?_⟩) (fun hl=>⟨(by show(2147483647:Int)≠0; decide),few,fun p hn=>?_⟩)⟩⟩
    · exact q p _ _ hn (fun z=>by cases z)
    · exact q p _ _ hn (fun _=>⟨Int.fmod_nonneg_of_pos _ (by decide),Int.fmod_lt_of_pos _ (by decide)⟩)
def F__law_take:DSp:=fun ds S k=>∃ a m,ds=[.ref a,.int m]/\0 < m/\Bt 200 m/\SOK S a/\∀ r S',0<=r->r < m->Dr a S S'->k (.int r) S'
theorem sc__law_take:FnScope ["state","many","mixed","found"] ["state","many"] (defScope s__law_take):=⟨rfl,rfl,rfl,by decide +kernel,rfl,by decide +kernel,by decide +kernel⟩
theorem ok__law_take {P:Program} {w:World} {K:Fg} {mg:Str->Option Value} {base:Heap} {f:Addr} {fd:FuncData} (Fn:Fun K "_law_take" "_law_take" s__law_take f fd):
    FnOk P w K mg base CX0 1 f fd ["state","many"] (spU K F__law_take):=by
  refine Fn.okJ sc__law_take (fun ds S k h=>?_) (fun cdv A outer s H E hr=>⟨_,(ds_consj (dst_ifj (dt_valj (d_ixj x_ixE (d_varj 0) d_intj (fun _ _=>rfl))) (ds_consj (dst_setj (i:=3) sc__law_take.nd (d_opj o_mod (d_ixj x_ixE (d_varj 0) d_intj (fun _ _=>rfl)) (d_varj 1))) (ds_consj (dst_asgj (d_opj o_div (d_ixj x_ixE (d_varj 0) d_intj (fun _ _=>rfl)) (d_varj 1)) (dg_subE (d_varj 0) d_intj)) (ds_onej (dst_retj (d_varj 3))))) ds_nilj) (ds_consj (dst_asgj (d_opj o_mod (d_opj o_add (d_opj o_mul (d_ixj x_ixE (d_varj 0) d_intj (fun _ _=>rfl)) d_intj) d_intj) d_intj) (dg_subE (d_varj 0) d_intj)) (ds_consj (dst_setj (i:=2) sc__law_take.nd (d_opj o_mod (d_opj o_add (d_opj o_add (d_opj o_mul (d_ixj x_ixE (d_varj 0) d_intj (fun _ _=>rfl)) (d_ixj x_ixE (d_varj 0) d_intj (fun _ _=>rfl))) (d_opj o_mul d_intj (d_ixj x_ixE (d_varj 0) d_intj (fun _ _=>rfl)))) d_intj) d_intj)) (ds_consj (dst_setj (i:=2) sc__law_take.nd (d_opj o_mod (d_opj o_add (d_opj o_mul (d_varj 2) (d_varj 2)) (d_opj o_mul d_intj (d_varj 2))) d_intj)) (ds_onej (dst_retj (d_opj o_mod (d_opj o_div (d_varj 2) d_intj) (d_varj 1)))))))),fun ds S k h=>?_⟩)
  · obtain⟨_,_,rfl,_⟩:=h
    rfl
  · obtain⟨a,m,rfl,hm,hb,⟨n,b,hS,hn⟩,q⟩:=h
    have put_dr:∀ (n':Int) (b':Bool),(b'=false->0<=n'/\n' < 2147483647)->Dr a S (put S a (.lst [.int n',.bl b'])):=fun n' b' h'=>
      ⟨⟨n',b',put_same,h'⟩,fun c o z e=>by rw [put_ne z]; exact e⟩
    refine⟨_,_,hS,atI1,?_⟩
    cases b with
    | true=>
      refine⟨_,_,hS,atI0,(show m≠0 by omega),_,_,hS,atI0,dok (by omega) hb,_,_,hS,ixN0,?_⟩
      exact q _ _ (Int.fmod_nonneg_of_pos _ hm) (Int.fmod_lt_of_pos _ hm) (put_dr _ _ fun z=>by cases z)
    | false=>
      obtain⟨n0,n1⟩:=hn rfl
      have b31:=bt31 n0 (by omega)
      refine⟨_,_,hS,atI0,mok (n:=31) b31 (bt31 (by decide) (by decide)),(show (2147483647:Int)≠0 by decide),_,_,hS,ixN0,?_⟩
      have c0:0<=(n*48271+29).fmod 2147483647:=Int.fmod_nonneg_of_pos _ (by decide)
      have c1:(n*48271+29).fmod 2147483647 < 2147483647:=Int.fmod_lt_of_pos _ (by decide)
      have bx:=bt31 c0 (by omega)
      refine⟨_,_,put_same,atI0,_,_,put_same,atI0,mok bx bx,_,_,put_same,atI0,mok (m:=31) (bt31 (by decide) (by decide)) bx,(show (2147483629:Int)≠0 by decide),?_⟩
      have d0:0<=((n*48271+29).fmod 2147483647*(n*48271+29).fmod 2147483647+39373*(n*48271+29).fmod 2147483647+7).fmod 2147483629:=Int.fmod_nonneg_of_pos _ (by decide)
      have d1:((n*48271+29).fmod 2147483647*(n*48271+29).fmod 2147483647+39373*(n*48271+29).fmod 2147483647+7).fmod 2147483629 < 2147483629:=Int.fmod_lt_of_pos _ (by decide)
      have by':=bt31 d0 (by omega)
      refine⟨mok by' by',mok (m:=31) (bt31 (by decide) (by decide)) by',(show (2147483587:Int)≠0 by decide),⟨by decide,by decide +kernel⟩,(show m≠0 by omega),?_⟩
      exact q _ _ (Int.fmod_nonneg_of_pos _ hm) (Int.fmod_lt_of_pos _ hm) (put_dr _ _ fun _=>⟨c0,c1⟩)
theorem gcd_abs (a b:Int):Int.gcd (absI a) (absI b)=Int.gcd a b:=by
  have e:∀ x:Int,(absI x).natAbs=x.natAbs:=fun x=>by unfold absI; split <;> omega
  unfold Int.gcd
  rw [e,e]
def F__law_divisor:DSp:=fun ds S k=>∃ a b,ds=[.int a,.int b]/\k (.int ((Int.gcd a b:Nat):Int)) S
theorem sc__law_divisor:FnScope ["one","other"] ["one","other"] (defScope s__law_divisor):=⟨rfl,rfl,rfl,by decide +kernel,rfl,by decide +kernel,by decide +kernel⟩
theorem ok__law_divisor {P:Program} {w:World} {K:Fg} {mg:Str->Option Value} {base:Heap} {f:Addr} {fd:FuncData} (Fn:Fun K "_law_divisor" "_law_divisor" s__law_divisor f fd) (z_abs:mg "abs"=none):
    FnOk P w K mg base CX0 1 f fd ["one","other"] (spU K F__law_divisor):=by
  refine Fn.okJ sc__law_divisor (fun ds S k h=>?_) (fun cdv A outer s H E hr=>⟨_,(ds_consj (dst_setj (i:=0) sc__law_divisor.nd (d_callBj b_abs rfl z_abs bt_abs (da_consj (d_varj 0) da_nilj))) (ds_consj (dst_setj (i:=1) sc__law_divisor.nd (d_callBj b_abs rfl z_abs bt_abs (da_consj (d_varj 1) da_nilj))) (ds_consj (dst_whilej PassesOwn.never (dt_cmpj o_gt (d_varj 1) d_intj (nomark _)) (ds_onej (dst_parj (i:=0) (j:=1) rfl sc__law_divisor.nd (by decide) (da_consj (d_varj 1) (da_consj (d_opj o_mod (d_varj 0) (d_varj 1)) da_nilj))))) (ds_onej (dst_retj (d_varj 0)))))),fun ds S k h=>?_⟩)
  · obtain⟨_,_,rfl,_⟩:=h
    rfl
  · obtain⟨a,b,rfl,q⟩:=h
    refine⟨fun m L S'=>S'=S/\∃ x y,L=[some (.int x),some (.int y)]/\m=y.natAbs/\0<=x/\0<=y/\Int.gcd x y=Int.gcd a b,⟨_,rfl,absI a,absI b,rfl,rfl,absI_nn a,absI_nn b,gcd_abs a b⟩,?_⟩
    rintro m L S' ⟨rfl,x,y,rfl,rfl,hx,hy,e⟩
    refine ite_dec (fun hl=>⟨fun L' S''=>∃ m',m' < y.natAbs/\S''=S'/\∃ x y,L'=[some (.int x),some (.int y)]/\m'=y.natAbs/\0<=x/\0<=y/\Int.gcd x y=Int.gcd a b,fun _ _ z=>z,by omega,?_⟩) (fun hl=>?_)
    · exact⟨_,fmod_lt x y (by omega),rfl,y,x.fmod y,rfl,rfl,hy,Int.fmod_nonneg_of_pos _ hl,(gcd_fmod x y).trans e⟩
    · have z:y=0:=by omega
      subst z
      have e2:=gcd_zero x
      rw [e,if_neg (by omega)] at e2
      rw [e2] at q
      exact q
def F__law_ratio:DSp:=fun ds S k=>∃ t b,ds=[.int t,.int b]/\b≠0/\Bt 8000 b/\k (fr (Rat.divInt t b)) S
theorem sc__law_ratio:FnScope ["top","bottom","by"] ["top","bottom"] (defScope s__law_ratio):=⟨rfl,rfl,rfl,by decide +kernel,rfl,by decide +kernel,by decide +kernel⟩
theorem ok__law_ratio {P:Program} {w:World} {K:Fg} {mg:Str->Option Value} {base:Heap} {f:Addr} {fd:FuncData} (Fn:Fun K "_law_ratio" "_law_ratio" s__law_ratio f fd) (c__law_divisor:Own P w K mg base "_law_divisor" 1 F__law_divisor):
    FnOk P w K mg base CX0 2 f fd ["top","bottom"] (spU K F__law_ratio):=by
  refine Fn.okJ sc__law_ratio (fun ds S k h=>?_) (fun cdv A outer s H E hr=>⟨_,(ds_consj (dst_setj (i:=2) sc__law_ratio.nd (d_callj c__law_divisor (hr.mono (by decide)) rfl (da_consj (d_varj 0) (da_consj (d_varj 1) da_nilj)))) (ds_consj (dst_ifj (dt_cmpj o_lt (d_varj 1) d_intj (nomark _)) (ds_onej (dst_setj (i:=2) sc__law_ratio.nd (d_opj o_sub d_intj (d_varj 2)))) ds_nilj) (ds_onej (dst_retj (d_tupj (da_consj (d_opj o_div (d_varj 0) (d_varj 2)) (da_consj (d_opj o_div (d_varj 1) (d_varj 2)) da_nilj))))))),fun ds S k h=>?_⟩)
  · obtain⟨_,_,rfl,_⟩:=h
    rfl
  · obtain⟨t,b,rfl,h0,hb,q⟩:=h
    have hg:=gcd_bt (t:=t) h0 hb
    have hs:=shr_ne (t:=t) h0
    have e1:=div_num (t:=t) h0
    have e2:=div_den (t:=t) h0
    have qq:k (.tup [.int (t.fdiv (shr t b)),.int (b.fdiv (shr t b))]) S:=by rw [e1,e2]; exact q
    unfold shr at qq hs
    refine⟨t,b,rfl,ite_dec (fun hl=>?_) (fun hl=>?_)⟩
    · rw [if_pos hl] at qq hs
      rw [<- Int.zero_sub] at qq hs
      have hd:∀ x:Int,CDivB x (0 - ((Int.gcd t b:Nat):Int)):=fun x=>dok hs (by rw [Int.zero_sub]; exact hg.neg)
      exact⟨hd _,hd _,few,qq⟩
    · rw [if_neg hl] at qq hs
      exact⟨dok hs hg,dok hs hg,few,qq⟩
theorem lratio_go {S:DH} {k:DK} {t b:Int} {q:Rat} (e:Rat.divInt t b=q) (h0:b≠0) (hb:Bt 8000 b) (h:k (fr q) S):F__law_ratio [.int t,.int b] S k:=by subst e; exact⟨_,_,rfl,h0,hb,h⟩
def F__law_plus:DSp:=fun ds S k=>∃ p q:Rat,ds=[fr p,fr q]/\Sz 4000 p/\Sz 4000 q/\k (fr (p+q)) S
theorem sc__law_plus:FnScope ["one","other"] ["one","other"] (defScope s__law_plus):=⟨rfl,rfl,rfl,by decide +kernel,rfl,by decide +kernel,by decide +kernel⟩
theorem ok__law_plus {P:Program} {w:World} {K:Fg} {mg:Str->Option Value} {base:Heap} {f:Addr} {fd:FuncData} (Fn:Fun K "_law_plus" "_law_plus" s__law_plus f fd) (c__law_ratio:Own P w K mg base "_law_ratio" 2 F__law_ratio):
    FnOk P w K mg base CX0 3 f fd ["one","other"] (spU K F__law_plus):=by
  refine Fn.okJ sc__law_plus (fun ds S k h=>?_) (fun cdv A outer s H E hr=>⟨_,(ds_onej (dst_retj (d_callj c__law_ratio (hr.mono (by decide)) rfl (da_consj (d_opj o_add (d_opj o_mul (d_ixj x_ixE (d_varj 0) d_intj (fun _ _=>rfl)) (d_ixj x_ixE (d_varj 1) d_intj (fun _ _=>rfl))) (d_opj o_mul (d_ixj x_ixE (d_varj 1) d_intj (fun _ _=>rfl)) (d_ixj x_ixE (d_varj 0) d_intj (fun _ _=>rfl)))) (da_consj (d_opj o_mul (d_ixj x_ixE (d_varj 0) d_intj (fun _ _=>rfl)) (d_ixj x_ixE (d_varj 1) d_intj (fun _ _=>rfl))) da_nilj))))),fun ds S k h=>?_⟩)
  · obtain⟨_,_,rfl,_⟩:=h
    rfl
  · obtain⟨p,q,rfl,hp,hq,w⟩:=h
    exact⟨mok hp.num hq.den,mok hq.num hp.den,mok hp.den hq.den,lratio_go (add_of p q) (den_mul_ne p q) ((hp.den.mul hq.den).mono (by decide)) w⟩
def F__law_minus:DSp:=fun ds S k=>∃ p q:Rat,ds=[fr p,fr q]/\Sz 4000 p/\Sz 4000 q/\k (fr (p - q)) S
theorem sc__law_minus:FnScope ["one","other"] ["one","other"] (defScope s__law_minus):=⟨rfl,rfl,rfl,by decide +kernel,rfl,by decide +kernel,by decide +kernel⟩
theorem ok__law_minus {P:Program} {w:World} {K:Fg} {mg:Str->Option Value} {base:Heap} {f:Addr} {fd:FuncData} (Fn:Fun K "_law_minus" "_law_minus" s__law_minus f fd) (c__law_ratio:Own P w K mg base "_law_ratio" 2 F__law_ratio):
    FnOk P w K mg base CX0 3 f fd ["one","other"] (spU K F__law_minus):=by
  refine Fn.okJ sc__law_minus (fun ds S k h=>?_) (fun cdv A outer s H E hr=>⟨_,(ds_onej (dst_retj (d_callj c__law_ratio (hr.mono (by decide)) rfl (da_consj (d_opj o_sub (d_opj o_mul (d_ixj x_ixE (d_varj 0) d_intj (fun _ _=>rfl)) (d_ixj x_ixE (d_varj 1) d_intj (fun _ _=>rfl))) (d_opj o_mul (d_ixj x_ixE (d_varj 1) d_intj (fun _ _=>rfl)) (d_ixj x_ixE (d_varj 0) d_intj (fun _ _=>rfl)))) (da_consj (d_opj o_mul (d_ixj x_ixE (d_varj 0) d_intj (fun _ _=>rfl)) (d_ixj x_ixE (d_varj 1) d_intj (fun _ _=>rfl))) da_nilj))))),fun ds S k h=>?_⟩)
  · obtain⟨_,_,rfl,_⟩:=h
    rfl
  · obtain⟨p,q,rfl,hp,hq,w⟩:=h
    exact⟨mok hp.num hq.den,mok hq.num hp.den,mok hp.den hq.den,lratio_go (sub_of p q) (den_mul_ne p q) ((hp.den.mul hq.den).mono (by decide)) w⟩
def F__law_times:DSp:=fun ds S k=>∃ p q:Rat,ds=[fr p,fr q]/\Sz 4000 p/\Sz 4000 q/\k (fr (p*q)) S
theorem sc__law_times:FnScope ["one","other"] ["one","other"] (defScope s__law_times):=⟨rfl,rfl,rfl,by decide +kernel,rfl,by decide +kernel,by decide +kernel⟩
theorem ok__law_times {P:Program} {w:World} {K:Fg} {mg:Str->Option Value} {base:Heap} {f:Addr} {fd:FuncData} (Fn:Fun K "_law_times" "_law_times" s__law_times f fd) (c__law_ratio:Own P w K mg base "_law_ratio" 2 F__law_ratio):
    FnOk P w K mg base CX0 3 f fd ["one","other"] (spU K F__law_times):=by
  refine Fn.okJ sc__law_times (fun ds S k h=>?_) (fun cdv A outer s H E hr=>⟨_,(ds_onej (dst_retj (d_callj c__law_ratio (hr.mono (by decide)) rfl (da_consj (d_opj o_mul (d_ixj x_ixE (d_varj 0) d_intj (fun _ _=>rfl)) (d_ixj x_ixE (d_varj 1) d_intj (fun _ _=>rfl))) (da_consj (d_opj o_mul (d_ixj x_ixE (d_varj 0) d_intj (fun _ _=>rfl)) (d_ixj x_ixE (d_varj 1) d_intj (fun _ _=>rfl))) da_nilj))))),fun ds S k h=>?_⟩)
  · obtain⟨_,_,rfl,_⟩:=h
    rfl
  · obtain⟨p,q,rfl,hp,hq,w⟩:=h
    exact⟨mok hp.num hq.num,mok hp.den hq.den,lratio_go (mul_of p q) (den_mul_ne p q) ((hp.den.mul hq.den).mono (by decide)) w⟩
theorem QOk.frac {t b:Int} (h1:1<=b) (h4:b<=4) (ht:t.natAbs<=4):QOk 12 4 (Rat.divInt t b):=by
  have key:∀ c:Int,c*b=12->0<=c->c<=12->QOk 12 4 (Rat.divInt t b):=fun c hc c0 c12=>by
    refine QOk.of (z:=t*c) ?_ ?_
    · rw [Rat.divInt_eq_div,Rat.intCast_mul]
      have hb:((b:Int):Rat)≠0:=by rw [<- Rat.intCast_zero]; intro h; have:=Rat.intCast_inj.mp h; omega
      have h12:((c:Int):Rat)*((b:Int):Rat)=12:=by rw [<- Rat.intCast_mul,hc]; rfl
      grind
    · rw [Int.natAbs_mul]
      exact Nat.mul_le_mul ht (by omega)
  have:b=1\/b=2\/b=3\/b=4:=by omega
  rcases this with rfl | rfl | rfl | rfl
  · exact key 12 rfl (by decide) (by decide)
  · exact key 6 rfl (by decide) (by decide)
  · exact key 4 rfl (by decide) (by decide)
  · exact key 3 rfl (by decide) (by decide)
def F__law_fraction:DSp:=fun ds S k=>∃ (a:Addr) (m:Int),ds=[.ref a,.int m]/\1<=m/\m<=4/\SOK S a/\∀ q S',QOk 12 4 q->Dr a S S'->k (fr q) S'
theorem sc__law_fraction:FnScope ["state","most"] ["state","most"] (defScope s__law_fraction):=⟨rfl,rfl,rfl,by decide +kernel,rfl,by decide +kernel,by decide +kernel⟩
theorem ok__law_fraction {P:Program} {w:World} {K:Fg} {mg:Str->Option Value} {base:Heap} {f:Addr} {fd:FuncData} (Fn:Fun K "_law_fraction" "_law_fraction" s__law_fraction f fd) (c__law_ratio:Own P w K mg base "_law_ratio" 2 F__law_ratio) (c__law_take:Own P w K mg base "_law_take" 1 F__law_take):
    FnOk P w K mg base CX0 3 f fd ["state","most"] (spU K F__law_fraction):=by
  refine Fn.okJ sc__law_fraction (fun ds S k h=>?_) (fun cdv A outer s H E hr=>⟨_,(ds_onej (dst_retj (d_callj c__law_ratio (hr.mono (by decide)) rfl (da_consj (d_opj o_sub (d_callj c__law_take (hr.mono (by decide)) rfl (da_consj (d_varj 0) (da_consj (d_opj o_add (d_opj o_mul d_intj (d_varj 1)) d_intj) da_nilj))) (d_varj 1)) (da_consj (d_opj o_add d_intj (d_callj c__law_take (hr.mono (by decide)) rfl (da_consj (d_varj 0) (da_consj (d_ixj x_ixE (d_lstj (da_consj d_intj (da_consj d_intj (da_consj d_intj (da_consj d_intj da_nilj))))) (d_callj c__law_take (hr.mono (by decide)) rfl (da_consj (d_varj 0) (da_consj d_intj da_nilj))) (fun _ _=>rfl)) da_nilj)))) da_nilj))))),fun ds S k h=>?_⟩)
  · obtain⟨_,_,rfl,_⟩:=h
    rfl
  · obtain⟨a,m,rfl,m1,m4,hS,w⟩:=h
    have bm:Bt 4 m:=by unfold Bt; omega
    have b9:Bt 5 (2*m+1):=by unfold Bt; omega
    refine⟨mok (show Bt 2 2 by decide) bm,a,2*m+1,rfl,by omega,b9.mono (by decide),hS,fun r1 S1 h1 h1' d1=>⟨few,fun p hp=>⟨a,4,rfl,by decide,by decide,d1.1.new hp,fun r2 S2 h2 h2' d2=>?_⟩⟩⟩
    have hp3:=d2.2 p _ (d1.1.ne hp) put_same
    obtain⟨c,hc,hm⟩:=atI_mem (ds:=[.int 1,.int 1,.int 1,.int 4]) h2 h2'
    have hc2:∃ s:Int,c=.int s/\1<=s/\s<=4:=by
      simp only [List.mem_cons,List.not_mem_nil,or_false] at hm
      rcases hm with rfl | rfl | rfl | rfl
      · exact⟨1,rfl,by decide,by decide⟩
      · exact⟨1,rfl,by decide,by decide⟩
      · exact⟨1,rfl,by decide,by decide⟩
      · exact⟨4,rfl,by decide,by decide⟩
    obtain⟨s,rfl,s0,s1⟩:=hc2
    have bs:Bt 4 s:=by unfold Bt; omega
    refine⟨_,_,hp3,hc,a,s,rfl,by omega,bs.mono (by decide),d2.1,fun r3 S3 h3 h3' d3=>?_⟩
    have b1:Bt 4 (r1 - m):=by unfold Bt; omega
    have b2:Bt 4 (1+r3):=by unfold Bt; omega
    exact⟨_,_,rfl,by omega,b2.mono (by decide),w _ _ (QOk.frac (by omega) (by omega) (by omega)) (d1.trans ((Dr.new d1.1 hp).trans (d2.trans d3)))⟩
def F__law_plain_point:DSp:=fun ds S k=>∃ a m,ds=[.ref a,.int m]/\1<=m/\m<=4/\SOK S a/\∀ v S',QOk 12 4 v.1/\QOk 12 4 v.2->Dr a S S'->k (P2 v) S'
theorem sc__law_plain_point:FnScope ["state","most"] ["state","most"] (defScope s__law_plain_point):=⟨rfl,rfl,rfl,by decide +kernel,rfl,by decide +kernel,by decide +kernel⟩
theorem ok__law_plain_point {P:Program} {w:World} {K:Fg} {mg:Str->Option Value} {base:Heap} {f:Addr} {fd:FuncData} (Fn:Fun K "_law_plain_point" "_law_plain_point" s__law_plain_point f fd) (c__law_fraction:Own P w K mg base "_law_fraction" 3 F__law_fraction):
    FnOk P w K mg base CX0 4 f fd ["state","most"] (spU K F__law_plain_point):=by
  refine Fn.okJ sc__law_plain_point (fun ds S k h=>?_) (fun cdv A outer s H E hr=>⟨_,(ds_onej (dst_retj (d_tupj (da_consj (d_tupj (da_consj (d_callj c__law_fraction (hr.mono (by decide)) rfl (da_consj (d_varj 0) (da_consj (d_varj 1) da_nilj))) (da_consj (d_tupj (da_consj d_intj (da_consj d_intj da_nilj))) da_nilj))) (da_consj (d_tupj (da_consj (d_callj c__law_fraction (hr.mono (by decide)) rfl (da_consj (d_varj 0) (da_consj (d_varj 1) da_nilj))) (da_consj (d_tupj (da_consj d_intj (da_consj d_intj da_nilj))) da_nilj))) da_nilj))))),fun ds S k h=>?_⟩)
  · obtain⟨_,_,rfl,_⟩:=h
    rfl
  · obtain⟨a,m,rfl,m1,m4,hS,w⟩:=h
    exact⟨a,m,rfl,m1,m4,hS,fun x S1 hx d1=>⟨few,few,a,m,rfl,m1,m4,d1.1,fun y S2 hy d2=>⟨few,few,few,w (x,y) S2 ⟨hx,hy⟩ (d1.trans d2)⟩⟩⟩
def F__law_way:DSp:=fun ds S k=>∃ (many:Nat) (pts:List (Rat×Rat)) (i j:Nat) (x:Unit),ds=[.tup (pts.map P2),.int (i:Nat),.int (j:Nat)]/\PlOk many pts/\i < many/\j < many/\∀ p S',S p=none->Ext S S'->S' p=some (.lst [fr (wy pts i j).1,fr (wy pts i j).2])->k (.ref p) S'
theorem sc__law_way:FnScope ["place","one","other"] ["place","one","other"] (defScope s__law_way):=⟨rfl,rfl,rfl,by decide +kernel,rfl,by decide +kernel,by decide +kernel⟩
theorem ok__law_way {P:Program} {w:World} {K:Fg} {mg:Str->Option Value} {base:Heap} {f:Addr} {fd:FuncData} (Fn:Fun K "_law_way" "_law_way" s__law_way f fd) (c__law_minus:Own P w K mg base "_law_minus" 3 F__law_minus) (z_range:mg "range"=none):
    FnOk P w K mg base CX0 4 f fd ["place","one","other"] (spU K F__law_way):=by
  refine Fn.okJ sc__law_way (fun ds S k h=>?_) (fun cdv A outer s H E hr=>⟨_,(ds_onej (dst_retj (d_compRj rfl (compSc (N:=["k","place","other","one"]) (cap:=[none,some 0,some 2,some 1]) rfl rfl rfl rfl ⟨rfl,rfl,rfl,trivial⟩ rfl rfl ⟨⟨rfl,.inl rfl,.inl rfl⟩,⟨rfl,.inl rfl,.inl rfl⟩,⟨rfl,.inl rfl,.inl rfl⟩,trivial⟩) rfl z_range (da_consj d_intj da_nilj) (fun _ _ _ _=>(dg_namej (i:=0) (show List.Nodup (["k","place","other","one"]:List Str) from by decide +kernel))) (fun _ _ _ _=>(d_callj c__law_minus (hr.mono (by decide)) rfl (da_consj (d_ixj x_ixF (d_ixj x_ixF (d_ixj x_ixF (d_varj 1) (d_varj 2) (fun _ _=>rfl)) (d_varj 0) (fun _ _=>rfl)) d_intj (fun _ _=>rfl)) (da_consj (d_ixj x_ixF (d_ixj x_ixF (d_ixj x_ixF (d_varj 1) (d_varj 3) (fun _ _=>rfl)) (d_varj 0) (fun _ _=>rfl)) d_intj (fun _ _=>rfl)) da_nilj))))))),fun ds S k h=>?_⟩)
  · obtain⟨_,_,_,_,_,rfl,_⟩:=h
    rfl
  · obtain⟨many,pts,i,j,_,rfl,pl,hi,hj,w⟩:=h
    have a1:=pl.at hi
    have a2:=pl.at hj
    have f1:Sz 6 _:=QOk.sz (n:=2) a1.2.1
    have f2:Sz 6 _:=QOk.sz (n:=2) a1.2.2
    have f3:Sz 6 _:=QOk.sz (n:=2) a2.2.1
    have f4:Sz 6 _:=QOk.sz (n:=2) a2.2.2
    refine⟨⟨by decide,by decide⟩,fun p hp=>?_⟩
    refine⟨trivial,_,at_map a2.1,_,rfl,_,rfl,_,at_map a1.1,_,rfl,_,rfl,_,_,rfl,f3.mono (by decide),f1.mono (by decide),put_same,big1 (by decide),trivial,_,at_map a2.1,_,rfl,_,rfl,_,at_map a1.1,_,rfl,_,rfl,_,_,rfl,f4.mono (by decide),f2.mono (by decide),put_same,big1 (by show 1 < 300; decide),trivial,?_⟩
    rw [put_put,put_put]
    exact w p _ hp (Ext.new hp) put_same
set_option maxHeartbeats 4000000
theorem SOK.set {a q:Addr} {S:DH} {o:DO} (h:SOK S a) (z:q≠a):SOK (put S q o) a:=by
  obtain⟨n,b,e,w⟩:=h
  exact⟨n,b,by rw [put_ne (Ne.symm z)]; exact e,w⟩
theorem Dr.put {a p:Addr} {S S1:DH} {o:DO} (d:Dr a S S1) (hp:S p=none) (hne:p≠a):Dr a S (put S1 p o):=
  ⟨SOK.set d.1 hne,fun b u n e=>by rw [put_ne (ne_put e hp)]; exact d.2 b u n e⟩
theorem Dr.none {a p:Addr} {S S1:DH} (d:Dr a S S1) (h:S1 p=none):S p=none:=by
  cases e:S p with
  | none=>rfl
  | some o=>rw [d.2 p o (d.1.ne h) e] at h; cases h
theorem draw_filter {S:DH} {a p:Addr} {ok:DH->Prop} {bd:DB} {k:DK} {L1:Lo} {n:Nat} (hp:S p=none) (hne:p≠a) (hok:∀ S',ok S')
    (hbd:∀ (x:Nat) (S':DH) (k':Option D->DH->Prop),SOK S' a->(∀ (b:Bool) S2,Dr a S' S2->k' (if b then some (natD x) else none) S2)->bd (some (natD x)::L1) S' k'):
    ∀ (r acc:List Nat) (S1:DH) (l0:Option D),(acc++r).Nodup->(∀ x∈acc,x < n)->(∀ x∈r,x < n)->Dr a S S1->S1 p=some (.lst (acc.map natD))->acc.length+r.length<=7->(∀ (fx:List Nat) S',fx.Nodup->(∀ f∈fx,f < n)->fx.length<=7->Dr a S S'->S' p=some (.lst (fx.map natD))->k (.ref p) S')->dCLoop ok p (dgName 0) bd k (r.map natD) (acc.map natD) (l0::L1) S1
  | [],acc,S1,l0,nd,ha,_,d1,h1,hl,w=>⟨hok _,w acc S1 (by rw [List.append_nil] at nd; exact nd) ha (by simpa using hl) d1 h1⟩
  | x::r,acc,S1,l0,nd,ha,hr,d1,h1,hl,w=>by
    have hl:acc.length+(r.length+1)<=7:=hl
    refine⟨hok _,hbd x S1 _ d1.1 fun b S2 d2=>?_⟩
    have h2:=d2.2 p _ hne h1
    cases b with
    | true=>
      refine⟨h2,by rw [List.length_map]; exact big1 (by omega),?_⟩
      have ea:acc.map natD++[natD x]=(acc++[x]).map natD:=by rw [List.map_append]; rfl
      rw [ea]
      exact draw_filter hp hne hok hbd r (acc++[x]) _ _ (by rw [List.append_assoc]; exact nd) (fun y hy=>(List.mem_append.mp hy).elim (ha y) fun h=>by simp at h; subst h; exact hr _ List.mem_cons_self) (fun y hy=>hr y (List.mem_cons_of_mem _ hy)) ((d1.trans d2).put hp hne) put_same (by rw [List.length_append]; show acc.length+1+r.length<=7; omega) w
    | false=>exact draw_filter hp hne hok hbd r acc _ _ (nd.sublist (List.Sublist.append_left (List.sublist_cons_self x r) acc)) ha (fun y hy=>hr y (List.mem_cons_of_mem _ hy)) (d1.trans d2) h2 (by omega) w
theorem erase_map {α β:Type} {f:α->β}:∀ (l:List α) (n:Nat),(l.map f).eraseIdx n=(l.eraseIdx n).map f
  | [],_=>rfl
  | _::_,0=>rfl
  | x::l,n+1=>by
    show f x::(l.map f).eraseIdx n=f x::(l.eraseIdx n).map f
    rw [erase_map l n]
abbrev prD (x:Nat×Nat):D:=.tup [.int (x.1:Nat),.int (x.2:Nat)]
def F__law_linkage:DSp:=fun ds S k=>∃ a,ds=[.ref a]/\SOK S a/\∀ (many:Nat) (fx:List Nat) (rods:List Rod) (pts:List (Rat×Rat)) S',LkOk many fx rods->PlOk many pts->Dr a S S'->k (.tup [LK many fx rods,.tup (pts.map P2)]) S'
theorem sc__law_linkage:FnScope ["state","many","fixed","pairs","one","rods","k","place","other"] ["state"] (defScope s__law_linkage):=⟨rfl,rfl,rfl,by decide +kernel,rfl,by decide +kernel,by decide +kernel⟩
theorem ok__law_linkage {P:Program} {w:World} {K:Fg} {mg:Str->Option Value} {base:Heap} {f:Addr} {fd:FuncData} (Fn:Fun K "_law_linkage" "_law_linkage" s__law_linkage f fd) (c__law_take:Own P w K mg base "_law_take" 1 F__law_take) (c__law_plain_point:Own P w K mg base "_law_plain_point" 4 F__law_plain_point) (z_tuple:mg "tuple"=none) (z_range:mg "range"=none) (z_len:mg "len"=none):
    FnOk P w K mg base CX0 5 f fd ["state"] (spU K F__law_linkage):=by
  refine Fn.okJ sc__law_linkage (fun ds S k h=>?_) (fun cdv A outer s H E hr=>⟨_,(ds_consj (dst_setj (i:=1) sc__law_linkage.nd (d_opj o_add d_intj (d_callj c__law_take (hr.mono (by decide)) rfl (da_consj (d_varj 0) (da_consj d_intj da_nilj))))) (ds_consj (dst_setj (i:=2) sc__law_linkage.nd (d_callTj b_tuple rfl z_tuple bt_tuple (da_consj (d_compRIfj rfl (compSc (N:=["joint","state"]) (cap:=[none,some 0]) rfl rfl rfl rfl ⟨rfl,trivial⟩ rfl rfl ⟨⟨rfl,.inl rfl,.inl rfl⟩,trivial⟩) rfl z_range (da_consj (d_varj 1) da_nilj) (fun _ _ _ _=>(dg_namej (i:=0) (show List.Nodup (["joint","state"]:List Str) from by decide +kernel))) (fun _ _ _ _=>(dt_cmpj (o_eqX hr) (d_callj c__law_take (hr.mono (by decide)) rfl (da_consj (d_varj 1) (da_consj d_intj da_nilj))) d_intj (nomark _))) (fun _ _ _ _=>(d_varj 0))) da_nilj))) (ds_consj (dst_setj (i:=3) sc__law_linkage.nd (d_lstj da_nilj)) (ds_consj (dst_forRj PassesOwn.never rfl rfl z_range (da_consj (d_varj 1) da_nilj) (dg_namej (i:=4) sc__law_linkage.nd) (ds_onej (dst_exprj (d_extj (d_varj 3) (d_compR2j rfl (compSc (N:=["other","one"]) (cap:=[none,some 4]) rfl rfl rfl rfl ⟨rfl,trivial⟩ rfl rfl ⟨⟨rfl,.inl rfl,.inl rfl⟩,trivial⟩) rfl z_range (da_consj (d_opj o_add (d_varj 4) d_intj) (da_consj (d_varj 1) da_nilj)) (fun _ _ _ _=>(dg_namej (i:=0) (show List.Nodup (["other","one"]:List Str) from by decide +kernel))) (fun _ _ _ _=>(d_tupj (da_consj (d_varj 1) (da_consj (d_varj 0) da_nilj))))))))) (ds_consj (dst_setj (i:=5) sc__law_linkage.nd (d_lstj da_nilj)) (ds_consj (dst_forRj PassesOwn.never rfl rfl z_range (da_consj (d_callj c__law_take (hr.mono (by decide)) rfl (da_consj (d_varj 0) (da_consj d_intj da_nilj))) da_nilj) (dg_namej (i:=6) sc__law_linkage.nd) (ds_onej (dst_ifj (dt_cmpj (o_neL hr) (d_varj 3) (d_lstj da_nilj) (nomark _)) (ds_consj (dst_asgj (d_pop1j (d_varj 3) (d_callj c__law_take (hr.mono (by decide)) rfl (da_consj (d_varj 0) (da_consj (d_callBj b_lenE rfl z_len bt_len (da_consj (d_varj 3) da_nilj)) da_nilj)))) (dg_seqE (n:=2) rfl (dgs_consj (dg_namej (i:=4) sc__law_linkage.nd) (dgs_consj (dg_namej (i:=8) sc__law_linkage.nd) dgs_nilj)))) (ds_onej (dst_exprj (d_appj (d_varj 5) (d_tupj (da_consj (d_varj 4) (da_consj (d_varj 8) (da_consj (d_tupj (da_consj (d_opj o_add d_intj (d_callj c__law_take (hr.mono (by decide)) rfl (da_consj (d_varj 0) (da_consj d_intj da_nilj)))) (da_consj d_intj da_nilj))) da_nilj)))))))) ds_nilj))) (ds_consj (dst_setj (i:=7) sc__law_linkage.nd (d_compRj rfl (compSc (N:=["joint","state"]) (cap:=[none,some 0]) rfl rfl rfl rfl ⟨rfl,trivial⟩ rfl rfl ⟨⟨rfl,.inl rfl,.inl rfl⟩,trivial⟩) rfl z_range (da_consj (d_varj 1) da_nilj) (fun _ _ _ _=>(dg_namej (i:=0) (show List.Nodup (["joint","state"]:List Str) from by decide +kernel))) (fun _ _ _ _=>(d_callj c__law_plain_point (hr.mono (by decide)) rfl (da_consj (d_varj 1) (da_consj d_intj da_nilj)))))) (ds_consj (dst_ifj (dt_cmpj (o_eqX hr) (d_callj c__law_take (hr.mono (by decide)) rfl (da_consj (d_varj 0) (da_consj d_intj da_nilj))) d_intj (nomark _)) (ds_onej (dst_setj (i:=7) sc__law_linkage.nd (d_compEj rfl (compSc (N:=["point","place"]) (cap:=[none,some 7]) rfl rfl rfl rfl ⟨rfl,trivial⟩ rfl rfl ⟨⟨rfl,.inl rfl,.inl rfl⟩,trivial⟩) (d_varj 7) (fun _ _ _ _=>(dg_namej (i:=0) (show List.Nodup (["point","place"]:List Str) from by decide +kernel))) (fun _ _ _ _=>(d_tupj (da_consj (d_ixj x_ixF (d_varj 0) d_intj (fun _ _=>rfl)) (da_consj (d_ixj x_ixF (d_ixj x_ixF (d_varj 1) d_intj (fun _ _=>rfl)) d_intj (fun _ _=>rfl)) da_nilj))))))) ds_nilj) (ds_onej (dst_retj (d_tupj (da_consj (d_tupj (da_consj (d_varj 1) (da_consj (d_varj 2) (da_consj (d_callTj b_tuple rfl z_tuple bt_tuple (da_consj (d_varj 5) da_nilj)) da_nilj)))) (da_consj (d_callTj b_tuple rfl z_tuple bt_tuple (da_consj (d_varj 7) da_nilj)) da_nilj))))))))))))),fun ds S k h=>?_⟩)
  · obtain⟨_,rfl,_⟩:=h
    rfl
  · obtain⟨a,rfl,hS,w⟩:=h
    refine⟨a,7,rfl,by decide,by decide,hS,fun r0 S1 h0 h0' d1=>?_⟩
    obtain⟨m,rfl⟩:=Int.eq_ofNat_of_zero_le h0
    have hm:m < 7:=by omega
    have em:(1:Int)+((m:Nat):Int)=((m+1:Nat):Int):=by omega
    refine⟨⟨by omega,by omega⟩,fun p1 hp1=>?_⟩
    rw [em]
    have hM1:1<=m+1:=by omega
    have hM7:m+1<=7:=by omega
    generalize m+1=M at hM1 hM7 ⊢
    clear em h0 h0' hm
    have np1:p1≠a:=d1.1.ne hp1
    rw [Int.toNat_natCast]
    refine draw_filter (n:=M) hp1 np1 (fun _=>trivial) ?bb (List.range M) [] _ none List.nodup_range (fun _ h=>by cases h) (fun x hx=>List.mem_range.mp hx) ((Dr.new d1.1 hp1)) put_same (by rw [List.length_range]; show 0+M<=7; omega) fun fx S2 hnd hfx hfl d2 hf=>?_
    case bb=>
      intro x S' k' hS' hk
      exact⟨a,3,rfl,by decide,by decide,hS',fun r S2 _ _ d=>⟨_,eq_int,ite_b (fun _=>hk true S2 d) (fun _=>hk false S2 d)⟩⟩
    have d2:=d1.trans d2
    refine⟨_,hf,few,fun p2 hp2=>⟨⟨by omega,by omega⟩,?_⟩⟩
    clear hf
    have np2:p2≠a:=d2.1.ne hp2
    have s2:S p2=none:=d2.none hp2
    rw [Int.toNat_natCast]
    refine loop_ix (fun rr L S'=>∃ (j:Nat) (prs:List (Nat×Nat)) (l4:Option D),L=[some (.ref a),some (.int (M:Nat)),some (.tup (fx.map natD)),some (.ref p2),l4,none,none,none,none]/\Dr a S S'/\S' p2=some (.lst (prs.map prD))/\(∀ x∈prs,x.1 < x.2/\x.2 < M)/\prs.length<=7*j/\j<=M/\rr=(List.range' j (M - j)).map fun(i:Nat)=>D.int (i:Nat)) (fun _ _ _ _=>trivial) ?_ ?_ _ _ _ ⟨0,[],none,rfl,d2.put s2 np2,put_same,(fun _ h=>by cases h),Nat.zero_le _,Nat.zero_le _,by rw [List.range_eq_range',Nat.sub_zero]⟩
    · rintro d rr L S3 N1 ⟨j,prs,l4,rfl,d3,h3,hx,hl,hj,er⟩ hN
      have hlt:j < M:=by
        rcases Nat.lt_or_ge j M with h | h
        · exact h
        · rw [show M - j=0 by omega] at er; cases er
      rw [show M - j=(M - (j+1))+1 by omega] at er
      have er:d::rr=D.int (j:Nat)::((List.range' (j+1) (M - (j+1))).map fun(i:Nat)=>D.int (i:Nat)):=er
      cases er
      refine⟨⟨_,h3⟩,⟨by omega,by omega,by omega,by omega⟩,fun p3 hp3=>?_⟩
      have er2:rngD (((j:Nat):Int)+1) ((M:Nat):Int)=(List.range' (j+1) (M - (j+1))).map natD:=by
        unfold rngD
        rw [show (((M:Nat):Int) - (((j:Nat):Int)+1)).toNat=M - (j+1) by omega,List.range'_eq_map_range,List.map_map]
        refine List.map_congr_left fun i _=>?_
        show D.int (((j:Nat):Int)+1+((i:Nat):Int))=D.int ((j+1+i:Nat):Int)
        exact congrArg D.int (by omega)
      rw [er2]
      refine map_loop (f:=natD) (g:=fun i=>prD (j,i)) (all:=List.range' (j+1) (M - (j+1))) hp3 (fun _ _=>trivial) ?_ (List.range' (j+1) (M - (j+1))) [] none (fun _ h=>h) (by rw [List.length_range']; show 0+(M - (j+1))<=100; omega) fun S4 e4 h4=>?_
      · intro x S' k' hx e hk
        exact⟨few,hk⟩
      · have h4:S4 p3=some (.lst ((List.range' (j+1) (M - (j+1))).map fun i=>prD (j,i))):=h4
        have h5:=e4 _ _ h3
        refine⟨_,_,h5,h4,by rw [List.length_map,List.length_map,List.length_range']; exact Nat.le_of_lt (big1 (by omega)),?_⟩
        have ea:prs.map prD++(List.range' (j+1) (M - (j+1))).map (fun i=>prD (j,i))=(prs++(List.range' (j+1) (M - (j+1))).map fun i=>(j,i)).map prD:=by rw [List.map_append,List.map_map]; rfl
        rw [ea]
        have d4:Dr a S S4:=⟨by obtain⟨n,b,e,w⟩:=d3.1; exact⟨n,b,e4 _ _ e,w⟩,fun b o n e=>e4 _ _ (d3.2 b o n e)⟩
        refine hN _ _ ⟨j+1,_,_,rfl,d4.put s2 np2,put_same,fun x hx'=>?_,by rw [List.length_append,List.length_map,List.length_range']; omega,hlt,rfl⟩
        rcases List.mem_append.mp hx' with h | h
        · exact hx x h
        · obtain⟨i,hi,rfl⟩:=List.mem_map.mp h
          have:=List.mem_range'.mp hi
          obtain⟨i',hi',rfl⟩:=this
          constructor <;> omega
    · rintro L S3 ⟨j,prs,l4,rfl,d3,h3,hx,hl,hj,er⟩
      have pl:prs.length<=49:=by omega
      refine⟨few,fun p3 hp3=>?_⟩
      have np3:p3≠a:=d3.1.ne hp3
      have s3:S p3=none:=d3.none hp3
      have n23:p2≠p3:=fun z=>by rw [z,hp3] at h3; cases h3
      have d4:Dr a S (put S3 p3 (.lst [])):=d3.put s3 np3
      refine⟨a,13,rfl,by decide,by decide,d4.1,fun r S4 r0 r1 d5=>⟨⟨by omega,by omega⟩,?_⟩⟩
      have d6:=d4.trans d5
      have g2:S4 p2=some (.lst (prs.map prD)):=d5.2 _ _ np2 (by rw [put_ne n23]; exact h3)
      have g3:S4 p3=some (.lst []):=d5.2 _ _ np3 put_same
      obtain⟨R,rfl⟩:=Int.eq_ofNat_of_zero_le r0
      rw [Int.toNat_natCast]
      refine loop_ix (fun rr L S'=>∃ (j:Nat) (prs:List (Nat×Nat)) (rods:List Rod) (l4 l6 l8:Option D),L=[some (.ref a),some (.int (M:Nat)),some (.tup (fx.map natD)),some (.ref p2),l4,some (.ref p3),l6,none,l8]/\Dr a S S'/\S' p2=some (.lst (prs.map prD))/\S' p3=some (.lst (rods.map rodD))/\(∀ x∈prs,x.1 < x.2/\x.2 < M)/\prs.length<=49/\(∀ r∈rods,r.1 < M/\r.2.1 < M/\r.1≠r.2.1)/\rods.length<=j/\j<=R/\rr=(List.range' j (R - j)).map fun(i:Nat)=>D.int (i:Nat)) (fun _ _ _ _=>trivial) ?_ ?_ _ _ _ ⟨0,prs,[],l4,none,none,rfl,d6,g2,g3,hx,pl,(fun _ h=>by cases h),Nat.le_refl _,Nat.zero_le _,by rw [List.range_eq_range',Nat.sub_zero]⟩
      · rintro d rr L S5 N1 ⟨j,prs,rods,l4,l6,l8,rfl,d7,g2,g3,hx,pl,hr,hrl,hj,er⟩ hN
        have hlt:j < R:=by
          rcases Nat.lt_or_ge j R with h | h
          · exact h
          · rw [show R - j=0 by omega] at er; cases er
        rw [show R - j=(R - (j+1))+1 by omega] at er
        have er:d::rr=D.int (j:Nat)::((List.range' (j+1) (R - (j+1))).map fun(i:Nat)=>D.int (i:Nat)):=er
        cases er
        refine⟨few,fun pe hpe=>?_⟩
        have npe:pe≠a:=d7.1.ne hpe
        have se:S pe=none:=d7.none hpe
        have d8:Dr a S (put S5 pe (.lst [])):=d7.put se npe
        have ne2:p2≠pe:=fun z=>by rw [z,hpe] at g2; cases g2
        have ne3:p3≠pe:=fun z=>by rw [z,hpe] at g3; cases g3
        have f2:put S5 pe (.lst []) p2=some (.lst (prs.map prD)):=by rw [put_ne ne2]; exact g2
        have f3:put S5 pe (.lst []) p3=some (.lst (rods.map rodD)):=by rw [put_ne ne3]; exact g3
        have fe:put S5 pe (.lst []) pe=some (.lst []):=put_same
        generalize put S5 pe (.lst [])=T at d8 f2 f3 fe ⊢
        cases prs with
        | nil=>exact⟨_,_,true,f2,fe,.inl ⟨rfl,rfl⟩,hN _ _ ⟨j+1,[],rods,_,_,_,rfl,d8,f2,f3,hx,pl,hr,by omega,hlt,rfl⟩⟩
        | cons x0 xs=>
          have bl:Bt 200 ((((x0::xs).map prD).length:Nat):Int):=by
            unfold Bt
            rw [Int.natAbs_natCast,List.length_map]
            exact Nat.lt_of_le_of_lt pl (by decide)
          refine⟨_,_,false,f2,fe,.inr ⟨by simp,rfl⟩,⟨_,f2⟩,_,f2,a,_,rfl,by rw [List.length_map,List.length_cons]; omega,bl,d8.1,fun r S6 r0 r1 d9=>?_⟩
          obtain⟨n,rfl⟩:=Int.eq_ofNat_of_zero_le r0
          have hn:n < ((x0::xs).map prD).length:=by omega
          have hn2:n < (x0::xs).length:=by rw [List.length_map] at hn; exact hn
          have u2:=d9.2 _ _ np2 f2
          have u3:=d9.2 _ _ np3 f3
          have d10:=d8.trans d9
          have hc:((x0::xs).map prD)[n]?=some (prD ((x0::xs)[n])):=by rw [List.getElem?_map,List.getElem?_eq_getElem hn2]; rfl
          refine ⟨_, n, _, u2, by omega, by have : ((x0 :: xs).map prD).length ≤ 49 := by { rw [List.length_map]; exact pl }
                                            omega,six_nat hn,hc,([.int (((x0::xs)[n]).1:Nat),.int (((x0::xs)[n]).2:Nat)],none),rfl,rfl,rfl,?_⟩
          have ee:((x0::xs).map prD).eraseIdx n=((x0::xs).eraseIdx n).map prD:=erase_map _ _
          rw [ee]
          have hmem:(x0::xs)[n]∈x0::xs:=List.getElem_mem hn2
          have hxn:=hx _ hmem
          generalize (x0::xs)[n]=y at hxn ⊢
          have hsub:∀ z∈(x0::xs).eraseIdx n,z∈x0::xs:=fun z hz=>List.mem_of_mem_eraseIdx hz
          have hlen:((x0::xs).eraseIdx n).length<=49:=by rw [List.length_eraseIdx]; split <;> omega
          generalize (x0::xs).eraseIdx n=ys at hsub hlen ⊢
          have d11:Dr a S (put S6 p2 (.lst (ys.map prD))):=d10.put s2 np2
          have v3:put S6 p2 (.lst (ys.map prD)) p3=some (.lst (rods.map rodD)):=by rw [put_ne (Ne.symm n23)]; exact u3
          have v2:put S6 p2 (.lst (ys.map prD)) p2=some (.lst (ys.map prD)):=put_same
          generalize put S6 p2 (.lst (ys.map prD))=T2 at d11 v3 v2 ⊢
          refine⟨⟨_,v3⟩,a,9,rfl,by decide,by decide,d11.1,fun c S7 c0 c1 d12=>⟨few,few,_,d12.2 _ _ np3 v3,by rw [List.length_map]; exact big1 (by omega),?_⟩⟩
          have ea:rods.map rodD++[D.tup [.int (y.1:Nat),.int (y.2:Nat),.tup [.int (1+c),.int 1]]]=(rods++[(y.1,y.2,1+c)]).map rodD:=by rw [List.map_append]; rfl
          rw [ea]
          refine hN _ _ ⟨j+1,ys,rods++[(y.1,y.2,1+c)],_,_,_,rfl,(d11.trans d12).put s3 np3,by rw [put_ne n23]; exact d12.2 _ _ np2 v2,put_same,fun z hz=>hx z (hsub z hz),hlen,fun r hr'=>?_,by rw [List.length_append]; show rods.length+1<=j+1; omega,hlt,rfl⟩
          rcases List.mem_append.mp hr' with h | h
          · exact hr r h
          · simp only [List.mem_cons,List.not_mem_nil,or_false] at h
            subst h
            refine⟨?_,hxn.2,?_⟩
            · show y.1 < M; omega
            · show y.1≠y.2; omega
      · rintro L S5 ⟨j,prs,rods,l4,l6,l8,rfl,d7,g2,g3,hx,pl,hr,hrl,hj,er⟩
        have lk:LkOk M fx rods:=⟨hM1,hM7,hfl,hfx,by omega,hr,hnd⟩
        refine⟨⟨by omega,by omega⟩,fun p4 hp4=>?_⟩
        have np4:p4≠a:=d7.1.ne hp4
        rw [Int.toNat_natCast]
        refine gen_loop (f:=natD) (g:=P2) (R:=fun _ v _=>QOk 12 4 v.1/\QOk 12 4 v.2) (J:=Dr a S5) (Kq:=Dr a) (all:=List.range M) (fun _ _=>trivial) (fun _ _ o _ e h=>e.2 _ _ np4 h) (fun _ _ _ _ _ h=>h) (fun _ _ _ _ h=>h) (fun _ _ e=>e.put hp4 np4) ?bb (List.range M) [] _ none (fun _ h=>h) (Dr.new d7.1 hp4) put_same (fun _ h=>by cases h) (by rw [List.length_range]; show 0+M<=100; omega) fun zs S6 d8 h hR hz=>?_
        · intro x S' k' hx' dd ho hk
          exact⟨a,4,rfl,by decide,by decide,dd.1,fun v S2 hv d=>hk v S2 (dd.trans d) d hv⟩
        · have zl:(zs.map Prod.snd).length=M:=by
            have:=congrArg List.length hz
            rw [List.length_map] at this
            rw [List.length_map,this]
            show(List.range M).length=M
            rw [List.length_range]
          have pk:PlOk M (zs.map Prod.snd):=⟨zl,fun v hv=>by obtain⟨z,hz',rfl⟩:=List.mem_map.mp hv; exact hR z hz'⟩
          have h:S6 p4=some (.lst ((zs.map Prod.snd).map P2)):=by rw [h,List.map_map]; rfl
          generalize zs.map Prod.snd=pts at pk h
          have q3:=d8.2 _ _ np3 g3
          have d9:=d7.trans d8
          have s4:S p4=none:=d7.none hp4
          refine⟨a,3,rfl,by decide,by decide,d8.1,fun r S7 _ _ d10=>⟨_,eq_int,ite_b (fun _=>?_) (fun _=>?_)⟩⟩
          · have h7:=d10.2 _ _ np4 h
            have q7:=d10.2 _ _ np3 q3
            have d11:=d9.trans d10
            have lp:0 < pts.length:=by rw [pk.len]; omega
            refine⟨(pts.map P2,some p4),by simp only [dItems,h7],fun p5 hp5=>?_⟩
            refine map_loop (f:=P2) (g:=fun v=>P2 (v.1,(pts.getD 0 (0,0)).2)) (all:=pts) hp5 (fun S' e=>e _ _ h7) ?_ pts [] none (fun _ h=>h) (by show 0+pts.length<=100; rw [pk.len]; omega) fun S8 e8 h8=>?_
            · intro v S' k' hv e hk
              exact⟨_,rfl,_,_,e _ _ h7,at_map (c:=0) (getP lp),_,rfl,few,hk⟩
            · have e9:S8 p5=some (.lst ((pts.map fun v=>(v.1,(pts.getD 0 (0,0)).2)).map P2)):=by rw [h8,List.map_map]; rfl
              have d12:Dr a S S8:=⟨by obtain⟨n,b,e,w⟩:=d11.1; exact⟨n,b,e8 _ _ e,w⟩,fun b o n e=>e8 _ _ (d11.2 b o n e)⟩
              exact⟨_,e8 _ _ q7,few,_,e9,few,w M fx rods _ S8 lk ⟨by rw [List.length_map]; exact pk.len,fun v hv=>by obtain⟨z,hz',rfl⟩:=List.mem_map.mp hv; exact⟨(pk.ok z hz').1,(pk.ok _ (memP lp)).2⟩⟩ d12⟩
          · exact⟨_,d10.2 _ _ np3 q3,few,_,d10.2 _ _ np4 h,few,w M fx rods pts S7 lk pk (d9.trans d10)⟩
set_option maxHeartbeats 4000000
theorem cell_by {w:Rat×Rat} {r:Rod} {j:Nat} {c:Int} (hne:r.1≠r.2.1) (hc:c=(if j=r.2.1 then 1 else 0) - (if j=r.1 then 1 else 0)):[fr ((c:Rat)*w.1),fr ((c:Rat)*w.2)]=(cellR w r j).map fr:=by
  unfold cellR
  by_cases h:j=r.2.1
  · rw [if_pos h,if_neg (by omega)] at hc
    rw [if_pos h,hc]
    have e:(((1:Int) - 0:Int):Rat)=1:=rfl
    rw [e,Rat.one_mul,Rat.one_mul]
    rfl
  · rw [if_neg h] at hc ⊢
    by_cases h2:j=r.1
    · rw [if_pos h2] at hc ⊢
      have e:(((0:Int) - 1:Int):Rat)=-1:=rfl
      rw [hc,e]
      have e1:∀ q:Rat,(-1:Rat)*q=-q:=fun q=>by grind
      rw [e1,e1]
      rfl
    · rw [if_neg h2] at hc ⊢
      have e:(((0:Int) - 0:Int):Rat)=0:=rfl
      rw [hc,e,Rat.zero_mul,Rat.zero_mul]
      rfl
def F__law_table:DSp:=fun ds S k=>∃ (many:Nat) (fx:List Nat) (rods:List Rod) (pts:List (Rat×Rat)),ds=[LK many fx rods,.tup (pts.map P2)]/\LkOk many fx rods/\PlOk many pts/\∀ p (zs:List (Rod×Addr)) S',S p=none->Ext S S'->S' p=some (.lst (zs.map fun z=>.ref z.2))->(∀ z∈zs,S' z.2=some (.lst ((rowR pts (freeL many fx) z.1).map fr)))->zs.map Prod.fst=rods->k (.ref p) S'
theorem sc__law_table:FnScope ["linkage","place","joints","rows","one","other","square","way","row","joint","by"] ["linkage","place"] (defScope s__law_table):=⟨rfl,rfl,rfl,by decide +kernel,rfl,by decide +kernel,by decide +kernel⟩
theorem ok__law_table {P:Program} {w:World} {K:Fg} {mg:Str->Option Value} {base:Heap} {f:Addr} {fd:FuncData} (Fn:Fun K "_law_table" "_law_table" s__law_table f fd) (c__law_way:Own P w K mg base "_law_way" 4 F__law_way) (c__law_times:Own P w K mg base "_law_times" 3 F__law_times) (z_range:mg "range"=none) (z_int:mg "int"=none):
    FnOk P w K mg base CX0 5 f fd ["linkage","place"] (spU K F__law_table):=by
  refine Fn.okJ sc__law_table (fun ds S k h=>?_) (fun cdv A outer s H E hr=>⟨_,(ds_consj (dst_compRIfjS (iv:=2) sc__law_table.nd rfl (compSc (N:=["joint","linkage"]) (cap:=[none,some 0]) rfl rfl rfl rfl ⟨rfl,trivial⟩ rfl rfl ⟨⟨rfl,.inl rfl,.inl rfl⟩,trivial⟩) rfl z_range (da_consj (d_ixj x_ixF (d_varj 0) d_intj (fun _ _=>rfl)) da_nilj) (fun _ _ _ _=>(dg_namej (i:=0) (show List.Nodup (["joint","linkage"]:List Str) from by decide +kernel))) (fun _ _ _ _=>(dt_cmpj o_notInE (d_varj 0) (d_ixj x_ixF (d_varj 1) d_intj (fun _ _=>rfl)) (by with_unfolding_all rfl))) (fun _ _ _ _=>(d_varj 0))) (ds_consj (dst_setj (i:=3) sc__law_table.nd (d_lstj da_nilj)) (ds_consj (dst_forEj PassesOwn.never rfl (d_ixj x_ixF (d_varj 0) d_intj (fun _ _=>rfl)) (dg_seqE (n:=3) rfl (dgs_consj (dg_namej (i:=4) sc__law_table.nd) (dgs_consj (dg_namej (i:=5) sc__law_table.nd) (dgs_consj (dg_namej (i:=6) sc__law_table.nd) dgs_nilj)))) (ds_consj (dst_setj (i:=7) sc__law_table.nd (d_callj c__law_way (hr.mono (by decide)) rfl (da_consj (d_varj 1) (da_consj (d_varj 4) (da_consj (d_varj 5) da_nilj))))) (ds_consj (dst_setj (i:=8) sc__law_table.nd (d_lstj da_nilj)) (ds_consj (dst_forEj PassesOwn.never rfl (d_varj 2) (dg_namej (i:=9) sc__law_table.nd) (ds_consj (dst_setj (i:=10) sc__law_table.nd (d_tupj (da_consj (d_opj o_sub (d_callTj b_int rfl z_int bt_int (da_consj (d_cmpj (o_eqX hr) (d_varj 9) (d_varj 5) (nomark _)) da_nilj)) (d_callTj b_int rfl z_int bt_int (da_consj (d_cmpj (o_eqX hr) (d_varj 9) (d_varj 4) (nomark _)) da_nilj))) (da_consj d_intj da_nilj)))) (ds_onej (dst_exprj (d_extj (d_varj 8) (d_lstj (da_consj (d_callj c__law_times (hr.mono (by decide)) rfl (da_consj (d_varj 10) (da_consj (d_ixj x_ixF (d_varj 7) d_intj (fun _ _=>rfl)) da_nilj))) (da_consj (d_callj c__law_times (hr.mono (by decide)) rfl (da_consj (d_varj 10) (da_consj (d_ixj x_ixF (d_varj 7) d_intj (fun _ _=>rfl)) da_nilj))) da_nilj)))))))) (ds_onej (dst_exprj (d_appj (d_varj 3) (d_varj 8)))))))) (ds_onej (dst_retj (d_varj 3)))))),fun ds S k h=>?_⟩)
  · obtain⟨_,_,_,_,rfl,_⟩:=h
    rfl
  · obtain⟨many,fx,rods,pts,rfl,ok,pl,w⟩:=h
    have m7:=ok.m7
    have rl:=ok.rl
    refine⟨_,rfl,⟨by omega,by omega⟩,fun pj hpj=>?_⟩
    rw [Int.toNat_natCast]
    refine filter_loop (f:=natD) (g:=natD) (q:=fun j=>!decide (j∈fx)) (all:=List.range many) hpj (fun _ _=>trivial) ?bb (List.range many) [] none (fun _ h=>h) (by rw [List.length_range]; show 0+many<=100; omega) fun S1 e1 h1=>?_
    case bb=>
      intro x S' k' hx e hk
      have hI:=inV_nats (c:=x) fx
      refine⟨_,rfl,(fx.map natD,none),rfl,rfl,by simp [flatD],?_⟩
      show(if (!inV (vOf (.int (x:Nat))) ((fx.map natD).map vOf))=true then _ else _)
      rw [hI]
      by_cases h:x∈fx
      · rw [decide_eq_true h] at hk ⊢
        exact hk
      · rw [decide_eq_false h] at hk ⊢
        exact hk
    have h1:S1 pj=some (.lst ((freeL many fx).map natD)):=h1
    refine⟨few,fun p hp=>⟨_,rfl,(rods.map rodD,none),rfl,?_⟩⟩
    have sp:S p=none:=e1.none hp
    have npj:pj≠p:=fun z=>by rw [z,hp] at h1; cases h1
    refine loop_ix (fun rr L S'=>∃ (rs:List Rod) (zs:List (Rod×Addr)) (l4 l5 l6 l7 l8 l9 l10:Option D),L=[some (LK many fx rods),some (.tup (pts.map P2)),some (.ref pj),some (.ref p),l4,l5,l6,l7,l8,l9,l10]/\rods=zs.map Prod.fst++rs/\rr=rs.map rodD/\Ext S1 S'/\S' p=some (.lst (zs.map fun z=>.ref z.2))/\∀ z∈zs,S' z.2=some (.lst ((rowR pts (freeL many fx) z.1).map fr))/\z.2≠p) (fun _ _ _ _=>trivial) ?_ ?_ _ _ _ ⟨rods,[],none,none,none,none,none,none,none,rfl,rfl,rfl,Ext.new hp,put_same,fun _ h=>by cases h⟩
    · rintro d rr L S2 N1 ⟨rs,zs,l4,l5,l6,l7,l8,l9,l10,rfl,ez,er,e2,f2,hz⟩ hN
      cases rs with
      | nil=>cases er
      | cons f rs=>
        cases er
        have fm:f∈rods:=by rw [ez]; exact List.mem_append_right _ List.mem_cons_self
        obtain⟨g1,g2,g3⟩:=ok.rd f fm
        have wp:=pl.way g1 g2
        have s1:Sz 7 (wy pts f.1 f.2.1).1:=QOk.sz (n:=3) wp.1
        have s2:Sz 7 (wy pts f.1 f.2.1).2:=QOk.sz (n:=3) wp.2
        refine⟨([.int (f.1:Nat),.int (f.2.1:Nat),.tup [.int f.2.2,.int 1]],none),rfl,rfl,rfl,many,pts,f.1,f.2.1,(),rfl,pl,g1,g2,fun pw S3 hpw e3 hw=>⟨few,fun pr hpr=>?_⟩⟩
        have j3:S3 pj=_:=e3 _ _ (e2 _ _ h1)
        have f3:=e3 _ _ f2
        have npr:p≠pr:=fun z=>by rw [z,hpr] at f3; cases f3
        refine⟨((freeL many fx).map natD,some pj),by simp only [dItems,(Ext.new hpr) _ _ j3],?_⟩
        refine loop_ix (fun rr L S'=>∃ (dj rj:List Nat) (l9 l10:Option D),L=[some (LK many fx rods),some (.tup (pts.map P2)),some (.ref pj),some (.ref p),some (.int (f.1:Nat)),some (.int (f.2.1:Nat)),some (.tup [.int f.2.2,.int 1]),some (.ref pw),some (.ref pr),l9,l10]/\freeL many fx=dj++rj/\rr=rj.map natD/\Ext S3 S'/\S' pr=some (.lst ((rowR pts dj f).map fr))) (fun rr L S' ⟨_,_,_,_,_,_,_,e,_⟩=>e _ _ j3) ?_ ?_ _ _ _ ⟨[],freeL many fx,l9,l10,rfl,rfl,rfl,Ext.new hpr,put_same⟩
        · rintro d rr L S4 N2 ⟨dj,rj,l9,l10,rfl,ej,er,e4,f4⟩ hN2
          cases rj with
          | nil=>cases er
          | cons j rj=>
            cases er
            have ej2:freeL many fx=(dj++[j])++rj:=by rw [ej,List.append_assoc]; rfl
            have ld:dj.length<=7:=by
              have:=congrArg List.length ej
              have h9:=free_len (many:=many) (fx:=fx)
              rw [List.length_append] at this
              omega
            have w4:=e4 _ _ hw
            have hc:(if (((j:Nat):Int) == ((f.2.1:Nat):Int))=true then(1:Int) else 0) - (if (((j:Nat):Int) == ((f.1:Nat):Int))=true then(1:Int) else 0)=(if j=f.2.1 then 1 else 0) - (if j=f.1 then 1 else 0):=by
              have e:∀ m:Nat,(if (((j:Nat):Int) == ((m:Nat):Int))=true then(1:Int) else 0)=if j=m then 1 else 0:=fun m=>by
                by_cases h:j=m
                · rw [if_pos h,if_pos (by rw [h]; exact beq_self_eq_true _)]
                · rw [if_neg h,if_neg (fun z=>h (by have:=eq_of_beq z; omega))]
              rw [e,e]
            have hcb:∀ c:Int,c=(if j=f.2.1 then 1 else 0) - (if j=f.1 then 1 else 0)->Sz 2 (c:Rat):=fun c h=>⟨by show Bt 2 c; unfold Bt; rw [h]; split <;> split <;> decide,by show Bt 2 ((1:Nat):Int); decide⟩
            refine⟨_,eq_int,_,eq_int,few,⟨_,f4⟩,_,_,w4,rfl,(((if (((j:Nat):Int) == ((f.2.1:Nat):Int))=true then(1:Int) else 0) - (if (((j:Nat):Int) == ((f.1:Nat):Int))=true then(1:Int) else 0):Int):Rat),_,rfl,(hcb _ hc).mono (by decide),s1.mono (by decide),_,_,w4,rfl,(((if (((j:Nat):Int) == ((f.2.1:Nat):Int))=true then(1:Int) else 0) - (if (((j:Nat):Int) == ((f.1:Nat):Int))=true then(1:Int) else 0):Int):Rat),_,rfl,(hcb _ hc).mono (by decide),s2.mono (by decide),few,fun q hq=>⟨_,_,(Ext.new hq) _ _ f4,put_same,?_,?_⟩⟩
            · rw [List.length_map,row_len]
              exact Nat.le_of_lt (big1 (by show 2*dj.length+2 < 300; omega))
            · refine hN2 _ _ ⟨dj++[j],rj,_,_,rfl,ej2,rfl,(e4.trans (Ext.new hq)).put hpr,?_⟩
              rw [put_same,row_snoc,List.map_append,<- cell_by g3 hc]
        · rintro L S4 ⟨dj,rj,l9,l10,rfl,ej,er,e4,f4⟩
          cases rj with
          | cons j rj=>cases er
          | nil=>
            rw [List.append_nil] at ej
            have f5:=e4 _ _ f3
            have zl:zs.length<=12:=by
              have:=congrArg List.length ez
              rw [List.length_append,List.length_map] at this
              omega
            refine⟨⟨_,f5⟩,_,f5,by rw [List.length_map]; exact big1 (by omega),?_⟩
            have ea:(zs.map fun z=>D.ref z.2)++[.ref pr]=(zs++[(f,pr)]).map fun z=>.ref z.2:=by rw [List.map_append]; rfl
            rw [ea]
            refine hN _ _ ⟨rs,zs++[(f,pr)],_,_,_,_,_,_,_,rfl,by rw [List.map_append,List.append_assoc]; exact ez,rfl,((e2.trans e3).trans e4).put hp,put_same,fun z hz'=>?_⟩
            rcases List.mem_append.mp hz' with h | h
            · exact⟨by rw [put_ne (hz z h).2]; exact e4 _ _ (e3 _ _ (hz z h).1),(hz z h).2⟩
            · simp only [List.mem_cons,List.not_mem_nil,or_false] at h
              subst h
              exact⟨by rw [put_ne (Ne.symm npr),ej]; exact f4,Ne.symm npr⟩
    · rintro L S2 ⟨rs,zs,l4,l5,l6,l7,l8,l9,l10,rfl,ez,er,e2,f2,hz⟩
      cases rs with
      | cons f rs=>cases er
      | nil=>
        rw [List.append_nil] at ez
        exact w p zs S2 sp (e1.trans e2) f2 (fun z h=>(hz z h).1) ez.symm
set_option maxHeartbeats 4000000
def nzB (l:List Rat):Bool:=!(l.filter fun q=>!decide (q=0)).isEmpty
theorem nz_test {v:Nat} {r:Addr} {L:Lo} {S:DH} {k:DK} {l:List Rat} (hL:L[v]?=some (some (.ref r))) (hr:S r=some (.lst (l.map fr))) (hl:l.length<=100) (w:∀ S',Ext S S'->k (.bl (nzB l)) S'):
    (dOp dNeL (dCompE [none] (dVar v) (dgName 0) (bdIf (dTest (dOp dNeL (dOp dIxF (dVar 0) (dC (.int 0))) (dC (.int 0)))) (dVar 0))) (dLst dNil)) L S k:=by
  have go:∀ (g:DK),g (.ref r) S->dVar v L S g:=fun g h=>by unfold dVar; rw [hL]; exact h
  unfold dOp dCompE
  refine go _ ?_
  refine⟨(l.map fr,some r),by simp only [dItems,hr],fun p hp=>?_⟩
  refine filter_loop (f:=fr) (g:=fr) (q:=fun q=>!decide (q=0)) (all:=l) hp (fun S' x=>x _ _ hr) ?bb l [] none (fun _ h=>h) (by show 0+l.length<=100; omega) fun S1 x1 h1=>?_
  case bb=>
    intro x S' k' _ _ hk
    refine⟨_,rfl,_,rfl,?_⟩
    by_cases z:x=0
    · have e:((x.num == 0):Bool)=true:=by rw [z]; rfl
      have hk:k' none S':=by simpa [z] using hk
      show(if (!(x.num == 0))=true then _ else k' none S')
      rw [e]
      exact hk
    · have e:((x.num == 0):Bool)=false:=by
        have:x.num≠0:=fun y=>z (Rat.num_eq_zero.mp y)
        simpa using this
      have hk:k' (some (fr x)) S':=by simpa [z] using hk
      show(if (!(x.num == 0))=true then k' (some (fr x)) S' else _)
      rw [e]
      exact hk
  rw [List.nil_append] at h1
  refine⟨few,fun p2 hp2=>?_⟩
  have np:p≠p2:=ne_put h1 hp2
  have w2:=w _ (x1.trans (Ext.new (o:=.lst []) hp2))
  unfold nzB at w2
  cases e:l.filter fun q=>!decide (q=0) with
  | nil=>
    rw [e] at h1 w2
    exact⟨[],[],true,by rw [put_ne np]; exact h1,put_same,.inl ⟨rfl,rfl⟩,w2⟩
  | cons q t=>
    rw [e] at h1 w2
    exact⟨_,[],false,by rw [put_ne np]; exact h1,put_same,.inr ⟨by simp,rfl⟩,w2⟩
theorem nzB_true {l:List Rat}:nzB l=true↔∃ q∈l,q≠0:=by
  unfold nzB
  cases e:l.filter fun q=>!decide (q=0) with
  | nil=>
    constructor
    · intro h; cases h
    · rintro⟨q,hq,h0⟩
      have:q∈l.filter fun q=>!decide (q=0):=List.mem_filter.mpr ⟨hq,by simpa using h0⟩
      rw [e] at this
      cases this
  | cons q t=>
    refine⟨fun _=>?_,fun _=>rfl⟩
    have:q∈l.filter fun q=>!decide (q=0):=by rw [e]; exact List.mem_cons_self
    obtain⟨a,b⟩:=List.mem_filter.mp this
    exact⟨q,a,by simpa using b⟩
theorem inv_fr {h:Rat} (h0:h≠0):D.tup [.int ((h.den:Int)*(if h.num < 0 then -1 else 1)),.int (if h.num < 0 then -h.num else h.num)]=fr h⁻¹:=by
  have n0:h.num≠0:=fun z=>h0 (Rat.num_eq_zero.mp z)
  show _=D.tup [.int h⁻¹.num,.int (h⁻¹.den:Int)]
  rw [Rat.num_inv,Rat.den_inv,if_neg n0]
  by_cases neg:h.num < 0
  · rw [if_pos neg,if_pos neg,Int.sign_eq_neg_one_of_neg neg,Int.mul_comm,show((h.num.natAbs:Nat):Int)=-h.num by omega]
  · rw [if_neg neg,if_neg neg,Int.sign_eq_one_of_pos (by omega),Int.mul_comm,show((h.num.natAbs:Nat):Int)=h.num by omega]
noncomputable def rwE (M:DT.Mx) (C:Nat->Nat) (k:Nat) (d:Rat) (z:Nat->Nat->Rat) (s:Rat) (N q:Nat):List Rat:=(List.range N).map fun x=>DT.otE M C k d z q x / (d*s)
theorem rwE_len {M:DT.Mx} {C:Nat->Nat} {k:Nat} {d:Rat} {z:Nat->Nat->Rat} {s:Rat} {N q:Nat}:(rwE M C k d z s N q).length=N:=by unfold rwE; rw [List.length_map,List.length_range]
theorem rwE_at {M:DT.Mx} {C:Nat->Nat} {k:Nat} {d:Rat} {z:Nat->Nat->Rat} {s:Rat} {N q x:Nat} (hx:x < N):L2.atI ((rwE M C k d z s N q).map fr) (x:Nat)=some (fr (DT.otE M C k d z q x / (d*s))):=by
  refine atI_nat ?_
  unfold rwE
  rw [List.getElem?_map,List.getElem?_map,List.getElem?_range hx]
  rfl
theorem rwE_nz {M:DT.Mx} {C:Nat->Nat} {k:Nat} {d:Rat} {z:Nat->Nat->Rat} {s:Rat} {N q:Nat} (hd:d≠0) (hs:s≠0):nzB (rwE M C k d z s N q)=true↔∃ x,x < N/\DT.otE M C k d z q x≠0:=by
  rw [nzB_true]
  unfold rwE
  constructor
  · rintro⟨r,hr,r0⟩
    obtain⟨x,hx,rfl⟩:=List.mem_map.mp hr
    exact⟨x,List.mem_range.mp hx,fun e=>r0 (by rw [e]; grind)⟩
  · rintro⟨x,hx,h0⟩
    exact⟨_,List.mem_map.mpr ⟨x,List.mem_range.mpr hx,rfl⟩,by grind⟩
structure Lf (M:DT.Mx) (R N:Nat) (P C:Nat->Nat) (k:Nat) (d:Rat) (z:Nat->Nat->Rat) (s:Rat) (S:DH) (zs:List (Addr×Nat)):Prop where
  bs:DT.BS M P C k d z
  pr:∀ r,r < k->P r < R
  cn:∀ r,r < k->C r < N
  at_:∀ y∈zs,y.2 < R/\S y.1=some (.lst ((rwE M C k d z s N y.2).map fr))/\∃ x,x < N/\DT.otE M C k d z y.2 x≠0
  no:∀ q,q < R->(∀ y∈zs,y.2≠q)->∀ x,x < N->DT.otE M C k d z q x=0
  few:k+zs.length<=R
abbrev tNz (v:Nat):DE:=dOp dNeL (dCompE [none] (dVar v) (dgName 0) (bdIf (dTest (dOp dNeL (dOp dIxF (dVar 0) (dC (.int 0))) (dC (.int 0)))) (dVar 0))) (dLst dNil)
abbrev refs (zs:List (Addr×Nat)):List D:=zs.map fun y=>.ref y.1
theorem lf_loop {M:DT.Mx} {N:Nat} {s:Rat} {rs:List (Addr×List Rat)} {S:DH} {a p:Addr} {k:DK} {P C:Nat->Nat} {z:Nat->Nat->Rat} (ha:S a=some (.lst (rs.map fun x=>.ref x.1))) (hrs:∀ (i:Nat) x,rs[i]?=some x->S x.1=some (.lst (x.2.map fr))/\x.2=rwE M C 0 1 z s N i) (hp:S p=none) (hl:rs.length<=14) (hN:N<=14) (s0:s≠0)
    (kk:∀ S2 zs,Ext S S2->S2 p=some (.lst (refs zs))->(∀ y∈zs,y.1≠p)->Lf M rs.length N P C 0 1 z s S2 zs->k (.ref p) S2):
    ∀ (n i:Nat) (zs:List (Addr×Nat)) (l0:Option D) (S1:DH),rs.length - i=n->i<=rs.length->Ext S S1->S1 p=some (.lst (refs zs))->(∀ y∈zs,y.1≠p/\y.2 < i/\S1 y.1=some (.lst ((rwE M C 0 1 z s N y.2).map fr))/\∃ x,x < N/\DT.otE M C 0 1 z y.2 x≠0)->(∀ q,q < i->(∀ y∈zs,y.2≠q)->∀ x,x < N->DT.otE M C 0 1 z q x=0)->zs.length<=i->
      dCLoop (okFor (rs.map (fun x=>D.ref x.1),some a)) p (dgName 0) (bdIf (dTest (tNz 0)) (dCall bList (dCons (dVar 0) dNil))) k ((rs.drop i).map fun x=>.ref x.1) (refs zs) [l0] S1:=by
  intro n
  induction n with
  | zero=>
    intro i zs l0 S1 hn hi x1 h1 hz hq hlz
    have e:i=rs.length:=by omega
    subst e
    rw [List.drop_length]
    exact⟨x1 _ _ ha,kk S1 zs x1 h1 (fun y hy=>(hz y hy).1) ⟨DT.BS.start,fun r h=>absurd h (by omega),fun r h=>absurd h (by omega),fun y hy=>(hz y hy).2,hq,by omega⟩⟩
  | succ n ih=>
    intro i zs l0 S1 hn hi x1 h1 hz hq hlz
    have lt:i < rs.length:=by omega
    have o1:rs.length - (i+1)=n:=by omega
    have o2:zs.length < 300:=by omega
    obtain⟨g1,g2⟩:=hrs i rs[i] (List.getElem?_eq_getElem lt)
    rw [List.drop_eq_getElem_cons lt,List.map_cons]
    refine⟨x1 _ _ ha,?_⟩
    refine nz_test (v:=0) (L:=[some (.ref rs[i].1)]) (l:=rs[i].2) rfl (x1 _ _ g1) (by rw [g2,rwE_len]; omega) fun S2 x2=>?_
    have t:nzB rs[i].2=true↔∃ x,x < N/\DT.otE M C 0 1 z i x≠0:=by rw [g2]; exact rwE_nz (by decide) s0
    refine ite_b (fun hb=>?_) (fun hb=>?_)
    · refine⟨_,x2 _ _ (x1 _ _ g1),fun q hq'=>⟨?_,?_,?_⟩⟩
      · have:=x2 _ _ h1
        rw [put_ne (ne_put this hq')]
        exact this
      · show(refs zs).length < sizeLine
        rw [List.length_map]
        exact big1 o2
      · have np:q≠p:=fun e=>by rw [e,x2 _ _ h1] at hq'; cases hq'
        have e1:refs zs++[D.ref q]=refs (zs++[(q,i)]):=by simp
        rw [e1]
        refine ih (i+1) (zs++[(q,i)]) _ _ o1 lt ((x1.trans (x2.trans (Ext.new hq'))).put hp) put_same (fun y hy=>?_) (fun r hr hy=>?_) (by rw [List.length_append]; show zs.length+1<=i+1; exact Nat.succ_le_succ hlz)
        · rcases List.mem_append.mp hy with m | m
          · obtain⟨b1,b2,b3,b4⟩:=hz y m
            have:=x2 _ _ b3
            exact⟨b1,Nat.lt_succ_of_lt b2,by rw [put_ne b1,put_ne (ne_put this hq')]; exact this,b4⟩
          · rw [List.mem_singleton.mp m]
            exact⟨np,Nat.lt_succ_self i,by rw [put_ne np,put_same,g2],t.mp hb⟩
        · by_cases e:r=i
          · exact absurd e.symm (hy (q,i) (by simp))
          · exact hq r (Nat.lt_of_le_of_ne (Nat.le_of_lt_succ hr) e) fun y m=>hy y (by simp [m])
    · refine ih (i+1) zs _ _ o1 lt (x1.trans x2) (x2 _ _ h1) (fun y hy=>?_) (fun r hr hy=>?_) (Nat.le_succ_of_le hlz)
      · obtain⟨b1,b2,b3,b4⟩:=hz y hy
        exact⟨b1,Nat.lt_succ_of_lt b2,x2 _ _ b3,b4⟩
      · by_cases e:r=i
        · subst e
          intro x hx
          exact Classical.byContradiction fun ne=>by
            rw [t.mpr ⟨x,hx,ne⟩] at hb
            cases hb
        · exact hq r (Nat.lt_of_le_of_ne (Nat.le_of_lt_succ hr) e) hy
theorem ot_sz {M:DT.Mx} {P C:Nat->Nat} {k b:Nat} {d:Rat} {z:Nat->Nat->Rat} (h:DT.BS M P C k d z) (hb:∀ r c,DT.IsN b (M r c)) (hB:∀ k,k<=15->DT.fac k*b ^ k < 2 ^ 1900) (hk:k+1<=15) (q x:Nat):∃ v:Int,DT.otE M C k d z q x=v/\Bt 1900 v:=by
  obtain⟨v,e,l⟩:=h.ot hb (q:=q) (x:=x)
  exact⟨v,e,Nat.lt_of_le_of_lt l (hB _ hk)⟩
theorem d_sz {M:DT.Mx} {P C:Nat->Nat} {k b:Nat} {d:Rat} {z:Nat->Nat->Rat} (h:DT.BS M P C k d z) (hb:∀ r c,DT.IsN b (M r c)) (hB:∀ k,k<=15->DT.fac k*b ^ k < 2 ^ 1900) (hk:k<=15):∃ v:Int,d=v/\Bt 1900 v:=by
  obtain⟨v,e,l⟩:=DT.IsN.det (n:=k) (M:=fun r c=>M (P r) (C c)) (b:=b) fun r c _ _=>hb _ _
  exact⟨v,by rw [h.det,e],Nat.lt_of_le_of_lt l (hB _ hk)⟩
theorem q_sz {p q:Rat} {v w:Int} {m n:Nat} (hp:p=v) (hq:q=w) (hv:Bt m v) (hw:Bt n w) (q0:q≠0) (hm:m<=n):Sz n (p / q):=by
  subst hp hq
  have w0:w≠0:=fun z=>q0 (by rw [z]; rfl)
  rw [<- Rat.divInt_eq_div]
  exact Sz.divInt (hv.mono hm) hw w0
def rkW (M:DT.Mx) (R N:Nat) (a:Addr) (s:Rat) (S:DH):Nat->Lo->DH->Prop:=fun m L S'=>∃ (pl:Addr) (zs:List (Addr×Nat)) (k:Nat) (P C:Nat->Nat) (d:Rat) (z:Nat->Nat->Rat) (l3 l4 l5 l6 l7 l8:Option D),m=zs.length/\L=[some (.ref a),some (.ref pl),some (.int (k:Nat)),l3,l4,l5,l6,l7,l8]/\Ext S S'/\S pl=none/\S' pl=some (.lst (refs zs))/\(∀ y∈zs,y.1≠pl)/\Lf M R N P C k d z s S' zs
theorem nz_if {v:Nat} {r:Addr} {L:Lo} {S:DH} {l:List Rat} {t e:DS} {M:DEnds} (hL:L[v]?=some (some (.ref r))) (hr:S r=some (.lst (l.map fr))) (hl:l.length<=100) (w:∀ S',Ext S S'->if nzB l=true then t M L S' else e M L S'):dIfS (dTest (tNz v)) t e M L S:=by
  unfold dIfS dTest
  exact nz_test hL hr hl fun S' x=>w S' x
theorem RS.hall {M:DT.Mx} {many m:Nat} {P C Qo:Nat->Nat} {k:Nat} {d:Int} {z:Nat->Nat->Rat} {vss:List (List Int)} (h:RS M many m P C Qo k d z vss many):∀ q,q < m->∀ x,x < many->M q x=DT.sm k (fun j=>z j x*M q (C j)):=fun q hq x hx=>by
  rcases h.cov q hq with ⟨r,hr,rfl⟩ | ⟨i,hi,him,rfl⟩
  · exact(h.bs.sol r hr x).symm
  · have hv:vss[i]?=some (vss[i]'(by rw [h.len]; exact him)):=List.getElem?_eq_getElem _
    have e:=h.ot i _ x hv hi hx
    rw [h.zero i _ x hv hi hx hx] at e
    have e:(0:Rat)=(d:Rat)*(M (Qo i) x - DT.sm k fun j=>z j x*M (Qo i) (C j)):=e
    have d0:=h.bs.ne
    grind
theorem hall_scale {M M':DT.Mx} {C:Nat->Nat} {k R N:Nat} {z:Nat->Nat->Rat} (hC:∀ r,r < k->C r < N) (h:∀ q,q < R->∀ x,x < N->M q x=DT.sm k (fun j=>z j x*M q (C j))) (t:Nat->Rat) (ht:∀ q,q < R->∀ x,x < N->M' q x=t q*M q x):∀ q,q < R->∀ x,x < N->M' q x=DT.sm k (fun j=>z j x*M' q (C j)):=fun q hq x hx=>by
  rw [ht q hq x hx,h q hq x hx,<- DT.sm_mul]
  exact DT.sm_congr fun j hj=>by
    rw [ht q hq _ (hC j hj)]
    grind
theorem rank_one {M M':DT.Mx} {P C P' C':Nat->Nat} {k k' R N:Nat} {d d':Rat} {z z':Nat->Nat->Rat} (h:DT.BS M P C k d z) (h':DT.BS M' P' C' k' d' z') (pr:∀ r,r < k->P r < R) (cn:∀ r,r < k->C r < N) (pr':∀ r,r < k'->P' r < R) (cn':∀ r,r < k'->C' r < N)
    (al:∀ q,q < R->∀ x,x < N->M q x=DT.sm k (fun j=>z j x*M q (C j))) (al':∀ q,q < R->∀ x,x < N->M' q x=DT.sm k' (fun j=>z' j x*M' q (C' j))) (t:Nat->Rat) (t0:∀ q,q < R->t q≠0) (ht:∀ q,q < R->∀ x,x < N->M' q x=t q*M q x):k=k':=by
  have a1:=hall_scale (M:=M) (M':=M') cn al t ht
  have a2:=hall_scale (M:=M') (M':=M) cn' al' (fun q=>(t q)⁻¹) fun q hq x hx=>by
    have:=t0 q hq
    rw [ht q hq x hx]
    grind
  have l1:k'<=k:=DT.rank_le (P:=P) h' pr' cn' a1
  have l2:k<=k':=DT.rank_le (P:=P') h pr cn a2
  omega
theorem ot_hall {M:DT.Mx} {P C:Nat->Nat} {k:Nat} {d:Rat} {z:Nat->Nat->Rat} (h:DT.BS M P C k d z) {q x:Nat} (e:DT.otE M C k d z q x=0):M q x=DT.sm k (fun j=>z j x*M q (C j)):=by
  have e:d*(M q x - DT.sm k fun j=>z j x*M q (C j))=0:=e
  have:=h.ne
  grind
def Mt (pts:List (Rat×Rat)) (js:List Nat) (rods:List Rod):DT.Mx:=fun q x=>12*((rods[q]?.map (rowR pts js)).getD []).getD x 0
theorem Mt_at {pts:List (Rat×Rat)} {js:List Nat} {rods:List Rod} {q:Nat} {r:Rod} (h:rods[q]?=some r) (x:Nat):Mt pts js rods q x=12*(rowR pts js r).getD x 0:=by
  unfold Mt
  rw [h]
  rfl
theorem Mt_row {pts:List (Rat×Rat)} {js:List Nat} {rods:List Rod} {q:Nat} {r:Rod} (h:rods[q]?=some r):rowR pts js r=rwE (Mt pts js rods) (fun _=>0) 0 1 (fun _ _=>0) ((12:Nat):Rat) (2*js.length) q:=by
  apply List.ext_getElem?
  intro x
  unfold rwE
  rw [List.getElem?_map]
  rcases Nat.lt_or_ge x (2*js.length) with hx | hx
  · have h1:x < (rowR pts js r).length:=by rw [row_len]; exact hx
    rw [List.getElem?_range hx,List.getElem?_eq_getElem h1]
    show some _=some (DT.otE (Mt pts js rods) (fun _=>0) 0 1 (fun _ _=>0) q x / (1*((12:Nat):Rat)))
    rw [DT.otE_start,Mt_at h,List.getD_eq_getElem?_getD,List.getElem?_eq_getElem h1]
    show some (rowR pts js r)[x]=some (12*(rowR pts js r)[x] / (1*((12:Nat):Rat)))
    have:((12:Nat):Rat)=12:=rfl
    rw [this]
    congr 1
    grind
  · rw [List.getElem?_eq_none (by rw [row_len]; exact hx),List.getElem?_eq_none (by rw [List.length_range]; exact hx)]
    rfl
theorem qok_isN {q:Rat} {A:Nat} (h:QOk 12 A q):DT.IsN (12*A) (12*q):=by
  obtain⟨⟨t,ht⟩,hn⟩:=h
  refine⟨q.num*(t:Int),?_,?_⟩
  · have e:(12:Rat)=((q.den:Nat):Rat)*((t:Nat):Rat):=by
      have:((12:Nat):Rat)=((q.den*t:Nat):Rat):=by rw [<- ht]
      rw [Rat.natCast_mul] at this
      exact this
    have h1:=rat_num_den q
    have h3:=rat_den_ne q
    rw [e,Rat.intCast_mul,Rat.intCast_natCast]
    grind
  · rw [Int.natAbs_mul,Int.natAbs_natCast]
    calc q.num.natAbs*t<=A*q.den*t:=Nat.mul_le_mul_right t hn
      _=A*(q.den*t):=Nat.mul_assoc ..
      _=12*A:=by rw [<- ht,Nat.mul_comm]
theorem fit96 {k:Nat} (h:k<=15):DT.fac k*96 ^ k < 2 ^ 1900:=by
  have:k=0\/k=1\/k=2\/k=3\/k=4\/k=5\/k=6\/k=7\/k=8\/k=9\/k=10\/k=11\/k=12\/k=13\/k=14\/k=15:=by omega
  rcases this with rfl | rfl | rfl | rfl | rfl | rfl | rfl | rfl | rfl | rfl | rfl | rfl | rfl | rfl | rfl | rfl <;> decide +kernel
theorem cut_len {p:Nat->Bool}:∀ l:List Nat,(l.filter fun j=>!p j).length+(l.filter p).length=l.length
  | []=>rfl
  | x::l=>by
    have ih:=cut_len (p:=p) l
    cases h:p x with
    | true=>rw [List.filter_cons_of_neg (by rw [h]; decide),List.filter_cons_of_pos h,List.length_cons,List.length_cons]; omega
    | false=>rw [List.filter_cons_of_pos (by rw [h]; rfl),List.filter_cons_of_neg (by rw [h]; decide),List.length_cons,List.length_cons]; omega
theorem free_cut {many:Nat} {fx:List Nat} (hf:∀ f∈fx,f < many) (nd:fx.Nodup):(freeL many fx).length+fx.length=many:=by
  have h1:((List.range many).filter fun j=>decide (j∈fx)).length=fx.length:=by
    refine(List.Perm.length_eq ?_)
    refine(List.perm_ext_iff_of_nodup (List.nodup_range.sublist List.filter_sublist) nd).mpr fun j=>?_
    rw [List.mem_filter,List.mem_range,decide_eq_true_eq]
    exact⟨fun h=>h.2,fun h=>⟨hf j h,h⟩⟩
  have h2:=cut_len (p:=fun j=>decide (j∈fx)) (List.range many)
  rw [List.length_range,h1] at h2
  exact h2
set_option maxHeartbeats 4000000
theorem sm_front {n:Nat} {F:Nat->Rat}:DT.sm (n+1) F=F 0+DT.sm n (fun i=>F (i+1)):=by
  rw [DT.sm_sk (j:=0) (by omega)]
  congr 1
theorem sm_at {N c:Nat} {F:Nat->Rat} {a:Rat}:c < N->DT.sm N (fun x=>F x*(if x=c then a else 0))=F c*a:=by
  induction N with
  | zero=>intro h; omega
  | succ n ih=>
    intro h
    show DT.sm n (fun x=>F x*(if x=c then a else 0))+F n*(if n=c then a else 0)=F c*a
    by_cases e:n=c
    · subst e
      rw [if_pos rfl,DT.sm_zero (fun i hi=>by rw [if_neg (by omega)]; grind)]
      grind
    · rw [if_neg e,ih (by omega)]
      grind
theorem sm_pick {k j0 x:Nat} {C:Nat->Nat} {a:Nat->Rat} (inj:∀ i j,i < k->j < k->C i=C j->i=j) (h:j0 < k) (e:x=C j0):DT.sm k (fun j=>if x=C j then a j else 0)=a j0:=by
  have:DT.sm k (fun j=>if x=C j then a j else 0)=DT.sm k (fun j=>1*(if j=j0 then a j0 else 0)):=DT.sm_congr fun j hj=>by
    by_cases e2:j=j0
    · rw [if_pos (by rw [e2]; exact e),if_pos e2,e2]; grind
    · rw [if_neg (fun z=>e2 (inj j j0 hj h (by rw [<- z,e]))),if_neg e2]; grind
  rw [this,sm_at (F:=fun _=>1) h]
  grind
theorem sol_null {N k:Nat} {C:Nat->Nat} {F W:Nat->Rat} {c:Nat} {d:Rat} {a:Nat->Rat} (inj:∀ i j,i < k->j < k->C i=C j->i=j) (hC:∀ j,j < k->C j < N) (hc:c < N) (fr:∀ j,j < k->C j≠c) (own:W c=d) (piv:∀ j,j < k->W (C j)=a j) (oth:∀ x,x < N->x≠c->(∀ j,j < k->C j≠x)->W x=0):DT.sm N (fun x=>F x*W x)=F c*d+DT.sm k (fun j=>F (C j)*a j):=by
  have e1:DT.sm N (fun x=>F x*W x)=DT.sm N (fun x=>F x*(if x=c then d else 0)+DT.sm k (fun j=>F x*(if x=C j then a j else 0))):=DT.sm_congr fun x hx=>by
    rw [DT.sm_mul]
    by_cases h1:x=c
    · subst h1
      rw [if_pos rfl,own,DT.sm_zero (n:=k) (fun j hj=>if_neg (fun z=>fr j hj z.symm))]
      grind
    · rw [if_neg h1]
      by_cases h2:∃ j,j < k/\C j=x
      · obtain⟨j,hj,rfl⟩:=h2
        rw [piv j hj,sm_pick inj hj rfl]
        grind
      · rw [oth x hx h1 (fun j hj z=>h2 ⟨j,hj,z⟩),DT.sm_zero (n:=k) (fun j hj=>if_neg (fun z=>h2 ⟨j,hj,z.symm⟩))]
        grind
  rw [e1,DT.sm_add,sm_at hc,DT.sm_swap]
  congr 1
  exact DT.sm_congr fun j hj=>sm_at (hC j hj)
theorem RS.inj {M:DT.Mx} {many m:Nat} {P C Qo:Nat->Nat} {k:Nat} {d:Int} {z:Nat->Nat->Rat} {vss:List (List Int)} {cc:Nat} (h:RS M many m P C Qo k d z vss cc):∀ i j,i < k->j < k->C i=C j->i=j:=fun i j hi hj e=>by
  rcases Nat.lt_trichotomy i j with l | l | l
  · have:=h.inc i j l hj; omega
  · exact l
  · have:=h.inc j i l hi; omega
theorem sol_keeps {M:DT.Mx} {N m:Nat} {P C Qo:Nat->Nat} {k:Nat} {d:Int} {z:Nat->Nat->Rat} {vss:List (List Int)} {c g:Nat} {w:List Int} (h:RS M N m P C Qo k d z vss N) (s:SolOk N k C d vss c g w) {q:Nat} (hq:q < m):DT.sm N (fun x=>M q x*((w.getD x 0:Int):Rat))=0:=by
  have e:=sol_null (F:=fun x=>M q x) (W:=fun x=>((w.getD x 0:Int):Rat)) (a:=fun j=>-((d:Rat)*z j c)) h.inj h.col s.lt s.free (congrArg (fun v:Int=>(v:Rat)) s.own) (fun j hj=>by
    have hv:vss[j]?=some (vss[j]'(by rw [h.len]; have:=h.km; omega)):=List.getElem?_eq_getElem _
    have e1:=s.piv j _ hj hv
    have e2:=h.ld j _ c hv hj s.lt
    show((w.getD (C j) 0:Int):Rat)=_
    rw [e1,Rat.intCast_neg,e2]
    rfl) (fun x hx n f=>by
    show((w.getD x 0:Int):Rat)=0
    rw [s.oth x hx n f]
    rfl)
  rw [e]
  have ha:=h.hall q hq c s.lt
  have e2:DT.sm k (fun j=>M q (C j)*-((d:Rat)*z j c))=(-(d:Rat))*DT.sm k (fun j=>z j c*M q (C j)):=by
    rw [<- DT.sm_mul]
    exact DT.sm_congr fun j _=>by grind
  show M q c*(d:Rat)+DT.sm k (fun j=>M q (C j)*-((d:Rat)*z j c))=0
  rw [e2,<- ha]
  grind
abbrev Rel0 (pts:List (Rat×Rat)) (js:List Nat) (rods:List Rod) (vss0:List (List Int)):Prop:=∀ (i:Nat) x v,rods[i]?=some x->vss0[i]?=some v->∃ s,0 < s/\s ∣ 12/\(∀ q∈rowR pts js x,q.den ∣ s)/\v=(rowR pts js x).map (wn s)
theorem scl_at {pts:List (Rat×Rat)} {js:List Nat} {rods:List Rod} {vss0:List (List Int)} (l0:vss0.length=rods.length) (rel:Rel0 pts js rods vss0) (q:Nat) (hq:q < rods.length):∃ s:Rat,s≠0/\∀ x,Mof vss0 q x=s*(rowR pts js (rods[q])).getD x 0:=by
  have h1:rods[q]?=some rods[q]:=List.getElem?_eq_getElem hq
  have h2:vss0[q]?=some (vss0[q]'(by omega)):=List.getElem?_eq_getElem _
  obtain⟨s,s0,_,hd,ev⟩:=rel q _ _ h1 h2
  refine⟨(s:Rat),fun z=>by have:=Rat.natCast_eq_zero_iff.mp z; omega,fun x=>?_⟩
  rw [mof_at h2,ev,List.getD_eq_getElem?_getD,List.getElem?_map,List.getD_eq_getElem?_getD]
  cases e:(rowR pts js rods[q])[x]? with
  | none=>
    show(((0:Int):Int):Rat)=(s:Rat)*0
    rw [Rat.mul_zero]
    rfl
  | some v=>
    show((wn s v:Int):Rat)=(s:Rat)*v
    rw [wn_is (hd v (List.mem_of_getElem? e)),Rat.mul_comm]
theorem scl {pts:List (Rat×Rat)} {js:List Nat} {rods:List Rod} {vss0:List (List Int)} (l0:vss0.length=rods.length) (rel:Rel0 pts js rods vss0):∃ t:Nat->Rat,(∀ q,q < rods.length->t q≠0)/\∀ q,q < rods.length->∀ x,x < 2*js.length->Mt pts js rods q x=t q*Mof vss0 q x:=by
  have:∀ q,∃ t:Rat,q < rods.length->t≠0/\∀ x,Mt pts js rods q x=t*Mof vss0 q x:=fun q=>by
    by_cases hq:q < rods.length
    · obtain⟨s,s0,hs⟩:=scl_at l0 rel q hq
      refine⟨12 / s,fun _=>⟨by grind,fun x=>?_⟩⟩
      rw [hs x,Mt_at (List.getElem?_eq_getElem hq)]
      grind
    · exact⟨0,fun h=>absurd h hq⟩
  obtain⟨t,ht⟩:=Classical.axiomOfChoice this
  exact⟨t,fun q hq=>(ht q hq).1,fun q hq x _=>(ht q hq).2 x⟩
theorem rank_same {pts:List (Rat×Rat)} {js:List Nat} {rods:List Rod} {vss0 vss:List (List Int)} {k k1:Nat} {P C Qo P1 C1:Nat->Nat} {d:Int} {d1:Rat} {z z1:Nat->Nat->Rat} (l0:vss0.length=rods.length) (rel:Rel0 pts js rods vss0) (h:RS (Mof vss0) (2*js.length) rods.length P C Qo k d z vss (2*js.length)) (b1:DT.BS (Mt pts js rods) P1 C1 k1 d1 z1) (p1:∀ r,r < k1->P1 r < rods.length) (c1:∀ r,r < k1->C1 r < 2*js.length) (n1:∀ q,q < rods.length->∀ x,x < 2*js.length->DT.otE (Mt pts js rods) C1 k1 d1 z1 q x=0):k=k1:=by
  obtain⟨t,t0,ht⟩:=scl l0 rel
  exact rank_one h.bs b1 h.prm h.col p1 c1 h.hall (fun q hq x hx=>ot_hall b1 (n1 q hq x hx)) t t0 ht
theorem piv_count {N k:Nat} {C:Nat->Nat} (inj:∀ i j,i < k->j < k->C i=C j->i=j) (hC:∀ j,j < k->C j < N):((List.range N).filter (fun c=>!decide (∃ j,j < k/\C j=c))).length+k=N:=by
  have h2:=cut_len (p:=fun c=>decide (∃ j,j < k/\C j=c)) (List.range N)
  have nd:((List.range k).map C).Nodup:=by
    unfold List.Nodup
    rw [List.pairwise_map]
    refine List.Pairwise.imp_of_mem ?_ (List.nodup_range (n:=k))
    intro a b ha hb n e
    exact n (inj a b (List.mem_range.mp ha) (List.mem_range.mp hb) e)
  have h1:((List.range N).filter fun c=>decide (∃ j,j < k/\C j=c)).length=k:=by
    have:((List.range N).filter fun c=>decide (∃ j,j < k/\C j=c)).length=((List.range k).map C).length:=by
      refine(List.Perm.length_eq ?_)
      refine(List.perm_ext_iff_of_nodup (List.nodup_range.sublist List.filter_sublist) nd).mpr fun c=>?_
      rw [List.mem_filter,List.mem_range,decide_eq_true_eq,List.mem_map]
      constructor
      · rintro⟨_,j,hj,e⟩
        exact⟨j,List.mem_range.mpr hj,e⟩
      · rintro⟨j,hj,rfl⟩
        have hj:=List.mem_range.mp hj
        exact⟨hC j hj,j,hj,rfl⟩
    rw [this,List.length_map,List.length_range]
  rw [h1,List.length_range] at h2
  exact h2
set_option maxHeartbeats 4000000
def flt (vs:List (Rat×Rat)):List Rat:=vs.flatMap fun v=>[v.1,v.2]
theorem isN_zero {b:Nat}:DT.IsN b 0:=⟨0,rfl,Nat.zero_le _⟩
def uu (x:Nat×Nat×List Int) (c:Nat):Int:=(x.2.2.map fun v=>v.fdiv (x.2.1:Nat)).getD c 0
theorem sol_u {N k:Nat} {C:Nat->Nat} {d:Int} {vss:List (List Int)} {x:Nat×Nat×List Int} (s:SolOk N k C d vss x.1 x.2.1 x.2.2) (c:Nat):x.2.2.getD c 0=(x.2.1:Nat)*uu x c:=by
  unfold uu
  rw [List.getD_eq_getElem?_getD,List.getD_eq_getElem?_getD,List.getElem?_map]
  cases e:x.2.2[c]? with
  | none=>
    show(0:Int)=_*0
    omega
  | some v=>
    obtain⟨t,ht⟩:=s.dvd v (List.mem_of_getElem? e)
    show v=(x.2.1:Nat)*v.fdiv (x.2.1:Nat)
    have g0:((x.2.1:Nat):Int)≠0:=by have:=s.pos; omega
    rw [ht,Int.mul_fdiv_cancel_left _ g0]
theorem Mt_isN {many:Nat} {fx:List Nat} {pts:List (Rat×Rat)} {rods:List Rod} (ok:LkOk many fx rods) (pl:PlOk many pts) (r c:Nat):DT.IsN 96 (Mt pts (freeL many fx) rods r c):=by
  cases e:rods[r]? with
  | none=>
    unfold Mt
    rw [e]
    show DT.IsN 96 (12*0)
    rw [Rat.mul_zero]
    exact isN_zero
  | some x=>
    rw [Mt_at e,List.getD_eq_getElem?_getD]
    cases e2:(rowR pts (freeL many fx) x)[c]? with
    | none=>
      show DT.IsN 96 (12*0)
      rw [Rat.mul_zero]
      exact isN_zero
    | some q=>
      obtain⟨m1,m2,_⟩:=ok.rd _ (List.mem_of_getElem? e)
      exact qok_isN (row_ok (pl.way m1 m2) q (List.mem_of_getElem? e2))
set_option maxHeartbeats 4000000
def F__law_rank:DSp:=fun ds S k'=>∃ (a:Addr) (rs:List (Addr×List Rat)) (N b s:Nat) (M:DT.Mx),ds=[.ref a]/\S a=some (.lst (rs.map fun x=>.ref x.1))/\(∀ (i:Nat) x,rs[i]?=some x->S x.1=some (.lst (x.2.map fr))/\x.2=rwE M (fun _=>0) 0 1 (fun _ _=>0) (s:Rat) N i)/\rs.length<=14/\N<=14/\0 < s/\Bt 60 (s:Int)/\(∀ r c,DT.IsN b (M r c))/\(∀ k,k<=15->DT.fac k*b ^ k < 2 ^ 1900)/\∀ S' k P C d z,Ext S S'->k<=rs.length->DT.BS M P C k d z->(∀ r,r < k->P r < rs.length)->(∀ r,r < k->C r < N)->(∀ q,q < rs.length->∀ x,x < N->DT.otE M C k d z q x=0)->k' (.int (k:Nat)) S'
theorem sc__law_rank:FnScope ["rows","left","count","head","at","fresh","row","by","less"] ["rows"] (defScope s__law_rank):=⟨rfl,rfl,rfl,by decide +kernel,rfl,by decide +kernel,by decide +kernel⟩
theorem ok__law_rank {P:Program} {w:World} {K:Fg} {mg:Str->Option Value} {base:Heap} {f:Addr} {fd:FuncData} (Fn:Fun K "_law_rank" "_law_rank" s__law_rank f fd) (c__law_times:Own P w K mg base "_law_times" 3 F__law_times) (c__law_minus:Own P w K mg base "_law_minus" 3 F__law_minus) (z_list:mg "list"=none) (z_range:mg "range"=none) (z_len:mg "len"=none) (z_abs:mg "abs"=none) (z_int:mg "int"=none):
    FnOk P w K mg base CX0 4 f fd ["rows"] (spU K F__law_rank):=by
  refine Fn.okJ sc__law_rank (fun ds S k h=>?_) (fun cdv A outer s H E hr=>⟨_,(ds_consj (dst_compEIfjS (iv:=1) sc__law_rank.nd rfl (compSc (N:=["row"]) (cap:=[none]) rfl rfl rfl rfl trivial rfl rfl trivial) (d_varj 0) (fun _ _ _ _=>(dg_namej (i:=0) (show List.Nodup (["row"]:List Str) from by decide +kernel))) (fun _ _ _ _=>(dt_cmpj (o_neL hr) (d_compEIfj rfl (compSc (N:=["one"]) (cap:=[none]) rfl rfl rfl rfl trivial rfl rfl trivial) (d_varj 0) (fun _ _ _ _=>(dg_namej (i:=0) (show List.Nodup (["one"]:List Str) from by decide +kernel))) (fun _ _ _ _=>(dt_cmpj (o_neL hr) (d_ixj x_ixF (d_varj 0) d_intj (fun _ _=>rfl)) d_intj (nomark _))) (fun _ _ _ _=>(d_varj 0))) (d_lstj da_nilj) (nomark _))) (fun _ _ _ _=>(d_callTj b_list rfl z_list bt_list (da_consj (d_varj 0) da_nilj)))) (ds_consj (dst_setj (i:=2) sc__law_rank.nd d_intj) (ds_consj (dst_whilej PassesOwn.never (dt_cmpj (o_neL hr) (d_varj 1) (d_lstj da_nilj) (nomark _)) (ds_consj (dst_setj (i:=3) sc__law_rank.nd (d_pop0j (d_varj 1))) (ds_consj (dst_setj (i:=4) sc__law_rank.nd (d_ixj x_ixF (d_compRIfj rfl (compSc (N:=["k","head"]) (cap:=[none,some 3]) rfl rfl rfl rfl ⟨rfl,trivial⟩ rfl rfl ⟨⟨rfl,.inl rfl,.inl rfl⟩,trivial⟩) rfl z_range (da_consj (d_callBj b_lenE rfl z_len bt_len (da_consj (d_varj 3) da_nilj)) da_nilj) (fun _ _ _ _=>(dg_namej (i:=0) (show List.Nodup (["k","head"]:List Str) from by decide +kernel))) (fun _ _ _ _=>(dt_cmpj (o_neL hr) (d_ixj x_ixF (d_ixj x_ixF (d_varj 1) (d_varj 0) (fun _ _=>rfl)) d_intj (fun _ _=>rfl)) d_intj (nomark _))) (fun _ _ _ _=>(d_varj 0))) d_intj (fun _ _=>rfl))) (ds_consj (dst_setj (i:=5) sc__law_rank.nd (d_lstj da_nilj)) (ds_consj (dst_forEj PassesOwn.never rfl (d_varj 1) (dg_namej (i:=6) sc__law_rank.nd) (ds_consj (dst_setj (i:=7) sc__law_rank.nd (d_callj c__law_times (hr.mono (by decide)) rfl (da_consj (d_ixj x_ixF (d_varj 6) (d_varj 4) (fun _ _=>rfl)) (da_consj (d_tupj (da_consj (d_opj o_mul (d_ixj x_ixF (d_ixj x_ixF (d_varj 3) (d_varj 4) (fun _ _=>rfl)) d_intj (fun _ _=>rfl)) (d_ixj x_ixF (d_lstj (da_consj d_intj (da_consj (d_unj o_neg d_intj) da_nilj))) (d_callTj b_int rfl z_int bt_int (da_consj (d_cmpj o_lt (d_ixj x_ixF (d_ixj x_ixF (d_varj 3) (d_varj 4) (fun _ _=>rfl)) d_intj (fun _ _=>rfl)) d_intj (nomark _)) da_nilj)) (fun _ _=>rfl))) (da_consj (d_callBj b_abs rfl z_abs bt_abs (da_consj (d_ixj x_ixF (d_ixj x_ixF (d_varj 3) (d_varj 4) (fun _ _=>rfl)) d_intj (fun _ _=>rfl)) da_nilj)) da_nilj))) da_nilj)))) (ds_consj (dst_compRjS (iv:=8) sc__law_rank.nd rfl (compSc (N:=["k","row","by","head"]) (cap:=[none,some 6,some 7,some 3]) rfl rfl rfl rfl ⟨rfl,rfl,rfl,trivial⟩ rfl rfl ⟨⟨rfl,.inl rfl,.inl rfl⟩,⟨rfl,.inl rfl,.inl rfl⟩,⟨rfl,.inl rfl,.inl rfl⟩,trivial⟩) rfl z_range (da_consj (d_callBj b_lenE rfl z_len bt_len (da_consj (d_varj 6) da_nilj)) da_nilj) (fun _ _ _ _=>(dg_namej (i:=0) (show List.Nodup (["k","row","by","head"]:List Str) from by decide +kernel))) (fun _ _ _ _=>(d_callj c__law_minus (hr.mono (by decide)) rfl (da_consj (d_ixj x_ixF (d_varj 1) (d_varj 0) (fun _ _=>rfl)) (da_consj (d_callj c__law_times (hr.mono (by decide)) rfl (da_consj (d_varj 2) (da_consj (d_ixj x_ixF (d_varj 3) (d_varj 0) (fun _ _=>rfl)) da_nilj))) da_nilj))))) (ds_onej (dst_ifj (dt_cmpj (o_neL hr) (d_compEIfj rfl (compSc (N:=["one"]) (cap:=[none]) rfl rfl rfl rfl trivial rfl rfl trivial) (d_varj 8) (fun _ _ _ _=>(dg_namej (i:=0) (show List.Nodup (["one"]:List Str) from by decide +kernel))) (fun _ _ _ _=>(dt_cmpj (o_neL hr) (d_ixj x_ixF (d_varj 0) d_intj (fun _ _=>rfl)) d_intj (nomark _))) (fun _ _ _ _=>(d_varj 0))) (d_lstj da_nilj) (nomark _)) (ds_onej (dst_exprj (d_appj (d_varj 5) (d_varj 8)))) ds_nilj))))) (ds_consj (dst_setj (i:=1) sc__law_rank.nd (d_varj 5)) (ds_onej (dst_setj (i:=2) sc__law_rank.nd (d_opj o_add (d_varj 2) d_intj))))))))) (ds_onej (dst_retj (d_varj 2)))))),fun ds S k h=>?_⟩)
  · obtain⟨_,_,_,_,_,_,rfl,_⟩:=h
    rfl
  · obtain⟨a,rs,N,b,s,M,rfl,ha,hrs,hR,hN,s0,bs,hb,hB,w⟩:=h
    have sr0:(s:Rat)≠0:=fun z=>by
      have:=Rat.natCast_eq_zero_iff.mp z
      omega
    refine⟨(rs.map (fun x=>D.ref x.1),some a),by simp only [dItems,ha],fun p hp=>?_⟩
    refine lf_loop (P:=fun _=>0) ha hrs hp hR hN sr0 (fun S1 zs x1 h1 np lf=>?_) rs.length 0 [] none _ rfl (Nat.zero_le _) (Ext.new hp) put_same (fun y h=>(nomatch h)) (fun q h=>absurd h (by omega)) (Nat.zero_le _)
    refine⟨rkW M rs.length N a (s:Rat) S,⟨zs.length,p,zs,0,_,_,_,_,none,none,none,none,none,none,rfl,rfl,x1,hp,h1,np,lf⟩,?_⟩
    rintro m L S2 ⟨pl,zs,k,P,C,d,z,l3,l4,l5,l6,l7,l8,rfl,rfl,x2,npl,h2,nz2,lf⟩
    refine⟨few,fun q0 hq0=>?_⟩
    have nq0:pl≠q0:=ne_put h2 hq0
    by_cases hz:zs=[]
    · subst hz
      refine⟨[],[],true,by rw [put_ne nq0]; exact h2,put_same,.inl ⟨rfl,rfl⟩,?_⟩
      refine ite_nb (fun z=>by cases z) (fun _=>?_)
      exact w _ k P C d z (x2.trans (Ext.new hq0)) (by have:=lf.few; omega) lf.bs lf.pr lf.cn (fun q hq x hx=>lf.no q hq (fun y h=>(nomatch h)) x hx)
    have zl:0 < zs.length:=List.length_pos_iff.mpr hz
    refine⟨_,[],false,by rw [put_ne nq0]; exact h2,put_same,.inr ⟨by rw [List.length_map]; show zs.length≠0; omega,rfl⟩,?_⟩
    refine ite_nb (fun _=>?_) (fun z=>by cases z)
    obtain⟨ys,y,rfl⟩:∃ ys y,zs=ys++[y]:=⟨zs.dropLast,zs.getLast hz,(List.dropLast_concat_getLast hz).symm⟩
    refine⟨fun L' S''=>∃ m',m' < (ys++[y]).length/\rkW M rs.length N a (s:Rat) S m' L' S'',fun _ _ z=>z,?_⟩
    have x3:Ext S (put (put S2 q0 (.lst [])) pl (.lst (refs ys))):=(x2.trans (Ext.new hq0)).put npl
    have p3:put (put S2 q0 (.lst [])) pl (.lst (refs ys)) pl=some (.lst (refs ys)):=put_same
    have rw3:∀ t∈ys++[y],put (put S2 q0 (.lst [])) pl (.lst (refs ys)) t.1=some (.lst ((rwE M C k d z (s:Rat) N t.2).map fr)):=fun t ht=>by
      have:=(lf.at_ t ht).2.1
      rw [put_ne (nz2 t ht),put_ne (ne_put this hq0)]
      exact this
    refine⟨_,.ref y.1,by rw [put_ne nq0]; exact h2,by simp,?_⟩
    rw [show (refs (ys++[y])).dropLast=refs ys by simp]
    generalize put (put S2 q0 (.lst [])) pl (.lst (refs ys))=S3 at x3 p3 rw3 ⊢
    obtain⟨lR,_,nz1⟩:=lf.at_ y (by simp)
    have hy3:=rw3 y (by simp)
    have kl:=lf.few
    rw [List.length_append] at kl
    have kl:k+(ys.length+1)<=rs.length:=kl
    have d0:=lf.bs.ne
    refine⟨_,hy3,⟨by rw [List.length_map,rwE_len]; omega,by rw [List.length_map,rwE_len]; omega⟩,fun q1 hq1=>?_⟩
    rw [show (((rwE M C k d z (s:Rat) N y.2).map fr).length:Int).toNat=N by rw [List.length_map,rwE_len]; rfl]
    refine filter_loop (f:=fun i:Nat=>D.int (i:Nat)) (g:=fun i:Nat=>D.int (i:Nat)) (q:=fun x=>!decide (DT.otE M C k d z y.2 x=0)) (all:=List.range N) hq1 (fun _ _=>trivial) ?bb (List.range N) [] none (fun _ h=>h) (by rw [List.length_range]; show 0+N<=100; omega) fun S4 x4 h4=>?_
    case bb=>
      intro x S' k' hx e hk
      have hx:=List.mem_range.mp hx
      refine⟨_,_,e _ _ hy3,rwE_at hx,_,rfl,_,rfl,?_⟩
      by_cases z0:DT.otE M C k d z y.2 x=0
      · have e0:(((DT.otE M C k d z y.2 x / (d*(s:Rat))).num == 0):Bool)=true:=by rw [z0,show(0:Rat) / (d*(s:Rat))=0 by grind]; rfl
        have hk:k' none S':=by simpa [z0] using hk
        show(if (!((DT.otE M C k d z y.2 x / (d*(s:Rat))).num == 0))=true then _ else k' none S')
        rw [e0]
        exact hk
      · have e0:(((DT.otE M C k d z y.2 x / (d*(s:Rat))).num == 0):Bool)=false:=by
          have:(DT.otE M C k d z y.2 x / (d*(s:Rat))).num≠0:=fun t=>by
            have:=Rat.num_eq_zero.mp t
            exact z0 (by grind)
          simpa using this
        have hk:k' (some (.int (x:Nat))) S':=by simpa [z0] using hk
        show(if (!((DT.otE M C k d z y.2 x / (d*(s:Rat))).num == 0))=true then k' (some (.int (x:Nat))) S' else _)
        rw [e0]
        exact hk
    rw [List.nil_append] at h4
    obtain⟨c,cl,ec,cN,hc0⟩:∃ c cl,(List.range N).filter (fun x=>!decide (DT.otE M C k d z y.2 x=0))=c::cl/\c < N/\DT.otE M C k d z y.2 c≠0:=by
      cases e:(List.range N).filter (fun x=>!decide (DT.otE M C k d z y.2 x=0)) with
      | nil=>
        obtain⟨x,hx,h0⟩:=nz1
        have:x∈(List.range N).filter (fun x=>!decide (DT.otE M C k d z y.2 x=0)):=List.mem_filter.mpr ⟨List.mem_range.mpr hx,by simpa using h0⟩
        rw [e] at this
        cases this
      | cons c cl=>
        have:c∈(List.range N).filter (fun x=>!decide (DT.otE M C k d z y.2 x=0)):=by rw [e]; exact List.mem_cons_self
        obtain⟨a1,a2⟩:=List.mem_filter.mp this
        exact⟨c,cl,rfl,List.mem_range.mp a1,by simpa using a2⟩
    rw [ec] at h4
    refine⟨_,.int (c:Nat),h4,atI_nat (j:=0) rfl,few,fun pf hpf=>?_⟩
    have X4:=x3.trans x4
    have p4:=x4 _ _ p3
    have npf:pl≠pf:=ne_put p4 hpf
    have p5:put S4 pf (.lst []) pl=some (.lst (refs ys)):=by rw [put_ne npf]; exact p4
    have X5:Ext S (put S4 pf (.lst [])):=X4.trans (Ext.new hpf)
    have rw5:∀ t∈ys++[y],put S4 pf (.lst []) t.1=some (.lst ((rwE M C k d z (s:Rat) N t.2).map fr)):=fun t ht=>(Ext.new hpf) _ _ (x4 _ _ (rw3 t ht))
    have f5:put S4 pf (.lst []) pf=some (.lst (refs [])):=put_same
    have spf:S pf=none:=X4.none hpf
    have nf:∀ t∈ys++[y],t.1≠pf:=fun t ht=>ne_put (x4 _ _ (rw3 t ht)) hpf
    generalize put S4 pf (.lst [])=S5 at p5 X5 rw5 f5 ⊢
    refine⟨(refs ys,some pl),by simp only [dItems,p5],?_⟩
    have hk15:k+1<=15:=by omega
    have ds0:d*(s:Rat)≠0:=by grind
    obtain⟨dv,ed,bdv⟩:=d_sz lf.bs hb hB (by omega)
    have bss:Bt 1960 (dv*(s:Int)):=(bdv.mul bs).mono (by decide)
    have eds:d*(s:Rat)=((dv*(s:Int):Int):Rat):=by rw [ed,Rat.intCast_mul,Rat.intCast_natCast]
    have se:∀ q x,Sz 1960 (DT.otE M C k d z q x / (d*(s:Rat))):=fun q x=>by
      obtain⟨v,ev,bv⟩:=ot_sz lf.bs hb hB hk15 q x
      exact q_sz ev eds bv bss ds0 (by decide)
    have se2:∀ q,Sz 1900 (DT.otE M C k d z q c / DT.otE M C k d z y.2 c):=fun q=>by
      obtain⟨v,ev,bv⟩:=ot_sz lf.bs hb hB hk15 q c
      obtain⟨v',ev',bv'⟩:=ot_sz lf.bs hb hB hk15 y.2 c
      exact q_sz ev ev' bv bv' hc0 (by decide)
    have hh0:DT.otE M C k d z y.2 c / (d*(s:Rat))≠0:=by grind
    have ebyq:∀ q,DT.otE M C k d z q c / (d*(s:Rat))*(DT.otE M C k d z y.2 c / (d*(s:Rat)))⁻¹=DT.otE M C k d z q c / DT.otE M C k d z y.2 c:=fun q=>by grind
    have eless:∀ q x,DT.otE M C k d z q x / (d*(s:Rat)) - DT.otE M C k d z q c / DT.otE M C k d z y.2 c*(DT.otE M C k d z y.2 x / (d*(s:Rat)))=DT.otE M (DT.ups C k c) (k+1) (DT.otE M C k d z y.2 c) (DT.zn M C k d z y.2 c) q x / (DT.otE M C k d z y.2 c*(s:Rat)):=fun q x=>by
      have e:=DT.ot_new (M:=M) (C:=C) (k:=k) (d:=d) (z:=z) (l:=y.2) (c:=c) (q:=q) (x:=x) d0 hc0
      grind
    have ynew:∀ q x,(∀ x,x < N->DT.otE M C k d z q x=0)->x < N->DT.otE M (DT.ups C k c) (k+1) (DT.otE M C k d z y.2 c) (DT.zn M C k d z y.2 c) q x=0:=fun q x h hx=>by
      have e:=DT.ot_new (M:=M) (C:=C) (k:=k) (d:=d) (z:=z) (l:=y.2) (c:=c) (q:=q) (x:=x) d0 hc0
      rw [h x hx,h c cN] at e
      grind
    have yown:∀ x,DT.otE M (DT.ups C k c) (k+1) (DT.otE M C k d z y.2 c) (DT.zn M C k d z y.2 c) y.2 x=0:=fun x=>by
      have e:=DT.ot_new (M:=M) (C:=C) (k:=k) (d:=d) (z:=z) (l:=y.2) (c:=c) (q:=y.2) (x:=x) d0 hc0
      grind
    refine loop_ix (fun r L S'=>∃ (don rest fs:List (Addr×Nat)) (l6 l7 l8:Option D),ys=don++rest/\r=refs rest/\L=[some (.ref a),some (.ref pl),some (.int (k:Nat)),some (.ref y.1),some (.int (c:Nat)),some (.ref pf),l6,l7,l8]/\Ext S S'/\S' pl=some (.lst (refs ys))/\S' pf=some (.lst (refs fs))/\(∀ t∈ys++[y],S' t.1=some (.lst ((rwE M C k d z (s:Rat) N t.2).map fr)))/\(∀ f∈fs,f.1≠pf/\f.2 < rs.length/\S' f.1=some (.lst ((rwE M (DT.ups C k c) (k+1) (DT.otE M C k d z y.2 c) (DT.zn M C k d z y.2 c) (s:Rat) N f.2).map fr))/\∃ x,x < N/\DT.otE M (DT.ups C k c) (k+1) (DT.otE M C k d z y.2 c) (DT.zn M C k d z y.2 c) f.2 x≠0)/\(∀ t∈don,(∀ f∈fs,f.2≠t.2)->∀ x,x < N->DT.otE M (DT.ups C k c) (k+1) (DT.otE M C k d z y.2 c) (DT.zn M C k d z y.2 c) t.2 x=0)/\fs.length<=don.length) (fun r L S' ⟨_,_,_,_,_,_,_,_,_,_,h,_⟩=>h) ?_ ?_ _ _ _ ⟨[],ys,[],_,_,_,rfl,rfl,rfl,X5,p5,f5,rw5,fun f h=>(nomatch h),fun t h=>(nomatch h),Nat.le_refl _⟩
    · rintro dd r L S6 N1 ⟨don,rest,fs,l6,l7,l8,ec6,er,rfl,x6,p6,f6,rw6,hf6,hd6,hl6⟩ hN1
      cases rest with
      | nil=>cases er
      | cons t rest=>
        cases er
        have mt:t∈ys++[y]:=by rw [ec6]; simp
        have ht6:=rw6 t mt
        have hy6:=rw6 y (by simp)
        have tR:=(lf.at_ t mt).1
        have dl:don.length < 14:=by
          have:=congrArg List.length ec6
          rw [List.length_append,List.length_cons] at this
          omega
        refine⟨_,_,ht6,rwE_at cN,_,_,hy6,rwE_at cN,_,atI_nat (j:=1) rfl,few,fun q7 hq7=>?_⟩
        have x7:=Ext.new (o:=.lst [.int 1,.int (-1)]) hq7
        refine⟨_,_,x7 _ _ hy6,rwE_at cN,_,atI_nat (j:=0) rfl,_,.int (if (DT.otE M C k d z y.2 c / (d*(s:Rat))).num < 0 then -1 else 1),put_same,?_,?_⟩
        · by_cases neg:(DT.otE M C k d z y.2 c / (d*(s:Rat))).num < 0
          · rw [if_pos neg]
            show L2.atI [D.int 1,D.int (-1)] (if decide ((DT.otE M C k d z y.2 c / (d*(s:Rat))).num < 0)=true then 1 else 0)=_
            rw [decide_eq_true neg]
            rfl
          · rw [if_neg neg]
            show L2.atI [D.int 1,D.int (-1)] (if decide ((DT.otE M C k d z y.2 c / (d*(s:Rat))).num < 0)=true then 1 else 0)=_
            rw [decide_eq_false neg]
            rfl
        have o1:Sz 1 (1:Rat):=⟨by decide,by decide⟩
        have si:Sz 1961 (DT.otE M C k d z y.2 c / (d*(s:Rat)))⁻¹:=by
          rw [show (DT.otE M C k d z y.2 c / (d*(s:Rat)))⁻¹=1 / (DT.otE M C k d z y.2 c / (d*(s:Rat))) by grind]
          exact o1.div (se y.2 c) hh0
        refine⟨mok (n:=1) (se y.2 c).den (by split <;> decide),_,_,x7 _ _ hy6,rwE_at cN,_,atI_nat (j:=0) rfl,few,_,_,congrArg (fun v=>[fr (DT.otE M C k d z t.2 c / (d*(s:Rat))),v]) (inv_fr hh0),(se t.2 c).mono (by decide),si.mono (by decide),?_⟩
        rw [ebyq t.2]
        refine⟨_,x7 _ _ ht6,⟨by rw [List.length_map,rwE_len]; omega,by rw [List.length_map,rwE_len]; omega⟩,fun ql hql=>?_⟩
        rw [show (((rwE M C k d z (s:Rat) N t.2).map fr).length:Int).toNat=N by rw [List.length_map,rwE_len]; rfl]
        refine map_loop (f:=fun i:Nat=>D.int (i:Nat)) (g:=fun i:Nat=>fr (DT.otE M (DT.ups C k c) (k+1) (DT.otE M C k d z y.2 c) (DT.zn M C k d z y.2 c) t.2 i / (DT.otE M C k d z y.2 c*(s:Rat)))) (all:=List.range N) hql (fun _ _=>trivial) ?bb2 (List.range N) [] none (fun _ h=>h) (by rw [List.length_range]; show 0+N<=100; omega) fun S8 x8 h8=>?_
        case bb2=>
          intro x S' k' hx e hk
          have hx:=List.mem_range.mp hx
          refine⟨_,_,e _ _ (x7 _ _ ht6),rwE_at hx,_,_,e _ _ (x7 _ _ hy6),rwE_at hx,_,_,rfl,(se2 t.2).mono (by decide),(se y.2 x).mono (by decide),_,_,rfl,(se t.2 x).mono (by decide),((se2 t.2).mul (se y.2 x)).mono (by decide),?_⟩
          rw [eless]
          exact hk
        have h8:S8 ql=some (.lst ((rwE M (DT.ups C k c) (k+1) (DT.otE M C k d z y.2 c) (DT.zn M C k d z y.2 c) (s:Rat) N t.2).map fr)):=by
          rw [h8,List.nil_append]
          unfold rwE
          rw [List.map_map]
          rfl
        have x78:=x7.trans x8
        have tn:nzB (rwE M (DT.ups C k c) (k+1) (DT.otE M C k d z y.2 c) (DT.zn M C k d z y.2 c) (s:Rat) N t.2)=true↔∃ x,x < N/\DT.otE M (DT.ups C k c) (k+1) (DT.otE M C k d z y.2 c) (DT.zn M C k d z y.2 c) t.2 x≠0:=rwE_nz hc0 sr0
        have lfs:(refs fs).length < sizeLine:=by
          rw [List.length_map]
          exact big1 (by omega)
        have fl2:(fs++[(ql,t.2)]).length<=(don++[t]).length:=by
          rw [List.length_append,List.length_append]
          exact Nat.succ_le_succ hl6
        have fl3:fs.length<=(don++[t]).length:=by
          rw [List.length_append]
          exact Nat.le_succ_of_le hl6
        have nql:ql≠pf:=fun e=>by rw [e,x7 _ _ f6] at hql; cases hql
        dsimp only
        refine nz_if (v:=8) (r:=ql) ?hl h8 (by rw [rwE_len]; omega) fun S9 x9=>?_
        case hl=>rfl
        have x79:=x78.trans x9
        refine ite_b (fun hb1=>?_) (fun hb1=>?_)
        · refine⟨⟨_,x79 _ _ f6⟩,_,x79 _ _ f6,lfs,hN1 _ _ ⟨don++[t],rest,fs++[(ql,t.2)],_,_,_,by rw [ec6]; simp,rfl,rfl,(x6.trans x79).put spf,by rw [put_ne npf]; exact x79 _ _ p6,by rw [put_same]; simp,fun r hr=>by rw [put_ne (nf r hr)]; exact x79 _ _ (rw6 r hr),fun f hf=>?_,fun r hr hn x hx=>?_,fl2⟩⟩
          · rcases List.mem_append.mp hf with m | m
            · obtain⟨b1,b2,b3,b4⟩:=hf6 f m
              exact⟨b1,b2,by rw [put_ne b1]; exact x79 _ _ b3,b4⟩
            · rw [List.mem_singleton.mp m]
              exact⟨nql,tR,by rw [put_ne nql]; exact x9 _ _ h8,tn.mp hb1⟩
          · rcases List.mem_append.mp hr with m | m
            · exact hd6 r m (fun f hf=>hn f (by simp [hf])) x hx
            · rw [List.mem_singleton.mp m] at hn
              exact absurd rfl (hn (ql,t.2) (by simp))
        · refine hN1 _ _ ⟨don++[t],rest,fs,_,_,_,by rw [ec6]; simp,rfl,rfl,x6.trans x79,x79 _ _ p6,x79 _ _ f6,fun r hr=>x79 _ _ (rw6 r hr),fun f hf=>?_,fun r hr hn x hx=>?_,fl3⟩
          · obtain⟨b1,b2,b3,b4⟩:=hf6 f hf
            exact⟨b1,b2,x79 _ _ b3,b4⟩
          · rcases List.mem_append.mp hr with m | m
            · exact hd6 r m hn x hx
            · rw [List.mem_singleton.mp m]
              exact Classical.byContradiction fun ne=>by
                rw [tn.mpr ⟨x,hx,ne⟩] at hb1
                cases hb1
    · rintro L S6 ⟨don,rest,fs,l6,l7,l8,ec6,er,rfl,x6,p6,f6,rw6,hf6,hd6,hl6⟩
      cases rest with
      | cons t rest=>cases er
      | nil=>
        rw [List.append_nil] at ec6
        subst ec6
        refine⟨fs.length,by rw [List.length_append]; show fs.length < ys.length+1; omega,pf,fs,k+1,DT.ups P k y.2,DT.ups C k c,_,_,_,_,_,_,_,_,rfl,rfl,x6,spf,f6,fun f hf=>(hf6 f hf).1,lf.bs.step hc0,fun r hr=>?_,fun r hr=>?_,fun f hf=>(hf6 f hf).2,fun q hq hn x hx=>?_,by omega⟩
        · unfold DT.ups
          split
          · exact lR
          · exact lf.pr r (by omega)
        · unfold DT.ups
          split
          · exact cN
          · exact lf.cn r (by omega)
        · by_cases m:∃ t∈ys,t.2=q
          · obtain⟨t,ht,rfl⟩:=m
            exact hd6 t ht hn x hx
          · by_cases e:q=y.2
            · rw [e]
              exact yown x
            · refine ynew q x (lf.no q hq fun t ht=>?_) hx
              rcases List.mem_append.mp ht with u | u
              · exact fun v=>m ⟨t,u,v⟩
              · rw [List.mem_singleton.mp u]
                exact fun v=>e v.symm
set_option maxHeartbeats 4000000
theorem rank_leB {M:DT.Mx} {P' C':Nat->Nat} {k k' R N:Nat} {d':Rat} {z':Nat->Nat->Rat} {z B:Nat->Nat->Rat} (h':DT.BS M P' C' k' d' z') (hP':∀ r,r < k'->P' r < R) (hC':∀ r,r < k'->C' r < N) (hall:∀ q,q < R->∀ x,x < N->M q x=DT.sm k (fun j=>z j x*B q j)):k'<=k:=by
  rcases Nat.lt_or_ge k k' with hlt | hge
  · obtain⟨y,⟨j1,hj1,hy1⟩,hs⟩:=DT.null_vec k k' (fun j i=>z j (C' i)) hlt
    exfalso
    have key:∀ r,r < k'->DT.sm k' (fun i=>y i*M (P' r) (C' i))=0:=fun r hr=>by
      have e1:DT.sm k' (fun i=>y i*M (P' r) (C' i))=DT.sm k' (fun i=>DT.sm k (fun j=>y i*(z j (C' i)*B (P' r) j))):=DT.sm_congr fun i hi=>by
        rw [hall _ (hP' r hr) _ (hC' i hi),DT.sm_mul]
      rw [e1,DT.sm_swap]
      refine DT.sm_zero fun j hj=>?_
      have e2:DT.sm k' (fun i=>y i*(z j (C' i)*B (P' r) j))=B (P' r) j*DT.sm k' (fun i=>y i*z j (C' i)):=by
        rw [<- DT.sm_mul]
        exact DT.sm_congr fun i _=>by grind
      rw [e2,hs j hj]
      grind
    have hc:=DT.cramer (n:=k') (j:=j1) (M:=fun r c=>M (P' r) (C' c)) (z:=y) (u:=fun _=>0) hj1 key
    have hd:DT.det k' (DT.cl (fun r c=>M (P' r) (C' c)) j1 fun _=>0)=0:=by
      have:=DT.det_mul (n:=k') (a:=j1) (M:=fun r c=>M (P' r) (C' c)) (u:=fun _=>0) (k:=0) hj1
      have e:(fun r:Nat=>(0:Rat)*(fun _:Nat=>(0:Rat)) r)=fun _=>0:=by funext r; grind
      rw [e] at this
      grind
    rw [hd] at hc
    have:=h'.ne
    rw [h'.det] at this
    grind
  · exact hge
theorem rank_tr {A T:DT.Mx} {P C P' C':Nat->Nat} {k k' R N:Nat} {d d':Rat} {z z':Nat->Nat->Rat} (h:DT.BS A P C k d z) (h':DT.BS T P' C' k' d' z') (pr:∀ r,r < k->P r < R) (cn:∀ r,r < k->C r < N) (pr':∀ r,r < k'->P' r < N) (cn':∀ r,r < k'->C' r < R)
    (al:∀ q,q < R->∀ x,x < N->A q x=DT.sm k (fun j=>z j x*A q (C j))) (al':∀ x,x < N->∀ q,q < R->T x q=DT.sm k' (fun j=>z' j q*T x (C' j))) (t:Nat->Rat) (t0:∀ x,x < N->t x≠0) (ht:∀ x,x < N->∀ q,q < R->T x q=t x*A q x):k=k':=by
  have l1:k'<=k:=rank_leB (R:=N) (N:=R) (z:=fun j q=>A q (C j)) (B:=fun x j=>t x*z j x) h' pr' cn' fun x hx q hq=>by
    rw [ht x hx q hq,al q hq x hx,<- DT.sm_mul]
    exact DT.sm_congr fun j _=>by grind
  have l2:k<=k':=rank_leB (R:=R) (N:=N) (z:=fun j x=>(t x)⁻¹*T x (C' j)) (B:=fun q j=>z' j q) h pr cn fun q hq x hx=>by
    have e:=al' x hx q hq
    have e2:A q x=(t x)⁻¹*T x q:=by rw [ht x hx q hq]; have:=t0 x hx; grind
    rw [e2,e,<- DT.sm_mul]
    exact DT.sm_congr fun j _=>by grind
  omega
abbrev rwD (x:Rod×Rat):D:=.tup [rodD x.1,fr x.2]
theorem zip_rw:∀ (rods:List Rod) (ws:List Rat),zipD (rods.map rodD) (ws.map fr)=(rods.zip ws).map rwD
  | [],_=>by simp [zipD]
  | _::_,[]=>by simp [zipD]
  | r::rods,w::ws=>by
    have:=zip_rw rods ws
    unfold zipD at this ⊢
    rw [List.map_cons,List.map_cons,List.zipWith_cons_cons,this,List.zip_cons_cons,List.map_cons]
def pl1 (pts:List (Rat×Rat)) (j:Nat) (x:Rod×Rat):Rat×Rat:=if j=x.1.1 then((wy pts x.1.1 x.1.2.1).1*x.2,(wy pts x.1.1 x.1.2.1).2*x.2) else if j=x.1.2.1 then(-((wy pts x.1.1 x.1.2.1).1*x.2),-((wy pts x.1.1 x.1.2.1).2*x.2)) else(0,0)
def pullA (pts:List (Rat×Rat)) (j:Nat):Rat×Rat->List (Rod×Rat)->Rat×Rat
  | acc,[]=>acc
  | acc,x::l=>pullA pts j (acc.1+(pl1 pts j x).1,acc.2+(pl1 pts j x).2) l
abbrev WOk (w:Rat):Prop:=DT.IsN (2 ^ 508) (12*w)
theorem isN_btn {b n:Nat} {q:Rat} (h:DT.IsN b q) (hb:b < 2 ^ n):∃ v:Int,q=v/\Bt n v:=by
  obtain⟨v,e,l⟩:=h
  exact⟨v,e,Nat.lt_of_le_of_lt l hb⟩
theorem sz_12 {q:Rat} {b n:Nat} (h:DT.IsN b (12*q)) (hb:b < 2 ^ n) (hn:4<=n):Sz n q:=by
  obtain⟨v,e,bt⟩:=isN_btn h hb
  have:=q_sz (q:=(12:Rat)) (w:=12) e rfl bt ((show Bt 4 12 by decide).mono hn) (by decide) (Nat.le_refl n)
  rw [show q=12*q / 12 by grind]
  exact this
theorem sz_144 {q:Rat} {b n:Nat} (h:DT.IsN b (144*q)) (hb:b < 2 ^ n) (hn:8<=n):Sz n q:=by
  obtain⟨v,e,bt⟩:=isN_btn h hb
  have:=q_sz (q:=(144:Rat)) (w:=144) e rfl bt ((show Bt 8 144 by decide).mono hn) (by decide) (Nat.le_refl n)
  rw [show q=144*q / 144 by grind]
  exact this
theorem isN_neg {b:Nat} {q:Rat} (h:DT.IsN b q):DT.IsN b (-q):=by
  obtain⟨v,e,l⟩:=h
  exact⟨-v,by rw [e,Rat.intCast_neg],by rw [Int.natAbs_neg]; exact l⟩
theorem mul_144 {a w:Rat} (ha:QOk 12 8 a) (hw:WOk w):DT.IsN (96*2 ^ 508) (144*(a*w)):=by
  have:=(qok_isN ha).mul hw
  rw [show (12*a)*(12*w)=144*(a*w) by grind] at this
  exact this
theorem pl1_isN {pts:List (Rat×Rat)} {j:Nat} {x:Rod×Rat} (h:QOk 12 8 (wy pts x.1.1 x.1.2.1).1/\QOk 12 8 (wy pts x.1.1 x.1.2.1).2) (hw:WOk x.2):DT.IsN (96*2 ^ 508) (144*(pl1 pts j x).1)/\DT.IsN (96*2 ^ 508) (144*(pl1 pts j x).2):=by
  have m1:=mul_144 h.1 hw
  have m2:=mul_144 h.2 hw
  have z:DT.IsN (96*2 ^ 508) (144*(0:Rat)):=by rw [Rat.mul_zero]; exact⟨0,rfl,Nat.zero_le _⟩
  have n1:=isN_neg m1
  have n2:=isN_neg m2
  rw [show -(144*((wy pts x.1.1 x.1.2.1).1*x.2))=144*-((wy pts x.1.1 x.1.2.1).1*x.2) by grind] at n1
  rw [show -(144*((wy pts x.1.1 x.1.2.1).2*x.2))=144*-((wy pts x.1.1 x.1.2.1).2*x.2) by grind] at n2
  unfold pl1
  split
  · exact⟨m1,m2⟩
  · split
    · exact⟨n1,n2⟩
    · exact⟨z,z⟩
theorem acc_add {n:Nat} {a b:Rat} (ha:DT.IsN (n*(96*2 ^ 508)) (144*a)) (hb:DT.IsN (96*2 ^ 508) (144*b)):DT.IsN ((n+1)*(96*2 ^ 508)) (144*(a+b)):=by
  have:=ha.add hb
  rw [show 144*a+144*b=144*(a+b) by grind] at this
  rw [Nat.succ_mul]
  exact this
theorem nbt {j i:Nat} (h:(((j:Nat):Int) == ((i:Nat):Int))=true):j=i:=by
  have:=beq_iff_eq.mp h
  omega
theorem nbf {j i:Nat} (h:(((j:Nat):Int) == ((i:Nat):Int))=false):j≠i:=fun e=>by
  rw [e,beq_self_eq_true] at h
  cases h
def balB (many:Nat) (fx:List Nat) (rods:List Rod) (pts:List (Rat×Rat)) (ws:List Rat):Bool:=!(ws.all fun w=>decide (w=0)) && (freeL many fx).all fun j=>decide (pullA pts j (0,0) (rods.zip ws)=(0,0))
set_option maxHeartbeats 4000000
def F_freedom:DSp:=fun ds S k=>∃ (many:Nat) (fx:List Nat) (rods:List Rod),ds=[LK many fx rods]/\LkOk many fx rods/\k (.int (2*(((freeL many fx).length:Nat):Int) - (rods.length:Nat))) S
theorem sc_freedom:FnScope ["linkage"] ["linkage"] (defScope s_freedom):=⟨rfl,rfl,rfl,by decide +kernel,rfl,by decide +kernel,by decide +kernel⟩
theorem ok_freedom {P:Program} {w:World} {K:Fg} {mg:Str->Option Value} {base:Heap} {f:Addr} {fd:FuncData} (Fn:Fun K "freedom" "freedom" s_freedom f fd) (z_len:mg "len"=none):
    FnOk P w K mg base CX0 1 f fd ["linkage"] (spU K F_freedom):=by
  refine Fn.okJ sc_freedom (fun ds S k h=>?_) (fun cdv A outer s H E hr=>⟨_,(ds_onej (dst_retj (d_opj o_sub (d_opj o_mul d_intj (d_opj o_sub (d_ixj x_ixF (d_varj 0) d_intj (fun _ _=>rfl)) (d_callBj b_lenE rfl z_len bt_len (da_consj (d_ixj x_ixF (d_varj 0) d_intj (fun _ _=>rfl)) da_nilj)))) (d_callBj b_lenE rfl z_len bt_len (da_consj (d_ixj x_ixF (d_varj 0) d_intj (fun _ _=>rfl)) da_nilj))))),fun ds S k h=>?_⟩)
  · obtain⟨_,_,_,rfl,_⟩:=h
    rfl
  · obtain⟨many,fx,rods,rfl,ok,w⟩:=h
    have m7:=ok.m7
    have fcut:=free_cut ok.fxl ok.nd
    refine⟨_,rfl,_,rfl,mok (show Bt 2 2 by decide) (n:=4) ?b1,_,rfl,?_⟩
    case b1=>
      unfold Bt
      rw [List.length_map]
      show _ < 16
      omega
    rw [show (2:Int)*(((freeL many fx).length:Nat):Int) - (rods.length:Nat)=2*(((many:Nat):Int) - (((fx.map natD).length:Nat):Int)) - (((rods.map rodD).length:Nat):Int) by rw [List.length_map,List.length_map]; omega] at w
    exact w
def F_pull_at:DSp:=fun ds S k=>∃ (j:Nat) (many:Nat) (fx:List Nat) (rods:List Rod) (pts:List (Rat×Rat)) (ws:List Rat),ds=[.int (j:Nat),LK many fx rods,.tup (pts.map P2),.tup (ws.map fr)]/\LkOk many fx rods/\PlOk many pts/\(∀ w∈ws,WOk w)/\k (W2 (pullA pts j (0,0) (rods.zip ws))) S
theorem sc_pull_at:FnScope ["joint","linkage","place","weights","pull","rod","weight","way"] ["joint","linkage","place","weights"] (defScope s_pull_at):=⟨rfl,rfl,rfl,by decide +kernel,rfl,by decide +kernel,by decide +kernel⟩
theorem ok_pull_at {P:Program} {w:World} {K:Fg} {mg:Str->Option Value} {base:Heap} {f:Addr} {fd:FuncData} (Fn:Fun K "pull_at" "pull_at" s_pull_at f fd) (c_way_of_rod:Own P w K mg base "way_of_rod" 5 F_way_of_rod) (c_plus:Own P w K mg base "plus" 3 F_plus) (c_times:Own P w K mg base "times" 3 F_times) (c_minus:Own P w K mg base "minus" 3 F_minus) (z_zip:mg "zip"=none) (g_REST:GTup2 K mg "REST" [[0,1],[0,1]]):
    FnOk P w K mg base CX0 6 f fd ["joint","linkage","place","weights"] (spU K F_pull_at):=by
  refine Fn.okJ sc_pull_at (fun ds S k h=>?_) (fun cdv A outer s H E hr=>⟨_,(ds_consj (dst_setj (i:=4) sc_pull_at.nd (d_gtup2 g_REST rfl)) (ds_consj (dst_forZj PassesOwn.never rfl rfl z_zip (da_consj (d_ixj x_ixF (d_varj 1) d_intj (fun _ _=>rfl)) (da_consj (d_varj 3) da_nilj)) (dg_seqE (n:=2) rfl (dgs_consj (dg_namej (i:=5) sc_pull_at.nd) (dgs_consj (dg_namej (i:=6) sc_pull_at.nd) dgs_nilj))) (ds_consj (dst_setj (i:=7) sc_pull_at.nd (d_callj c_way_of_rod (hr.mono (by decide)) rfl (da_consj (d_varj 5) (da_consj (d_varj 2) da_nilj)))) (ds_consj (dst_ifj (dt_cmpj (o_eqX hr) (d_varj 0) (d_ixj x_ixF (d_varj 5) d_intj (fun _ _=>rfl)) (nomark _)) (ds_onej (dst_setj (i:=4) sc_pull_at.nd (d_tupj (da_consj (d_callj c_plus (hr.mono (by decide)) rfl (da_consj (d_ixj x_ixF (d_varj 4) d_intj (fun _ _=>rfl)) (da_consj (d_callj c_times (hr.mono (by decide)) rfl (da_consj (d_ixj x_ixF (d_varj 7) d_intj (fun _ _=>rfl)) (da_consj (d_varj 6) da_nilj))) da_nilj))) (da_consj (d_callj c_plus (hr.mono (by decide)) rfl (da_consj (d_ixj x_ixF (d_varj 4) d_intj (fun _ _=>rfl)) (da_consj (d_callj c_times (hr.mono (by decide)) rfl (da_consj (d_ixj x_ixF (d_varj 7) d_intj (fun _ _=>rfl)) (da_consj (d_varj 6) da_nilj))) da_nilj))) da_nilj))))) ds_nilj) (ds_onej (dst_ifj (dt_cmpj (o_eqX hr) (d_varj 0) (d_ixj x_ixF (d_varj 5) d_intj (fun _ _=>rfl)) (nomark _)) (ds_onej (dst_setj (i:=4) sc_pull_at.nd (d_tupj (da_consj (d_callj c_minus (hr.mono (by decide)) rfl (da_consj (d_ixj x_ixF (d_varj 4) d_intj (fun _ _=>rfl)) (da_consj (d_callj c_times (hr.mono (by decide)) rfl (da_consj (d_ixj x_ixF (d_varj 7) d_intj (fun _ _=>rfl)) (da_consj (d_varj 6) da_nilj))) da_nilj))) (da_consj (d_callj c_minus (hr.mono (by decide)) rfl (da_consj (d_ixj x_ixF (d_varj 4) d_intj (fun _ _=>rfl)) (da_consj (d_callj c_times (hr.mono (by decide)) rfl (da_consj (d_ixj x_ixF (d_varj 7) d_intj (fun _ _=>rfl)) (da_consj (d_varj 6) da_nilj))) da_nilj))) da_nilj))))) ds_nilj))))) (ds_onej (dst_retj (d_varj 4))))),fun ds S k h=>?_⟩)
  · obtain⟨_,_,_,_,_,_,rfl,_⟩:=h
    rfl
  · obtain⟨j,many,fx,rods,pts,ws,rfl,ok,pl,hw,w⟩:=h
    refine⟨_,rfl,(rods.map rodD,none),(ws.map fr,none),rfl,rfl,?_⟩
    rw [zip_rw]
    have rl:=ok.rl
    have zl:(rods.zip ws).length<=12:=by rw [List.length_zip]; omega
    refine loop_ix (fun rr L S'=>∃ (rs:List (Rod×Rat)) (acc:Rat×Rat) (n:Nat) (l5 l6 l7:Option D),rr=rs.map rwD/\L=[some (.int (j:Nat)),some (LK many fx rods),some (.tup (pts.map P2)),some (.tup (ws.map fr)),some (W2 acc),l5,l6,l7]/\S'=S/\pullA pts j acc rs=pullA pts j (0,0) (rods.zip ws)/\(∀ x∈rs,x∈rods.zip ws)/\n+rs.length<=12/\DT.IsN (n*(96*2 ^ 508)) (144*acc.1)/\DT.IsN (n*(96*2 ^ 508)) (144*acc.2)) (fun _ _ _ _=>⟨trivial,trivial⟩) ?_ ?_ _ _ _ ⟨rods.zip ws,(0,0),0,none,none,none,rfl,rfl,rfl,rfl,fun _ h=>h,by omega,by rw [Rat.mul_zero]; exact⟨0,rfl,Nat.zero_le _⟩,by rw [Rat.mul_zero]; exact⟨0,rfl,Nat.zero_le _⟩⟩
    · rintro dd rr L S1 N1 ⟨rs,acc,n,l5,l6,l7,er,rfl,rfl,ep,hm,hn,b1,b2⟩ hN
      cases rs with
      | nil=>cases er
      | cons x rs=>
        cases er
        have hn:n+(rs.length+1)<=12:=hn
        have xm:=hm x List.mem_cons_self
        have xr:=(List.of_mem_zip xm).1
        have xw:=hw _ (List.of_mem_zip xm).2
        obtain⟨h1,h2,hne⟩:=ok.rd x.1 xr
        have wq:=pl.way h1 h2
        have a1:=pl.at h1
        have a2:=pl.at h2
        have pn:=pl1_isN (j:=j) wq xw
        have fit:∀ m,m<=12->m*(96*2 ^ 508) < 2 ^ 600:=fun m hm=>Nat.lt_of_le_of_lt (Nat.mul_le_mul_right _ hm) (by decide +kernel)
        have sA1:=(sz_144 b1 (fit n (by omega)) (by decide)).mono (show 600<=4000 by decide)
        have sA2:=(sz_144 b2 (fit n (by omega)) (by decide)).mono (show 600<=4000 by decide)
        have sw:Sz 4000 x.2:=(sz_12 xw (show 2 ^ 508 < 2 ^ 600 by decide +kernel) (by decide)).mono (by decide)
        have s1:Sz 4000 (wy pts x.1.1 x.1.2.1).1:=(QOk.sz (n:=3) wq.1).mono (by decide)
        have s2:Sz 4000 (wy pts x.1.1 x.1.2.1).2:=(QOk.sz (n:=3) wq.2).mono (by decide)
        have p1:Sz 4000 ((wy pts x.1.1 x.1.2.1).1*x.2):=(sz_144 (mul_144 wq.1 xw) (show 96*2 ^ 508 < 2 ^ 600 by decide +kernel) (by decide)).mono (by decide)
        have p2:Sz 4000 ((wy pts x.1.1 x.1.2.1).2*x.2):=(sz_144 (mul_144 wq.2 xw) (show 96*2 ^ 508 < 2 ^ 600 by decide +kernel) (by decide)).mono (by decide)
        have nx:∀ acc':Rat×Rat,acc'=(acc.1+(pl1 pts j x).1,acc.2+(pl1 pts j x).2)->∀ l5 l6 l7,N1 [some (.int (j:Nat)),some (LK many fx rods),some (.tup (pts.map P2)),some (.tup (ws.map fr)),some (W2 acc'),l5,l6,l7] S1:=fun acc' e l5 l6 l7=>hN _ _ ⟨rs,acc',n+1,l5,l6,l7,rfl,rfl,rfl,by rw [e]; exact ep,fun y h=>hm y (List.mem_cons_of_mem _ h),by omega,by rw [e]; exact acc_add b1 pn.1,by rw [e]; exact acc_add b2 pn.2⟩
        refine⟨([rodD x.1,fr x.2],none),rfl,rfl,rfl,x.1,pts,_,_,rfl,a1.1,a2.1,a1.2,a2.2,_,rfl,_,eq_int,ite_b (fun c=>?_) (fun c=>?_)⟩
        · have c:j=x.1.1:=nbt c
          have e1:pl1 pts j x=((wy pts x.1.1 x.1.2.1).1*x.2,(wy pts x.1.1 x.1.2.1).2*x.2):=by unfold pl1; rw [if_pos c]
          refine⟨_,rfl,_,rfl,_,_,rfl,s1,sw,_,_,rfl,sA1,p1,_,rfl,_,rfl,_,_,rfl,s2,sw,_,_,rfl,sA2,p2,few,_,rfl,_,eq_int,ite_b (fun c2=>?_) (fun _=>?_)⟩
          · have c2:j=x.1.2.1:=nbt c2
            exact absurd (c.symm.trans c2) hne
          · exact nx _ (by rw [e1]) _ _ _
        · have c:j≠x.1.1:=nbf c
          refine⟨_,rfl,_,eq_int,ite_b (fun c2=>?_) (fun c2=>?_)⟩
          · have c2:j=x.1.2.1:=nbt c2
            have e1:pl1 pts j x=(-((wy pts x.1.1 x.1.2.1).1*x.2),-((wy pts x.1.1 x.1.2.1).2*x.2)):=by unfold pl1; rw [if_neg c,if_pos c2]
            refine⟨_,rfl,_,rfl,_,_,rfl,s1,sw,_,_,rfl,sA1,p1,_,rfl,_,rfl,_,_,rfl,s2,sw,_,_,rfl,sA2,p2,few,?_⟩
            exact nx (acc.1 - (wy pts x.1.1 x.1.2.1).1*x.2,acc.2 - (wy pts x.1.1 x.1.2.1).2*x.2) (by rw [e1,Rat.sub_eq_add_neg,Rat.sub_eq_add_neg]) _ _ _
          · have c2:j≠x.1.2.1:=nbf c2
            have e1:pl1 pts j x=(0,0):=by unfold pl1; rw [if_neg c,if_neg c2]
            exact nx acc (by rw [e1,Rat.add_zero,Rat.add_zero]) _ _ _
    · rintro L S1 ⟨rs,acc,n,l5,l6,l7,er,rfl,rfl,ep,hm,hn,b1,b2⟩
      cases rs with
      | cons x rs=>cases er
      | nil=>
        rw [<- ep] at w
        exact w
def F_balance:DSp:=fun ds S k=>∃ (many:Nat) (fx:List Nat) (rods:List Rod) (pts:List (Rat×Rat)) (ws:List Rat),ds=[LK many fx rods,.tup (pts.map P2),.tup (ws.map fr)]/\LkOk many fx rods/\PlOk many pts/\ws.length=rods.length/\(∀ w∈ws,WOk w)/\∀ S',Ext S S'->k (.bl (balB many fx rods pts ws)) S'
theorem sc_balance:FnScope ["linkage","place","weights"] ["linkage","place","weights"] (defScope s_balance):=⟨rfl,rfl,rfl,by decide +kernel,rfl,by decide +kernel,by decide +kernel⟩
theorem ok_balance {P:Program} {w:World} {K:Fg} {mg:Str->Option Value} {base:Heap} {f:Addr} {fd:FuncData} (Fn:Fun K "balance" "balance" s_balance f fd) (c_free_joints:Own P w K mg base "free_joints" 1 F_free_joints) (c_pull_at:Own P w K mg base "pull_at" 6 F_pull_at) (z_all:mg "all"=none) (g_REST:GTup2 K mg "REST" [[0,1],[0,1]]) (g_NOUGHT:GTup K mg "NOUGHT" [0,1]):
    FnOk P w K mg base CX0 7 f fd ["linkage","place","weights"] (spU K F_balance):=by
  refine Fn.okJ sc_balance (fun ds S k h=>?_) (fun cdv A outer s H E hr=>⟨_,(ds_consj (dst_ifj (dt_valj (d_callBj b_allE rfl z_all bt_all (da_consj (d_compEj rfl (compSc (N:=["weight"]) (cap:=[none]) rfl rfl rfl rfl trivial rfl rfl trivial) (d_varj 2) (fun _ _ _ _=>(dg_namej (i:=0) (show List.Nodup (["weight"]:List Str) from by decide +kernel))) (fun _ _ _ _=>(d_cmpj (o_eqX hr) (d_varj 0) (d_gtup g_NOUGHT rfl) (nomark _)))) da_nilj))) (ds_onej (dst_retj d_blj)) ds_nilj) (ds_onej (dst_retj (d_callBj b_allE rfl z_all bt_all (da_consj (d_compEj rfl (compSc (N:=["joint","linkage","place","weights"]) (cap:=[none,some 0,some 1,some 2]) rfl rfl rfl rfl ⟨rfl,rfl,rfl,trivial⟩ rfl rfl ⟨⟨rfl,.inl rfl,.inl rfl⟩,⟨rfl,.inl rfl,.inl rfl⟩,⟨rfl,.inl rfl,.inl rfl⟩,trivial⟩) (d_callj c_free_joints (hr.mono (by decide)) rfl (da_consj (d_varj 0) da_nilj)) (fun _ _ _ _=>(dg_namej (i:=0) (show List.Nodup (["joint","linkage","place","weights"]:List Str) from by decide +kernel))) (fun _ _ _ _=>(d_cmpj (o_eqX hr) (d_callj c_pull_at (hr.mono (by decide)) rfl (da_consj (d_varj 0) (da_consj (d_varj 1) (da_consj (d_varj 2) (da_consj (d_varj 3) da_nilj))))) (d_gtup2 g_REST rfl) (nomark _)))) da_nilj))))),fun ds S k h=>?_⟩)
  · obtain⟨_,_,_,_,_,rfl,_⟩:=h
    rfl
  · obtain⟨many,fx,rods,pts,ws,rfl,ok,pl,wl,hw,w⟩:=h
    have rl:=ok.rl
    have m7:=ok.m7
    have fl:=free_len (many:=many) (fx:=fx)
    refine⟨(ws.map fr,none),rfl,fun p hp=>?_⟩
    refine map_loop (f:=fr) (g:=fun v=>.bl (decide (v=0))) (all:=ws) hp (fun _ _=>trivial) ?bb ws [] none (fun _ h=>h) (by show 0+ws.length<=100; omega) fun S1 e1 h1=>?_
    case bb=>
      intro v S' k' hv e hk
      exact⟨_,eq_fr (q:=0),hk⟩
    rw [List.nil_append] at h1
    refine⟨(ws.map (fun v=>.bl (decide (v=0))),some p),ws.map (fun v=>decide (v=0)),by simp only [dItems,h1],by rw [List.map_map]; rfl,?_⟩
    have ea:(ws.map (fun v=>decide (v=0))).all id=ws.all fun v=>decide (v=0):=by rw [List.all_map]; rfl
    rw [ea]
    refine ite_b (fun c=>?_) (fun c=>?_)
    · have:=w S1 e1
      unfold balB at this
      rw [c] at this
      exact this
    · refine⟨many,fx,rods,rfl,ok,fun pj S2 hpj e2 hj=>⟨((freeL many fx).map natD,some pj),by simp only [dItems,hj],fun q hq=>?_⟩⟩
      refine map_loop (f:=natD) (g:=fun j=>.bl (decide (pullA pts j (0,0) (rods.zip ws)=(0,0)))) (all:=freeL many fx) hq (fun S' e=>e _ _ hj) ?bb2 (freeL many fx) [] none (fun _ h=>h) (by show 0+(freeL many fx).length<=100; omega) fun S3 e3 h3=>?_
      case bb2=>
        intro j S' k' hj' e hk
        exact⟨j,many,fx,rods,pts,ws,rfl,ok,pl,hw,_,eq_W,hk⟩
      rw [List.nil_append] at h3
      refine⟨((freeL many fx).map (fun j=>.bl (decide (pullA pts j (0,0) (rods.zip ws)=(0,0)))),some q),(freeL many fx).map (fun j=>decide (pullA pts j (0,0) (rods.zip ws)=(0,0))),by simp only [dItems,h3],by rw [List.map_map]; rfl,?_⟩
      have:=w S3 ((e1.trans e2).trans e3)
      unfold balB at this
      rw [c] at this
      rw [List.all_map]
      exact this
def F_column_of:DSp:=fun ds S k=>∃ (a:Addr) (zs:List (Addr×List Rat)) (c:Nat),ds=[.ref a,.int (c:Nat)]/\S a=some (.lst (zs.map fun z=>.ref z.1))/\zs.length<=100/\(∀ z∈zs,S z.1=some (.lst (z.2.map fr))/\c < z.2.length)/\∀ p S',S p=none->Ext S S'->S' p=some (.lst ((zs.map fun z=>z.2.getD c 0).map fr))->k (.ref p) S'
theorem sc_column_of:FnScope ["rows","column"] ["rows","column"] (defScope s_column_of):=⟨rfl,rfl,rfl,by decide +kernel,rfl,by decide +kernel,by decide +kernel⟩
theorem ok_column_of {P:Program} {w:World} {K:Fg} {mg:Str->Option Value} {base:Heap} {f:Addr} {fd:FuncData} (Fn:Fun K "column_of" "column_of" s_column_of f fd):
    FnOk P w K mg base CX0 1 f fd ["rows","column"] (spU K F_column_of):=by
  refine Fn.okJ sc_column_of (fun ds S k h=>?_) (fun cdv A outer s H E hr=>⟨_,(ds_onej (dst_retj (d_compEj rfl (compSc (N:=["row","column"]) (cap:=[none,some 1]) rfl rfl rfl rfl ⟨rfl,trivial⟩ rfl rfl ⟨⟨rfl,.inl rfl,.inl rfl⟩,trivial⟩) (d_varj 0) (fun _ _ _ _=>(dg_namej (i:=0) (show List.Nodup (["row","column"]:List Str) from by decide +kernel))) (fun _ _ _ _=>(d_ixj x_ixF (d_varj 0) (d_varj 1) (fun _ _=>rfl)))))),fun ds S k h=>?_⟩)
  · obtain⟨_,_,_,rfl,_⟩:=h
    rfl
  · obtain⟨a,zs,c,rfl,ha,hl,hz,w⟩:=h
    refine⟨(zs.map fun z=>.ref z.1,some a),by simp only [dItems,ha],fun p hp=>?_⟩
    refine map_loop (f:=fun z:Addr×List Rat=>D.ref z.1) (g:=fun z=>fr (z.2.getD c 0)) (all:=zs) hp (fun S' e=>e _ _ ha) ?bb zs [] none (fun _ h=>h) (by show 0+zs.length<=100; omega) fun S1 e1 h1=>w p S1 hp e1 (by rw [h1,List.nil_append,List.map_map]; rfl)
    intro z S' k' hz' e hk
    obtain⟨h1,h2⟩:=hz z hz'
    refine⟨_,_,e _ _ h1,atI_nat ?_,hk⟩
    rw [List.getElem?_map,List.getD_eq_getElem?_getD,List.getElem?_eq_getElem h2]
    rfl
abbrev colR (pts:List (Rat×Rat)) (js:List Nat) (rods:List Rod) (c:Nat):List Rat:=rods.map fun r=>(rowR pts js r).getD c 0
abbrev Rel5 (pts:List (Rat×Rat)) (js:List Nat) (rods:List Rod) (vss0:List (List Int)):Prop:=∀ (c:Nat) v,vss0[c]?=some v->∃ s,0 < s/\s ∣ 12/\(∀ q∈colR pts js rods c,q.den ∣ s)/\v=(colR pts js rods c).map (wn s)
inductive Ppr | fre | bnd (ws:List Rat)
def Ppr.D:Ppr->DL.D
  | .fre=>.tup [.str (Str.ofString "free")]
  | .bnd ws=>.tup [.str (Str.ofString "bound"),.tup (ws.map fr)]
def F_paper_of:DSp:=fun ds S k'=>∃ (many:Nat) (fx:List Nat) (rods:List Rod) (pts:List (Rat×Rat)),ds=[LK many fx rods,.tup (pts.map P2)]/\LkOk many fx rods/\PlOk many pts/\∀ (vss0 vss:List (List Int)) (k:Nat) (P C Qo:Nat->Nat) (d:Int) (z:Nat->Nat->Rat) (S':DH),vss0.length=2*(freeL many fx).length->Rel5 pts (freeL many fx) rods vss0->RS (Mof vss0) rods.length (2*(freeL many fx).length) P C Qo k d z vss rods.length->k<=12->Ext S S'->∀ pp:Ppr,((pp=.fre/\k=rods.length)\/(∃ x:Nat×Nat×List Int,SolOk rods.length k C d vss x.1 x.2.1 x.2.2/\pp=.bnd (x.2.2.map fun v=>(((v.fdiv (x.2.1:Nat):Int)):Rat))))->k' pp.D S'
theorem sc_paper_of:FnScope ["linkage","place","rows","columns","found"] ["linkage","place"] (defScope s_paper_of):=⟨rfl,rfl,rfl,by decide +kernel,rfl,by decide +kernel,by decide +kernel⟩
theorem ok_paper_of {P:Program} {w:World} {K:Fg} {mg:Str->Option Value} {base:Heap} {f:Addr} {fd:FuncData} (Fn:Fun K "paper_of" "paper_of" s_paper_of f fd) (c_rows_of_rods:Own P w K mg base "rows_of_rods" 7 F_rows_of_rods) (c_free_joints:Own P w K mg base "free_joints" 1 F_free_joints) (c_column_of:Own P w K mg base "column_of" 1 F_column_of) (c_solutions:Own P w K mg base "solutions" 4 F_solutions) (z_range:mg "range"=none) (z_len:mg "len"=none) (z_tuple:mg "tuple"=none):
    FnOk P w K mg base CX0 8 f fd ["linkage","place"] (spU K F_paper_of):=by
  refine Fn.okJ sc_paper_of (fun ds S k h=>?_) (fun cdv A outer s H E hr=>⟨_,(ds_consj (dst_setj (i:=2) sc_paper_of.nd (d_callj c_rows_of_rods (hr.mono (by decide)) rfl (da_consj (d_varj 0) (da_consj (d_varj 1) da_nilj)))) (ds_consj (dst_compRjS (iv:=3) sc_paper_of.nd rfl (compSc (N:=["at","rows"]) (cap:=[none,some 2]) rfl rfl rfl rfl ⟨rfl,trivial⟩ rfl rfl ⟨⟨rfl,.inl rfl,.inl rfl⟩,trivial⟩) rfl z_range (da_consj (d_opj o_mul d_intj (d_callBj b_lenE rfl z_len bt_len (da_consj (d_callj c_free_joints (hr.mono (by decide)) rfl (da_consj (d_varj 0) da_nilj)) da_nilj))) da_nilj) (fun _ _ _ _=>(dg_namej (i:=0) (show List.Nodup (["at","rows"]:List Str) from by decide +kernel))) (fun _ _ _ _=>(d_callj c_column_of (hr.mono (by decide)) rfl (da_consj (d_varj 1) (da_consj (d_varj 0) da_nilj))))) (ds_consj (dst_setj (i:=4) sc_paper_of.nd (d_callj c_solutions (hr.mono (by decide)) rfl (da_consj (d_varj 3) (da_consj (d_callBj b_lenE rfl z_len bt_len (da_consj (d_varj 2) da_nilj)) da_nilj)))) (ds_consj (dst_ifj (dt_cmpj (o_eqX hr) (d_callBj b_lenE rfl z_len bt_len (da_consj (d_varj 4) da_nilj)) d_intj (nomark _)) (ds_onej (dst_retj (d_tupj (da_consj d_strj da_nilj)))) ds_nilj) (ds_onej (dst_retj (d_tupj (da_consj d_strj (da_consj (d_callTj b_tuple rfl z_tuple bt_tuple (da_consj (d_compEj rfl (compSc (N:=["number"]) (cap:=[none]) rfl rfl rfl rfl trivial rfl rfl trivial) (d_ixj x_ixF (d_varj 4) d_intj (fun _ _=>rfl)) (fun _ _ _ _=>(dg_namej (i:=0) (show List.Nodup (["number"]:List Str) from by decide +kernel))) (fun _ _ _ _=>(d_tupj (da_consj (d_varj 0) (da_consj d_intj da_nilj))))) da_nilj)) da_nilj))))))))),fun ds S k h=>?_⟩)
  · obtain⟨_,_,_,_,rfl,_⟩:=h
    rfl
  · obtain⟨many,fx,rods,pts,rfl,ok,pl,w⟩:=h
    have m7:=ok.m7
    have rl:=ok.rl
    have fl:=free_len (many:=many) (fx:=fx)
    refine⟨many,fx,rods,pts,rfl,ok,pl,fun pr zs S1 hpr e1 hr hzs hzr=>?_⟩
    have zl:zs.length=rods.length:=by
      have:=congrArg List.length hzr
      rw [List.length_map] at this
      exact this
    refine⟨many,fx,rods,rfl,ok,fun pj S2 hpj e2 hj=>?_⟩
    have bl:Bt 4 ((((freeL many fx).map natD).length:Nat):Int):=by unfold Bt; rw [Int.natAbs_natCast,List.length_map]; show(freeL many fx).length < 16; omega
    have hn:(2:Int)*((((freeL many fx).map natD).length:Nat):Int)=((2*(freeL many fx).length:Nat):Int):=by rw [List.length_map]; omega
    refine⟨_,hj,mok (show Bt 2 2 by decide) bl,⟨by rw [hn]; omega,by rw [hn]; omega⟩,fun pc hpc=>?_⟩
    rw [hn,Int.toNat_natCast]
    have e12:=e1.trans e2
    have ecol:∀ c,((zs.map fun z=>(z.2,rowR pts (freeL many fx) z.1)).map fun z=>z.2.getD c 0)=colR pts (freeL many fx) rods c:=fun c=>by
      unfold colR
      rw [<- hzr,List.map_map,List.map_map]
      rfl
    refine gen_loop (f:=natD) (g:=D.ref) (R:=fun c q S'=>S' q=some (.lst ((colR pts (freeL many fx) rods c).map fr))/\q≠pc) (J:=Ext S2) (Kq:=Ext) (all:=List.range (2*(freeL many fx).length)) (fun _ _=>trivial) (fun _ _ o _ e h=>e _ _ h) (fun _ _ _ _ e h=>⟨e _ _ h.1,h.2⟩) (fun _ _ _ _ h=>⟨by rw [put_ne h.2]; exact h.1,h.2⟩) (fun _ _ e=>e.put hpc) ?bb (List.range (2*(freeL many fx).length)) [] _ none (fun _ h=>h) (Ext.new hpc) put_same (fun _ h=>by cases h) (by rw [List.length_range]; show 0+_<=100; omega) fun cs S3 e3 h3 hR hz=>?_
    case bb=>
      intro c S' k' hc e ⟨o,ho⟩ hk
      have hc:=List.mem_range.mp hc
      refine⟨pr,zs.map fun z=>(z.2,rowR pts (freeL many fx) z.1),c,rfl,by rw [List.map_map]; exact e _ _ (e2 _ _ hr),by rw [List.length_map]; omega,fun x hx=>?_,fun q S4 hq e4 h4=>hk q S4 (e.trans e4) e4 ⟨by rw [h4,ecol],fun z=>by rw [z,ho] at hq; cases hq⟩⟩
      obtain⟨z,hz,rfl⟩:=List.mem_map.mp hx
      exact⟨e _ _ (e2 _ _ (hzs z hz)),by rw [row_len]; exact hc⟩
    have hz:cs.map Prod.fst=List.range (2*(freeL many fx).length):=by rw [hz]; rfl
    have cl:cs.length=2*(freeL many fx).length:=by
      have:=congrArg List.length hz
      rw [List.length_map,List.length_range] at this
      exact this
    have fst_at:∀ (i:Nat) x,cs[i]?=some x->x.1=i:=fun i x hx=>by
      have h1:(cs.map Prod.fst)[i]?=some x.1:=by rw [List.getElem?_map,hx]; rfl
      rw [hz] at h1
      have h2:=(List.getElem?_eq_some_iff.mp hx).1
      rw [List.getElem?_range (by omega)] at h1
      exact(Option.some.inj h1).symm
    have hr3:=e3 _ _ (e2 _ _ hr)
    refine⟨_,hr3,pc,cs.map fun z=>(z.2,colR pts (freeL many fx) rods z.1),rods.length,12,8,by rw [List.length_map,zl],by rw [h3,List.map_map]; rfl,fun x hx=>?cols,by decide,by decide,by decide,by omega,by rw [List.length_map]; omega,.inl rl,fun vss0 vss kk P C Qo d z p fs S4 l0 rel hRS k12 hfree hfs e4 hp4=>?_⟩
    case cols=>
      obtain⟨z,hz',rfl⟩:=List.mem_map.mp hx
      refine⟨(hR z hz').1,List.length_map ..,fun q hq=>?_⟩
      obtain⟨r,hr',rfl⟩:=List.mem_map.mp hq
      have zc:z.1 < 2*(freeL many fx).length:=by
        have:z.1∈cs.map Prod.fst:=List.mem_map_of_mem hz'
        rw [hz] at this
        exact List.mem_range.mp this
      obtain⟨h1,h2,_⟩:=ok.rd r hr'
      have hl:z.1 < (rowR pts (freeL many fx) r).length:=by rw [row_len]; exact zc
      refine row_ok (js:=freeL many fx) (pl.way h1 h2) _ ?_
      rw [List.getD_eq_getElem?_getD,List.getElem?_eq_getElem hl]
      exact List.getElem_mem hl
    rw [List.length_map,cl] at l0 hRS
    have cnt:=piv_count hRS.inj hRS.col
    rw [<- hfree,List.length_map] at cnt
    have rel5:Rel5 pts (freeL many fx) rods vss0:=fun c v hv=>by
      have hc:=(List.getElem?_eq_some_iff.mp hv).1
      have h1:cs[c]?=some (cs[c]'(by omega)):=List.getElem?_eq_getElem _
      have h2:=fst_at c _ h1
      obtain⟨s,s0,s12,sd,ev⟩:=rel c (cs[c].2,colR pts (freeL many fx) rods cs[c].1) v (by rw [List.getElem?_map,h1]; rfl) hv
      rw [h2] at sd ev
      exact⟨s,s0,s12,sd,ev⟩
    have W:=fun S' e=>w vss0 vss kk P C Qo d z S' l0 rel5 hRS k12 e
    have e14:=(e12.trans e3).trans e4
    refine⟨_,hp4,_,eq_int,ite_b (fun c=>?_) (fun c=>?_)⟩
    · have c0:fs.length=0:=by
        have:=beq_iff_eq.mp c
        rw [List.length_map] at this
        omega
      exact⟨few,W S4 e14 .fre (.inl ⟨rfl,by omega⟩)⟩
    · cases fs with
      | nil=>cases c
      | cons x fs=>
        obtain⟨so,hx⟩:=hfs x List.mem_cons_self
        have sl:=so.len
        refine⟨_,_,hp4,atI_nat (j:=0) rfl,((x.2.2.2.map fun v=>v.fdiv (x.2.2.1:Nat)).map D.int,some x.1),by simp only [dItems,hx,iL],fun q hq=>?_⟩
        refine map_loop (f:=D.int) (g:=fun n:Int=>fr (n:Rat)) (all:=x.2.2.2.map fun v=>v.fdiv (x.2.2.1:Nat)) hq (fun S' e=>e _ _ hx) ?bb2 (x.2.2.2.map fun v=>v.fdiv (x.2.2.1:Nat)) [] none (fun _ h=>h) (by rw [List.length_map,sl]; show 0+rods.length<=100; omega) fun S5 e5 h5=>?_
        case bb2=>
          intro n S' k' hn' e hk
          exact⟨few,hk⟩
        rw [List.nil_append] at h5
        refine⟨_,h5,few,?_⟩
        have:=W S5 (e14.trans e5) (.bnd _) (.inr ⟨x.2,so,rfl⟩)
        unfold Ppr.D at this
        dsimp only at this
        rw [List.map_map] at this
        rw [List.map_map]
        exact this
def F_is_right:DSp:=fun ds S k'=>∃ (many:Nat) (fx:List Nat) (rods:List Rod) (pts:List (Rat×Rat)) (pp:Ppr),ds=[LK many fx rods,.tup (pts.map P2),pp.D]/\LkOk many fx rods/\PlOk many pts/\match pp with
  | .fre=>∀ (vss0 vss:List (List Int)) (k:Nat) (P C Qo:Nat->Nat) (d:Int) (z:Nat->Nat->Rat) (S':DH),vss0.length=rods.length->Rel0 pts (freeL many fx) rods vss0->RS (Mof vss0) (2*(freeL many fx).length) rods.length P C Qo k d z vss (2*(freeL many fx).length)->Ext S S'->k' (.bl (decide (k=rods.length))) S'
  | .bnd ws=>ws.length=rods.length/\(∀ w∈ws,WOk w)/\∀ S',Ext S S'->k' (.bl (balB many fx rods pts ws)) S'
theorem sc_is_right:FnScope ["linkage","place","paper"] ["linkage","place","paper"] (defScope s_is_right):=⟨rfl,rfl,rfl,by decide +kernel,rfl,by decide +kernel,by decide +kernel⟩
theorem ok_is_right {P:Program} {w:World} {K:Fg} {mg:Str->Option Value} {base:Heap} {f:Addr} {fd:FuncData} (Fn:Fun K "is_right" "is_right" s_is_right f fd) (c_many_swings:Own P w K mg base "many_swings" 8 F_many_swings) (c_freedom:Own P w K mg base "freedom" 1 F_freedom) (c_balance:Own P w K mg base "balance" 7 F_balance):
    FnOk P w K mg base CX0 9 f fd ["linkage","place","paper"] (spU K F_is_right):=by
  refine Fn.okJ sc_is_right (fun ds S k h=>?_) (fun cdv A outer s H E hr=>⟨_,(ds_consj (dst_ifj (dt_cmpj (o_eqS hr) (d_ixj x_ixF (d_varj 2) d_intj (fun _ _=>rfl)) d_strj (nomark _)) (ds_onej (dst_retj (d_cmpj (o_eqX hr) (d_callj c_many_swings (hr.mono (by decide)) rfl (da_consj (d_varj 0) (da_consj (d_varj 1) da_nilj))) (d_callj c_freedom (hr.mono (by decide)) rfl (da_consj (d_varj 0) da_nilj)) (nomark _)))) ds_nilj) (ds_onej (dst_retj (d_callj c_balance (hr.mono (by decide)) rfl (da_consj (d_varj 0) (da_consj (d_varj 1) (da_consj (d_ixj x_ixF (d_varj 2) d_intj (fun _ _=>rfl)) da_nilj))))))),fun ds S k h=>?_⟩)
  · obtain⟨_,_,_,_,_,rfl,_⟩:=h
    rfl
  · obtain⟨many,fx,rods,pts,pp,rfl,ok,pl,w⟩:=h
    cases pp with
    | fre=>
      refine⟨_,rfl,many,fx,rods,pts,rfl,ok,pl,fun vss0 vss k0 P C Qo d z S1 l0 rel hRS k12 e1=>⟨many,fx,rods,rfl,ok,_,eq_int,?_⟩⟩
      have h:=w vss0 vss k0 P C Qo d z S1 l0 rel hRS e1
      have e:((((2*(freeL many fx).length:Nat):Int) - ((k0:Nat):Int)) == (2*(((freeL many fx).length:Nat):Int) - ((rods.length:Nat):Int)))=decide (k0=rods.length):=by
        rw [Bool.eq_iff_iff,beq_iff_eq,decide_eq_true_eq]
        omega
      rw [e]
      exact h
    | bnd ws=>
      obtain⟨wl,hw,w⟩:=w
      exact⟨_,rfl,_,rfl,many,fx,rods,pts,ws,rfl,ok,pl,wl,hw,w⟩
set_option maxHeartbeats 4000000
theorem cell_two {w:Rat×Rat} {r:Rod} {j:Nat}:∃ a b,cellR w r j=[a,b]:=by
  unfold cellR
  split
  · exact⟨_,_,rfl⟩
  · split <;> exact⟨_,_,rfl⟩
theorem row_at {pts:List (Rat×Rat)} {r:Rod}:∀ (js:List Nat) (i j:Nat),js[i]?=some j->(rowR pts js r).getD (2*i) 0=(cellR (wy pts r.1 r.2.1) r j).getD 0 0/\(rowR pts js r).getD (2*i+1) 0=(cellR (wy pts r.1 r.2.1) r j).getD 1 0
  | [],i,j,h=>by cases h
  | j0::js,0,j,h=>by
    have h:j0=j:=Option.some.inj h
    subst h
    obtain⟨a,b,e⟩:=cell_two (w:=wy pts r.1 r.2.1) (r:=r) (j:=j0)
    unfold rowR
    rw [List.flatMap_cons,e]
    exact⟨rfl,rfl⟩
  | j0::js,i+1,j,h=>by
    have ih:=row_at (pts:=pts) (r:=r) js i j h
    obtain⟨a,b,e⟩:=cell_two (w:=wy pts r.1 r.2.1) (r:=r) (j:=j0)
    unfold rowR at ih ⊢
    rw [List.flatMap_cons,e]
    exact ih
theorem pl1_cell {pts:List (Rat×Rat)} {j:Nat} {r:Rod} {w:Rat} (hne:r.1≠r.2.1):pl1 pts j (r,w)=(-((cellR (wy pts r.1 r.2.1) r j).getD 0 0*w),-((cellR (wy pts r.1 r.2.1) r j).getD 1 0*w)):=by
  unfold pl1 cellR
  by_cases h1:j=r.1
  · rw [if_pos h1,if_neg (fun z=>hne (h1.symm.trans z)),if_pos h1]
    show _=(-(-(wy pts r.1 r.2.1).1*w),-(-(wy pts r.1 r.2.1).2*w))
    congr 1 <;> grind
  · rw [if_neg h1]
    by_cases h2:j=r.2.1
    · rw [if_pos h2,if_pos h2]
      rfl
    · rw [if_neg h2,if_neg h2,if_neg h1]
      show((0:Rat),(0:Rat))=(-(0*w),-(0*w))
      congr 1 <;> grind
theorem pull_sm {pts:List (Rat×Rat)} {j:Nat}:∀ (rods:List Rod) (ws:List Rat) (acc:Rat×Rat),ws.length=rods.length->(∀ r∈rods,r.1≠r.2.1)->pullA pts j acc (rods.zip ws)=(acc.1 - DT.sm rods.length (fun q=>(cellR (wy pts (rods.getD q (0,0,0)).1 (rods.getD q (0,0,0)).2.1) (rods.getD q (0,0,0)) j).getD 0 0*ws.getD q 0),acc.2 - DT.sm rods.length (fun q=>(cellR (wy pts (rods.getD q (0,0,0)).1 (rods.getD q (0,0,0)).2.1) (rods.getD q (0,0,0)) j).getD 1 0*ws.getD q 0))
  | [],_,acc,_,_=>by
    show acc=(acc.1 - 0,acc.2 - 0)
    rw [show acc.1 - (0:Rat)=acc.1 by grind,show acc.2 - (0:Rat)=acc.2 by grind]
  | r::rods,[],_,h,_=>by cases h
  | r::rods,w::ws,acc,h,hn=>by
    have h:ws.length+1=rods.length+1:=h
    rw [List.zip_cons_cons]
    show pullA pts j (acc.1+(pl1 pts j (r,w)).1,acc.2+(pl1 pts j (r,w)).2) (rods.zip ws)=_
    rw [pull_sm rods ws _ (by omega) (fun r hr=>hn r (List.mem_cons_of_mem _ hr)),pl1_cell (hn r List.mem_cons_self),List.length_cons,sm_front,sm_front]
    show(acc.1+-((cellR (wy pts r.1 r.2.1) r j).getD 0 0*w) - DT.sm rods.length (fun q=>(cellR (wy pts (rods.getD q (0,0,0)).1 (rods.getD q (0,0,0)).2.1) (rods.getD q (0,0,0)) j).getD 0 0*ws.getD q 0),acc.2+-((cellR (wy pts r.1 r.2.1) r j).getD 1 0*w) - DT.sm rods.length (fun q=>(cellR (wy pts (rods.getD q (0,0,0)).1 (rods.getD q (0,0,0)).2.1) (rods.getD q (0,0,0)) j).getD 1 0*ws.getD q 0))=(acc.1 - ((cellR (wy pts r.1 r.2.1) r j).getD 0 0*w+DT.sm rods.length (fun q=>(cellR (wy pts (rods.getD q (0,0,0)).1 (rods.getD q (0,0,0)).2.1) (rods.getD q (0,0,0)) j).getD 0 0*ws.getD q 0)),acc.2 - ((cellR (wy pts r.1 r.2.1) r j).getD 1 0*w+DT.sm rods.length (fun q=>(cellR (wy pts (rods.getD q (0,0,0)).1 (rods.getD q (0,0,0)).2.1) (rods.getD q (0,0,0)) j).getD 1 0*ws.getD q 0)))
    congr 1 <;> grind
theorem rel5_at {pts:List (Rat×Rat)} {js:List Nat} {rods:List Rod} {vss0:List (List Int)} (l0:vss0.length=2*js.length) (rel:Rel5 pts js rods vss0) (c:Nat) (hc:c < 2*js.length):∃ s:Rat,s≠0/\∀ q,q < rods.length->Mof vss0 c q=s*(rowR pts js (rods.getD q (0,0,0))).getD c 0:=by
  have h2:vss0[c]?=some (vss0[c]'(by omega)):=List.getElem?_eq_getElem _
  obtain⟨s,s0,_,hd,ev⟩:=rel c _ h2
  refine⟨(s:Rat),fun z=>by have:=Rat.natCast_eq_zero_iff.mp z; omega,fun q hq=>?_⟩
  have e1:(colR pts js rods c)[q]?=some ((rowR pts js (rods.getD q (0,0,0))).getD c 0):=by
    unfold colR
    rw [List.getElem?_map,List.getElem?_eq_getElem hq,List.getD_eq_getElem?_getD (l:=rods),List.getElem?_eq_getElem hq]
    rfl
  rw [mof_at h2,ev,List.getD_eq_getElem?_getD,List.getElem?_map,e1]
  show((wn s ((rowR pts js (rods.getD q (0,0,0))).getD c 0):Int):Rat)=(s:Rat)*_
  rw [wn_is (hd _ (List.mem_of_getElem? e1)),Rat.mul_comm]
theorem told_bal {many:Nat} {fx:List Nat} {rods:List Rod} {pts:List (Rat×Rat)} {vss0 vss:List (List Int)} {k:Nat} {P C Qo:Nat->Nat} {d:Int} {z:Nat->Nat->Rat} {x:Nat×Nat×List Int} (ok:LkOk many fx rods) (l0:vss0.length=2*(freeL many fx).length) (rel:Rel5 pts (freeL many fx) rods vss0) (h:RS (Mof vss0) rods.length (2*(freeL many fx).length) P C Qo k d z vss rods.length) (s:SolOk rods.length k C d vss x.1 x.2.1 x.2.2):balB many fx rods pts (x.2.2.map fun v=>(((v.fdiv (x.2.1:Nat):Int)):Rat))=true:=by
  have wl:(x.2.2.map fun v=>(((v.fdiv (x.2.1:Nat):Int)):Rat)).length=rods.length:=by rw [List.length_map,s.len]
  have g0:((x.2.1:Nat):Rat)≠0:=fun z=>by have:=Rat.natCast_eq_zero_iff.mp z; have:=s.pos; omega
  have wq:∀ q,(x.2.2.map fun v=>(((v.fdiv (x.2.1:Nat):Int)):Rat)).getD q 0=((uu x q:Int):Rat):=fun q=>by
    unfold uu
    rw [List.getD_eq_getElem?_getD,List.getD_eq_getElem?_getD,List.getElem?_map,List.getElem?_map]
    cases x.2.2[q]? <;> rfl
  have key:∀ c,c < 2*(freeL many fx).length->DT.sm rods.length (fun q=>(rowR pts (freeL many fx) (rods.getD q (0,0,0))).getD c 0*((uu x q:Int):Rat))=0:=fun c hc=>by
    obtain⟨t,t0,ht⟩:=rel5_at l0 rel c hc
    have e1:=sol_keeps h s hc
    have e2:DT.sm rods.length (fun q=>Mof vss0 c q*((x.2.2.getD q 0:Int):Rat))=(t*((x.2.1:Nat):Rat))*DT.sm rods.length (fun q=>(rowR pts (freeL many fx) (rods.getD q (0,0,0))).getD c 0*((uu x q:Int):Rat)):=by
      rw [<- DT.sm_mul]
      exact DT.sm_congr fun q hq=>by
        rw [ht q hq,sol_u s q,Rat.intCast_mul,Rat.intCast_natCast]
        grind
    rw [e2] at e1
    grind
  unfold balB
  rw [Bool.and_eq_true,List.all_eq_true,Bool.not_eq_true']
  refine⟨?_,fun j hj=>decide_eq_true ?_⟩
  · cases e:(x.2.2.map fun v=>(((v.fdiv (x.2.1:Nat):Int)):Rat)).all (fun w=>decide (w=0)) with
    | false=>rfl
    | true=>
      exfalso
      have lt:x.1 < (x.2.2.map fun v=>(((v.fdiv (x.2.1:Nat):Int)):Rat)).length:=by rw [wl]; exact s.lt
      have h1:=List.all_eq_true.mp e _ (List.getElem_mem lt)
      have h1:=of_decide_eq_true h1
      have h2:=wq x.1
      rw [List.getD_eq_getElem?_getD,List.getElem?_eq_getElem lt] at h2
      have h2:((uu x x.1:Int):Rat)=0:=h2.symm.trans h1
      have h3:=sol_u s x.1
      rw [Rat.intCast_eq_zero_iff.mp h2,s.own,Int.mul_zero] at h3
      have:=h.bs.ne
      rw [h3] at this
      exact this rfl
  · obtain⟨i,hi,e⟩:=List.mem_iff_getElem.mp hj
    have hij:(freeL many fx)[i]?=some j:=by rw [<- e]; exact List.getElem?_eq_getElem hi
    rw [pull_sm rods _ _ wl (fun r hr=>(ok.rd r hr).2.2)]
    have z1:DT.sm rods.length (fun q=>(cellR (wy pts (rods.getD q (0,0,0)).1 (rods.getD q (0,0,0)).2.1) (rods.getD q (0,0,0)) j).getD 0 0*(x.2.2.map fun v=>(((v.fdiv (x.2.1:Nat):Int)):Rat)).getD q 0)=0:=by
      refine Eq.trans (DT.sm_congr fun q hq=>?_) (key (2*i) (by omega))
      rw [wq q,(row_at (freeL many fx) i j hij).1]
    have z2:DT.sm rods.length (fun q=>(cellR (wy pts (rods.getD q (0,0,0)).1 (rods.getD q (0,0,0)).2.1) (rods.getD q (0,0,0)) j).getD 1 0*(x.2.2.map fun v=>(((v.fdiv (x.2.1:Nat):Int)):Rat)).getD q 0)=0:=by
      refine Eq.trans (DT.sm_congr fun q hq=>?_) (key (2*i+1) (by omega))
      rw [wq q,(row_at (freeL many fx) i j hij).2]
    rw [z1,z2]
    show((0:Rat) - 0,(0:Rat) - 0)=(0,0)
    rw [Rat.sub_self]
theorem told_ok {N k:Nat} {C:Nat->Nat} {d:Int} {vss:List (List Int)} {x:Nat×Nat×List Int} (s:SolOk N k C d vss x.1 x.2.1 x.2.2):∀ w∈(x.2.2.map fun v=>(((v.fdiv (x.2.1:Nat):Int)):Rat)),DT.IsN (2 ^ 500) w:=by
  intro w hw
  obtain⟨v,hv,rfl⟩:=List.mem_map.mp hw
  refine⟨_,rfl,?_⟩
  have b:=s.bt v hv
  obtain⟨t,ht⟩:=s.dvd v hv
  have g0:=s.pos
  have e:v.fdiv (x.2.1:Nat)=t:=by rw [ht]; exact Int.mul_fdiv_cancel_left _ (by omega)
  rw [e]
  have:t.natAbs<=v.natAbs:=by rw [ht,Int.natAbs_mul,Int.natAbs_natCast]; exact Nat.le_mul_of_pos_left _ g0
  exact Nat.le_of_lt (Nat.lt_of_le_of_lt this b)
theorem rank_col {pts:List (Rat×Rat)} {js:List Nat} {rods:List Rod} {vss0 vss:List (List Int)} {k k1:Nat} {P C Qo P1 C1:Nat->Nat} {d:Int} {d1:Rat} {z z1:Nat->Nat->Rat} (l0:vss0.length=2*js.length) (rel:Rel5 pts js rods vss0) (h:RS (Mof vss0) rods.length (2*js.length) P C Qo k d z vss rods.length) (b1:DT.BS (Mt pts js rods) P1 C1 k1 d1 z1) (p1:∀ r,r < k1->P1 r < rods.length) (c1:∀ r,r < k1->C1 r < 2*js.length) (n1:∀ q,q < rods.length->∀ x,x < 2*js.length->DT.otE (Mt pts js rods) C1 k1 d1 z1 q x=0):k=k1:=by
  have:∀ c,∃ t:Rat,c < 2*js.length->t≠0/\∀ q,q < rods.length->Mof vss0 c q=t*Mt pts js rods q c:=fun c=>by
    by_cases hc:c < 2*js.length
    · obtain⟨s,s0,hs⟩:=rel5_at l0 rel c hc
      refine⟨s / 12,fun _=>⟨by grind,fun q hq=>?_⟩⟩
      rw [hs q hq,Mt_at (List.getElem?_eq_getElem hq),List.getD_eq_getElem?_getD (l:=rods),List.getElem?_eq_getElem hq]
      show s*(rowR pts js rods[q]).getD c 0=_
      grind
    · exact⟨0,fun h=>absurd h hc⟩
  obtain⟨t,ht⟩:=Classical.axiomOfChoice this
  exact(rank_tr b1 h.bs p1 c1 h.prm h.col (fun q hq x hx=>ot_hall b1 (n1 q hq x hx)) h.hall t (fun x hx=>(ht x hx).1) fun x hx q hq=>(ht x hx).2 q hq).symm
theorem wok_q {w:Rat} (h:QOk 12 4 w):WOk w:=by
  obtain⟨v,e,l⟩:=qok_isN h
  exact⟨v,e,Nat.le_trans l (by decide +kernel)⟩
theorem wok_i {w:Rat} (h:DT.IsN (2 ^ 500) w):WOk w/\WOk (w*(-3 / 2))/\WOk (w+1):=by
  obtain⟨v,e,l⟩:=h
  refine⟨⟨12*v,by rw [e,Rat.intCast_mul]; rfl,?_⟩,⟨-18*v,by rw [e,Rat.intCast_mul]; show 12*((v:Rat)*(-3 / 2))=(-18:Rat)*v; grind,?_⟩,⟨12*v+12,by rw [e,Rat.intCast_add,Rat.intCast_mul]; show 12*((v:Rat)+1)=(12:Rat)*v+12; grind,?_⟩⟩
  · have:(12*v).natAbs<=12*2 ^ 500:=by rw [Int.natAbs_mul]; exact Nat.mul_le_mul_left 12 l
    exact Nat.le_trans this (by decide +kernel)
  · have:(-18*v).natAbs<=18*2 ^ 500:=by rw [Int.natAbs_mul]; exact Nat.mul_le_mul_left 18 l
    exact Nat.le_trans this (by decide +kernel)
  · have:(12*v+12).natAbs<=12*2 ^ 500+12:=Nat.le_trans (Int.natAbs_add_le _ _) (by rw [Int.natAbs_mul]; exact Nat.add_le_add_right (Nat.mul_le_mul_left 12 l) 12)
    exact Nat.le_trans this (by decide +kernel)
theorem pl1_way {pts:List (Rat×Rat)} {j:Nat} {x:Rod×Rat} (hne:x.1.1≠x.1.2.1) (h:j∈[x.1.1,x.1.2.1]):∃ o:Nat,((x.1.1:Nat):Int)+((x.1.2.1:Nat):Int) - ((j:Nat):Int)=((o:Nat):Int)/\(o=x.1.1\/o=x.1.2.1)/\pl1 pts j x=(x.2*(wy pts j o).1,x.2*(wy pts j o).2):=by
  simp only [List.mem_cons,List.not_mem_nil,or_false] at h
  rcases h with h | h
  · refine⟨x.1.2.1,by omega,.inr rfl,?_⟩
    unfold pl1
    rw [if_pos h,h,Rat.mul_comm x.2,Rat.mul_comm x.2]
  · refine⟨x.1.1,by omega,.inl rfl,?_⟩
    unfold pl1
    rw [if_neg (by omega),if_pos h,h]
    unfold wy
    congr 1 <;> grind
theorem bal_all {many:Nat} {fx:List Nat} {rods:List Rod} {pts:List (Rat×Rat)} {ws:List Rat} (h:ws.all (fun w=>decide (w=0))=false):balB many fx rods pts ws=(List.range many).all fun j=>decide (j∈fx) || decide (pullA pts j (0,0) (rods.zip ws)=(0,0)):=by
  unfold balB freeL
  rw [h,List.all_filter]
  show(true && _)=_
  rw [Bool.true_and]
  congr 1
  funext j
  cases decide (j∈fx) <;> rfl
theorem filt_nilR {ws:List Rat}:(ws.filter fun q=>!decide (q=0))=[]↔ws.all (fun w=>decide (w=0))=true:=by
  rw [List.filter_eq_nil_iff,List.all_eq_true]
  exact⟨fun h x hx=>by have:=h x hx; simpa using this,fun h x hx=>by have:=h x hx; simpa using this⟩
set_option maxHeartbeats 4000000
def F__law_balance:DSp:=fun ds S k=>∃ (many:Nat) (fx:List Nat) (rods:List Rod) (pts:List (Rat×Rat)) (ws:List Rat),ds=[LK many fx rods,.tup (pts.map P2),.tup (ws.map fr)]/\LkOk many fx rods/\PlOk many pts/\ws.length=rods.length/\(∀ w∈ws,WOk w)/\∀ S',Ext S S'->k (.bl (balB many fx rods pts ws)) S'
theorem sc__law_balance:FnScope ["linkage","place","weights","joint","sums","rod","weight","way"] ["linkage","place","weights"] (defScope s__law_balance):=⟨rfl,rfl,rfl,by decide +kernel,rfl,by decide +kernel,by decide +kernel⟩
theorem ok__law_balance {P:Program} {w:World} {K:Fg} {mg:Str->Option Value} {base:Heap} {f:Addr} {fd:FuncData} (Fn:Fun K "_law_balance" "_law_balance" s__law_balance f fd) (c__law_way:Own P w K mg base "_law_way" 4 F__law_way) (c__law_plus:Own P w K mg base "_law_plus" 3 F__law_plus) (c__law_times:Own P w K mg base "_law_times" 3 F__law_times) (z_range:mg "range"=none) (z_zip:mg "zip"=none):
    FnOk P w K mg base CX0 5 f fd ["linkage","place","weights"] (spU K F__law_balance):=by
  refine Fn.okJ sc__law_balance (fun ds S k h=>?_) (fun cdv A outer s H E hr=>⟨_,(ds_consj (dst_ifj (dt_cmpj (o_eqL hr) (d_compEIfj rfl (compSc (N:=["weight"]) (cap:=[none]) rfl rfl rfl rfl trivial rfl rfl trivial) (d_varj 2) (fun _ _ _ _=>(dg_namej (i:=0) (show List.Nodup (["weight"]:List Str) from by decide +kernel))) (fun _ _ _ _=>(dt_cmpj (o_neL hr) (d_ixj x_ixF (d_varj 0) d_intj (fun _ _=>rfl)) d_intj (nomark _))) (fun _ _ _ _=>(d_varj 0))) (d_lstj da_nilj) (nomark _)) (ds_onej (dst_retj d_blj)) ds_nilj) (ds_consj (dst_forRj PassesOwn.never rfl rfl z_range (da_consj (d_ixj x_ixF (d_varj 0) d_intj (fun _ _=>rfl)) da_nilj) (dg_namej (i:=3) sc__law_balance.nd) (ds_consj (dst_setj (i:=4) sc__law_balance.nd (d_lstj (da_consj (d_tupj (da_consj d_intj (da_consj d_intj da_nilj))) (da_consj (d_tupj (da_consj d_intj (da_consj d_intj da_nilj))) da_nilj)))) (ds_consj (dst_forZj PassesOwn.never rfl rfl z_zip (da_consj (d_ixj x_ixF (d_varj 0) d_intj (fun _ _=>rfl)) (da_consj (d_varj 2) da_nilj)) (dg_seqE (n:=2) rfl (dgs_consj (dg_namej (i:=5) sc__law_balance.nd) (dgs_consj (dg_namej (i:=6) sc__law_balance.nd) dgs_nilj))) (ds_onej (dst_ifj (dt_cmpj o_inE (d_varj 3) (d_cutXj (d_varj 5) do_nonej (do_somej d_intj)) (by with_unfolding_all rfl)) (ds_consj (dst_setj (i:=7) sc__law_balance.nd (d_callj c__law_way (hr.mono (by decide)) rfl (da_consj (d_varj 1) (da_consj (d_varj 3) (da_consj (d_opj o_sub (d_opj o_add (d_ixj x_ixF (d_varj 5) d_intj (fun _ _=>rfl)) (d_ixj x_ixF (d_varj 5) d_intj (fun _ _=>rfl))) (d_varj 3)) da_nilj))))) (ds_onej (dst_setj (i:=4) sc__law_balance.nd (d_compRj rfl (compSc (N:=["k","sums","weight","way"]) (cap:=[none,some 4,some 6,some 7]) rfl rfl rfl rfl ⟨rfl,rfl,rfl,trivial⟩ rfl rfl ⟨⟨rfl,.inl rfl,.inl rfl⟩,⟨rfl,.inl rfl,.inl rfl⟩,⟨rfl,.inl rfl,.inl rfl⟩,trivial⟩) rfl z_range (da_consj d_intj da_nilj) (fun _ _ _ _=>(dg_namej (i:=0) (show List.Nodup (["k","sums","weight","way"]:List Str) from by decide +kernel))) (fun _ _ _ _=>(d_callj c__law_plus (hr.mono (by decide)) rfl (da_consj (d_ixj x_ixF (d_varj 1) (d_varj 0) (fun _ _=>rfl)) (da_consj (d_callj c__law_times (hr.mono (by decide)) rfl (da_consj (d_varj 2) (da_consj (d_ixj x_ixF (d_varj 3) (d_varj 0) (fun _ _=>rfl)) da_nilj))) da_nilj)))))))) ds_nilj))) (ds_onej (dst_ifj (WJ.pt (dw_andj (dt_cmpj o_notInE (d_varj 3) (d_ixj x_ixF (d_varj 0) d_intj (fun _ _=>rfl)) (by with_unfolding_all rfl)) (dw_and1j (dt_cmpj (o_neL hr) (d_varj 4) (d_lstj (da_consj (d_tupj (da_consj d_intj (da_consj d_intj da_nilj))) (da_consj (d_tupj (da_consj d_intj (da_consj d_intj da_nilj))) da_nilj))) (nomark _))))) (ds_onej (dst_retj d_blj)) ds_nilj))))) (ds_onej (dst_retj d_blj)))),fun ds S k h=>?_⟩)
  · obtain⟨_,_,_,_,_,rfl,_⟩:=h
    rfl
  · obtain⟨many,fx,rods,pts,ws,rfl,ok,pl,wl,hw,w⟩:=h
    have rl:=ok.rl
    have m7:=ok.m7
    refine⟨(ws.map fr,none),rfl,fun p hp=>?_⟩
    refine filter_loop (f:=fr) (g:=fr) (q:=fun q=>!decide (q=0)) (all:=ws) hp (fun _ _=>trivial) ?bb ws [] none (fun _ h=>h) (by show 0+ws.length<=100; omega) fun S1 x1 h1=>?_
    case bb=>
      intro x S' k' _ _ hk
      refine⟨_,rfl,_,rfl,?_⟩
      by_cases z:x=0
      · have e:((x.num == 0):Bool)=true:=by rw [z]; rfl
        have hk:k' none S':=by simpa [z] using hk
        show(if (!(x.num == 0))=true then _ else k' none S')
        rw [e]
        exact hk
      · have e:((x.num == 0):Bool)=false:=by
          have:x.num≠0:=fun y=>z (Rat.num_eq_zero.mp y)
          simpa using this
        have hk:k' (some (fr x)) S':=by simpa [z] using hk
        show(if (!(x.num == 0))=true then k' (some (fr x)) S' else _)
        rw [e]
        exact hk
    rw [List.nil_append] at h1
    refine⟨few,fun p2 hp2=>?_⟩
    have np:p≠p2:=ne_put h1 hp2
    have x2:Ext S (put S1 p2 (.lst [])):=x1.trans (Ext.new hp2)
    cases hF:(ws.filter fun q=>!decide (q=0)) with
    | nil=>
      rw [hF] at h1
      refine⟨[],[],true,by rw [put_ne np]; exact h1,put_same,.inl ⟨rfl,rfl⟩,?_⟩
      have:balB many fx rods pts ws=false:=by
        unfold balB
        rw [filt_nilR.mp hF]
        rfl
      rw [this] at w
      exact w _ x2
    | cons q0 t0=>
      rw [hF] at h1
      have hall:ws.all (fun w=>decide (w=0))=false:=by
        cases h:ws.all (fun w=>decide (w=0)) with
        | false=>rfl
        | true=>rw [filt_nilR.mpr h] at hF; cases hF
      refine⟨_,[],false,by rw [put_ne np]; exact h1,put_same,.inr ⟨by simp,rfl⟩,?_⟩
      clear h1 hF
      rw [bal_all hall] at w
      generalize put S1 p2 (.lst [])=S2 at x2 ⊢
      refine⟨_,rfl,⟨by omega,by omega⟩,?_⟩
      rw [Int.toNat_natCast]
      refine loop_ix (fun rr L S'=>∃ (js:List Nat) (l3 l4 l5 l6 l7:Option D),rr=js.map natD/\L=[some (LK many fx rods),some (.tup (pts.map P2)),some (.tup (ws.map fr)),l3,l4,l5,l6,l7]/\Ext S S'/\(∀ j∈js,j < many)/\((List.range many).all fun j=>decide (j∈fx) || decide (pullA pts j (0,0) (rods.zip ws)=(0,0)))=(js.all fun j=>decide (j∈fx) || decide (pullA pts j (0,0) (rods.zip ws)=(0,0)))) (fun _ _ _ _=>trivial) ?_ ?_ _ _ _ ⟨List.range many,none,none,none,none,none,rfl,rfl,x2,fun j hj=>List.mem_range.mp hj,rfl⟩
      · rintro dd rr L S3 N1 ⟨js,l3,l4,l5,l6,l7,er,rfl,x3,hjs,ha⟩ hN1
        cases js with
        | nil=>cases er
        | cons j js=>
          cases er
          have jm:=hjs j List.mem_cons_self
          refine⟨few,few,few,fun ps hps=>?_⟩
          refine⟨_,rfl,(rods.map rodD,none),(ws.map fr,none),rfl,rfl,?_⟩
          rw [zip_rw]
          have zl:(rods.zip ws).length<=12:=by rw [List.length_zip]; omega
          refine loop_ix (fun rr L S'=>∃ (rs:List (Rod×Rat)) (acc:Rat×Rat) (n:Nat) (ps:Addr) (l5 l6 l7:Option D),rr=rs.map rwD/\L=[some (LK many fx rods),some (.tup (pts.map P2)),some (.tup (ws.map fr)),some (.int (j:Nat)),some (.ref ps),l5,l6,l7]/\Ext S S'/\S' ps=some (.lst [fr acc.1,fr acc.2])/\pullA pts j acc rs=pullA pts j (0,0) (rods.zip ws)/\(∀ x∈rs,x∈rods.zip ws)/\n+rs.length<=12/\DT.IsN (n*(96*2 ^ 508)) (144*acc.1)/\DT.IsN (n*(96*2 ^ 508)) (144*acc.2)) (fun _ _ _ _=>⟨trivial,trivial⟩) ?_ ?_ _ _ _ ⟨rods.zip ws,(0,0),0,ps,l5,l6,l7,rfl,rfl,x3.trans (Ext.new hps),put_same,rfl,fun _ h=>h,by omega,by rw [Rat.mul_zero]; exact⟨0,rfl,Nat.zero_le _⟩,by rw [Rat.mul_zero]; exact⟨0,rfl,Nat.zero_le _⟩⟩
          · rintro dd rr L S4 N2 ⟨rs,acc,n,ps,l5,l6,l7,er,rfl,x4,h4,ep,hm,hn,b1,b2⟩ hN2
            cases rs with
            | nil=>cases er
            | cons x rs=>
              cases er
              have hn:n+(rs.length+1)<=12:=hn
              have xm:=hm x List.mem_cons_self
              have xr:=(List.of_mem_zip xm).1
              have xw:=hw _ (List.of_mem_zip xm).2
              obtain⟨h1,h2,hne⟩:=ok.rd x.1 xr
              have wq:=pl.way h1 h2
              have pn:=pl1_isN (j:=j) wq xw
              have fit:∀ m,m<=12->m*(96*2 ^ 508) < 2 ^ 600:=fun m hm=>Nat.lt_of_le_of_lt (Nat.mul_le_mul_right _ hm) (by decide +kernel)
              have sA1:=(sz_144 b1 (fit n (by omega)) (by decide)).mono (show 600<=4000 by decide)
              have sA2:=(sz_144 b2 (fit n (by omega)) (by decide)).mono (show 600<=4000 by decide)
              have sw:Sz 4000 x.2:=(sz_12 xw (show 2 ^ 508 < 2 ^ 600 by decide +kernel) (by decide)).mono (by decide)
              have p1:=(sz_144 pn.1 (show 96*2 ^ 508 < 2 ^ 600 by decide +kernel) (by decide)).mono (show 600<=4000 by decide)
              have p2:=(sz_144 pn.2 (show 96*2 ^ 508 < 2 ^ 600 by decide +kernel) (by decide)).mono (show 600<=4000 by decide)
              refine⟨([rodD x.1,fr x.2],none),rfl,rfl,rfl,([.int ((x.1.1:Nat):Int),.int ((x.1.2.1:Nat):Int)],none),rfl,rfl,rfl,?_⟩
              show(if inV (vOf (.int (j:Nat))) (([x.1.1,x.1.2.1].map natD).map vOf)=true then _ else _)
              rw [inV_nats]
              refine ite_dec (fun hj=>?_) (fun hj=>?_)
              · obtain⟨o,eo,ho,e1⟩:=pl1_way (pts:=pts) hne hj
                rw [e1] at p1 p2 pn
                have om:o < many:=by rcases ho with ho | ho <;> rw [ho] <;> assumption
                have wo:=pl.way jm om
                have s1:Sz 4000 (wy pts j o).1:=(QOk.sz (n:=3) wo.1).mono (by decide)
                have s2:Sz 4000 (wy pts j o).2:=(QOk.sz (n:=3) wo.2).mono (by decide)
                refine⟨_,rfl,_,rfl,many,pts,j,o,(),by rw [<- eo],pl,jm,om,fun pw S5 hpw e5 hw5=>⟨⟨by decide,by decide⟩,fun pq hpq=>?_⟩⟩
                have h5:=e5 _ _ h4
                have g1:=(Ext.new (o:=.lst []) hpq) _ _ h5
                have w1:=(Ext.new (o:=.lst []) hpq) _ _ hw5
                refine⟨trivial,_,_,g1,rfl,_,_,w1,rfl,_,_,rfl,sw,s1,_,_,rfl,sA1,p1,put_same,big1 (by decide),?_⟩
                rw [put_put]
                have g2:=(Ext.new (o:=.lst [fr (acc.1+x.2*(wy pts j o).1)]) hpq) _ _ h5
                have w2:=(Ext.new (o:=.lst [fr (acc.1+x.2*(wy pts j o).1)]) hpq) _ _ hw5
                refine⟨trivial,_,_,g2,rfl,_,_,w2,rfl,_,_,rfl,sw,s2,_,_,rfl,sA2,p2,put_same,big1 (by show 1 < 300; decide),trivial,?_⟩
                rw [put_put]
                refine hN2 _ _ ⟨rs,(acc.1+x.2*(wy pts j o).1,acc.2+x.2*(wy pts j o).2),n+1,pq,_,_,_,rfl,rfl,(x4.trans e5).trans (Ext.new hpq),put_same,?_,fun y h=>hm y (List.mem_cons_of_mem _ h),by omega,acc_add b1 pn.1,acc_add b2 pn.2⟩
                rw [<- ep]
                show _=pullA pts j (acc.1+(pl1 pts j x).1,acc.2+(pl1 pts j x).2) rs
                rw [e1]
              · have e1:pl1 pts j x=(0,0):=by
                  simp only [List.mem_cons,List.not_mem_nil,or_false] at hj
                  unfold pl1
                  rw [if_neg (fun z=>hj (.inl z)),if_neg (fun z=>hj (.inr z))]
                refine hN2 _ _ ⟨rs,acc,n,ps,_,_,_,rfl,rfl,x4,h4,?_,fun y h=>hm y (List.mem_cons_of_mem _ h),by omega,b1,b2⟩
                rw [<- ep]
                show _=pullA pts j (acc.1+(pl1 pts j x).1,acc.2+(pl1 pts j x).2) rs
                rw [e1,Rat.add_zero,Rat.add_zero]
          · rintro L S4 ⟨rs,acc,n,ps,l5,l6,l7,er,rfl,x4,h4,ep,hm,hn,b1,b2⟩
            cases rs with
            | cons x rs=>cases er
            | nil=>
              have ep:acc=pullA pts j (0,0) (rods.zip ws):=ep
              rw [List.all_cons,<- ep] at ha
              refine⟨_,rfl,(fx.map natD,none),rfl,rfl,by simp [flatD],?_⟩
              show(if (!inV (vOf (.int (j:Nat))) ((fx.map natD).map vOf))=true then _ else _)
              rw [inV_nats]
              refine ite_ndec (fun hj=>?_) (fun hj=>?_)
              · rw [decide_eq_false hj,Bool.false_or] at ha
                refine⟨few,few,few,fun pz hpz=>⟨_,_,_,(Ext.new hpz) _ _ h4,put_same,.inl ⟨rfl,eq_W (p:=acc)⟩,ite_ndec (fun hne=>?_) (fun he=>?_)⟩⟩
                · rw [ha,decide_eq_false hne] at w
                  exact w _ (x4.trans (Ext.new hpz))
                · rw [decide_eq_true he,Bool.true_and] at ha
                  exact hN1 _ _ ⟨js,_,_,_,_,_,rfl,rfl,x4.trans (Ext.new hpz),fun i hi=>hjs i (List.mem_cons_of_mem _ hi),ha⟩
              · rw [decide_eq_true hj,Bool.true_or,Bool.true_and] at ha
                exact hN1 _ _ ⟨js,_,_,_,_,_,rfl,rfl,x4,fun i hi=>hjs i (List.mem_cons_of_mem _ hi),ha⟩
      · rintro L S3 ⟨js,l3,l4,l5,l6,l7,er,rfl,x3,hjs,ha⟩
        cases js with
        | cons j js=>cases er
        | nil=>
          rw [ha] at w
          exact w _ x3
set_option maxHeartbeats 4000000
abbrev wsD (ws:List Rat):D:=.tup (ws.map fr)
def q32:Rat:=⟨-3,2,by decide,by decide⟩
theorem q32_is:q32=-3 / 2:=by decide +kernel
theorem cut_to5 {ds:List D} {j:Nat} (h:j<=ds.length):DL.cutD ds none (some (j:Nat))=ds.take j:=by
  unfold DL.cutD
  have h1:HT.sIx ds.length 0 none=0:=rfl
  have h2:HT.sIx ds.length ds.length (some ((j:Nat):Int))=j:=by unfold HT.sIx; simp; rw [if_neg (by omega),Nat.min_eq_left h]
  rw [h1,h2]
  rfl
theorem cut_from5 {ds:List D} {j:Nat} (h:j<=ds.length):DL.cutD ds (some (j:Nat)) none=ds.drop j:=by
  unfold DL.cutD
  have h1:HT.sIx ds.length ds.length none=ds.length:=rfl
  have h2:HT.sIx ds.length 0 (some ((j:Nat):Int))=j:=by unfold HT.sIx; simp; rw [if_neg (by omega),Nat.min_eq_left h]
  rw [h1,h2,List.take_of_length_le (by rw [List.length_drop]; omega)]
theorem rep_fr (n:Nat):(List.replicate n [fr 0]).flatten=(List.replicate n (0:Rat)).map fr:=by
  induction n with
  | zero=>rfl
  | succ n ih=>rw [List.replicate_succ,List.flatten_cons,ih,List.replicate_succ]; rfl
def Ppr.Ok (n:Nat):Ppr->Prop
  | .fre=>True
  | .bnd ws=>ws.length=n/\0 < n/\∀ w∈ws,DT.IsN (2 ^ 500) w
def F__law_weights:DSp:=fun ds S k=>∃ (a:Addr) (many:Nat) (fx:List Nat) (rods:List Rod) (pp:Ppr),ds=[.ref a,LK many fx rods,pp.D]/\LkOk many fx rods/\SOK S a/\pp.Ok rods.length/\∀ (wss:List (List Rat)) p S',(∀ ws∈wss,ws.length=rods.length/\∀ w∈ws,WOk w)->Dr a S S'->p≠a->S' p=some (.lst (wss.map wsD))->k (.ref p) S'
theorem sc__law_weights:FnScope ["state","linkage","paper","many","some","own","at"] ["state","linkage","paper"] (defScope s__law_weights):=⟨rfl,rfl,rfl,by decide +kernel,rfl,by decide +kernel,by decide +kernel⟩
theorem ok__law_weights {P:Program} {w:World} {K:Fg} {mg:Str->Option Value} {base:Heap} {f:Addr} {fd:FuncData} (Fn:Fun K "_law_weights" "_law_weights" s__law_weights f fd) (c__law_fraction:Own P w K mg base "_law_fraction" 3 F__law_fraction) (c__law_take:Own P w K mg base "_law_take" 1 F__law_take) (c__law_times:Own P w K mg base "_law_times" 3 F__law_times) (c__law_plus:Own P w K mg base "_law_plus" 3 F__law_plus) (z_len:mg "len"=none) (z_tuple:mg "tuple"=none) (z_range:mg "range"=none):
    FnOk P w K mg base CX0 4 f fd ["state","linkage","paper"] (spU K F__law_weights):=by
  refine Fn.okJ sc__law_weights (fun ds S k h=>?_) (fun cdv A outer s H E hr=>⟨_,(ds_consj (dst_setj (i:=3) sc__law_weights.nd (d_callBj b_lenE rfl z_len bt_len (da_consj (d_ixj x_ixF (d_varj 1) d_intj (fun _ _=>rfl)) da_nilj))) (ds_consj (dst_setj (i:=4) sc__law_weights.nd (d_lstj (da_consj (d_callTj b_tuple rfl z_tuple bt_tuple (da_consj (d_compRj rfl (compSc (N:=["k","state"]) (cap:=[none,some 0]) rfl rfl rfl rfl ⟨rfl,trivial⟩ rfl rfl ⟨⟨rfl,.inl rfl,.inl rfl⟩,trivial⟩) rfl z_range (da_consj (d_varj 3) da_nilj) (fun _ _ _ _=>(dg_namej (i:=0) (show List.Nodup (["k","state"]:List Str) from by decide +kernel))) (fun _ _ _ _=>(d_callj c__law_fraction (hr.mono (by decide)) rfl (da_consj (d_varj 1) (da_consj d_intj da_nilj))))) da_nilj)) (da_consj (d_opj o_mulV (d_tupj (da_consj (d_tupj (da_consj d_intj (da_consj d_intj da_nilj))) da_nilj)) (d_varj 3)) da_nilj)))) (ds_consj (dst_ifj (dt_cmpj (o_eqS hr) (d_ixj x_ixF (d_varj 2) d_intj (fun _ _=>rfl)) d_strj (nomark _)) (ds_consj (dst_setj (i:=5) sc__law_weights.nd (d_ixj x_ixF (d_varj 2) d_intj (fun _ _=>rfl))) (ds_consj (dst_setj (i:=6) sc__law_weights.nd (d_callj c__law_take (hr.mono (by decide)) rfl (da_consj (d_varj 0) (da_consj (d_varj 3) da_nilj)))) (ds_consj (dst_exprj (d_appj (d_varj 4) (d_varj 5))) (ds_consj (dst_exprj (d_appj (d_varj 4) (d_callTj b_tuple rfl z_tuple bt_tuple (da_consj (d_compEj rfl (compSc (N:=["one"]) (cap:=[none]) rfl rfl rfl rfl trivial rfl rfl trivial) (d_varj 5) (fun _ _ _ _=>(dg_namej (i:=0) (show List.Nodup (["one"]:List Str) from by decide +kernel))) (fun _ _ _ _=>(d_callj c__law_times (hr.mono (by decide)) rfl (da_consj (d_varj 0) (da_consj (d_tupj (da_consj (d_unj o_neg d_intj) (da_consj d_intj da_nilj))) da_nilj))))) da_nilj)))) (ds_onej (dst_exprj (d_appj (d_varj 4) (d_opj o_addT (d_opj o_addT (d_cutXj (d_varj 5) do_nonej (do_somej (d_varj 6))) (d_tupj (da_consj (d_callj c__law_plus (hr.mono (by decide)) rfl (da_consj (d_ixj x_ixF (d_varj 5) (d_varj 6) (fun _ _=>rfl)) (da_consj (d_tupj (da_consj d_intj (da_consj d_intj da_nilj))) da_nilj))) da_nilj))) (d_cutXj (d_varj 5) (do_somej (d_opj o_addT (d_varj 6) d_intj)) do_nonej))))))))) ds_nilj) (ds_onej (dst_retj (d_varj 4)))))),fun ds S k h=>?_⟩)
  · obtain⟨_,_,_,_,_,rfl,_⟩:=h
    rfl
  · obtain⟨a,many,fx,rods,pp,rfl,ok,hS,hpp,w⟩:=h
    have rl:=ok.rl
    refine⟨_,rfl,⟨by rw [List.length_map]; omega,by rw [List.length_map]; omega⟩,fun p1 hp1=>?_⟩
    have np1:p1≠a:=hS.ne hp1
    rw [List.length_map,Int.toNat_natCast]
    refine gen_loop (f:=natD) (g:=fr) (R:=fun _ v _=>QOk 12 4 v) (J:=Dr a S) (Kq:=Dr a) (all:=List.range rods.length) (fun _ _=>trivial) (fun _ _ o _ e h=>e.2 _ _ np1 h) (fun _ _ _ _ _ h=>h) (fun _ _ _ _ h=>h) (fun _ _ e=>e.put hp1 np1) ?bb (List.range rods.length) [] _ none (fun _ h=>h) (Dr.new hS hp1) put_same (fun _ h=>by cases h) (by rw [List.length_range]; show 0+rods.length<=100; omega) fun zs S1 d1 h1 hR hz=>?_
    case bb=>
      intro x S' k' hx' dd ho hk
      exact⟨a,2,rfl,by decide,by decide,dd.1,fun v S2 hv d=>hk v S2 (dd.trans d) d hv⟩
    have zl:(zs.map Prod.snd).length=rods.length:=by
      have:=congrArg List.length hz
      rw [List.length_map] at this
      rw [List.length_map,this]
      show(List.range rods.length).length=_
      rw [List.length_range]
    have ok1:∀ v∈zs.map Prod.snd,WOk v:=fun v hv=>by obtain⟨z,hz',rfl⟩:=List.mem_map.mp hv; exact wok_q (hR z hz')
    have h1:S1 p1=some (.lst ((zs.map Prod.snd).map fr)):=by rw [h1,List.map_map]; rfl
    generalize zs.map Prod.snd=ws1 at zl ok1 h1
    have zero_ok:WOk 0:=by show DT.IsN _ (12*0); rw [Rat.mul_zero]; exact⟨0,rfl,Nat.zero_le _⟩
    have ok2:∀ v∈List.replicate rods.length (0:Rat),WOk v:=fun v hv=>by rw [List.eq_of_mem_replicate hv]; exact zero_ok
    refine⟨_,h1,few,few,by simp,by omega,by omega,by rw [List.length_singleton,Int.toNat_natCast]; omega,few,fun p2 hp2=>?_⟩
    rw [Int.toNat_natCast]
    have e2:(List.replicate rods.length [D.tup [D.int 0,D.int 1]]).flatten=(List.replicate rods.length (0:Rat)).map fr:=rep_fr _
    have np2:p2≠a:=d1.1.ne hp2
    have s2:S p2=none:=d1.none hp2
    rw [e2]
    have ok12:∀ ws∈[ws1,List.replicate rods.length (0:Rat)],ws.length=rods.length/\∀ w∈ws,WOk w:=fun ws hws=>by
      simp only [List.mem_cons,List.not_mem_nil,or_false] at hws
      rcases hws with rfl | rfl
      · exact⟨zl,ok1⟩
      · exact⟨List.length_replicate,ok2⟩
    cases pp with
    | fre=>
      refine⟨_,rfl,?_⟩
      exact w [ws1,List.replicate rods.length 0] p2 _ ok12 (d1.put s2 np2) np2 put_same
    | bnd ws=>
      obtain⟨wl,r0,hw⟩:=hpp
      have g2:put S1 p2 (.lst [.tup (ws1.map fr),.tup ((List.replicate rods.length (0:Rat)).map fr)]) p2=some (.lst ([ws1,List.replicate rods.length (0:Rat)].map wsD)):=put_same
      have d2:Dr a S (put S1 p2 (.lst [.tup (ws1.map fr),.tup ((List.replicate rods.length (0:Rat)).map fr)])):=d1.put s2 np2
      refine⟨_,rfl,_,rfl,a,((rods.length:Nat):Int),rfl,by omega,?bl,d2.1,fun r S3 r0' r1 d3=>?_⟩
      case bl=>
        unfold Bt
        rw [Int.natAbs_natCast]
        exact Nat.lt_of_le_of_lt rl (by decide +kernel)
      obtain⟨i,rfl⟩:=Int.eq_ofNat_of_zero_le r0'
      have il:i < ws.length:=by omega
      have d3:=d2.trans d3
      have g3:=(show Dr a _ S3 from by assumption).2 _ _ np2 g2
      have sz5:∀ v∈ws,Sz 4000 v:=fun v hv=>(sz_12 (wok_i (hw v hv)).1 (show 2 ^ 508 < 2 ^ 600 by decide +kernel) (by decide)).mono (by decide)
      have g3:S3 p2=some (.lst ([ws1,List.replicate rods.length (0:Rat)].map wsD)):=g3
      refine⟨⟨_,g3⟩,_,g3,by rw [List.length_map]; exact big1 (by show 2 < 300; decide),?_⟩
      have d4:Dr a S (put S3 p2 (.lst (([ws1,List.replicate rods.length (0:Rat)].map wsD)++[.tup (ws.map fr)]))):=d3.put s2 np2
      have g4:put S3 p2 (.lst (([ws1,List.replicate rods.length (0:Rat)].map wsD)++[.tup (ws.map fr)])) p2=some (.lst ([ws1,List.replicate rods.length (0:Rat),ws].map wsD)):=put_same
      generalize put S3 p2 (.lst (([ws1,List.replicate rods.length (0:Rat)].map wsD)++[.tup (ws.map fr)]))=S4 at d4 g4 ⊢
      refine⟨⟨_,g4⟩,(ws.map fr,none),rfl,fun q hq=>?_⟩
      refine map_loop (f:=fr) (g:=fun v=>fr (v*(-3 / 2))) (all:=ws) hq (fun _ _=>trivial) ?bb2 ws [] none (fun _ h=>h) (by show 0+ws.length<=100; omega) fun S5 e5 h5=>?_
      case bb2=>
        intro v S' k' hv e hk
        rw [<- q32_is] at hk
        exact⟨few,v,q32,rfl,sz5 v hv,⟨by decide,by decide⟩,hk⟩
      have h5:S5 q=some (.lst ((ws.map fun v=>v*(-3 / 2)).map fr)):=by rw [h5,List.nil_append,List.map_map]; rfl
      have g5:=e5 _ _ g4
      have d5:Dr a S S5:=⟨by obtain⟨n,b,e,w⟩:=d4.1; exact⟨n,b,e5 _ _ e,w⟩,fun b o n e=>e5 _ _ (d4.2 b o n e)⟩
      refine⟨_,h5,_,g5,by rw [List.length_map]; exact big1 (by show 3 < 300; decide),?_⟩
      have d6:Dr a S (put S5 p2 (.lst (([ws1,List.replicate rods.length (0:Rat),ws].map wsD)++[.tup ((ws.map fun v=>v*(-3 / 2)).map fr)]))):=d5.put s2 np2
      have g6:put S5 p2 (.lst (([ws1,List.replicate rods.length (0:Rat),ws].map wsD)++[.tup ((ws.map fun v=>v*(-3 / 2)).map fr)])) p2=some (.lst ([ws1,List.replicate rods.length (0:Rat),ws,ws.map fun v=>v*(-3 / 2)].map wsD)):=put_same
      generalize put S5 p2 (.lst (([ws1,List.replicate rods.length (0:Rat),ws].map wsD)++[.tup ((ws.map fun v=>v*(-3 / 2)).map fr)]))=S6 at d6 g6 ⊢
      have im:ws[i]∈ws:=List.getElem_mem il
      have ei:L2.atI (ws.map fr) ((i:Nat):Int)=some (fr ws[i]):=atI_nat (by rw [List.getElem?_map,List.getElem?_eq_getElem il]; rfl)
      have c1:DL.cutD (ws.map fr) none (some ((i:Nat):Int))=(ws.take i).map fr:=by rw [cut_to5 (by rw [List.length_map]; omega),List.map_take]
      have c2:DL.cutD (ws.map fr) (some (((i:Nat):Int)+1)) none=(ws.drop (i+1)).map fr:=by
        rw [show ((i:Nat):Int)+1=((i+1:Nat):Int) by omega,cut_from5 (by rw [List.length_map]; omega),List.map_drop]
      have big:∀ n,n<=100->n<=sizeLine:=fun n hn=>Nat.le_of_lt (big1 (by omega))
      have l1:(ws.take i).length=i:=by rw [List.length_take]; omega
      have l2:(ws.drop (i+1)).length=ws.length - (i+1):=List.length_drop
      refine⟨⟨_,g6⟩,_,ei,few,ws[i],1,rfl,sz5 _ im,⟨by decide,by decide⟩,few,?_⟩
      refine⟨big _ (by rw [c1,List.length_map,l1]; show i+1<=100; omega),big _ ?_,_,g6,by rw [List.length_map]; exact big1 (by show 4 < 300; decide),?_⟩
      · rw [c2,c1,List.length_append,List.length_map,List.length_map,l1,l2]
        show i+1+_<=100
        omega
      · refine w [ws1,List.replicate rods.length (0:Rat),ws,ws.map fun v=>v*(-3 / 2),ws.take i++[ws[i]+1]++ws.drop (i+1)] p2 _ (fun us hus=>?_) (d6.put s2 np2) np2 (by rw [put_same,c1,c2]; simp [wsD])
        simp only [List.mem_cons,List.not_mem_nil,or_false] at hus
        rcases hus with rfl | rfl | rfl | rfl | rfl
        · exact⟨zl,ok1⟩
        · exact⟨List.length_replicate,ok2⟩
        · exact⟨wl,fun v hv=>(wok_i (hw v hv)).1⟩
        · refine⟨by rw [List.length_map]; exact wl,fun v hv=>?_⟩
          obtain⟨u,hu,rfl⟩:=List.mem_map.mp hv
          exact(wok_i (hw u hu)).2.1
        · refine⟨by rw [List.length_append,List.length_append,l1,l2]; show i+1+_=_; omega,fun v hv=>?_⟩
          rcases List.mem_append.mp hv with hv | hv
          · rcases List.mem_append.mp hv with hv | hv
            · exact(wok_i (hw v (List.mem_of_mem_take hv))).1
            · rw [List.mem_singleton.mp hv]
              exact(wok_i (hw _ im)).2.2
          · exact(wok_i (hw v (List.mem_of_mem_drop hv))).1
set_option maxHeartbeats 4000000
theorem seq_if5 {c:DT} {t e b2:DS} {M:DEnds} {L:Lo} {S:DH} (P:Lo->DH->Prop) (h2:∀ L S,P L S->b2 M L S) (h1:(∀ L S,P L S->b2 M L S)->dIfS c t e {M with nx:=b2 M} L S):dSeq (dIfS c t e) b2 M L S:=h1 h2
theorem sol_lt {M:DT.Mx} {N m:Nat} {P C Qo:Nat->Nat} {k:Nat} {d:Int} {z:Nat->Nat->Rat} {vss:List (List Int)} {c g:Nat} {w:List Int} (h:RS M N m P C Qo k d z vss N) (s:SolOk N k C d vss c g w):k≠N:=fun e=>by
  have cnt:=piv_count h.inj h.col
  have:c∈(List.range N).filter (fun c=>!decide (∃ j,j < k/\C j=c)):=List.mem_filter.mpr ⟨List.mem_range.mpr s.lt,by
    have:¬ ∃ j,j < k/\C j=c:=fun⟨j,h1,h2⟩=>s.free j h1 h2
    rw [decide_eq_false this]
    rfl⟩
  have:=List.length_pos_of_mem this
  omega
theorem eq_bl5 {n:Nat} (b:Bool):DL.eqT n (.bl b) (.bl b)=some true:=by cases n <;> cases b <;> rfl
def F_law:DSp:=fun ds _ k=>∃ ns:List Int,ds=[.rl (List.map D.int ns)]/\ns.length<=63/\∀ S',k (.bl true) S'
theorem sc_law:FnScope ["script","k","state","free","paper","found","weights","linkage","place","due"] ["script"] (defScope s_law):=⟨rfl,rfl,rfl,by decide +kernel,rfl,by decide +kernel,by decide +kernel⟩
theorem ok_law {P:Program} {w:World} {K:Fg} {mg:Str->Option Value} {base:Heap} {f:Addr} {fd:FuncData} (Fn:Fun K "law" "law" s_law f fd) (c__law_state:Own P w K mg base "_law_state" 2 F__law_state) (c__law_linkage:Own P w K mg base "_law_linkage" 5 F__law_linkage) (c__law_rank:Own P w K mg base "_law_rank" 4 F__law_rank) (c__law_table:Own P w K mg base "_law_table" 5 F__law_table) (c_paper_of:Own P w K mg base "paper_of" 8 F_paper_of) (c__law_balance:Own P w K mg base "_law_balance" 5 F__law_balance) (c_is_right:Own P w K mg base "is_right" 9 F_is_right) (c__law_weights:Own P w K mg base "_law_weights" 4 F__law_weights) (c_balance:Own P w K mg base "balance" 7 F_balance) (z_range:mg "range"=none) (z_max:mg "max"=none) (z_min:mg "min"=none) (z_len:mg "len"=none) (z_isinstance:mg "isinstance"=none) (z_tuple:mg "tuple"=none) (z_bool:mg "bool"=none):
    FnOk P w K mg base CX0 10 f fd ["script"] (spU K F_law):=by
  refine Fn.okJ sc_law (fun ds S k h=>?_) (fun cdv A outer s H E hr=>⟨_,(ds_consj (dst_forRj PassesOwn.never rfl rfl z_range (da_consj (d_callBj b_max rfl z_max bt_max (da_consj d_intj (da_consj (d_callBj b_min rfl z_min bt_min (da_consj (d_callBj b_lenE rfl z_len bt_len (da_consj (d_varj 0) da_nilj)) (da_consj d_intj da_nilj))) da_nilj))) da_nilj) (dg_namej (i:=1) sc_law.nd) (ds_consj (dst_setj (i:=2) sc_law.nd (d_callj c__law_state (hr.mono (by decide)) rfl (da_consj (d_varj 0) (da_consj (d_varj 1) da_nilj)))) (ds_consj (dst_asgj (d_callj c__law_linkage (hr.mono (by decide)) rfl (da_consj (d_varj 2) da_nilj)) (dg_seqE (n:=2) rfl (dgs_consj (dg_namej (i:=7) sc_law.nd) (dgs_consj (dg_namej (i:=8) sc_law.nd) dgs_nilj)))) (ds_consj (dst_setj (i:=3) sc_law.nd (d_cmpj (o_eqX hr) (d_callj c__law_rank (hr.mono (by decide)) rfl (da_consj (d_callj c__law_table (hr.mono (by decide)) rfl (da_consj (d_varj 7) (da_consj (d_varj 8) da_nilj))) da_nilj)) (d_callBj b_lenE rfl z_len bt_len (da_consj (d_ixj x_ixF (d_varj 7) d_intj (fun _ _=>rfl)) da_nilj)) (nomark _))) (ds_consj (dst_setj (i:=4) sc_law.nd (d_callj c_paper_of (hr.mono (by decide)) rfl (da_consj (d_varj 7) (da_consj (d_varj 8) da_nilj)))) (ds_consj (dst_ifj (WJ.pt (dw_orj (dt_notj (dt_valj (d_callBj b_isiX rfl z_isinstance bt_isinstance (da_consj (d_varj 4) (da_consj (d_tyj (n:=.tup) rfl z_tuple bt_tuple) da_nilj))))) (dw_or1j (dt_cmpj (o_neL hr) (d_cmpj (o_eqX hr) (d_varj 4) (d_tupj (da_consj d_strj da_nilj)) (nomark _)) (d_varj 3) (nomark _))))) (ds_onej (dst_retj d_blj)) ds_nilj) (ds_consj (dst_ifj (WJ.pt (dw_andj (dt_notj (dt_valj (d_varj 3))) (dw_and1j (WJ.pt (dw_orj (dt_cmpj (o_neL hr) (d_callBj b_lenE rfl z_len bt_len (da_consj (d_varj 4) da_nilj)) d_intj (nomark _)) (dw_or1j (dt_cmpj (o_neL hr) (d_ixj x_ixF (d_varj 4) d_intj (fun _ _=>rfl)) d_strj (nomark _)))))))) (ds_onej (dst_retj d_blj)) ds_nilj) (ds_consj (dst_ifj (WJ.pt (dw_andj (dt_notj (dt_valj (d_varj 3))) (dw_and1j (dt_notj (dt_valj (d_callj c__law_balance (hr.mono (by decide)) rfl (da_consj (d_varj 7) (da_consj (d_varj 8) (da_consj (d_ixj x_ixF (d_varj 4) d_intj (fun _ _=>rfl)) da_nilj))))))))) (ds_onej (dst_retj d_blj)) ds_nilj) (ds_consj (dst_setj (i:=5) sc_law.nd (d_callj c_is_right (hr.mono (by decide)) rfl (da_consj (d_varj 7) (da_consj (d_varj 8) (da_consj (d_tupj (da_consj d_strj da_nilj)) da_nilj))))) (ds_consj (dst_ifj (WJ.pt (dw_orj (dt_notj (dt_valj (d_callBj b_isiX rfl z_isinstance bt_isinstance (da_consj (d_varj 5) (da_consj (d_tyj (n:=.bool) rfl z_bool bt_bool) da_nilj))))) (dw_or1j (dt_cmpj (o_neL hr) (d_varj 5) (d_varj 3) (nomark _))))) (ds_onej (dst_retj d_blj)) ds_nilj) (ds_onej (dst_forEj PassesOwn.never rfl (d_callj c__law_weights (hr.mono (by decide)) rfl (da_consj (d_varj 2) (da_consj (d_varj 7) (da_consj (d_varj 4) da_nilj)))) (dg_namej (i:=6) sc_law.nd) (ds_consj (dst_setj (i:=9) sc_law.nd (d_callj c__law_balance (hr.mono (by decide)) rfl (da_consj (d_varj 7) (da_consj (d_varj 8) (da_consj (d_varj 6) da_nilj))))) (ds_consj (dst_setj (i:=5) sc_law.nd (d_lstj (da_consj (d_callj c_balance (hr.mono (by decide)) rfl (da_consj (d_varj 7) (da_consj (d_varj 8) (da_consj (d_varj 6) da_nilj)))) (da_consj (d_callj c_is_right (hr.mono (by decide)) rfl (da_consj (d_varj 7) (da_consj (d_varj 8) (da_consj (d_tupj (da_consj d_strj (da_consj (d_varj 6) da_nilj))) da_nilj)))) da_nilj)))) (ds_onej (dst_ifj (WJ.pt (dw_orj (dt_cmpj (o_neL hr) (d_varj 5) (d_lstj (da_consj (d_varj 9) (da_consj (d_varj 9) da_nilj))) (nomark _)) (dw_orj (dt_notj (dt_valj (d_callBj b_isiX rfl z_isinstance bt_isinstance (da_consj (d_ixj x_ixF (d_varj 5) d_intj (fun _ _=>rfl)) (da_consj (d_tyj (n:=.bool) rfl z_bool bt_bool) da_nilj))))) (dw_or1j (dt_notj (dt_valj (d_callBj b_isiX rfl z_isinstance bt_isinstance (da_consj (d_ixj x_ixF (d_varj 5) d_intj (fun _ _=>rfl)) (da_consj (d_tyj (n:=.bool) rfl z_bool bt_bool) da_nilj))))))))) (ds_onej (dst_retj d_blj)) ds_nilj)))))))))))))))) (ds_onej (dst_retj d_blj))),fun ds S k h=>?_⟩)
  · obtain⟨_,rfl,_⟩:=h
    rfl
  · obtain⟨ns,rfl,hl,w⟩:=h
    have hb:∀ z:Int,0<=z->z<=63->-(2 ^ 62)<=z/\z < 2 ^ 62:=fun z _ _=>by omega
    refine⟨hb _ (by split <;> (try split) <;> omega) (by rw [List.length_map]; split <;> (try split) <;> omega),?_⟩
    refine loop_all (P:=fun d=>∃ i:Int,d=.int i/\0<=i) (fun L S'=>(∃ r1 r2 r3 r4 r5 r6 r7 r8 r9,L=[some (.rl (List.map D.int ns)),r1,r2,r3,r4,r5,r6,r7,r8,r9])) (fun _ _ _=>trivial) ?_ (fun L S' _=>w S') _ ?_ _ _ ⟨_,_,_,_,_,_,_,_,_,rfl⟩
    · rintro d L S1 Nx ⟨i,rfl,hi⟩ ⟨r1,r2,r3,r4,r5,r6,r7,r8,r9,rfl⟩ hN
      refine⟨ns,i,rfl,hi,fun a n0 b hp hnb=>?_⟩
      have hS:SOK (put S1 a (.lst [.int n0,.bl b])) a:=⟨n0,b,put_same,hnb⟩
      generalize put S1 a (.lst [.int n0,.bl b])=T1 at hS ⊢
      refine⟨a,rfl,hS,fun many fx rods pts S2 ok pl d2=>?_⟩
      have m7:=ok.m7
      have rl:=ok.rl
      have fl:=free_len (many:=many) (fx:=fx)
      refine⟨([LK many fx rods,.tup (pts.map P2)],none),rfl,rfl,rfl,many,fx,rods,pts,rfl,ok,pl,fun pt zs S3 hpt e3 h3 hz hr=>?_⟩
      have zl:zs.length=rods.length:=by
        have:=congrArg List.length hr
        rw [List.length_map] at this
        exact this
      refine⟨pt,zs.map fun z=>(z.2,rowR pts (freeL many fx) z.1),2*(freeL many fx).length,96,12,Mt pts (freeL many fx) rods,rfl,by rw [h3,List.map_map]; rfl,fun i x hx=>?rows,by rw [List.length_map]; omega,by omega,by decide,by decide,Mt_isN ok pl,fun k hk=>fit96 hk,fun S4 k1 P1 C1 d1 z1 e4 kl b1 p1 c1 n1=>?_⟩
      case rows=>
        rw [List.getElem?_map] at hx
        cases hzi:zs[i]? with
        | none=>rw [hzi] at hx; cases hx
        | some z=>
          rw [hzi] at hx
          have hx:some (z.2,rowR pts (freeL many fx) z.1)=some x:=hx
          cases hx
          refine⟨hz z (List.mem_of_getElem? hzi),Mt_row ?_⟩
          rw [<- hr,List.getElem?_map,hzi]
          rfl
      rw [List.length_map,zl] at p1 n1
      refine⟨_,rfl,decide (k1=rods.length),?eqk,?_⟩
      case eqk=>
        rw [eq_int]
        congr 1
        rw [Bool.eq_iff_iff,beq_iff_eq,decide_eq_true_eq,List.length_map]
        omega
      refine⟨many,fx,rods,pts,rfl,ok,pl,fun vss0 vss k P C Qo d z S5 l0 rel hRS k12 e5 pp hpp=>?_⟩
      have ek:k=k1:=rank_col l0 rel hRS b1 p1 c1 n1
      have hcase:(decide (k1=rods.length)=true/\pp=.fre)\/(decide (k1=rods.length)=false/\∃ ws,pp=.bnd ws/\ws.length=rods.length/\0 < rods.length/\(∀ w∈ws,DT.IsN (2 ^ 500) w)/\balB many fx rods pts ws=true):=by
        rcases hpp with ⟨h1,h2⟩ | ⟨x,s,h2⟩
        · exact .inl ⟨decide_eq_true (by omega),h1⟩
        · refine .inr ⟨decide_eq_false (by rw [<- ek]; exact sol_lt hRS s),_,h2,by rw [List.length_map,s.len],Nat.lt_of_le_of_lt (Nat.zero_le _) s.lt,told_ok s,told_bal ok l0 rel hRS s⟩
      have hok:pp.Ok rods.length:=by
        rcases hcase with ⟨_,rfl⟩ | ⟨_,ws,rfl,h1,h2,h3,_⟩
        · trivial
        · exact⟨h1,h2,h3⟩
      have s5:SOK S5 a:=by obtain⟨n,b,e,w⟩:=d2.1; exact⟨n,b,e5 _ _ (e4 _ _ (e3 _ _ e)),w⟩
      generalize hf:decide (k1=rods.length)=f at hcase ⊢
      dsimp only
      refine seq_if5 (fun L' S'=>L'=[some (.rl (List.map D.int ns)),some (.int i),some (.ref a),some (.bl f),some pp.D,r5,r6,some (LK many fx rods),some (.tup (pts.map P2)),r9]/\S'=S5) ?h2a ?h1a
      case h1a=>
        intro nxt
        rcases hcase with ⟨rfl,rfl⟩ | ⟨rfl,ws,rfl,h1,h2,h3,h4⟩
        · exact⟨.tup,rfl,ite_nb (fun z=>absurd (show true=false from z) (by decide)) fun _=>⟨few,true,rfl,true,rfl,ite_nb (fun z=>by cases z) fun _=>nxt _ _ ⟨rfl,rfl⟩⟩⟩
        · exact⟨.tup,rfl,ite_nb (fun z=>absurd (show true=false from z) (by decide)) fun _=>⟨few,false,rfl,true,rfl,ite_nb (fun z=>by cases z) fun _=>nxt _ _ ⟨rfl,rfl⟩⟩⟩
      rintro _ S5 ⟨rfl,rfl⟩
      refine seq_if5 (fun L' S'=>L'=[some (.rl (List.map D.int ns)),some (.int i),some (.ref a),some (.bl f),some pp.D,r5,r6,some (LK many fx rods),some (.tup (pts.map P2)),r9]/\S'=S5) ?h2b ?h1b
      case h1b=>
        intro nxt
        rcases hcase with ⟨rfl,rfl⟩ | ⟨rfl,ws,rfl,h1,h2,h3,h4⟩
        · exact nxt _ _ ⟨rfl,rfl⟩
        · exact⟨true,rfl,_,rfl,true,rfl,nxt _ _ ⟨rfl,rfl⟩⟩
      rintro _ S5 ⟨rfl,rfl⟩
      refine seq_if5 (fun L' S'=>L'=[some (.rl (List.map D.int ns)),some (.int i),some (.ref a),some (.bl f),some pp.D,r5,r6,some (LK many fx rods),some (.tup (pts.map P2)),r9]/\Ext S5 S') ?h2c ?h1c
      case h1c=>
        intro nxt
        rcases hcase with ⟨rfl,rfl⟩ | ⟨rfl,ws,rfl,h1,h2,h3,h4⟩
        · exact nxt _ _ ⟨rfl,fun _ _ h=>h⟩
        · refine⟨_,rfl,many,fx,rods,pts,ws,rfl,ok,pl,h1,fun v hv=>(wok_i (h3 v hv)).1,fun S6 e6=>?_⟩
          rw [h4]
          exact nxt _ _ ⟨rfl,e6⟩
      rintro _ S6 ⟨rfl,e6⟩
      refine⟨few,many,fx,rods,pts,.fre,rfl,ok,pl,fun vss0' vss' k' P' C' Qo' d' z' S7 l0' rel' hRS' e7=>?_⟩
      have ek':k'=k1:=rank_same l0' rel' hRS' b1 p1 c1 n1
      rw [ek',hf]
      have s7:SOK S7 a:=by obtain⟨n,b,e,w⟩:=s5; exact⟨n,b,e7 _ _ (e6 _ _ e),w⟩
      refine⟨.bool,rfl,ite_nb (fun z=>absurd (show true=false from z) (by decide)) fun _=>⟨true,eq_bl5 f,ite_nb (fun z=>by cases z) fun _=>?_⟩⟩
      refine⟨a,many,fx,rods,pp,rfl,ok,s7,hok,fun wss p S8 hwss d8 np h8=>⟨(wss.map wsD,some p),by simp only [dItems,h8],?_⟩⟩
      refine loop_ix (fun rr L S'=>∃ (rs:List (List Rat)) (r5 r6 r9:Option D),rr=rs.map wsD/\L=[some (.rl (List.map D.int ns)),some (.int i),some (.ref a),some (.bl f),some pp.D,r5,r6,some (LK many fx rods),some (.tup (pts.map P2)),r9]/\S' p=some (.lst (wss.map wsD))/\∀ us∈rs,us.length=rods.length/\∀ w∈us,WOk w) (fun rr L S' ⟨_,_,_,_,_,_,h,_⟩=>h) ?_ ?_ _ _ _ ⟨wss,_,_,_,rfl,rfl,h8,hwss⟩
      · rintro dd rr L S9 N1 ⟨rs,r5,r6,r9,er,rfl,g9,hrs⟩ hN1
        cases rs with
        | nil=>cases er
        | cons us rs=>
          cases er
          obtain⟨ul,hu⟩:=hrs us List.mem_cons_self
          refine⟨many,fx,rods,pts,us,rfl,ok,pl,ul,hu,fun S10 e10=>⟨many,fx,rods,pts,us,rfl,ok,pl,ul,hu,fun S11 e11=>⟨few,many,fx,rods,pts,.bnd us,rfl,ok,pl,ul,hu,fun S12 e12=>⟨few,fun pf hpf=>⟨few,fun pg hpg=>?_⟩⟩⟩⟩⟩
          have gf:put (put S12 pf (.lst [.bl (balB many fx rods pts us),.bl (balB many fx rods pts us)])) pg (.lst [.bl (balB many fx rods pts us),.bl (balB many fx rods pts us)]) pf=some (.lst [.bl (balB many fx rods pts us),.bl (balB many fx rods pts us)]):=(Ext.new hpg) _ _ put_same
          have g12:put (put S12 pf (.lst [.bl (balB many fx rods pts us),.bl (balB many fx rods pts us)])) pg (.lst [.bl (balB many fx rods pts us),.bl (balB many fx rods pts us)]) p=some (.lst (wss.map wsD)):=(Ext.new hpg) _ _ ((Ext.new hpf) _ _ (e12 _ _ (e11 _ _ (e10 _ _ g9))))
          refine⟨_,_,true,gf,put_same,.inl ⟨rfl,by cases balB many fx rods pts us <;> rfl⟩,?_⟩
          exact⟨_,_,gf,rfl,.bool,rfl,_,_,gf,rfl,.bool,rfl,hN1 _ _ ⟨rs,_,_,_,rfl,rfl,g12,fun y hy=>hrs y (List.mem_cons_of_mem _ hy)⟩⟩
      · rintro L S9 ⟨rs,r5,r6,r9,er,rfl,g9,hrs⟩
        exact hN _ _ ⟨_,_,_,_,_,_,_,_,_,rfl⟩
    · intro d hd
      obtain⟨n,_,rfl⟩:=List.mem_map.mp hd
      exact⟨_,rfl,by omega⟩
theorem law_ask (ns:List Int) (h:ns.length<=63):F_law [.rl (List.map D.int ns)] (fun _=>none) (fun d _=>d=.bl true):=⟨ns,rfl,h,fun _=>rfl⟩
end My
def PySem.W.Fast.tw5045113047261694772:Unit:=()
def PySem.W.Fast.tw15535107512842224229:Unit:=()
def PySem.W.Fast.tw16458918054875072667:Unit:=()
def PySem.W.Fast.tw3067384889585236768:Unit:=()
def PySem.W.Fast.tw249458198150496227:Unit:=()
def PySem.W.Fast.tw6736921227568639578:Unit:=()
def PySem.W.Fast.tw9624598469203406837:Unit:=()
def PySem.W.Fast.tw14907800404500156915:Unit:=()
def PySem.W.Fast.tw8344663208573356068:Unit:=()
def PySem.W.Fast.tw16440988653511880685:Unit:=()
def PySem.W.Fast.tw3910313272988598304:Unit:=()
def PySem.W.Fast.tw16448701580525415017:Unit:=()
def PySem.W.Fast.tw8477368789961612645:Unit:=()
def PySem.W.Fast.tw3043837903181673826:Unit:=()
def PySem.W.Fast.tw4568550746009593643:Unit:=()
def PySem.W.Fast.tw3026220304181735029:Unit:=()
def PySem.W.Fast.tw17610297346808172:Unit:=()
def PySem.W.Fast.tw1477551705578228552:Unit:=()
def PySem.W.Fast.tw12439867573790338312:Unit:=()
def PySem.W.Fast.tw7123842727836132288:Unit:=()
def PySem.W.Fast.tw11750419016833758285:Unit:=()
def PySem.W.Fast.tw15756397670403436663:Unit:=()
def PySem.W.Fast.tw18286819110746828221:Unit:=()
def PySem.W.Fast.tw8595322947589712015:Unit:=()
def PySem.W.Fast.tw13758943684497320822:Unit:=()
def PySem.W.Fast.tw9541794272674429762:Unit:=()
def PySem.W.Fast.tw3344123406418047985:Unit:=()
namespace My
open PySem PySem.Spec PyProof.Rows L2 DL HM
set_option maxHeartbeats 4000000
theorem all_mk {l:PySem.W.OpenLaw} {w:World} {K:Fg} {h:Heap} {mg:Str->Option Value} {fa:Addr} (X:K.In h) (G:h.Ns mainGlobals mg) (hfa:mg "law"=some (.ref fa))
    {f1:Addr} {od1 an1:Option Addr} {sl1:Array (Option Value)} {oc1 kV1 dc1 pm1 cd1 ct1:Value}
    {f2:Addr} {od2 an2:Option Addr} {sl2:Array (Option Value)} {oc2 kV2 dc2 pm2 cd2 ct2:Value}
    {f3:Addr} {od3 an3:Option Addr} {sl3:Array (Option Value)} {oc3 kV3 dc3 pm3 cd3 ct3:Value}
    {f4:Addr} {od4 an4:Option Addr} {sl4:Array (Option Value)} {oc4 kV4 dc4 pm4 cd4 ct4:Value}
    {f5:Addr} {od5 an5:Option Addr} {sl5:Array (Option Value)} {oc5 kV5 dc5 pm5 cd5 ct5:Value}
    {f6:Addr} {od6 an6:Option Addr} {sl6:Array (Option Value)} {oc6 kV6 dc6 pm6 cd6 ct6:Value}
    {f7:Addr} {od7 an7:Option Addr} {sl7:Array (Option Value)} {oc7 kV7 dc7 pm7 cd7 ct7:Value}
    {f8:Addr} {od8 an8:Option Addr} {sl8:Array (Option Value)} {oc8 kV8 dc8 pm8 cd8 ct8:Value}
    {f9:Addr} {od9 an9:Option Addr} {sl9:Array (Option Value)} {oc9 kV9 dc9 pm9 cd9 ct9:Value}
    {f10:Addr} {od10 an10:Option Addr} {sl10:Array (Option Value)} {oc10 kV10 dc10 pm10 cd10 ct10:Value}
    {f11:Addr} {od11 an11:Option Addr} {sl11:Array (Option Value)} {oc11 kV11 dc11 pm11 cd11 ct11:Value}
    {f12:Addr} {od12 an12:Option Addr} {sl12:Array (Option Value)} {oc12 kV12 dc12 pm12 cd12 ct12:Value}
    {f13:Addr} {od13 an13:Option Addr} {sl13:Array (Option Value)} {oc13 kV13 dc13 pm13 cd13 ct13:Value}
    {f14:Addr} {od14 an14:Option Addr} {sl14:Array (Option Value)} {oc14 kV14 dc14 pm14 cd14 ct14:Value}
    {f15:Addr} {od15 an15:Option Addr} {sl15:Array (Option Value)} {oc15 kV15 dc15 pm15 cd15 ct15:Value}
    {f16:Addr} {od16 an16:Option Addr} {sl16:Array (Option Value)} {oc16 kV16 dc16 pm16 cd16 ct16:Value}
    {f17:Addr} {od17 an17:Option Addr} {sl17:Array (Option Value)} {oc17 kV17 dc17 pm17 cd17 ct17:Value}
    {f18:Addr} {od18 an18:Option Addr} {sl18:Array (Option Value)} {oc18 kV18 dc18 pm18 cd18 ct18:Value}
    {f19:Addr} {od19 an19:Option Addr} {sl19:Array (Option Value)} {oc19 kV19 dc19 pm19 cd19 ct19:Value}
    {f20:Addr} {od20 an20:Option Addr} {sl20:Array (Option Value)} {oc20 kV20 dc20 pm20 cd20 ct20:Value}
    {f21:Addr} {od21 an21:Option Addr} {sl21:Array (Option Value)} {oc21 kV21 dc21 pm21 cd21 ct21:Value}
    {f22:Addr} {od22 an22:Option Addr} {sl22:Array (Option Value)} {oc22 kV22 dc22 pm22 cd22 ct22:Value}
    {f23:Addr} {od23 an23:Option Addr} {sl23:Array (Option Value)} {oc23 kV23 dc23 pm23 cd23 ct23:Value}
    {f24:Addr} {od24 an24:Option Addr} {sl24:Array (Option Value)} {oc24 kV24 dc24 pm24 cd24 ct24:Value}
    {f25:Addr} {od25 an25:Option Addr} {sl25:Array (Option Value)} {oc25 kV25 dc25 pm25 cd25 ct25:Value}
    {f26:Addr} {od26 an26:Option Addr} {sl26:Array (Option Value)} {oc26 kV26 dc26 pm26 cd26 ct26:Value}
    {f27:Addr} {od27 an27:Option Addr} {sl27:Array (Option Value)} {oc27 kV27 dc27 pm27 cd27 ct27:Value}
    {f28:Addr} {od28 an28:Option Addr} {sl28:Array (Option Value)} {oc28 kV28 dc28 pm28 cd28 ct28:Value}
    {f29:Addr} {od29 an29:Option Addr} {sl29:Array (Option Value)} {oc29 kV29 dc29 pm29 cd29 ct29:Value}
    {f30:Addr} {od30 an30:Option Addr} {sl30:Array (Option Value)} {oc30 kV30 dc30 pm30 cd30 ct30:Value}
    {f31:Addr} {od31 an31:Option Addr} {sl31:Array (Option Value)} {oc31 kV31 dc31 pm31 cd31 ct31:Value}
    {f32:Addr} {od32 an32:Option Addr} {sl32:Array (Option Value)} {oc32 kV32 dc32 pm32 cd32 ct32:Value}
    {f33:Addr} {od33 an33:Option Addr} {sl33:Array (Option Value)} {oc33 kV33 dc33 pm33 cd33 ct33:Value}
    {f34:Addr} {od34 an34:Option Addr} {sl34:Array (Option Value)} {oc34 kV34 dc34 pm34 cd34 ct34:Value}
    {f35:Addr} {od35 an35:Option Addr} {sl35:Array (Option Value)} {oc35 kV35 dc35 pm35 cd35 ct35:Value}
    {f36:Addr} {od36 an36:Option Addr} {sl36:Array (Option Value)} {oc36 kV36 dc36 pm36 cd36 ct36:Value}
    {f37:Addr} {od37 an37:Option Addr} {sl37:Array (Option Value)} {oc37 kV37 dc37 pm37 cd37 ct37:Value}
    {f38:Addr} {od38 an38:Option Addr} {sl38:Array (Option Value)} {oc38 kV38 dc38 pm38 cd38 ct38:Value}
    {f39:Addr} {od39 an39:Option Addr} {sl39:Array (Option Value)} {oc39 kV39 dc39 pm39 cd39 ct39:Value}
    {f40:Addr} {od40 an40:Option Addr} {sl40:Array (Option Value)} {oc40 kV40 dc40 pm40 cd40 ct40:Value}
    {f41:Addr} {od41 an41:Option Addr} {sl41:Array (Option Value)} {oc41 kV41 dc41 pm41 cd41 ct41:Value}
    {f42:Addr} {od42 an42:Option Addr} {sl42:Array (Option Value)} {oc42 kV42 dc42 pm42 cd42 ct42:Value}
    {f43:Addr} {od43 an43:Option Addr} {sl43:Array (Option Value)} {oc43 kV43 dc43 pm43 cd43 ct43:Value}
     {p_REST:Addr} {od_REST:Option Addr} {sl_REST:Array (Option Value)} {n_REST:Nat} {p0_REST:Addr} {od0_REST:Option Addr} {sl0_REST:Array (Option Value)} {n0_REST:Nat} {t0_0_REST t1_0_REST:Tok} {p1_REST:Addr} {od1_REST:Option Addr} {sl1_REST:Array (Option Value)} {n1_REST:Nat} {t0_1_REST t1_1_REST:Tok}
    {p_NOUGHT:Addr} {od_NOUGHT:Option Addr} {sl_NOUGHT:Array (Option Value)} {n_NOUGHT:Nat} {t0_NOUGHT t1_NOUGHT:Tok}
    (a1:PySem.W.nsIn K mainGlobals "common_divisor"=some (some (.ref f1))) (l1:K.lookup f1=some ⟨oc1,od1,.func (PySem.W.fnOf "common_divisor" "common_divisor" (defArgs s_common_divisor) (defBody s_common_divisor) (defScope s_common_divisor) .none kV1 dc1 pm1 an1 cd1 ct1),sl1⟩) (e1:PySem.W.codeIn K cd1 "common_divisor"=true) (k1:PySem.W.keepIn K (.ref f1)=true)
    (a2:PySem.W.nsIn K mainGlobals "ratio"=some (some (.ref f2))) (l2:K.lookup f2=some ⟨oc2,od2,.func (PySem.W.fnOf "ratio" "ratio" (defArgs s_ratio) (defBody s_ratio) (defScope s_ratio) .none kV2 dc2 pm2 an2 cd2 ct2),sl2⟩) (e2:PySem.W.codeIn K cd2 "ratio"=true) (k2:PySem.W.keepIn K (.ref f2)=true)
    (a3:PySem.W.nsIn K mainGlobals "plus"=some (some (.ref f3))) (l3:K.lookup f3=some ⟨oc3,od3,.func (PySem.W.fnOf "plus" "plus" (defArgs s_plus) (defBody s_plus) (defScope s_plus) .none kV3 dc3 pm3 an3 cd3 ct3),sl3⟩) (e3:PySem.W.codeIn K cd3 "plus"=true) (k3:PySem.W.keepIn K (.ref f3)=true)
    (a4:PySem.W.nsIn K mainGlobals "minus"=some (some (.ref f4))) (l4:K.lookup f4=some ⟨oc4,od4,.func (PySem.W.fnOf "minus" "minus" (defArgs s_minus) (defBody s_minus) (defScope s_minus) .none kV4 dc4 pm4 an4 cd4 ct4),sl4⟩) (e4:PySem.W.codeIn K cd4 "minus"=true) (k4:PySem.W.keepIn K (.ref f4)=true)
    (a5:PySem.W.nsIn K mainGlobals "times"=some (some (.ref f5))) (l5:K.lookup f5=some ⟨oc5,od5,.func (PySem.W.fnOf "times" "times" (defArgs s_times) (defBody s_times) (defScope s_times) .none kV5 dc5 pm5 an5 cd5 ct5),sl5⟩) (e5:PySem.W.codeIn K cd5 "times"=true) (k5:PySem.W.keepIn K (.ref f5)=true)
    (a6:PySem.W.nsIn K mainGlobals "negative"=some (some (.ref f6))) (l6:K.lookup f6=some ⟨oc6,od6,.func (PySem.W.fnOf "negative" "negative" (defArgs s_negative) (defBody s_negative) (defScope s_negative) .none kV6 dc6 pm6 an6 cd6 ct6),sl6⟩) (e6:PySem.W.codeIn K cd6 "negative"=true) (k6:PySem.W.keepIn K (.ref f6)=true)
    (a7:PySem.W.nsIn K mainGlobals "place_of"=some (some (.ref f7))) (l7:K.lookup f7=some ⟨oc7,od7,.func (PySem.W.fnOf "place_of" "place_of" (defArgs s_place_of) (defBody s_place_of) (defScope s_place_of) .none kV7 dc7 pm7 an7 cd7 ct7),sl7⟩) (e7:PySem.W.codeIn K cd7 "place_of"=true) (k7:PySem.W.keepIn K (.ref f7)=true)
    (a8:PySem.W.nsIn K mainGlobals "plain_way"=some (some (.ref f8))) (l8:K.lookup f8=some ⟨oc8,od8,.func (PySem.W.fnOf "plain_way" "plain_way" (defArgs s_plain_way) (defBody s_plain_way) (defScope s_plain_way) .none kV8 dc8 pm8 an8 cd8 ct8),sl8⟩) (e8:PySem.W.codeIn K cd8 "plain_way"=true) (k8:PySem.W.keepIn K (.ref f8)=true)
    (a9:PySem.W.nsIn K mainGlobals "in_whole_numbers"=some (some (.ref f9))) (l9:K.lookup f9=some ⟨oc9,od9,.func (PySem.W.fnOf "in_whole_numbers" "in_whole_numbers" (defArgs s_in_whole_numbers) (defBody s_in_whole_numbers) (defScope s_in_whole_numbers) .none kV9 dc9 pm9 an9 cd9 ct9),sl9⟩) (e9:PySem.W.codeIn K cd9 "in_whole_numbers"=true) (k9:PySem.W.keepIn K (.ref f9)=true)
    (a10:PySem.W.nsIn K mainGlobals "cleared"=some (some (.ref f10))) (l10:K.lookup f10=some ⟨oc10,od10,.func (PySem.W.fnOf "cleared" "cleared" (defArgs s_cleared) (defBody s_cleared) (defScope s_cleared) .none kV10 dc10 pm10 an10 cd10 ct10),sl10⟩) (e10:PySem.W.codeIn K cd10 "cleared"=true) (k10:PySem.W.keepIn K (.ref f10)=true)
    (a11:PySem.W.nsIn K mainGlobals "first_with"=some (some (.ref f11))) (l11:K.lookup f11=some ⟨oc11,od11,.func (PySem.W.fnOf "first_with" "first_with" (defArgs s_first_with) (defBody s_first_with) (defScope s_first_with) .none kV11 dc11 pm11 an11 cd11 ct11),sl11⟩) (e11:PySem.W.codeIn K cd11 "first_with"=true) (k11:PySem.W.keepIn K (.ref f11)=true)
    (a12:PySem.W.nsIn K mainGlobals "reduced"=some (some (.ref f12))) (l12:K.lookup f12=some ⟨oc12,od12,.func (PySem.W.fnOf "reduced" "reduced" (defArgs s_reduced) (defBody s_reduced) (defScope s_reduced) .none kV12 dc12 pm12 an12 cd12 ct12),sl12⟩) (e12:PySem.W.codeIn K cd12 "reduced"=true) (k12:PySem.W.keepIn K (.ref f12)=true)
    (a13:PySem.W.nsIn K mainGlobals "without_shared"=some (some (.ref f13))) (l13:K.lookup f13=some ⟨oc13,od13,.func (PySem.W.fnOf "without_shared" "without_shared" (defArgs s_without_shared) (defBody s_without_shared) (defScope s_without_shared) .none kV13 dc13 pm13 an13 cd13 ct13),sl13⟩) (e13:PySem.W.codeIn K cd13 "without_shared"=true) (k13:PySem.W.keepIn K (.ref f13)=true)
    (a14:PySem.W.nsIn K mainGlobals "solutions"=some (some (.ref f14))) (l14:K.lookup f14=some ⟨oc14,od14,.func (PySem.W.fnOf "solutions" "solutions" (defArgs s_solutions) (defBody s_solutions) (defScope s_solutions) .none kV14 dc14 pm14 an14 cd14 ct14),sl14⟩) (e14:PySem.W.codeIn K cd14 "solutions"=true) (k14:PySem.W.keepIn K (.ref f14)=true)
    (a15:PySem.W.nsIn K mainGlobals "free_joints"=some (some (.ref f15))) (l15:K.lookup f15=some ⟨oc15,od15,.func (PySem.W.fnOf "free_joints" "free_joints" (defArgs s_free_joints) (defBody s_free_joints) (defScope s_free_joints) .none kV15 dc15 pm15 an15 cd15 ct15),sl15⟩) (e15:PySem.W.codeIn K cd15 "free_joints"=true) (k15:PySem.W.keepIn K (.ref f15)=true)
    (a16:PySem.W.nsIn K mainGlobals "way_of_rod"=some (some (.ref f16))) (l16:K.lookup f16=some ⟨oc16,od16,.func (PySem.W.fnOf "way_of_rod" "way_of_rod" (defArgs s_way_of_rod) (defBody s_way_of_rod) (defScope s_way_of_rod) .none kV16 dc16 pm16 an16 cd16 ct16),sl16⟩) (e16:PySem.W.codeIn K cd16 "way_of_rod"=true) (k16:PySem.W.keepIn K (.ref f16)=true)
    (a17:PySem.W.nsIn K mainGlobals "row_of_rod"=some (some (.ref f17))) (l17:K.lookup f17=some ⟨oc17,od17,.func (PySem.W.fnOf "row_of_rod" "row_of_rod" (defArgs s_row_of_rod) (defBody s_row_of_rod) (defScope s_row_of_rod) .none kV17 dc17 pm17 an17 cd17 ct17),sl17⟩) (e17:PySem.W.codeIn K cd17 "row_of_rod"=true) (k17:PySem.W.keepIn K (.ref f17)=true)
    (a18:PySem.W.nsIn K mainGlobals "rows_of_rods"=some (some (.ref f18))) (l18:K.lookup f18=some ⟨oc18,od18,.func (PySem.W.fnOf "rows_of_rods" "rows_of_rods" (defArgs s_rows_of_rods) (defBody s_rows_of_rods) (defScope s_rows_of_rods) .none kV18 dc18 pm18 an18 cd18 ct18),sl18⟩) (e18:PySem.W.codeIn K cd18 "rows_of_rods"=true) (k18:PySem.W.keepIn K (.ref f18)=true)
    (a19:PySem.W.nsIn K mainGlobals "rank_of"=some (some (.ref f19))) (l19:K.lookup f19=some ⟨oc19,od19,.func (PySem.W.fnOf "rank_of" "rank_of" (defArgs s_rank_of) (defBody s_rank_of) (defScope s_rank_of) .none kV19 dc19 pm19 an19 cd19 ct19),sl19⟩) (e19:PySem.W.codeIn K cd19 "rank_of"=true) (k19:PySem.W.keepIn K (.ref f19)=true)
    (a20:PySem.W.nsIn K mainGlobals "many_swings"=some (some (.ref f20))) (l20:K.lookup f20=some ⟨oc20,od20,.func (PySem.W.fnOf "many_swings" "many_swings" (defArgs s_many_swings) (defBody s_many_swings) (defScope s_many_swings) .none kV20 dc20 pm20 an20 cd20 ct20),sl20⟩) (e20:PySem.W.codeIn K cd20 "many_swings"=true) (k20:PySem.W.keepIn K (.ref f20)=true)
    (a21:PySem.W.nsIn K mainGlobals "_law_cell_at"=some (some (.ref f21))) (l21:K.lookup f21=some ⟨oc21,od21,.func (PySem.W.fnOf "_law_cell_at" "_law_cell_at" (defArgs s__law_cell_at) (defBody s__law_cell_at) (defScope s__law_cell_at) .none kV21 dc21 pm21 an21 cd21 ct21),sl21⟩) (e21:PySem.W.codeIn K cd21 "_law_cell_at"=true) (k21:PySem.W.keepIn K (.ref f21)=true)
    (a22:PySem.W.nsIn K mainGlobals "_law_state"=some (some (.ref f22))) (l22:K.lookup f22=some ⟨oc22,od22,.func (PySem.W.fnOf "_law_state" "_law_state" (defArgs s__law_state) (defBody s__law_state) (defScope s__law_state) .none kV22 dc22 pm22 an22 cd22 ct22),sl22⟩) (e22:PySem.W.codeIn K cd22 "_law_state"=true) (k22:PySem.W.keepIn K (.ref f22)=true)
    (a23:PySem.W.nsIn K mainGlobals "_law_take"=some (some (.ref f23))) (l23:K.lookup f23=some ⟨oc23,od23,.func (PySem.W.fnOf "_law_take" "_law_take" (defArgs s__law_take) (defBody s__law_take) (defScope s__law_take) .none kV23 dc23 pm23 an23 cd23 ct23),sl23⟩) (e23:PySem.W.codeIn K cd23 "_law_take"=true) (k23:PySem.W.keepIn K (.ref f23)=true)
    (a24:PySem.W.nsIn K mainGlobals "_law_divisor"=some (some (.ref f24))) (l24:K.lookup f24=some ⟨oc24,od24,.func (PySem.W.fnOf "_law_divisor" "_law_divisor" (defArgs s__law_divisor) (defBody s__law_divisor) (defScope s__law_divisor) .none kV24 dc24 pm24 an24 cd24 ct24),sl24⟩) (e24:PySem.W.codeIn K cd24 "_law_divisor"=true) (k24:PySem.W.keepIn K (.ref f24)=true)
    (a25:PySem.W.nsIn K mainGlobals "_law_ratio"=some (some (.ref f25))) (l25:K.lookup f25=some ⟨oc25,od25,.func (PySem.W.fnOf "_law_ratio" "_law_ratio" (defArgs s__law_ratio) (defBody s__law_ratio) (defScope s__law_ratio) .none kV25 dc25 pm25 an25 cd25 ct25),sl25⟩) (e25:PySem.W.codeIn K cd25 "_law_ratio"=true) (k25:PySem.W.keepIn K (.ref f25)=true)
    (a26:PySem.W.nsIn K mainGlobals "_law_plus"=some (some (.ref f26))) (l26:K.lookup f26=some ⟨oc26,od26,.func (PySem.W.fnOf "_law_plus" "_law_plus" (defArgs s__law_plus) (defBody s__law_plus) (defScope s__law_plus) .none kV26 dc26 pm26 an26 cd26 ct26),sl26⟩) (e26:PySem.W.codeIn K cd26 "_law_plus"=true) (k26:PySem.W.keepIn K (.ref f26)=true)
    (a27:PySem.W.nsIn K mainGlobals "_law_minus"=some (some (.ref f27))) (l27:K.lookup f27=some ⟨oc27,od27,.func (PySem.W.fnOf "_law_minus" "_law_minus" (defArgs s__law_minus) (defBody s__law_minus) (defScope s__law_minus) .none kV27 dc27 pm27 an27 cd27 ct27),sl27⟩) (e27:PySem.W.codeIn K cd27 "_law_minus"=true) (k27:PySem.W.keepIn K (.ref f27)=true)
    (a28:PySem.W.nsIn K mainGlobals "_law_times"=some (some (.ref f28))) (l28:K.lookup f28=some ⟨oc28,od28,.func (PySem.W.fnOf "_law_times" "_law_times" (defArgs s__law_times) (defBody s__law_times) (defScope s__law_times) .none kV28 dc28 pm28 an28 cd28 ct28),sl28⟩) (e28:PySem.W.codeIn K cd28 "_law_times"=true) (k28:PySem.W.keepIn K (.ref f28)=true)
    (a29:PySem.W.nsIn K mainGlobals "_law_fraction"=some (some (.ref f29))) (l29:K.lookup f29=some ⟨oc29,od29,.func (PySem.W.fnOf "_law_fraction" "_law_fraction" (defArgs s__law_fraction) (defBody s__law_fraction) (defScope s__law_fraction) .none kV29 dc29 pm29 an29 cd29 ct29),sl29⟩) (e29:PySem.W.codeIn K cd29 "_law_fraction"=true) (k29:PySem.W.keepIn K (.ref f29)=true)
    (a30:PySem.W.nsIn K mainGlobals "_law_plain_point"=some (some (.ref f30))) (l30:K.lookup f30=some ⟨oc30,od30,.func (PySem.W.fnOf "_law_plain_point" "_law_plain_point" (defArgs s__law_plain_point) (defBody s__law_plain_point) (defScope s__law_plain_point) .none kV30 dc30 pm30 an30 cd30 ct30),sl30⟩) (e30:PySem.W.codeIn K cd30 "_law_plain_point"=true) (k30:PySem.W.keepIn K (.ref f30)=true)
    (a31:PySem.W.nsIn K mainGlobals "_law_way"=some (some (.ref f31))) (l31:K.lookup f31=some ⟨oc31,od31,.func (PySem.W.fnOf "_law_way" "_law_way" (defArgs s__law_way) (defBody s__law_way) (defScope s__law_way) .none kV31 dc31 pm31 an31 cd31 ct31),sl31⟩) (e31:PySem.W.codeIn K cd31 "_law_way"=true) (k31:PySem.W.keepIn K (.ref f31)=true)
    (a32:PySem.W.nsIn K mainGlobals "_law_linkage"=some (some (.ref f32))) (l32:K.lookup f32=some ⟨oc32,od32,.func (PySem.W.fnOf "_law_linkage" "_law_linkage" (defArgs s__law_linkage) (defBody s__law_linkage) (defScope s__law_linkage) .none kV32 dc32 pm32 an32 cd32 ct32),sl32⟩) (e32:PySem.W.codeIn K cd32 "_law_linkage"=true) (k32:PySem.W.keepIn K (.ref f32)=true)
    (a33:PySem.W.nsIn K mainGlobals "_law_table"=some (some (.ref f33))) (l33:K.lookup f33=some ⟨oc33,od33,.func (PySem.W.fnOf "_law_table" "_law_table" (defArgs s__law_table) (defBody s__law_table) (defScope s__law_table) .none kV33 dc33 pm33 an33 cd33 ct33),sl33⟩) (e33:PySem.W.codeIn K cd33 "_law_table"=true) (k33:PySem.W.keepIn K (.ref f33)=true)
    (a34:PySem.W.nsIn K mainGlobals "_law_rank"=some (some (.ref f34))) (l34:K.lookup f34=some ⟨oc34,od34,.func (PySem.W.fnOf "_law_rank" "_law_rank" (defArgs s__law_rank) (defBody s__law_rank) (defScope s__law_rank) .none kV34 dc34 pm34 an34 cd34 ct34),sl34⟩) (e34:PySem.W.codeIn K cd34 "_law_rank"=true) (k34:PySem.W.keepIn K (.ref f34)=true)
    (a35:PySem.W.nsIn K mainGlobals "freedom"=some (some (.ref f35))) (l35:K.lookup f35=some ⟨oc35,od35,.func (PySem.W.fnOf "freedom" "freedom" (defArgs s_freedom) (defBody s_freedom) (defScope s_freedom) .none kV35 dc35 pm35 an35 cd35 ct35),sl35⟩) (e35:PySem.W.codeIn K cd35 "freedom"=true) (k35:PySem.W.keepIn K (.ref f35)=true)
    (a36:PySem.W.nsIn K mainGlobals "pull_at"=some (some (.ref f36))) (l36:K.lookup f36=some ⟨oc36,od36,.func (PySem.W.fnOf "pull_at" "pull_at" (defArgs s_pull_at) (defBody s_pull_at) (defScope s_pull_at) .none kV36 dc36 pm36 an36 cd36 ct36),sl36⟩) (e36:PySem.W.codeIn K cd36 "pull_at"=true) (k36:PySem.W.keepIn K (.ref f36)=true)
    (a37:PySem.W.nsIn K mainGlobals "balance"=some (some (.ref f37))) (l37:K.lookup f37=some ⟨oc37,od37,.func (PySem.W.fnOf "balance" "balance" (defArgs s_balance) (defBody s_balance) (defScope s_balance) .none kV37 dc37 pm37 an37 cd37 ct37),sl37⟩) (e37:PySem.W.codeIn K cd37 "balance"=true) (k37:PySem.W.keepIn K (.ref f37)=true)
    (a38:PySem.W.nsIn K mainGlobals "column_of"=some (some (.ref f38))) (l38:K.lookup f38=some ⟨oc38,od38,.func (PySem.W.fnOf "column_of" "column_of" (defArgs s_column_of) (defBody s_column_of) (defScope s_column_of) .none kV38 dc38 pm38 an38 cd38 ct38),sl38⟩) (e38:PySem.W.codeIn K cd38 "column_of"=true) (k38:PySem.W.keepIn K (.ref f38)=true)
    (a39:PySem.W.nsIn K mainGlobals "paper_of"=some (some (.ref f39))) (l39:K.lookup f39=some ⟨oc39,od39,.func (PySem.W.fnOf "paper_of" "paper_of" (defArgs s_paper_of) (defBody s_paper_of) (defScope s_paper_of) .none kV39 dc39 pm39 an39 cd39 ct39),sl39⟩) (e39:PySem.W.codeIn K cd39 "paper_of"=true) (k39:PySem.W.keepIn K (.ref f39)=true)
    (a40:PySem.W.nsIn K mainGlobals "is_right"=some (some (.ref f40))) (l40:K.lookup f40=some ⟨oc40,od40,.func (PySem.W.fnOf "is_right" "is_right" (defArgs s_is_right) (defBody s_is_right) (defScope s_is_right) .none kV40 dc40 pm40 an40 cd40 ct40),sl40⟩) (e40:PySem.W.codeIn K cd40 "is_right"=true) (k40:PySem.W.keepIn K (.ref f40)=true)
    (a41:PySem.W.nsIn K mainGlobals "_law_balance"=some (some (.ref f41))) (l41:K.lookup f41=some ⟨oc41,od41,.func (PySem.W.fnOf "_law_balance" "_law_balance" (defArgs s__law_balance) (defBody s__law_balance) (defScope s__law_balance) .none kV41 dc41 pm41 an41 cd41 ct41),sl41⟩) (e41:PySem.W.codeIn K cd41 "_law_balance"=true) (k41:PySem.W.keepIn K (.ref f41)=true)
    (a42:PySem.W.nsIn K mainGlobals "_law_weights"=some (some (.ref f42))) (l42:K.lookup f42=some ⟨oc42,od42,.func (PySem.W.fnOf "_law_weights" "_law_weights" (defArgs s__law_weights) (defBody s__law_weights) (defScope s__law_weights) .none kV42 dc42 pm42 an42 cd42 ct42),sl42⟩) (e42:PySem.W.codeIn K cd42 "_law_weights"=true) (k42:PySem.W.keepIn K (.ref f42)=true)
    (a43:PySem.W.nsIn K mainGlobals "law"=some (some (.ref f43))) (l43:K.lookup f43=some ⟨oc43,od43,.func (PySem.W.fnOf "law" "law" (defArgs s_law) (defBody s_law) (defScope s_law) .none kV43 dc43 pm43 an43 cd43 ct43),sl43⟩) (e43:PySem.W.codeIn K cd43 "law"=true) (k43:PySem.W.keepIn K (.ref f43)=true)
    (ag_REST:PySem.W.nsIn K mainGlobals "REST"=some (some (.ref p_REST))) (lg_REST:K.lookup p_REST=some ⟨.type "tuple",od_REST,.seq #[.ref p0_REST,.ref p1_REST] n_REST,sl_REST⟩) (lg0_REST:K.lookup p0_REST=some ⟨.type "tuple",od0_REST,.seq #[.int 0 t0_0_REST,.int 1 t1_0_REST] n0_REST,sl0_REST⟩) (lg1_REST:K.lookup p1_REST=some ⟨.type "tuple",od1_REST,.seq #[.int 0 t0_1_REST,.int 1 t1_1_REST] n1_REST,sl1_REST⟩)
    (ag_NOUGHT:PySem.W.nsIn K mainGlobals "NOUGHT"=some (some (.ref p_NOUGHT))) (lg_NOUGHT:K.lookup p_NOUGHT=some ⟨.type "tuple",od_NOUGHT,.seq #[.int 0 t0_NOUGHT,.int 1 t1_NOUGHT] n_NOUGHT,sl_NOUGHT⟩)
    (y_abs:PySem.W.nsIn K mainGlobals "abs"=some none) (y_zip:PySem.W.nsIn K mainGlobals "zip"=some none) (y_range:PySem.W.nsIn K mainGlobals "range"=some none) (y_len:PySem.W.nsIn K mainGlobals "len"=some none) (y_tuple:PySem.W.nsIn K mainGlobals "tuple"=some none) (y_int:PySem.W.nsIn K mainGlobals "int"=some none) (y_list:PySem.W.nsIn K mainGlobals "list"=some none) (y_all:PySem.W.nsIn K mainGlobals "all"=some none) (y_max:PySem.W.nsIn K mainGlobals "max"=some none) (y_min:PySem.W.nsIn K mainGlobals "min"=some none) (y_isinstance:PySem.W.nsIn K mainGlobals "isinstance"=some none) (y_bool:PySem.W.nsIn K mainGlobals "bool"=some none):
    ∃ fd:FuncData,(∀ (s:Shared) (v:Value),BindsTo s fd ⟨[v],[]⟩ [("script",v)])/\∀ base:Heap,K.In base->base.Ns mainGlobals mg->FnOk l.prog w K mg base CX0 10 fa fd ["script"] (spU K F_law):=by
  have e:=hfa.symm.trans (PySem.W.mg_of X G a43)
  cases e
  have z_abs:=PySem.W.mg_none_of X G y_abs
  have z_zip:=PySem.W.mg_none_of X G y_zip
  have z_range:=PySem.W.mg_none_of X G y_range
  have z_len:=PySem.W.mg_none_of X G y_len
  have z_tuple:=PySem.W.mg_none_of X G y_tuple
  have z_int:=PySem.W.mg_none_of X G y_int
  have z_list:=PySem.W.mg_none_of X G y_list
  have z_all:=PySem.W.mg_none_of X G y_all
  have z_max:=PySem.W.mg_none_of X G y_max
  have z_min:=PySem.W.mg_none_of X G y_min
  have z_isinstance:=PySem.W.mg_none_of X G y_isinstance
  have z_bool:=PySem.W.mg_none_of X G y_bool
  have g_REST:GTup2 K mg "REST" [[0,1],[0,1]]:=⟨p_REST,_,_,_,PySem.W.mg_of X G ag_REST,lg_REST,rfl,rfl,Nat.le_of_ble_eq_true rfl,.cons lg0_REST rfl rfl (Nat.le_of_ble_eq_true rfl) (.cons ⟨_,rfl⟩ (.cons ⟨_,rfl⟩ (.nil))) (.cons lg1_REST rfl rfl (Nat.le_of_ble_eq_true rfl) (.cons ⟨_,rfl⟩ (.cons ⟨_,rfl⟩ (.nil))) (.nil))⟩
  have g_NOUGHT:GTup K mg "NOUGHT" [0,1]:=⟨p_NOUGHT,_,_,_,PySem.W.mg_of X G ag_NOUGHT,lg_NOUGHT,rfl,rfl,Nat.le_of_ble_eq_true rfl,.cons ⟨_,rfl⟩ (.cons ⟨_,rfl⟩ (.nil))⟩
  have F1:=fun_mk (st:=s_common_divisor) l1 e1 k1
  have b1:=F1.binds (ps:=["one","other"]) fun _ _ _ _ _ _ us hl=>match us,hl with | [_,_],_=>rfl
  have F2:=fun_mk (st:=s_ratio) l2 e2 k2
  have b2:=F2.binds (ps:=["top","bottom"]) fun _ _ _ _ _ _ us hl=>match us,hl with | [_,_],_=>rfl
  have F3:=fun_mk (st:=s_plus) l3 e3 k3
  have b3:=F3.binds (ps:=["one","other"]) fun _ _ _ _ _ _ us hl=>match us,hl with | [_,_],_=>rfl
  have F4:=fun_mk (st:=s_minus) l4 e4 k4
  have b4:=F4.binds (ps:=["one","other"]) fun _ _ _ _ _ _ us hl=>match us,hl with | [_,_],_=>rfl
  have F5:=fun_mk (st:=s_times) l5 e5 k5
  have b5:=F5.binds (ps:=["one","other"]) fun _ _ _ _ _ _ us hl=>match us,hl with | [_,_],_=>rfl
  have F6:=fun_mk (st:=s_negative) l6 e6 k6
  have b6:=F6.binds (ps:=["one"]) fun _ _ _ _ _ _ us hl=>match us,hl with | [_],_=>rfl
  have F7:=fun_mk (st:=s_place_of) l7 e7 k7
  have b7:=F7.binds (ps:=["point"]) fun _ _ _ _ _ _ us hl=>match us,hl with | [_],_=>rfl
  have F8:=fun_mk (st:=s_plain_way) l8 e8 k8
  have b8:=F8.binds (ps:=["one","other"]) fun _ _ _ _ _ _ us hl=>match us,hl with | [_,_],_=>rfl
  have F9:=fun_mk (st:=s_in_whole_numbers) l9 e9 k9
  have b9:=F9.binds (ps:=["row"]) fun _ _ _ _ _ _ us hl=>match us,hl with | [_],_=>rfl
  have F10:=fun_mk (st:=s_cleared) l10 e10 k10
  have b10:=F10.binds (ps:=["row","lead","column","divisor"]) fun _ _ _ _ _ _ us hl=>match us,hl with | [_,_,_,_],_=>rfl
  have F11:=fun_mk (st:=s_first_with) l11 e11 k11
  have b11:=F11.binds (ps:=["rows","start","column"]) fun _ _ _ _ _ _ us hl=>match us,hl with | [_,_,_],_=>rfl
  have F12:=fun_mk (st:=s_reduced) l12 e12 k12
  have b12:=F12.binds (ps:=["rows","many"]) fun _ _ _ _ _ _ us hl=>match us,hl with | [_,_],_=>rfl
  have F13:=fun_mk (st:=s_without_shared) l13 e13 k13
  have b13:=F13.binds (ps:=["numbers"]) fun _ _ _ _ _ _ us hl=>match us,hl with | [_],_=>rfl
  have F14:=fun_mk (st:=s_solutions) l14 e14 k14
  have b14:=F14.binds (ps:=["rows","many"]) fun _ _ _ _ _ _ us hl=>match us,hl with | [_,_],_=>rfl
  have F15:=fun_mk (st:=s_free_joints) l15 e15 k15
  have b15:=F15.binds (ps:=["linkage"]) fun _ _ _ _ _ _ us hl=>match us,hl with | [_],_=>rfl
  have F16:=fun_mk (st:=s_way_of_rod) l16 e16 k16
  have b16:=F16.binds (ps:=["rod","place"]) fun _ _ _ _ _ _ us hl=>match us,hl with | [_,_],_=>rfl
  have F17:=fun_mk (st:=s_row_of_rod) l17 e17 k17
  have b17:=F17.binds (ps:=["rod","place","joints"]) fun _ _ _ _ _ _ us hl=>match us,hl with | [_,_,_],_=>rfl
  have F18:=fun_mk (st:=s_rows_of_rods) l18 e18 k18
  have b18:=F18.binds (ps:=["linkage","place"]) fun _ _ _ _ _ _ us hl=>match us,hl with | [_,_],_=>rfl
  have F19:=fun_mk (st:=s_rank_of) l19 e19 k19
  have b19:=F19.binds (ps:=["rows","many"]) fun _ _ _ _ _ _ us hl=>match us,hl with | [_,_],_=>rfl
  have F20:=fun_mk (st:=s_many_swings) l20 e20 k20
  have b20:=F20.binds (ps:=["linkage","place"]) fun _ _ _ _ _ _ us hl=>match us,hl with | [_,_],_=>rfl
  have F21:=fun_mk (st:=s__law_cell_at) l21 e21 k21
  have b21:=F21.binds (ps:=["script","k"]) fun _ _ _ _ _ _ us hl=>match us,hl with | [_,_],_=>rfl
  have F22:=fun_mk (st:=s__law_state) l22 e22 k22
  have b22:=F22.binds (ps:=["script","k"]) fun _ _ _ _ _ _ us hl=>match us,hl with | [_,_],_=>rfl
  have F23:=fun_mk (st:=s__law_take) l23 e23 k23
  have b23:=F23.binds (ps:=["state","many"]) fun _ _ _ _ _ _ us hl=>match us,hl with | [_,_],_=>rfl
  have F24:=fun_mk (st:=s__law_divisor) l24 e24 k24
  have b24:=F24.binds (ps:=["one","other"]) fun _ _ _ _ _ _ us hl=>match us,hl with | [_,_],_=>rfl
  have F25:=fun_mk (st:=s__law_ratio) l25 e25 k25
  have b25:=F25.binds (ps:=["top","bottom"]) fun _ _ _ _ _ _ us hl=>match us,hl with | [_,_],_=>rfl
  have F26:=fun_mk (st:=s__law_plus) l26 e26 k26
  have b26:=F26.binds (ps:=["one","other"]) fun _ _ _ _ _ _ us hl=>match us,hl with | [_,_],_=>rfl
  have F27:=fun_mk (st:=s__law_minus) l27 e27 k27
  have b27:=F27.binds (ps:=["one","other"]) fun _ _ _ _ _ _ us hl=>match us,hl with | [_,_],_=>rfl
  have F28:=fun_mk (st:=s__law_times) l28 e28 k28
  have b28:=F28.binds (ps:=["one","other"]) fun _ _ _ _ _ _ us hl=>match us,hl with | [_,_],_=>rfl
  have F29:=fun_mk (st:=s__law_fraction) l29 e29 k29
  have b29:=F29.binds (ps:=["state","most"]) fun _ _ _ _ _ _ us hl=>match us,hl with | [_,_],_=>rfl
  have F30:=fun_mk (st:=s__law_plain_point) l30 e30 k30
  have b30:=F30.binds (ps:=["state","most"]) fun _ _ _ _ _ _ us hl=>match us,hl with | [_,_],_=>rfl
  have F31:=fun_mk (st:=s__law_way) l31 e31 k31
  have b31:=F31.binds (ps:=["place","one","other"]) fun _ _ _ _ _ _ us hl=>match us,hl with | [_,_,_],_=>rfl
  have F32:=fun_mk (st:=s__law_linkage) l32 e32 k32
  have b32:=F32.binds (ps:=["state"]) fun _ _ _ _ _ _ us hl=>match us,hl with | [_],_=>rfl
  have F33:=fun_mk (st:=s__law_table) l33 e33 k33
  have b33:=F33.binds (ps:=["linkage","place"]) fun _ _ _ _ _ _ us hl=>match us,hl with | [_,_],_=>rfl
  have F34:=fun_mk (st:=s__law_rank) l34 e34 k34
  have b34:=F34.binds (ps:=["rows"]) fun _ _ _ _ _ _ us hl=>match us,hl with | [_],_=>rfl
  have F35:=fun_mk (st:=s_freedom) l35 e35 k35
  have b35:=F35.binds (ps:=["linkage"]) fun _ _ _ _ _ _ us hl=>match us,hl with | [_],_=>rfl
  have F36:=fun_mk (st:=s_pull_at) l36 e36 k36
  have b36:=F36.binds (ps:=["joint","linkage","place","weights"]) fun _ _ _ _ _ _ us hl=>match us,hl with | [_,_,_,_],_=>rfl
  have F37:=fun_mk (st:=s_balance) l37 e37 k37
  have b37:=F37.binds (ps:=["linkage","place","weights"]) fun _ _ _ _ _ _ us hl=>match us,hl with | [_,_,_],_=>rfl
  have F38:=fun_mk (st:=s_column_of) l38 e38 k38
  have b38:=F38.binds (ps:=["rows","column"]) fun _ _ _ _ _ _ us hl=>match us,hl with | [_,_],_=>rfl
  have F39:=fun_mk (st:=s_paper_of) l39 e39 k39
  have b39:=F39.binds (ps:=["linkage","place"]) fun _ _ _ _ _ _ us hl=>match us,hl with | [_,_],_=>rfl
  have F40:=fun_mk (st:=s_is_right) l40 e40 k40
  have b40:=F40.binds (ps:=["linkage","place","paper"]) fun _ _ _ _ _ _ us hl=>match us,hl with | [_,_,_],_=>rfl
  have F41:=fun_mk (st:=s__law_balance) l41 e41 k41
  have b41:=F41.binds (ps:=["linkage","place","weights"]) fun _ _ _ _ _ _ us hl=>match us,hl with | [_,_,_],_=>rfl
  have F42:=fun_mk (st:=s__law_weights) l42 e42 k42
  have b42:=F42.binds (ps:=["state","linkage","paper"]) fun _ _ _ _ _ _ us hl=>match us,hl with | [_,_,_],_=>rfl
  have F43:=fun_mk (st:=s_law) l43 e43 k43
  have b43:=F43.binds (ps:=["script"]) fun _ _ _ _ _ _ us hl=>match us,hl with | [_],_=>rfl
  refine⟨PySem.W.fnOf "law" "law" (defArgs s_law) (defBody s_law) (defScope s_law) .none kV43 dc43 pm43 an43 cd43 ct43,fun s v=>.of_eq rfl,fun base _ _=>?_⟩
  have c_common_divisor:Own l.prog w K mg base "common_divisor" 1 F_common_divisor:=Own.mk' F1 (ok_common_divisor F1 z_abs) (PySem.W.mg_of X G a1) b1
  have c_ratio:Own l.prog w K mg base "ratio" 2 F_ratio:=Own.mk' F2 (ok_ratio F2 c_common_divisor) (PySem.W.mg_of X G a2) b2
  have c_plus:Own l.prog w K mg base "plus" 3 F_plus:=Own.mk' F3 (ok_plus F3 c_ratio) (PySem.W.mg_of X G a3) b3
  have c_minus:Own l.prog w K mg base "minus" 3 F_minus:=Own.mk' F4 (ok_minus F4 c_ratio) (PySem.W.mg_of X G a4) b4
  have c_times:Own l.prog w K mg base "times" 3 F_times:=Own.mk' F5 (ok_times F5 c_ratio) (PySem.W.mg_of X G a5) b5
  have c_negative:Own l.prog w K mg base "negative" 1 F_negative:=Own.mk' F6 (ok_negative F6) (PySem.W.mg_of X G a6) b6
  have c_place_of:Own l.prog w K mg base "place_of" 1 F_place_of:=Own.mk' F7 (ok_place_of F7) (PySem.W.mg_of X G a7) b7
  have c_plain_way:Own l.prog w K mg base "plain_way" 4 F_plain_way:=Own.mk' F8 (ok_plain_way F8 c_minus) (PySem.W.mg_of X G a8) b8
  have c_in_whole_numbers:Own l.prog w K mg base "in_whole_numbers" 2 F_in_whole_numbers:=Own.mk' F9 (ok_in_whole_numbers F9 c_common_divisor) (PySem.W.mg_of X G a9) b9
  have c_cleared:Own l.prog w K mg base "cleared" 1 F_cleared:=Own.mk' F10 (ok_cleared F10 z_zip) (PySem.W.mg_of X G a10) b10
  have c_first_with:Own l.prog w K mg base "first_with" 1 F_first_with:=Own.mk' F11 (ok_first_with F11 z_range z_len) (PySem.W.mg_of X G a11) b11
  have c_reduced:Own l.prog w K mg base "reduced" 3 F_reduced:=Own.mk' F12 (ok_reduced F12 c_in_whole_numbers c_first_with c_cleared z_range z_len) (PySem.W.mg_of X G a12) b12
  have c_without_shared:Own l.prog w K mg base "without_shared" 2 F_without_shared:=Own.mk' F13 (ok_without_shared F13 c_common_divisor) (PySem.W.mg_of X G a13) b13
  have c_solutions:Own l.prog w K mg base "solutions" 4 F_solutions:=Own.mk' F14 (ok_solutions F14 c_reduced c_without_shared z_range z_zip) (PySem.W.mg_of X G a14) b14
  have c_free_joints:Own l.prog w K mg base "free_joints" 1 F_free_joints:=Own.mk' F15 (ok_free_joints F15 z_range) (PySem.W.mg_of X G a15) b15
  have c_way_of_rod:Own l.prog w K mg base "way_of_rod" 5 F_way_of_rod:=Own.mk' F16 (ok_way_of_rod F16 c_plain_way c_place_of) (PySem.W.mg_of X G a16) b16
  have c_row_of_rod:Own l.prog w K mg base "row_of_rod" 6 F_row_of_rod:=Own.mk' F17 (ok_row_of_rod F17 c_way_of_rod c_negative g_REST) (PySem.W.mg_of X G a17) b17
  have c_rows_of_rods:Own l.prog w K mg base "rows_of_rods" 7 F_rows_of_rods:=Own.mk' F18 (ok_rows_of_rods F18 c_free_joints c_row_of_rod) (PySem.W.mg_of X G a18) b18
  have c_rank_of:Own l.prog w K mg base "rank_of" 4 F_rank_of:=Own.mk' F19 (ok_rank_of F19 c_reduced z_len) (PySem.W.mg_of X G a19) b19
  have c_many_swings:Own l.prog w K mg base "many_swings" 8 F_many_swings:=Own.mk' F20 (ok_many_swings F20 c_free_joints c_rank_of c_rows_of_rods z_len) (PySem.W.mg_of X G a20) b20
  have c__law_cell_at:Own l.prog w K mg base "_law_cell_at" 1 F__law_cell_at:=Own.mk' F21 (ok__law_cell_at F21 z_len) (PySem.W.mg_of X G a21) b21
  have c__law_state:Own l.prog w K mg base "_law_state" 2 F__law_state:=Own.mk' F22 (ok__law_state F22 c__law_cell_at) (PySem.W.mg_of X G a22) b22
  have c__law_take:Own l.prog w K mg base "_law_take" 1 F__law_take:=Own.mk' F23 (ok__law_take F23) (PySem.W.mg_of X G a23) b23
  have c__law_divisor:Own l.prog w K mg base "_law_divisor" 1 F__law_divisor:=Own.mk' F24 (ok__law_divisor F24 z_abs) (PySem.W.mg_of X G a24) b24
  have c__law_ratio:Own l.prog w K mg base "_law_ratio" 2 F__law_ratio:=Own.mk' F25 (ok__law_ratio F25 c__law_divisor) (PySem.W.mg_of X G a25) b25
  have c__law_plus:Own l.prog w K mg base "_law_plus" 3 F__law_plus:=Own.mk' F26 (ok__law_plus F26 c__law_ratio) (PySem.W.mg_of X G a26) b26
  have c__law_minus:Own l.prog w K mg base "_law_minus" 3 F__law_minus:=Own.mk' F27 (ok__law_minus F27 c__law_ratio) (PySem.W.mg_of X G a27) b27
  have c__law_times:Own l.prog w K mg base "_law_times" 3 F__law_times:=Own.mk' F28 (ok__law_times F28 c__law_ratio) (PySem.W.mg_of X G a28) b28
  have c__law_fraction:Own l.prog w K mg base "_law_fraction" 3 F__law_fraction:=Own.mk' F29 (ok__law_fraction F29 c__law_ratio c__law_take) (PySem.W.mg_of X G a29) b29
  have c__law_plain_point:Own l.prog w K mg base "_law_plain_point" 4 F__law_plain_point:=Own.mk' F30 (ok__law_plain_point F30 c__law_fraction) (PySem.W.mg_of X G a30) b30
  have c__law_way:Own l.prog w K mg base "_law_way" 4 F__law_way:=Own.mk' F31 (ok__law_way F31 c__law_minus z_range) (PySem.W.mg_of X G a31) b31
  have c__law_linkage:Own l.prog w K mg base "_law_linkage" 5 F__law_linkage:=Own.mk' F32 (ok__law_linkage F32 c__law_take c__law_plain_point z_tuple z_range z_len) (PySem.W.mg_of X G a32) b32
  have c__law_table:Own l.prog w K mg base "_law_table" 5 F__law_table:=Own.mk' F33 (ok__law_table F33 c__law_way c__law_times z_range z_int) (PySem.W.mg_of X G a33) b33
  have c__law_rank:Own l.prog w K mg base "_law_rank" 4 F__law_rank:=Own.mk' F34 (ok__law_rank F34 c__law_times c__law_minus z_list z_range z_len z_abs z_int) (PySem.W.mg_of X G a34) b34
  have c_freedom:Own l.prog w K mg base "freedom" 1 F_freedom:=Own.mk' F35 (ok_freedom F35 z_len) (PySem.W.mg_of X G a35) b35
  have c_pull_at:Own l.prog w K mg base "pull_at" 6 F_pull_at:=Own.mk' F36 (ok_pull_at F36 c_way_of_rod c_plus c_times c_minus z_zip g_REST) (PySem.W.mg_of X G a36) b36
  have c_balance:Own l.prog w K mg base "balance" 7 F_balance:=Own.mk' F37 (ok_balance F37 c_free_joints c_pull_at z_all g_REST g_NOUGHT) (PySem.W.mg_of X G a37) b37
  have c_column_of:Own l.prog w K mg base "column_of" 1 F_column_of:=Own.mk' F38 (ok_column_of F38) (PySem.W.mg_of X G a38) b38
  have c_paper_of:Own l.prog w K mg base "paper_of" 8 F_paper_of:=Own.mk' F39 (ok_paper_of F39 c_rows_of_rods c_free_joints c_column_of c_solutions z_range z_len z_tuple) (PySem.W.mg_of X G a39) b39
  have c_is_right:Own l.prog w K mg base "is_right" 9 F_is_right:=Own.mk' F40 (ok_is_right F40 c_many_swings c_freedom c_balance) (PySem.W.mg_of X G a40) b40
  have c__law_balance:Own l.prog w K mg base "_law_balance" 5 F__law_balance:=Own.mk' F41 (ok__law_balance F41 c__law_way c__law_plus c__law_times z_range z_zip) (PySem.W.mg_of X G a41) b41
  have c__law_weights:Own l.prog w K mg base "_law_weights" 4 F__law_weights:=Own.mk' F42 (ok__law_weights F42 c__law_fraction c__law_take c__law_times c__law_plus z_len z_tuple z_range) (PySem.W.mg_of X G a42) b42
  exact ok_law F43 c__law_state c__law_linkage c__law_rank c__law_table c_paper_of c__law_balance c_is_right c__law_weights c_balance z_range z_max z_min z_len z_isinstance z_tuple z_bool
theorem walk {l:PySem.W.OpenLaw} {q:Program} {loose:List Str} {XP:(Str->Option Value)->Heap->Prop} {YP:World->Heap->Prop} {d:DefRec} {K:Params->Fg} (hn:l.most=some 63) (hdf:d.params.defaults=[])
    (hY:∀ (w:World) (h:Heap),YP w h->(K w.params).In h)
    (F:∀ (w:World) (mg:Str->Option Value) (fa:Addr) (h:Heap),(K w.params).In h->h.Ns mainGlobals mg->mg d.name=some (.ref fa)->
      ∃ fd:FuncData,(∀ (s:Shared) (u:Value),BindsTo s fd ⟨[u],[]⟩ [("script",u)])/\∀ base:Heap,(K w.params).In base->base.Ns mainGlobals mg->FnOk l.prog w (K w.params) mg base CX0 10 fa fd ["script"] (spU (K w.params) F_law)):
    PySem.W.WalkO q loose XP YP l.row.toRowW d [] (fun f vs=>PySem.call f vs):=
  L2.walk_of (n:=63) (k:=10) (x:="script") (CX:=fun _=>CX0) (sp:=fun w=>spU (K w.params) F_law) hn (by decide) hdf ⟨rfl,by decide,by decide⟩ hY F
    (fun w H a ns hl ho hS=>DL.law_up ho hS (law_ask ns hl)) fun _ _ _ _ _ z=>z
end My
open PySem PySem.W PyProof.Rows
set_option maxRecDepth 100000 in
set_option maxHeartbeats 0 in
theorem PySem.Challenge.cw_hingedraw_k35_weights_and_papers_holds : PySem.Challenge.rw_hingedraw_k35_weights_and_papers.Holds := by
  w_on; o_law; k_head; (case hw=>w_witness2)
  k_fill
  refine My.walk (l := PySem.Challenge.rw_hingedraw_k35_weights_and_papers) rfl rfl (fun w h Y => PySem.W.kIn_of Y) ?F
  case F=>
    intro w mg fa h KX G hmg
    refine' My.all_mk KX G hmg ?a1 ?l1 ?e1 ?k1 ?a2 ?l2 ?e2 ?k2 ?a3 ?l3 ?e3 ?k3 ?a4 ?l4 ?e4 ?k4 ?a5 ?l5 ?e5 ?k5 ?a6 ?l6 ?e6 ?k6 ?a7 ?l7 ?e7 ?k7 ?a8 ?l8 ?e8 ?k8 ?a9 ?l9 ?e9 ?k9 ?a10 ?l10 ?e10 ?k10 ?a11 ?l11 ?e11 ?k11 ?a12 ?l12 ?e12 ?k12 ?a13 ?l13 ?e13 ?k13 ?a14 ?l14 ?e14 ?k14 ?a15 ?l15 ?e15 ?k15 ?a16 ?l16 ?e16 ?k16 ?a17 ?l17 ?e17 ?k17 ?a18 ?l18 ?e18 ?k18 ?a19 ?l19 ?e19 ?k19 ?a20 ?l20 ?e20 ?k20 ?a21 ?l21 ?e21 ?k21 ?a22 ?l22 ?e22 ?k22 ?a23 ?l23 ?e23 ?k23 ?a24 ?l24 ?e24 ?k24 ?a25 ?l25 ?e25 ?k25 ?a26 ?l26 ?e26 ?k26 ?a27 ?l27 ?e27 ?k27 ?a28 ?l28 ?e28 ?k28 ?a29 ?l29 ?e29 ?k29 ?a30 ?l30 ?e30 ?k30 ?a31 ?l31 ?e31 ?k31 ?a32 ?l32 ?e32 ?k32 ?a33 ?l33 ?e33 ?k33 ?a34 ?l34 ?e34 ?k34 ?a35 ?l35 ?e35 ?k35 ?a36 ?l36 ?e36 ?k36 ?a37 ?l37 ?e37 ?k37 ?a38 ?l38 ?e38 ?k38 ?a39 ?l39 ?e39 ?k39 ?a40 ?l40 ?e40 ?k40 ?a41 ?l41 ?e41 ?k41 ?a42 ?l42 ?e42 ?k42 ?a43 ?l43 ?e43 ?k43 ?ag_REST ?lg_REST ?lg0_REST ?lg1_REST ?ag_NOUGHT ?lg_NOUGHT ?y_abs ?y_zip ?y_range ?y_len ?y_tuple ?y_int ?y_list ?y_all ?y_max ?y_min ?y_isinstance ?y_bool
    (case a1=>k_is)
    (case l1=>k_is)
    (case e1=>k_is)
    (case k1=>k_is)
    (case a2=>k_is)
    (case l2=>k_is)
    (case e2=>k_is)
    (case k2=>k_is)
    (case a3=>k_is)
    (case l3=>k_is)
    (case e3=>k_is)
    (case k3=>k_is)
    (case a4=>k_is)
    (case l4=>k_is)
    (case e4=>k_is)
    (case k4=>k_is)
    (case a5=>k_is)
    (case l5=>k_is)
    (case e5=>k_is)
    (case k5=>k_is)
    (case a6=>k_is)
    (case l6=>k_is)
    (case e6=>k_is)
    (case k6=>k_is)
    (case a7=>k_is)
    (case l7=>k_is)
    (case e7=>k_is)
    (case k7=>k_is)
    (case a8=>k_is)
    (case l8=>k_is)
    (case e8=>k_is)
    (case k8=>k_is)
    (case a9=>k_is)
    (case l9=>k_is)
    (case e9=>k_is)
    (case k9=>k_is)
    (case a10=>k_is)
    (case l10=>k_is)
    (case e10=>k_is)
    (case k10=>k_is)
    (case a11=>k_is)
    (case l11=>k_is)
    (case e11=>k_is)
    (case k11=>k_is)
    (case a12=>k_is)
    (case l12=>k_is)
    (case e12=>k_is)
    (case k12=>k_is)
    (case a13=>k_is)
    (case l13=>k_is)
    (case e13=>k_is)
    (case k13=>k_is)
    (case a14=>k_is)
    (case l14=>k_is)
    (case e14=>k_is)
    (case k14=>k_is)
    (case a15=>k_is)
    (case l15=>k_is)
    (case e15=>k_is)
    (case k15=>k_is)
    (case a16=>k_is)
    (case l16=>k_is)
    (case e16=>k_is)
    (case k16=>k_is)
    (case a17=>k_is)
    (case l17=>k_is)
    (case e17=>k_is)
    (case k17=>k_is)
    (case a18=>k_is)
    (case l18=>k_is)
    (case e18=>k_is)
    (case k18=>k_is)
    (case a19=>k_is)
    (case l19=>k_is)
    (case e19=>k_is)
    (case k19=>k_is)
    (case a20=>k_is)
    (case l20=>k_is)
    (case e20=>k_is)
    (case k20=>k_is)
    (case a21=>k_is)
    (case l21=>k_is)
    (case e21=>k_is)
    (case k21=>k_is)
    (case a22=>k_is)
    (case l22=>k_is)
    (case e22=>k_is)
    (case k22=>k_is)
    (case a23=>k_is)
    (case l23=>k_is)
    (case e23=>k_is)
    (case k23=>k_is)
    (case a24=>k_is)
    (case l24=>k_is)
    (case e24=>k_is)
    (case k24=>k_is)
    (case a25=>k_is)
    (case l25=>k_is)
    (case e25=>k_is)
    (case k25=>k_is)
    (case a26=>k_is)
    (case l26=>k_is)
    (case e26=>k_is)
    (case k26=>k_is)
    (case a27=>k_is)
    (case l27=>k_is)
    (case e27=>k_is)
    (case k27=>k_is)
    (case a28=>k_is)
    (case l28=>k_is)
    (case e28=>k_is)
    (case k28=>k_is)
    (case a29=>k_is)
    (case l29=>k_is)
    (case e29=>k_is)
    (case k29=>k_is)
    (case a30=>k_is)
    (case l30=>k_is)
    (case e30=>k_is)
    (case k30=>k_is)
    (case a31=>k_is)
    (case l31=>k_is)
    (case e31=>k_is)
    (case k31=>k_is)
    (case a32=>k_is)
    (case l32=>k_is)
    (case e32=>k_is)
    (case k32=>k_is)
    (case a33=>k_is)
    (case l33=>k_is)
    (case e33=>k_is)
    (case k33=>k_is)
    (case a34=>k_is)
    (case l34=>k_is)
    (case e34=>k_is)
    (case k34=>k_is)
    (case a35=>k_is)
    (case l35=>k_is)
    (case e35=>k_is)
    (case k35=>k_is)
    (case a36=>k_is)
    (case l36=>k_is)
    (case e36=>k_is)
    (case k36=>k_is)
    (case a37=>k_is)
    (case l37=>k_is)
    (case e37=>k_is)
    (case k37=>k_is)
    (case a38=>k_is)
    (case l38=>k_is)
    (case e38=>k_is)
    (case k38=>k_is)
    (case a39=>k_is)
    (case l39=>k_is)
    (case e39=>k_is)
    (case k39=>k_is)
    (case a40=>k_is)
    (case l40=>k_is)
    (case e40=>k_is)
    (case k40=>k_is)
    (case a41=>k_is)
    (case l41=>k_is)
    (case e41=>k_is)
    (case k41=>k_is)
    (case a42=>k_is)
    (case l42=>k_is)
    (case e42=>k_is)
    (case k42=>k_is)
    (case a43=>k_is)
    (case l43=>k_is)
    (case e43=>k_is)
    (case k43=>k_is)
    (case ag_REST=>k_is)
    (case lg_REST=>k_is)
    (case lg0_REST=>k_is)
    (case lg1_REST=>k_is)
    (case ag_NOUGHT=>k_is)
    (case lg_NOUGHT=>k_is)
    (case y_abs=>k_is)
    (case y_zip=>k_is)
    (case y_range=>k_is)
    (case y_len=>k_is)
    (case y_tuple=>k_is)
    (case y_int=>k_is)
    (case y_list=>k_is)
    (case y_all=>k_is)
    (case y_max=>k_is)
    (case y_min=>k_is)
    (case y_isinstance=>k_is)
    (case y_bool=>k_is)
