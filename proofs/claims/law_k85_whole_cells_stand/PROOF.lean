import PyProof.Rows.All
import Wide.All
import OpenK.AllK
import Wide.FinOn
import Lean
import PyProof.EqAt
import PyProof.EqKinds
import PyProof.TupleCall
import PySem.Challenge.RW_hingedraw_k85_whole_cells_stand
set_option Elab.async false
set_option linter.all false
set_option maxRecDepth 100000
set_option Elab.async false
set_option linter.all false
set_option maxRecDepth 100000
namespace L2
open PySem PySem.Spec PyProof.Rows
abbrev Key:=Sum Int Str
def keyIs:Key->Value->Bool
  | .inl k,v=>Value.isInt k v
  | .inr x,v=>Value.isStrOf x v
def keyH (w:World):Key->Int
  | .inl k=>hashInt k
  | .inr x=>hashStr w x
theorem keyIs_shape:∀ {k:Key} {v:Value},keyIs k v=true->(∃ i t,k=Sum.inl i/\v=Value.int i t)\/(∃ x t,k=Sum.inr x/\v=Value.str x t)
  | .inl i,v,h=>by
    obtain⟨t,e⟩:=Value.isInt_shape (k:=i) (v:=v) h
    exact .inl ⟨i,t,rfl,e⟩
  | .inr x,v,h=>by
    obtain⟨t,e⟩:=Value.isStrOf_shape (x:=x) (v:=v) h
    exact .inr ⟨x,t,rfl,e⟩
theorem key_ll (a b:Int):decide ((Sum.inl a:Key)=Sum.inl b)=(a == b):=by
  by_cases e:a=b
  · subst e; simp
  · have h:¬ (Sum.inl a:Key)=Sum.inl b:=fun q=>e (Sum.inl.inj q)
    rw [decide_eq_false h]
    exact(beq_eq_false_iff_ne.mpr e).symm
theorem key_rr (a b:Str):decide ((Sum.inr a:Key)=Sum.inr b)=decide (a=b):=by
  by_cases e:a=b
  · subst e; simp
  · have h:¬ (Sum.inr a:Key)=Sum.inr b:=fun q=>e (Sum.inr.inj q)
    rw [decide_eq_false h,decide_eq_false e]
theorem key_lr (a:Int) (b:Str):decide ((Sum.inl a:Key)=Sum.inr b)=false:=decide_eq_false (fun q=>nomatch q)
theorem key_rl (a:Str) (b:Int):decide ((Sum.inr a:Key)=Sum.inl b)=false:=decide_eq_false (fun q=>nomatch q)
def mixKind (prog:Program) (w:World):PySem.KeyKind prog w Key where
  is:=keyIs
  hash:=keyH w
  inj:=fun v a b ha hb=>by
    rcases keyIs_shape ha with ⟨i,t,rfl,rfl⟩ | ⟨x,t,rfl,rfl⟩
    · rcases keyIs_shape hb with ⟨j,u,rfl,e⟩ | ⟨y,u,rfl,e⟩
      · injection e with e1 _; rw [e1]
      · exact nomatch e
    · rcases keyIs_shape hb with ⟨j,u,rfl,e⟩ | ⟨y,u,rfl,e⟩
      · exact nomatch e
      · injection e with e1 _; rw [e1]
  byValue:=fun k v h=>by
    rcases keyIs_shape h with ⟨i,t,rfl,rfl⟩ | ⟨x,t,rfl,rfl⟩ <;> rfl
  pyHash:=fun hv h=>by
    rcases keyIs_shape hv with ⟨i,t,rfl,rfl⟩ | ⟨x,t,rfl,rfl⟩
    · exact wpAny_pyHash_int h
    · exact wpAny_pyHash_str h
  eqBool:=fun hu hv h=>by
    rcases keyIs_shape hu with ⟨i,t,rfl,rfl⟩ | ⟨x,t,rfl,rfl⟩
    · rcases keyIs_shape hv with ⟨j,u,rfl,rfl⟩ | ⟨y,u,rfl,rfl⟩
      · rw [key_ll] at h; exact wpAny_eqBool_int h
      · rw [key_lr] at h; exact SeqAt.EqAt.int_str i t y u _ _ _ _ h
    · rcases keyIs_shape hv with ⟨j,u,rfl,rfl⟩ | ⟨y,u,rfl,rfl⟩
      · rw [key_rl] at h; exact SeqAt.EqAt.str_int x t j u _ _ _ _ h
      · rw [key_rr] at h; exact wpAny_eqBool_str h
  «strs»:=fun k x t v h=>by
    rcases keyIs_shape h with ⟨i,u,rfl,e⟩ | ⟨y,u,rfl,e⟩
    · exact nomatch e
    · injection e with e1 _
      subst e1
      cases v <;> rfl
inductive V where
  | non | bl (b:Bool) | int (i:Int) | str (x:Str) | byt (b:Array UInt8) | flt (b:UInt64) | ref (a:Addr) | ty (n:String)
  deriving DecidableEq
def RelV:V->Value->Prop
  | .non,u=>u=Value.none
  | .bl b,u=>u=Value.bool b
  | .int i,u=>∃ t,u=Value.int i t
  | .str x,u=>∃ t,u=Value.str x t
  | .byt b,u=>∃ t,u=Value.bytes b t
  | .flt b,u=>∃ t,u=Value.float b t
  | .ref a,u=>u=Value.ref a
  | .ty n,u=>u=Value.type n
abbrev Vals:List V->List Value->Prop:=Paired RelV
theorem Vals.length {xs:List V} {us:List Value} (r:Vals xs us):xs.length=us.length:=Paired.length r
theorem Vals.get:∀ {xs:List V} {us:List Value} {i:Nat} {x:V},Vals xs us->xs[i]?=some x->∃ u,us[i]?=some u/\RelV x u
  | _,_,_,_,.nil,e=>by simp at e
  | _,_,0,_,.cons r _,e=>by simp at e; subst e; exact⟨_,rfl,r⟩
  | _,_,i+1,x,.cons _ t,e=>by
    obtain⟨u,h1,h2⟩:=Vals.get (i:=i) (x:=x) t (by simpa using e)
    exact⟨u,by simpa using h1,h2⟩
theorem Vals.set {x:V} {u:Value} (r:RelV x u):∀ {xs:List V} {us:List Value} (i:Nat),Vals xs us->Vals (xs.set i x) (us.set i u)
  | _,_,_,.nil=>.nil
  | _,_,0,.cons _ t=>.cons r t
  | _,_,i+1,.cons q t=>.cons q (Vals.set r i t)
theorem Vals.append:∀ {xs ys:List V} {us ws:List Value},Vals xs us->Vals ys ws->Vals (xs++ys) (us++ws)
  | _,_,_,_,.nil,s=>s
  | _,_,_,_,.cons r t,s=>.cons r (Vals.append t s)
theorem Vals.take:∀ {xs:List V} {us:List Value} (n:Nat),Vals xs us->Vals (xs.take n) (us.take n)
  | _,_,0,_=>.nil
  | _,_,_+1,.nil=>.nil
  | _,_,n+1,.cons r t=>.cons r (Vals.take n t)
theorem Vals.drop:∀ {xs:List V} {us:List Value} (n:Nat),Vals xs us->Vals (xs.drop n) (us.drop n)
  | _,_,0,r=>r
  | _,_,_+1,.nil=>.nil
  | _,_,n+1,.cons _ t=>Vals.drop n t
def RelO:Option V->Option Value->Prop
  | some v,some u=>RelV v u
  | none,none=>True
  | _,_=>False
def KV {κ:Type}:List (κ×V)->List (κ×Value)->Prop:=Paired fun(p:κ×V) (q:κ×Value)=>p.1=q.1/\RelV p.2 q.2
def kV:Key->V
  | .inl i=>.int i
  | .inr x=>.str x
inductive HO where
  | lst (xs:List V)
  | tup (xs:List V)
  | dK (kvs:List (Key×V)) | dT (kvs:List (List Key×V))
  | set (S:Int->Bool) (n:Nat)
  | ins (C dx:Addr) (fs:List (Str×V))
  | own (x:Addr)
  | xd (fs:List (Str×V))
  | met (f x:Addr)
  | rng (lo hi:Int)
  | frz (o:Obj) (u:HO)
  | tbl (ps:Array Value)
  | ext (φ:Heap->Prop)
abbrev Hp:=Addr->Option HO
def upd (H:Hp) (a:Addr) (o:HO):Hp:=fun b=>if b=a then some o else H b
theorem upd_same {H:Hp} {a:Addr} {o:HO}:upd H a o a=some o:=by unfold upd; rw [if_pos rfl]
theorem upd_ne {H:Hp} {a b:Addr} {o:HO} (h:b≠a):upd H a o b=H b:=by unfold upd; rw [if_neg h]
theorem ne_of_none {H:Hp} {a b:Addr} {o:HO} (h:H a=some o) (h':H b=none):a≠b:=by
  intro e; subst e; rw [h] at h'; cases h'
section
variable (P:Program) (w:World)
def ObjOk (H:Hp) (h:Heap) (a:Addr):HO->Prop
  | .lst xs=>xs.length<=sizeLine/\∃ (its:List Value) (n:Nat),Vals xs its/\h.get? a=some {cls:=.type "list",data:=.seq its.toArray n}
  | .tup xs=>xs.length<=sizeLine/\∃ its:List Value,Vals xs its/\IsTup h a its.toArray
  | .dK kvs=>kvs.length<=sizeLine/\(a == sysModules)=false/\∃ vs,KV kvs vs/\h.DictOf (mixKind P w) a vs
  | .dT kvs=>kvs.length<=sizeLine/\(a == sysModules)=false/\∃ xs:List (List Key×Addr×Value),
      Paired (fun (p:List Key×V) (q:List Key×Addr×Value)=>p.1=q.1/\H q.2.1=some (.tup (p.1.map kV))/\RelV p.2 q.2.2) kvs xs/\
      ∃ o es ep,h.get? a=some o/\o.ExactDict/\o.data=.dict es ep/\es.toList=xs.map (entryOfKey (tupleKind (mixKind P w)))/\(xs.map (·.1)).Nodup
  | .set S n=>h.SetOf (intKind P w) a S n
  | .ins C dx fs=>H dx=some (.own a)/\fs.length<=1000/\dx≠a/\h.get? a=some (PySem.W.instObj C dx)/\
      ∃ mA,h.Ns1 dx mA/\(∀ f,RelO (fs.lookup f) (mA f))/\PySem.Within mA (fs.map (·.1))
  | .own _=>∃ o,h.get? a=some o
  | .xd fs=>∃ mA,h.Ns1 a mA/\∀ f,RelO (fs.lookup f) (mA f)
  | .rng lo hi=>∃ t u v,h.get? a=some {cls:=.type "range",data:=.fields #[.int lo t,.int hi u,.int 1 v]}
  | .frz o u=>h.get? a=some o/\ObjOk H h a u
  | .tbl ps=>h.get? a=some {cls:=.none,data:=.fields ps}
  | .met f x=>h.get? a=some (PySem.W.methodObj (.ref f) (.ref x))
  | .ext φ=>φ h/\(∃ o,h.get? a=some o)/\∀ h1 h2:Heap,φ h1->(∀ o,h1.get? a=some o->h2.get? a=some o)->φ h2
def HOk (H:Hp) (h:Heap):Prop:=∀ a o,H a=some o->ObjOk P w H h a o
end
section
variable {P:Program} {w:World} {H H':Hp} {h h':Heap} {a:Addr} {o:HO}
theorem ObjOk.lt (x:ObjOk P w H h a o):a < h.objs.size:=by
  cases o with
  | lst xs=>obtain⟨_,_,_,_,e⟩:=x; exact Heap.lt_size e
  | tup xs=>obtain⟨_,_,_,p⟩:=x; exact p.lt
  | dK kvs=>obtain⟨_,_,_,_,o,_,_,e,_⟩:=x; exact Heap.lt_size e
  | dT kvs=>obtain⟨_,_,_,_,o,_,_,e,_⟩:=x; exact Heap.lt_size e
  | set S n=>obtain⟨o,_,_,_,e,_⟩:=x; exact Heap.lt_size e
  | ins C dx fs=>obtain⟨_,_,_,e,_⟩:=x; exact Heap.lt_size e
  | own y=>obtain⟨_,e⟩:=x; exact Heap.lt_size e
  | xd fs=>obtain⟨_,⟨_,_,_,e,_⟩,_⟩:=x; exact Heap.lt_size e
  | rng lo hi=>obtain⟨_,_,_,e⟩:=x; exact Heap.lt_size e
  | frz ob u=>obtain⟨e,_⟩:=x; exact Heap.lt_size e
  | tbl ps=>exact Heap.lt_size (show h.get? a=some _ from x)
  | met f y=>exact Heap.lt_size (show h.get? a=some _ from x)
  | ext φ=>obtain⟨_,⟨_,e⟩,_⟩:=x; exact Heap.lt_size e
theorem Paired.mapP {α β:Type} {F G:α->β->Prop}:∀ {l₁:List α} {l₂:List β},Paired F l₁ l₂->(∀ a b,F a b->G a b)->Paired G l₁ l₂
  | _,_,.nil,_=>.nil
  | _,_,.cons r t,f=>.cons (f _ _ r) (Paired.mapP t f)
theorem ObjOk.stay (x:ObjOk P w H h a o) (k:∀ b u,(b=a\/H b=some (.own a))->h.get? b=some u->h'.get? b=some u)
    (ho:∀ b,H b=some (.own a)->H' b=some (.own a)) (ht:∀ b xs,H b=some (.tup xs)->H' b=some (.tup xs)):ObjOk P w H' h' a o:=by
  induction o with
  | lst xs=>obtain⟨z,its,n,r,e⟩:=x; exact⟨z,its,n,r,k _ _ (.inl rfl) e⟩
  | tup xs=>obtain⟨z,its,r,ob,e,c⟩:=x; exact⟨z,its,r,ob,k _ _ (.inl rfl) e,c⟩
  | dK kvs=>obtain⟨z,y,vs,r,ob,es,ep,e,c⟩:=x; exact⟨z,y,vs,r,ob,es,ep,k _ _ (.inl rfl) e,c⟩
  | dT kvs=>
    obtain⟨z,y,xs,r,ob,es,ep,e,c⟩:=x
    exact⟨z,y,xs,Paired.mapP r fun p q z=>⟨z.1,ht _ _ z.2.1,z.2.2⟩,ob,es,ep,k _ _ (.inl rfl) e,c⟩
  | set S n=>obtain⟨ob,es,ep,t,e,c⟩:=x; exact⟨ob,es,ep,t,k _ _ (.inl rfl) e,c⟩
  | ins C dx fs=>
    obtain⟨d,z,ne,e,mA,⟨od,es,ep,e2,c⟩,r⟩:=x
    exact⟨ho _ d,z,ne,k _ _ (.inl rfl) e,mA,⟨od,es,ep,k _ _ (.inr d) e2,c⟩,r⟩
  | own y=>obtain⟨ob,e⟩:=x; exact⟨ob,k _ _ (.inl rfl) e⟩
  | xd fs=>obtain⟨mA,⟨od,es,ep,e,c⟩,r⟩:=x; exact⟨mA,⟨od,es,ep,k _ _ (.inl rfl) e,c⟩,r⟩
  | rng lo hi=>obtain⟨t,u,v,e⟩:=x; exact⟨t,u,v,k _ _ (.inl rfl) e⟩
  | frz ob u ih=>obtain⟨e,q⟩:=x; exact⟨k _ _ (.inl rfl) e,ih q⟩
  | tbl ps=>
    have e:h.get? a=some {cls:=.none,data:=.fields ps}:=x
    show h'.get? a=some {cls:=.none,data:=.fields ps}
    exact k a _ (.inl rfl) e
  | met f y=>
    have e:h.get? a=some (PySem.W.methodObj (.ref f) (.ref y)):=x
    show h'.get? a=some (PySem.W.methodObj (.ref f) (.ref y))
    exact k a _ (.inl rfl) e
  | ext φ=>obtain⟨p,⟨o,e⟩,st⟩:=x; exact⟨st _ _ p fun o q=>k _ _ (.inl rfl) q,⟨o,k _ _ (.inl rfl) e⟩,st⟩
theorem HOk.lt (x:HOk P w H h) (e:H a=some o):a < h.objs.size:=(x a o e).lt
theorem HOk.fresh (x:HOk P w H h) (e:h.objs.size<=a):H a=none:=by
  cases q:H a with
  | none=>rfl
  | some u=>exact absurd (Nat.lt_of_lt_of_le (x.lt q) e) (Nat.lt_irrefl _)
theorem HOk.kept (x:HOk P w H h) (k:∀ b u,h.get? b=some u->h'.get? b=some u):HOk P w H h':=fun a o e=>
  (x a o e).stay (fun b u _ q=>k b u q) (fun _ q=>q) fun _ _ q=>q
theorem HOk.laid (x:HOk P w H h) (k:∀ b u,h.get? b=some u->h'.get? b=some u) (hp:h.objs.size<=a) (new:ObjOk P w (upd H a o) h' a o):HOk P w (upd H a o) h':=fun b u e=>by
  have hn:=x.fresh hp
  by_cases hb:b=a
  · subst hb; rw [upd_same] at e; cases e; exact new
  · rw [upd_ne hb] at e
    exact(x b u e).stay (fun c v _ q=>k c v q) (fun c q=>by rw [upd_ne (ne_of_none q hn)]; exact q) fun c xs q=>by rw [upd_ne (ne_of_none q hn)]; exact q
end
def Rd (H:Hp) (a:Addr) (u:HO):Prop:=H a=some u\/∃ o,H a=some (.frz o u)
theorem Rd.ok {P:Program} {w:World} {H:Hp} {h:Heap} {a:Addr} {u:HO} (r:Rd H a u) (x:HOk P w H h):ObjOk P w H h a u:=by
  rcases r with r | ⟨o,r⟩
  · exact x a u r
  · obtain⟨_,q⟩:=x a _ r
    exact q
def Mut:Option HO->Prop
  | some (.lst _)=>True
  | some (.dK _)=>True
  | some (.dT _)=>True
  | some (.set _ _)=>True
  | some (.ins _ _ _)=>True
  | some (.ext _)=>True
  | _=>False
section
variable {P:Program} {w:World} {H:Hp} {h h':Heap} {x e:Addr} {o':HO}
theorem HOk.write (ok:HOk P w H h) (mu:Mut (H x)) (he:e=x\/H e=some (.own x)) (k:∀ b u,b≠e->h.get? b=some u->h'.get? b=some u) (heo:∃ u,h'.get? e=some u)
    (new:ObjOk P w (upd H x o') h' x o'):HOk P w (upd H x o') h':=fun b u q=>by
  have nown:∀ c y,H c=some (.own y)->c≠x:=fun c y r z=>by subst z; rw [r] at mu; exact mu
  have ntup:∀ c xs,H c=some (.tup xs)->c≠x:=fun c xs r z=>by subst z; rw [r] at mu; exact mu
  by_cases hb:b=x
  · subst hb; rw [upd_same] at q; cases q; exact new
  · rw [upd_ne hb] at q
    by_cases hbe:b=e
    · have q':H b=some (.own x):=by
        rcases he with z | z
        · exact absurd (hbe.trans z) hb
        · rw [hbe]; exact z
      rw [q] at q'; cases q'
      obtain⟨v,hv⟩:=heo
      exact⟨v,by rw [hbe]; exact hv⟩
    · refine(ok b u q).stay (fun c v hc r=>k c v ?_ r) (fun c r=>by rw [upd_ne (nown c b r)]; exact r) fun c xs r=>by rw [upd_ne (ntup c xs r)]; exact r
      rcases hc with rfl | hc
      · exact hbe
      · rintro rfl
        rcases he with z | z
        · exact nown c b hc z
        · rw [hc] at z; cases z; exact hb rfl
end
structure Un (fs ex:List Addr) (H H':Hp) (h h':Heap):Prop where
  keep:∀ b o,h.get? b=some o->H b=none->b∉fs->b∉ex->h'.get? b=some o
  slot:∀ b o,h.get? b=some o->H b=none->b∈fs->b∉ex->∃ sl,h'.get? b=some {o with slots:=sl}
  free:∀ b o,h.get? b=some o->H b=none->b∉ex->H' b=none
  there:∀ b o,h.get? b=some o->b∉ex->∃ o',h'.get? b=some o'
  tups:∀ b xs,H b=some (.tup xs)->H' b=some (.tup xs)
  frzs:∀ b o u,H b=some (.frz o u)->H' b=some (.frz o u)
  tbls:∀ b ps,H b=some (.tbl ps)->∃ more,H' b=some (.tbl (ps++more))
section
variable {fs fs' ex ex':List Addr} {H H1 H2:Hp} {h h1 h2 h':Heap} {a x e:Addr} {o:HO}
theorem Un.any (u:Un fs ex H H1 h h1) {b:Addr} {ob:Obj} (q:h.get? b=some ob) (n:H b=none) (hx:b∉ex):∃ sl,h1.get? b=some {ob with slots:=sl}:=by
  by_cases hb:b∈fs
  · exact u.slot b ob q n hb hx
  · exact⟨ob.slots,u.keep b ob q n hb hx⟩
theorem Un.trans (a:Un fs ex H H1 h h1) (b:Un fs ex H1 H2 h1 h2):Un fs ex H H2 h h2 where
  keep:=fun c ob q n hc hx=>b.keep c ob (a.keep c ob q n hc hx) (a.free c ob q n hx) hc hx
  slot:=fun c ob q n hc hx=>by
    obtain⟨sl,e1⟩:=a.slot c ob q n hc hx
    obtain⟨sl',e2⟩:=b.slot c _ e1 (a.free c ob q n hx) hc hx
    exact⟨sl',e2⟩
  free:=fun c ob q n hx=>by
    obtain⟨o',e1⟩:=a.there c ob q hx
    exact b.free c o' e1 (a.free c ob q n hx) hx
  there:=fun c ob q hx=>by
    obtain⟨o',e1⟩:=a.there c ob q hx
    exact b.there c o' e1 hx
  tups:=fun c xs q=>b.tups c xs (a.tups c xs q)
  frzs:=fun c ob xs q=>b.frzs c ob xs (a.frzs c ob xs q)
  tbls:=fun c ps q=>by
    obtain⟨m1,e1⟩:=a.tbls c ps q
    obtain⟨m2,e2⟩:=b.tbls c _ e1
    exact⟨m1++m2,by rw [e2,Array.append_assoc]⟩
theorem Un.kept (k:∀ b u,h.get? b=some u->h'.get? b=some u):Un fs ex H H h h':=
  ⟨fun b ob q _ _ _=>k b ob q,fun b ob q _ _ _=>⟨ob.slots,k b ob q⟩,fun _ _ _ n _=>n,fun b ob q _=>⟨ob,k b ob q⟩,fun _ _ q=>q,fun _ _ _ q=>q,fun _ ps q=>⟨#[],by rw [q]; simp⟩⟩
theorem Un.refl:Un fs ex H H h h:=Un.kept fun _ _ q=>q
theorem Un.laid (k:∀ b u,h.get? b=some u->h'.get? b=some u) (hp:h.objs.size<=a) (hn:H a=none):Un fs ex H (upd H a o) h h' where
  keep:=fun b u q _ _ _=>k b u q
  slot:=fun b u q _ _ _=>⟨u.slots,k b u q⟩
  free:=fun b u q n _=>by rw [upd_ne (Nat.ne_of_lt (Nat.lt_of_lt_of_le (Heap.lt_size q) hp))]; exact n
  there:=fun b u q _=>⟨u,k b u q⟩
  tups:=fun b xs q=>by rw [upd_ne (ne_of_none q hn)]; exact q
  frzs:=fun b u xs q=>by rw [upd_ne (ne_of_none q hn)]; exact q
  tbls:=fun b ps q=>⟨#[],by rw [upd_ne (ne_of_none q hn),q]; simp⟩
theorem Un.write (mu:Mut (H x)) (he:e=x\/H e=some (.own x)) (k:∀ b u,b≠e->h.get? b=some u->h'.get? b=some u) (heo:∃ u,h'.get? e=some u):Un fs ex H (upd H x o) h h':=by
  have hx:∀ b,H b=none->b≠x:=fun b n z=>by subst z; rw [n] at mu; exact mu
  have hb:∀ b,H b=none->b≠e:=fun b n z=>by
    subst z
    rcases he with r | r
    · exact hx b n r
    · rw [n] at r; cases r
  have hm:∀ b u,H b=some u->¬ Mut (some u)->b≠x:=fun b u q nm z=>by subst z; rw [q] at mu; exact nm mu
  refine⟨fun b u q n _ _=>k b u (hb b n) q,fun b u q n _ _=>⟨u.slots,k b u (hb b n) q⟩,fun b u q n _=>by rw [upd_ne (hx b n)]; exact n,fun b u q _=>?_,
    fun b xs q=>by rw [upd_ne (hm b _ q fun z=>z)]; exact q,fun b u xs q=>by rw [upd_ne (hm b _ q fun z=>z)]; exact q,fun b ps q=>⟨#[],by rw [upd_ne (hm b _ q fun z=>z),q]; simp⟩⟩
  by_cases hbe:b=e
  · subst hbe; exact heo
  · exact⟨u,k b u hbe q⟩
end
def trk (h:Heap) (H:Hp):List Addr:=(List.range h.objs.size).filter fun a=>(H a).isSome
def hidT (h:Heap) (H:Hp):Heap:=PySem.W.hideAll h (trk h H)
theorem hidT_size (h:Heap) (H:Hp):(hidT h H).objs.size=h.objs.size:=PySem.W.hideAll_size _ _
theorem hidT_get {h:Heap} {H:Hp} {b:Addr} {o:Obj} (e:h.get? b=some o) (n:H b=none):(hidT h H).get? b=some o:=
  PySem.W.hideAll_get _ e fun hm=>by
    have q:(H b).isSome=true:=(List.mem_filter.mp hm).2
    rw [n] at q; simp at q
theorem of_hidT {h:Heap} {H:Hp} {b:Addr} {o:Obj} (e:(hidT h H).get? b=some o):h.get? b=some o/\H b=none:=by
  have e':h.get? b=some o:=PySem.W.of_hideAll (trk h H) e
  refine⟨e',?_⟩
  cases q:H b with
  | none=>rfl
  | some x=>
    have hm:b∈trk h H:=List.mem_filter.mpr ⟨List.mem_range.mpr (Heap.lt_size e'),by simp [q]⟩
    have z:(hidT h H).get? b=none:=PySem.W.hideAll_none (trk h H) hm
    rw [z] at e; cases e
def allNews (g h:Heap) (L:Addr):List (Addr×Obj):=(List.range h.objs.size).filterMap fun a=>if a=L\/(g.get? a).isSome=true then none else(h.get? a).map fun o=>(a,o)
def rest (g h:Heap) (L d:Addr):List (Addr×Obj):=(allNews g h L).filter fun p=>decide (p.1≠d)
structure Mod (K:PySem.W.Frag) (mg:Str->Option Value) (base:Heap):Prop where
  kin:K.In base
  glob:base.Ns mainGlobals mg
  blt:∃ mb,base.Ns builtinsNs mb/\∀ x:Str,x≠"__name__"->mb x=bootBuiltins x
  nolimit:base.NoLimit
structure Cx where
  prog:Program
  w:World
  K:PySem.W.Frag
  mg:Str->Option Value
  base:Heap
  A:Around
  N:List Str
  s₀:Shared
  H₀:Hp
  env:Env
  outer:List Env
  stack:List Env
  ex:List Addr
  fn:Str->Bool
  calm:Bool
  pn:List (Addr×Obj)
  xe:Value->Shared->Prop
def frs (l:List Env):List Addr:=l.filterMap (·.frame)
abbrev Cx.fs (X:Cx):List Addr:=frs X.outer
def Vis (sc:Scope) (x:Str):Prop:=sc.names.lookup x=some .local\/sc.names.lookup x=some .cell\/sc.names.lookup x=some .free
def Loc (sc:Scope) (x:Str):Prop:=sc.names.lookup x=some .local\/sc.names.lookup x=some .cell
def Look (env:Env) (h:Heap) (m:Str->Option Value) (x:Str) (u:Value):Prop:=
  (env.kindOf x=some .local/\m x=some u)\/((env.kindOf x=some .cell\/env.kindOf x=some .free)/\∃ c,env.cells.lookup x=some c/\h.IsCell c (some u))
structure Cx.Ok (X:Cx):Prop where
  mod:Mod X.K X.mg X.base
  kind:X.env.scope.kind=.function
  glob:X.env.globals=mainGlobals
  blt:X.env.builtins=builtinsNs
  above:X.s₀.heap.objs.size<=X.env.locals
  inj:∀ x y c,X.env.cells.lookup x=some c->X.env.cells.lookup y=some c->x=y
  has:∀ x,(X.env.kindOf x=some .cell\/X.env.kindOf x=some .free)->∃ c,X.env.cells.lookup x=some c
  cab:∀ x c,X.fn x=true->X.env.cells.lookup x=some c->X.s₀.heap.objs.size<=c
  hd:X.calm=true->X.A.handled=none
  frames:X.A.frames=some X.stack
  stk:X.stack=X.outer\/(X.stack=X.env::X.outer/\X.env.frame=some X.env.locals)
  exf:∀ b∈X.ex,b≠X.env.locals/\∀ x c,X.env.cells.lookup x=some c->c≠b
  bs:∀ b o,X.base.get? b=some o->X.s₀.heap.get? b=some o/\X.H₀ b=none
  bsz:X.base.objs.size<=X.s₀.heap.objs.size
  noex:∀ b o,X.base.get? b=some o->b∉X.ex
  exfs:∀ b∈X.ex,b∉X.fs
  funs:X.s₀.heap.FunFrames X.base X.outer
  frf:∀ b∈X.fs,X.H₀ b=none
structure Inv (X:Cx) (pins:List (Addr×Obj)) (σ:List (Option V)) (H:Hp) (s:Shared):Prop where
  ok:X.Ok
  os:s.os=X.s₀.os
  bare:AllBare s.gens
  base:Un X.fs X.ex X.H₀ H X.s₀.heap s.heap
  loc:∃ m,s.heap.Ns X.env.locals m/\∀ (i:Nat) (x:Str) (v:V),X.N[i]?=some x->σ[i]?=some (some v)->Vis X.env.scope x->∃ u,RelV v u/\Look X.env s.heap m x u
  cell:∀ x c,X.env.cells.lookup x=some c->∃ v,s.heap.IsCell c v
  free:H X.env.locals=none
  freeC:∀ x c,X.env.cells.lookup x=some c->H c=none
  pin:∀ p∈X.pn++pins,s.heap.get? p.1=some p.2/\H p.1=none/\p.1≠X.env.locals/\p.1∉X.fs/\∀ v,p.2.data≠.cell v
  hok:HOk X.prog X.w H s.heap
  len:σ.length=X.N.length
section
variable {X:Cx} {pins:List (Addr×Obj)} {σ:List (Option V)} {H H':Hp} {s:Shared} {h':Heap}
theorem Cx.Ok.nofr (ok:X.Ok) {b:Addr} {o:Obj} (e:X.base.get? b=some o):b∉X.fs:=fun hb=>by
  have:=(ok.funs.mem hb).1
  rw [e] at this; cases this
theorem Inv.bs (I:Inv X pins σ H s):∀ b o,X.base.get? b=some o->s.heap.get? b=some o/\H b=none:=fun b o e=>
  ⟨I.base.keep b o (I.ok.bs b o e).1 (I.ok.bs b o e).2 (I.ok.nofr e) (I.ok.noex b o e),I.base.free b o (I.ok.bs b o e).1 (I.ok.bs b o e).2 (I.ok.noex b o e)⟩
theorem Inv.bk (I:Inv X pins σ H s):∀ b o,X.base.get? b=some o->s.heap.get? b=some o:=fun b o e=>(I.bs b o e).1
theorem Inv.mod (I:Inv X pins σ H s):Mod X.K X.mg X.base:=I.ok.mod
theorem Inv.kIn (I:Inv X pins σ H s):X.K.In s.heap:=I.ok.mod.kin.keeps I.bk
theorem Inv.nolimit (I:Inv X pins σ H s):s.heap.NoLimit:=I.ok.mod.nolimit.keeps I.bk
theorem Inv.lt (I:Inv X pins σ H s):X.env.locals < s.heap.objs.size:=let ⟨_,hn,_⟩:=I.loc; hn.lt
theorem Inv.sz (I:Inv X pins σ H s):X.s₀.heap.objs.size<=s.heap.objs.size:=Nat.le_trans I.ok.above (Nat.le_of_lt I.lt)
theorem Inv.nofs (I:Inv X pins σ H s) {a:Addr} (h:s.heap.objs.size<=a):a∉X.fs:=fun hb=>by
  obtain⟨_,o,ho,_⟩:=I.ok.funs.mem hb
  exact absurd (Nat.lt_of_lt_of_le (Heap.lt_size ho) (Nat.le_trans I.sz h)) (Nat.lt_irrefl _)
theorem Inv.cne (I:Inv X pins σ H s):∀ x c,X.env.cells.lookup x=some c->c≠X.env.locals:=fun x c e z=>by
  obtain⟨v,o,ho,hd⟩:=I.cell x c e
  obtain⟨m,⟨o',es,ep,ho',hd',_⟩,_⟩:=I.loc
  rw [z,ho'] at ho; cases ho; rw [hd'] at hd; cases hd
theorem Inv.funs (I:Inv X pins σ H s):s.heap.FunFrames X.base X.outer:=by
  have all:∀ (l:List Env),(∀ b∈frs l,b∈X.fs)->X.s₀.heap.FunFrames X.base l->s.heap.FunFrames X.base l:=by
    intro l
    induction l with
    | nil=>intro _ _; trivial
    | cons env r ih=>
      intro hs hl
      obtain⟨hk,⟨L,o,hf,hn,ho,hd⟩,hr⟩:=hl
      have hL:L∈X.fs:=hs L (by unfold frs; rw [List.filterMap_cons,hf]; exact List.mem_cons_self)
      obtain⟨sl,e⟩:=I.base.slot L o ho (I.ok.frf L hL) hL fun z=>I.ok.exfs L z hL
      exact⟨hk,⟨L,_,hf,hn,e,hd⟩,ih (fun b hb=>hs b (by unfold frs; rw [List.filterMap_cons,hf]; exact List.mem_cons_of_mem _ hb)) hr⟩
  exact all X.outer (fun _ hb=>hb) I.ok.funs
theorem Inv.stack (I:Inv X pins σ H s):s.heap.FunFrames X.base X.stack:=by
  rcases I.ok.stk with e | ⟨e,hf⟩
  · rw [e]; exact I.funs
  · rw [e]
    obtain⟨m,hn,_⟩:=I.loc
    refine .cons (by rw [I.ok.kind]; decide) hf hn ?_ I.funs
    exact Heap.get?_none_of_le (Nat.le_trans I.ok.bsz I.ok.above)
theorem Inv.stkSub (I:Inv X pins σ H s):∀ b∈frs X.stack,b∈X.env.locals::X.fs:=fun b hb=>by
  rcases I.ok.stk with e | ⟨e,hf⟩
  · rw [e] at hb; exact List.mem_cons_of_mem _ hb
  · rw [e] at hb
    unfold frs at hb
    rw [List.filterMap_cons,hf] at hb
    exact hb
theorem Inv.stkFree (I:Inv X pins σ H s):∀ b∈frs X.stack,H b=none:=fun b hb=>by
  rcases List.mem_cons.mp (I.stkSub b hb) with e | hb
  · rw [e]; exact I.free
  · obtain⟨_,o,ho,_⟩:=I.ok.funs.mem hb
    exact I.base.free b o ho (I.ok.frf b hb) fun z=>I.ok.exfs b z hb
theorem Inv.step {g':Array GenState} {t':Nat} {d':Drawn} {ch:List Addr} (I:Inv X pins σ H s)
    (hch:∀ b∈ch,(b∈X.ex\/X.s₀.heap.objs.size<=b)/\b≠X.env.locals/\(∀ x c,X.env.cells.lookup x=some c->c≠b)/\∀ p∈X.pn++pins,p.1≠b)
    (keep:∀ b o,b≠X.env.locals->b∉X.fs->b∉ch->s.heap.get? b=some o->H b=none->h'.get? b=some o)
    (slot:∀ b o,b≠X.env.locals->b∈X.fs->b∉ch->s.heap.get? b=some o->H b=none->∃ sl,h'.get? b=some {o with slots:=sl}) (free:∀ b o,b∉ch->s.heap.get? b=some o->H b=none->H' b=none)
    (there:∀ b o,b∉ch->s.heap.get? b=some o->∃ o',h'.get? b=some o')
    (tups:∀ b xs,H b=some (.tup xs)->H' b=some (.tup xs)) (frzs:∀ b o u,H b=some (.frz o u)->H' b=some (.frz o u)) (tbls:∀ b ps,H b=some (.tbl ps)->∃ more,H' b=some (.tbl (ps++more)))
    (ns:∀ m,s.heap.Ns X.env.locals m->h'.Ns X.env.locals m) (hok:HOk X.prog X.w H' h') (hg:AllBare g'):
    Inv X pins σ H' {s with heap:=h',gens:=g',drawn:=d',toks:=t'}:=by
  have neL:∀ b o,X.s₀.heap.get? b=some o->b≠X.env.locals:=fun b o e=>Nat.ne_of_lt (Nat.lt_of_lt_of_le (Heap.lt_size e) I.ok.above)
  have neC:∀ b o,X.s₀.heap.get? b=some o->b∉X.ex->b∉ch:=fun b o e hx hb=>by
    rcases(hch b hb).1 with z | z
    · exact hx z
    · exact absurd (Nat.lt_of_lt_of_le (Heap.lt_size e) z) (Nat.lt_irrefl _)
  have cellK:∀ x c,X.env.cells.lookup x=some c->∀ v,s.heap.IsCell c v->h'.IsCell c v:=fun x c e v ⟨o,ho,hd⟩=>by
    have nch:c∉ch:=fun z=>(hch c z).2.2.1 x c e rfl
    by_cases hc:c∈X.fs
    · obtain⟨sl,q⟩:=slot c o (I.cne x c e) hc nch ho (I.freeC x c e)
      exact⟨_,q,hd⟩
    · exact⟨o,keep c o (I.cne x c e) hc nch ho (I.freeC x c e),hd⟩
  refine⟨I.ok,I.os,hg,⟨fun b o e n hb hx=>?_,fun b o e n hb hx=>?_,fun b o e n hx=>?_,fun b o e hx=>?_,fun b xs e=>tups b xs (I.base.tups b xs e),fun b o xs e=>frzs b o xs (I.base.frzs b o xs e),fun b ps e=>?_⟩,?_,fun x c e=>?_,?_,fun x c e=>?_,fun p hp=>?_,hok,I.len⟩
  · exact keep b o (neL b o e) hb (neC b o e hx) (I.base.keep b o e n hb hx) (I.base.free b o e n hx)
  · obtain⟨sl,e1⟩:=I.base.slot b o e n hb hx
    obtain⟨sl',e2⟩:=slot b _ (neL b o e) hb (neC b o e hx) e1 (I.base.free b o e n hx)
    exact⟨sl',e2⟩
  · obtain⟨o',e1⟩:=I.base.there b o e hx
    exact free b o' (neC b o e hx) e1 (I.base.free b o e n hx)
  · obtain⟨o',e1⟩:=I.base.there b o e hx
    exact there b o' (neC b o e hx) e1
  · obtain⟨m1,e1⟩:=I.base.tbls b ps e
    obtain⟨m2,e2⟩:=tbls b _ e1
    exact⟨m1++m2,by rw [e2,Array.append_assoc]⟩
  · obtain⟨m,hn,hl⟩:=I.loc
    refine⟨m,ns m hn,fun i x v e1 e2 e3=>?_⟩
    obtain⟨u,r,l⟩:=hl i x v e1 e2 e3
    refine⟨u,r,?_⟩
    rcases l with l | ⟨k,c,e,z⟩
    · exact .inl l
    · exact .inr ⟨k,c,e,cellK x c e _ z⟩
  · obtain⟨v,z⟩:=I.cell x c e
    exact⟨v,cellK x c e v z⟩
  · obtain⟨m,⟨o,_,_,ho,_⟩,_⟩:=I.loc
    exact free _ o (fun z=>(hch _ z).2.1 rfl) ho I.free
  · obtain⟨v,o,ho,hd⟩:=I.cell x c e
    exact free c o (fun z=>(hch c z).2.2.1 x c e rfl) ho (I.freeC x c e)
  · obtain⟨e,n,ne,nf,d⟩:=I.pin p hp
    have nch:p.1∉ch:=fun z=>(hch p.1 z).2.2.2 p hp rfl
    exact⟨keep p.1 p.2 ne nf nch e n,free p.1 p.2 nch e n,ne,nf,d⟩
theorem Inv.un {t':Nat} (I:Inv X pins σ H s) (u:Un X.fs [] H H' s.heap h') (hok:HOk X.prog X.w H' h'):Inv X pins σ H' {s with heap:=h',toks:=t'}:=by
  obtain⟨m,⟨o,es,ep,ho,r⟩,_⟩:=id I.loc
  obtain⟨sl,hL⟩:=u.any ho I.free (by simp)
  exact I.step (g':=s.gens) (d':=s.drawn) (ch:=[]) (fun _ z=>nomatch z) (fun b o _ hb _ e n=>u.keep b o e n hb (by simp)) (fun b o _ hb _ e n=>u.slot b o e n hb (by simp)) (fun b o _ e n=>u.free b o e n (by simp)) (fun b o _ e=>u.there b o e (by simp)) u.tups u.frzs u.tbls (fun m' hm=>by
    obtain⟨o',es',ep',ho',r'⟩:=hm
    rw [ho] at ho'; cases ho'
    exact⟨_,es',ep',hL,r'⟩) hok I.bare
theorem Inv.call {g':Array GenState} {t':Nat} {d':Drawn} {ch:List Addr} (I:Inv X pins σ H s) (u:Un (frs X.stack) ch H H' s.heap h') (hok:HOk X.prog X.w H' h') (hg:AllBare g')
    (hch:∀ b∈ch,(b∈X.ex\/X.s₀.heap.objs.size<=b)/\b≠X.env.locals/\(∀ x c,X.env.cells.lookup x=some c->c≠b)/\∀ p∈X.pn++pins,p.1≠b):
    Inv X pins σ H' {s with heap:=h',gens:=g',drawn:=d',toks:=t'}:=by
  obtain⟨m,⟨o,es,ep,ho,r⟩,_⟩:=id I.loc
  obtain⟨sl,hL⟩:=u.any ho I.free fun z=>(hch _ z).2.1 rfl
  exact I.step (ch:=ch) hch (fun b o hL hb hc e n=>u.keep b o e n (fun z=>(List.mem_cons.mp (I.stkSub b z)).elim hL hb) hc) (fun b o _ _ hc e n=>u.any e n hc) (fun b o hc e n=>u.free b o e n hc) (fun b o hc e=>u.there b o e hc) u.tups u.frzs u.tbls (fun m' hm=>by
    obtain⟨o',es',ep',ho',r'⟩:=hm
    rw [ho] at ho'; cases ho'
    exact⟨_,es',ep',hL,r'⟩) hok hg
theorem Inv.turned {t':Nat} {it:Addr} (I:Inv X pins σ H s) (k:∀ b o,b≠it->s.heap.get? b=some o->h'.get? b=some o) (hn:H it=none) (hL:it≠X.env.locals)
    (h1:it∈X.ex\/X.s₀.heap.objs.size<=it) (h2:∀ x c,X.env.cells.lookup x=some c->c≠it) (h3:∀ p∈X.pn++pins,p.1≠it):Inv X pins σ H {s with heap:=h',toks:=t'}:=by
  have nit:∀ b u,H b=some u->b≠it:=fun b u e z=>by rw [z,hn] at e; cases e
  refine I.step (g':=s.gens) (d':=s.drawn) (ch:=[it]) (fun b hb=>?_) (fun b o _ _ hc e _=>k b o (fun z=>hc (by simp [z])) e) (fun b o _ _ hc e _=>⟨o.slots,k b o (fun z=>hc (by simp [z])) e⟩) (fun _ _ _ _ n=>n)
    (fun b o hc e=>⟨o,k b o (fun z=>hc (by simp [z])) e⟩) (fun _ _ e=>e) (fun _ _ _ e=>e) (fun b ps e=>⟨#[],by rw [e]; simp⟩) (fun m hm=>?_) (fun b u e=>?_) I.bare
  · have e:b=it:=by simpa using hb
    subst e
    exact⟨h1,hL,h2,h3⟩
  · obtain⟨o,es,ep,ho,r⟩:=hm
    exact⟨o,es,ep,k _ o (Ne.symm hL) ho,r⟩
  · refine(I.hok b u e).stay (fun c v hc q=>k c v ?_ q) (fun _ q=>q) fun _ _ q=>q
    rcases hc with z | z
    · rw [z]; exact nit b u e
    · exact nit c _ z
theorem Inv.tok (I:Inv X pins σ H s) (t:Nat):Inv X pins σ H {s with toks:=t}:=I.un (h':=s.heap) (t':=t) Un.refl I.hok
theorem Inv.kept {t':Nat} (I:Inv X pins σ H s) (k:∀ b u,s.heap.get? b=some u->h'.get? b=some u):Inv X pins σ H {s with heap:=h',toks:=t'}:=I.un (Un.kept k) (I.hok.kept k)
theorem Inv.laid {a:Addr} {o:HO} {t':Nat} (I:Inv X pins σ H s) (k:∀ b u,s.heap.get? b=some u->h'.get? b=some u) (hp:s.heap.objs.size<=a) (new:ObjOk X.prog X.w (upd H a o) h' a o):
    Inv X pins σ (upd H a o) {s with heap:=h',toks:=t'}:=I.un (Un.laid k hp (I.hok.fresh hp)) (I.hok.laid k hp new)
theorem Inv.write {x e:Addr} {o:HO} {t':Nat} (I:Inv X pins σ H s) (mu:Mut (H x)) (he:e=x\/H e=some (.own x)) (k:∀ b u,b≠e->s.heap.get? b=some u->h'.get? b=some u) (heo:∃ u,h'.get? e=some u)
    (new:ObjOk X.prog X.w (upd H x o) h' x o):Inv X pins σ (upd H x o) {s with heap:=h',toks:=t'}:=I.un (Un.write mu he k heo) (I.hok.write mu he k heo new)
theorem Inv.pins_of {pins':List (Addr×Obj)} (I:Inv X pins σ H s) (h:∀ p∈pins',s.heap.get? p.1=some p.2/\H p.1=none/\p.1≠X.env.locals/\p.1∉X.fs/\∀ v,p.2.data≠.cell v):Inv X pins' σ H s:=
  ⟨I.ok,I.os,I.bare,I.base,I.loc,I.cell,I.free,I.freeC,fun p hp=>(List.mem_append.mp hp).elim (fun z=>I.pin p (List.mem_append_left _ z)) (h p),I.hok,I.len⟩
theorem nodup_ix {N:List Str} (hN:N.Nodup) {i j:Nat} {x:Str} (a:N[i]?=some x) (b:N[j]?=some x):i=j:=by
  obtain⟨h1,e1⟩:=List.getElem?_eq_some_iff.mp a
  obtain⟨h2,e2⟩:=List.getElem?_eq_some_iff.mp b
  exact(List.getElem_inj hN).mp (e1.trans e2.symm)
theorem store_ok2 {M:Model} {A:Around} {E:Value->Shared->Prop} {i:Nat} {x:Str} {v:V} {u:Value} {Q:Unit->Shared->Prop} (I:Inv X pins σ H s) (hN:X.N.Nodup) (hi:X.N[i]?=some x) (hx:Loc X.env.scope x) (r:RelV v u)
    (h:∀ s',Inv X pins (σ.set i (some v)) H s'->(∃ a,Heap.SameBut a s.heap s'.heap/\(a=X.env.locals\/X.env.cells.lookup x=some a))->Q () s') (hf:X.fn x=true\/X.env.scope.names.lookup x=some .local:=by first | exact .inl rfl | exact .inr rfl | assumption):wpAny M A (storeName X.env x u) Q E s:=by
  obtain⟨m,hn,hl⟩:=id I.loc
  have hcls:(X.env.scope.kind == .class || (X.env.scope.kind == .module && X.env.locals != X.env.globals))=false:=by rw [I.ok.kind]; rfl
  have hiσ:i < σ.length:=by rw [I.len]; exact(List.getElem?_eq_some_iff.mp hi).1
  have cne:=I.cne
  have tracked:∀ {a:Addr} {h':Heap},(∃ o,s.heap.get? a=some o/\H a=none)->Heap.SameBut a s.heap h'->HOk X.prog X.w H h':=fun {a h'} ha hs b ob e=>by
    obtain⟨_,_,hfree⟩:=ha
    refine(I.hok b ob e).stay (fun c w' hc q=>(hs.2 c ?_).trans q) (fun _ q=>q) fun _ _ q=>q
    rintro rfl
    rcases hc with rfl | hc
    · rw [hfree] at e; cases e
    · rw [hfree] at hc; cases hc
  rcases hx with hk | hk
  · refine wpAny_storeName_local hk hn (fun h' hn' hs=>?_) hcls
    obtain⟨oL,_,_,hoL,_⟩:=id hn
    refine h _ ⟨I.ok,I.os,I.bare,⟨fun b o e n hb hx=>?_,fun b o e n hb hx=>?_,I.base.free,fun b o e hx=>?_,I.base.tups,I.base.frzs,I.base.tbls⟩,⟨_,hn',fun j y v' e1 e2 e3=>?_⟩,fun y c e=>?_,I.free,I.freeC,fun p hp=>?_,tracked ⟨oL,hoL,I.free⟩ hs,by simpa using I.len⟩ ⟨_,hs,.inl rfl⟩
    · exact(hs.2 b (Nat.ne_of_lt (Nat.lt_of_lt_of_le (Heap.lt_size e) I.ok.above))).trans (I.base.keep b o e n hb hx)
    · obtain⟨sl,e1⟩:=I.base.slot b o e n hb hx
      exact⟨sl,(hs.2 b (Nat.ne_of_lt (Nat.lt_of_lt_of_le (Heap.lt_size e) I.ok.above))).trans e1⟩
    · obtain⟨o',e1⟩:=I.base.there b o e hx
      exact⟨o',(hs.2 b (Nat.ne_of_lt (Nat.lt_of_lt_of_le (Heap.lt_size e) I.ok.above))).trans e1⟩
    · by_cases hj:j=i
      · subst hj
        rw [hi] at e1; cases e1
        rw [List.getElem?_set_self hiσ] at e2
        cases e2
        exact⟨u,r,.inl ⟨hk,by simp⟩⟩
      · rw [List.getElem?_set_ne (Ne.symm hj)] at e2
        obtain⟨u',r',q⟩:=hl j y v' e1 e2 e3
        refine⟨u',r',?_⟩
        rcases q with ⟨k,e⟩ | ⟨k,c,e,z⟩
        · refine .inl ⟨k,?_⟩
          have:y≠x:=fun e=>hj (nodup_ix hN e1 (e▸hi))
          simp [this,e]
        · exact .inr ⟨k,c,e,z.sameBut hs (cne y c e)⟩
    · obtain⟨w',z⟩:=I.cell y c e
      exact⟨w',z.sameBut hs (cne y c e)⟩
    · obtain⟨e,n,ne,nf,d⟩:=I.pin p hp
      exact⟨(hs.2 p.1 ne).trans e,n,ne,nf,d⟩
  · have hfn:X.fn x=true:=by
      rcases hf with z | z
      · exact z
      · rw [z] at hk; cases hk
    obtain⟨c,hc⟩:=I.ok.has x (.inl hk)
    obtain⟨w',z⟩:=I.cell x c hc
    refine wpAny_storeName_cell I.ok.kind hk hc z (fun h' hc' hs=>?_)
    obtain⟨oc,hoc,hocd⟩:=id z
    refine h {s with heap:=h'} ⟨I.ok,I.os,I.bare,⟨fun b o e n hb hx=>?_,fun b o e n hb hx=>?_,I.base.free,fun b o e hx=>?_,I.base.tups,I.base.frzs,I.base.tbls⟩,⟨m,hn.sameBut hs (Ne.symm (cne x c hc)),fun j y v' e1 e2 e3=>?_⟩,fun y c' e=>?_,I.free,I.freeC,fun p hp=>?_,tracked ⟨oc,hoc,I.freeC x c hc⟩ hs,by simpa using I.len⟩ ⟨c,hs,.inr hc⟩
    · exact(hs.2 b (Nat.ne_of_lt (Nat.lt_of_lt_of_le (Heap.lt_size e) (I.ok.cab x c hfn hc)))).trans (I.base.keep b o e n hb hx)
    · obtain⟨sl,e1⟩:=I.base.slot b o e n hb hx
      exact⟨sl,(hs.2 b (Nat.ne_of_lt (Nat.lt_of_lt_of_le (Heap.lt_size e) (I.ok.cab x c hfn hc)))).trans e1⟩
    · obtain⟨o',e1⟩:=I.base.there b o e hx
      exact⟨o',(hs.2 b (Nat.ne_of_lt (Nat.lt_of_lt_of_le (Heap.lt_size e) (I.ok.cab x c hfn hc)))).trans e1⟩
    · by_cases hj:j=i
      · subst hj
        rw [hi] at e1; cases e1
        rw [List.getElem?_set_self hiσ] at e2
        cases e2
        exact⟨u,r,.inr ⟨.inl hk,c,hc,hc'⟩⟩
      · rw [List.getElem?_set_ne (Ne.symm hj)] at e2
        obtain⟨u',r',q⟩:=hl j y v' e1 e2 e3
        refine⟨u',r',?_⟩
        rcases q with q | ⟨k,c',e,z'⟩
        · exact .inl q
        · refine .inr ⟨k,c',e,z'.sameBut hs ?_⟩
          rintro rfl
          exact hj (nodup_ix hN e1 (I.ok.inj _ _ _ e hc▸hi))
    · by_cases hcc:c'=c
      · subst hcc; exact⟨_,hc'⟩
      · obtain⟨w2,z2⟩:=I.cell y c' e
        exact⟨w2,z2.sameBut hs hcc⟩
    · obtain⟨e,n,ne,nf,d⟩:=I.pin p hp
      refine⟨(hs.2 p.1 ?_).trans e,n,ne,nf,d⟩
      intro q
      rw [q,hoc] at e
      have q':oc=p.2:=Option.some.inj e
      exact d w' (by rw [<- q']; exact hocd)
theorem store_ok {M:Model} {A:Around} {E:Value->Shared->Prop} {i:Nat} {x:Str} {v:V} {u:Value} {Q:Unit->Shared->Prop} (I:Inv X pins σ H s) (hN:X.N.Nodup) (hi:X.N[i]?=some x) (hx:Loc X.env.scope x) (r:RelV v u)
    (h:∀ s',Inv X pins (σ.set i (some v)) H s'->Q () s') (hf:X.fn x=true\/X.env.scope.names.lookup x=some .local:=by first | exact .inl rfl | exact .inr rfl | assumption):wpAny M A (storeName X.env x u) Q E s:=
  store_ok2 I hN hi hx r (fun s' I' _=>h s' I') hf
theorem Inv.call' {s':Shared} {ch:List Addr} (I:Inv X pins σ H s) (ho:s'.os=s.os) (u:Un (frs X.stack) ch H H' s.heap s'.heap) (hok:HOk X.prog X.w H' s'.heap) (hg:AllBare s'.gens)
    (hch:∀ b∈ch,(b∈X.ex\/X.s₀.heap.objs.size<=b)/\b≠X.env.locals/\(∀ x c,X.env.cells.lookup x=some c->c≠b)/\∀ p∈X.pn++pins,p.1≠b):Inv X pins σ H' s':=by
  obtain⟨h',g',d',t',o'⟩:=s'
  have e:o'=s.os:=ho
  subst e
  exact I.call (g':=g') (t':=t') (d':=d') u hok hg hch
end
abbrev XK:=Value->Option Addr->Hp->Prop
abbrev St:=List (Option V)
abbrev VK:=V->Hp->Prop
abbrev TE:=St->Hp->VK->Prop
abbrev TT:=St->Hp->(Bool->Hp->Prop)->Prop
abbrev TA:=St->Hp->(List V->Hp->Prop)->Prop
structure Ends where
  nx:St->Hp->Prop
  rt:VK
  bk:St->Hp->Prop:=fun _ _=>False
  ct:St->Hp->Prop:=fun _ _=>False
abbrev TS:=Ends->St->Hp->Prop
def EP (X:Cx) (pins:List (Addr×Obj)) (σ:St) (Q:VK) (u:Value) (s':Shared):Prop:=∃ v H',Inv X pins σ H' s'/\RelV v u/\Q v H'
def TP (X:Cx) (pins:List (Addr×Obj)) (σ:St) (Q:Bool->Hp->Prop) (b:Bool) (s':Shared):Prop:=∃ H',Inv X pins σ H' s'/\Q b H'
def AP (X:Cx) (pins:List (Addr×Obj)) (σ:St) (Q:List V->Hp->Prop) (us:List Value) (s':Shared):Prop:=∃ vs H',Inv X pins σ H' s'/\Vals vs us/\Q vs H'
def SP (X:Cx) (pins:List (Addr×Obj)) (D:Ends) (f:Flow) (s':Shared):Prop:=
  match f with
  | .next=>∃ σ' H',Inv X pins σ' H' s'/\D.nx σ' H'
  | .brk=>∃ σ' H',Inv X pins σ' H' s'/\D.bk σ' H'
  | .cont=>∃ σ' H',Inv X pins σ' H' s'/\D.ct σ' H'
  | .ret u=>∃ v σ' H',Inv X pins σ' H' s'/\RelV v u/\D.rt v H'
def PE (X:Cx) (e:Expr) (t:TE):Prop:=
  ∀ (pins:List (Addr×Obj)) (s:Shared) (σ:St) (H:Hp) (Q:VK),Inv X pins σ H s->t σ H Q->wpAny (model X.prog X.w) X.A (eval e X.env) (EP X pins σ Q) X.xe s
def PT (X:Cx) (e:Expr) (t:TT):Prop:=
  ∀ (pins:List (Addr×Obj)) (s:Shared) (σ:St) (H:Hp) (Q:Bool->Hp->Prop),Inv X pins σ H s->t σ H Q->wpAny (model X.prog X.w) X.A (isTrue e X.env (eval e X.env)) (TP X pins σ Q) X.xe s
def PW (X:Cx) (e:Expr) (t:TT):Prop:=
  ∀ (whole:Sem Value) (pins:List (Addr×Obj)) (s:Shared) (σ:St) (H:Hp) (Q:Bool->Hp->Prop),Inv X pins σ H s->t σ H Q->wpAny (model X.prog X.w) X.A (isTrue e X.env whole) (TP X pins σ Q) X.xe s
theorem PW.pt {X:Cx} {e:Expr} {t:TT} (h:PW X e t):PT X e t:=h _
def PA (X:Cx) (es:List Expr) (t:TA):Prop:=
  ∀ (pos:Pos) (pins:List (Addr×Obj)) (s:Shared) (σ:St) (H:Hp) (Q:List V->Hp->Prop),Inv X pins σ H s->t σ H Q->wpAny (model X.prog X.w) X.A (spliced (backTo pos (starEach es X.env))) (AP X pins σ Q) X.xe s
def PS (X:Cx) (st:Stmt) (t:TS):Prop:=
  ∀ (pins:List (Addr×Obj)) (s:Shared) (σ:St) (H:Hp) (D:Ends),Inv X pins σ H s->t D σ H->wpAny (model X.prog X.w) X.A (exec st X.env) (SP X pins D) X.xe s
def PSs (X:Cx) (st:List Stmt) (t:TS):Prop:=
  ∀ (pins:List (Addr×Obj)) (s:Shared) (σ:St) (H:Hp) (D:Ends),Inv X pins σ H s->t D σ H->wpAny (model X.prog X.w) X.A (execs st X.env) (SP X pins D) X.xe s
theorem thn {α:Type} {t:Sem α} {Q Q':α->Shared->Prop} {M:Model} {A:Around} {E:Value->Shared->Prop} {s:Shared} (h:wpAny M A t Q E s) (hQ:∀ a s,Q a s->Q' a s):wpAny M A t Q' E s:=wpAny_mono h hQ fun _ _ x=>x
section
variable {X:Cx}
def tVar (i:Nat):TE:=fun σ H Q=>∃ v,σ[i]?=some (some v)/\Q v H
def tC (v:V):TE:=fun _ H Q=>Q v H
theorem pe_var {i:Nat} {x:Str} {pos:Pos} (hN:X.N[i]?=some x) (hv:Vis X.env.scope x) (hd:(x == ("__debug__":Str))=false:=by decide) (hcd:(x == ("__classdict__":Str))=false:=by decide):PE X (.Name x pos) (tVar i):=by
  intro pins s σ H Q I h
  obtain⟨v,e,h⟩:=h
  obtain⟨m,hn,hl⟩:=I.loc
  obtain⟨u,r,l⟩:=hl i x v hN e hv
  have fin:EP X pins σ Q u s:=⟨v,H,I,r,h⟩
  rcases l with ⟨hk,hm⟩ | ⟨hk,c,hc,hcell⟩
  · exact wpAny_Name (wpAny_loadName_local I.ok.kind hk hn hm fin) hd
  · rcases hk with hk | hk
    · exact wpAny_Name (wpAny_loadName_cell I.ok.kind hk hc hcell fin) hd
    · exact wpAny_Name (wpAny_loadName_free I.ok.kind hk hc hcell fin hcd) hd
theorem pe_int {i j pos}:PE X (.Constant (.int i) j pos) (tC (.int i)):=fun _ _ _ H _ I h=>wpAny_Constant_int ⟨.int i,H,I.tok _,⟨_,rfl⟩,h⟩
theorem pe_bl {b j pos}:PE X (.Constant (.bool b) j pos) (tC (.bl b)):=fun _ _ _ H _ I h=>Constant_bool ⟨.bl b,H,I,rfl,h⟩
theorem pe_non {j pos}:PE X (.Constant .none j pos) (tC .non):=fun _ _ _ H _ I h=>Constant_none ⟨.non,H,I,rfl,h⟩
theorem pe_str {x j pos}:PE X (.Constant (.str x) j pos) (tC (.str x)):=fun _ _ _ H _ I h=>Calls.Constant_str ⟨.str x,H,I.tok _,⟨_,rfl⟩,h⟩
def Gl (X:Cx) (x:Str):Prop:=X.env.kindOf x=some .globalImplicit
theorem ld_glob {E:Value->Shared->Prop} {pins:List (Addr×Obj)} {s:Shared} {σ:St} {H:Hp} {x:Str} {u:Value} {pos:Pos} {Q:Value->Shared->Prop} (I:Inv X pins σ H s) (hg:Gl X x) (hm:X.mg x=some u) (h:Q u s)
    (hd:(x == ("__debug__":Str))=false:=by decide):wpAny (model X.prog X.w) X.A (eval (.Name x pos) X.env) Q E s:=
  Calls.Name_function_global I.ok.kind hg (Calls.loadGlobal_global (by rw [I.ok.glob]; exact I.mod.glob.keeps I.bk) hm h) hd
theorem ld_blt {E:Value->Shared->Prop} {pins:List (Addr×Obj)} {s:Shared} {σ:St} {H:Hp} {x:Str} {u:Value} {pos:Pos} {Q:Value->Shared->Prop} (I:Inv X pins σ H s) (hg:Gl X x) (hm:X.mg x=none) (hv:bootBuiltins x=some u) (h:Q u s)
    (hn:x≠"__name__":=by decide) (hd:(x == ("__debug__":Str))=false:=by decide):wpAny (model X.prog X.w) X.A (eval (.Name x pos) X.env) Q E s:=by
  obtain⟨mb,h1,h2⟩:=I.mod.blt
  exact Calls.Name_function_global I.ok.kind hg (Calls.loadGlobal_builtin (by rw [I.ok.glob]; exact I.mod.glob.keeps I.bk) hm (by rw [I.ok.blt]; exact h1.keeps I.bk) ((h2 x hn).trans hv) h) hd
theorem pe_glob {x:Str} {v:V} {u:Value} {pos:Pos} (hg:Gl X x) (hm:X.mg x=some u) (r:RelV v u) (hd:(x == ("__debug__":Str))=false:=by decide):PE X (.Name x pos) (tC v):=
  fun _ _ _ H _ I h=>ld_glob I hg hm ⟨v,H,I,r,h⟩ hd
theorem pe_bltn {x:Str} {v:V} {u:Value} {pos:Pos} (hg:Gl X x) (hm:X.mg x=none) (hv:bootBuiltins x=some u) (r:RelV v u) (hn:x≠"__name__":=by decide) (hd:(x == ("__debug__":Str))=false:=by decide):PE X (.Name x pos) (tC v):=
  fun _ _ _ H _ I h=>ld_blt I hg hm hv ⟨v,H,I,r,h⟩ hn hd
variable {a b:Expr} {ta tb:TE} {pos:Pos}
def tB (t:TE):TT:=fun σ H Q=>t σ H fun x H1=>∃ c,x=.bl c/\Q c H1
theorem pt_val {e:Expr} {t:TE} (h:PE X e t) (he:∀ whole,isTrue e X.env whole=(do let v <- whole; standAt e.pos; holding [v] (truthy v)):=by intro _; rfl):PT X e (tB t):=by
  intro pins s σ H Q I hw
  refine isTrue_plain (thn (h pins s σ H _ I hw) fun v s1 ⟨x,H1,I1,r1,q1⟩=>?_) (he _)
  obtain⟨d,rfl,q⟩:=q1
  cases r1
  exact wpAny_truthy_bool ⟨H1,I1,q⟩
variable {tA tB':TT} {rest:List Expr}
def tOr (t u:TT):TT:=fun σ H Q=>t σ H fun c H1=>if c=true then Q true H1 else u σ H1 Q
def tNot (t:TT):TT:=fun σ H Q=>t σ H fun c H1=>Q (!c) H1
theorem pw_or1 (ha:PT X a tA):PW X (.BoolOp .Or [a] pos) tA:=by
  intro wh pins s σ H Q I h
  refine isTrue_or (thn (ha pins s σ H Q I h) fun c s1 e=>?_)
  cases c with
  | false=>exact isTrue_or_nil e
  | true=>exact e
theorem pw_or (ha:PT X a tA) (hb:PW X (.BoolOp .Or (b::rest) pos) tB'):PW X (.BoolOp .Or (a::b::rest) pos) (tOr tA tB'):=by
  intro wh pins s σ H Q I h
  refine isTrue_or (thn (ha pins s σ H _ I h) fun c s1 ⟨H1,I1,q1⟩=>?_)
  cases c with
  | true=>exact⟨H1,I1,q1⟩
  | false=>exact hb wh pins s1 σ H1 Q I1 q1
theorem pt_not (ha:PT X a tA):PT X (.UnaryOp .Not a pos) (tNot tA):=by
  intro pins s σ H Q I h
  exact isTrue_not (ha pins s σ H (fun c H1=>Q (!c) H1) I h)
def tAndV (ta tb:TE):TE:=fun σ H Q=>ta σ H fun x H1=>∃ c,x=.bl c/\if c=true then tb σ H1 Q else Q (.bl false) H1
def tNotV (ta:TE):TE:=fun σ H Q=>ta σ H fun x H1=>∃ c,x=.bl c/\Q (.bl (!c)) H1
theorem pe_one {op} {t:TE} (h:PE X a t):PE X (.BoolOp op [a] pos) t:=fun pins s σ H Q I hw=>BoolOp_one (h pins s σ H Q I hw)
theorem pe_and (ha:PE X a ta) (hb:PE X (.BoolOp .And (b::rest) pos) tb):PE X (.BoolOp .And (a::b::rest) pos) (tAndV ta tb):=by
  intro pins s σ H Q I h
  refine BoolOp_and (thn (ha pins s σ H _ I h) fun v s1 ⟨x,H1,I1,r1,q1⟩=>?_)
  obtain⟨c,rfl,q1⟩:=q1
  cases r1
  refine wpAny_truthy_bool ?_
  cases c with
  | true=>exact hb pins s1 σ H1 Q I1 q1
  | false=>exact⟨.bl false,H1,I1,rfl,q1⟩
theorem pe_not (ha:PE X a ta):PE X (.UnaryOp .Not a pos) (tNotV ta):=by
  intro pins s σ H Q I h
  refine UnaryOp_ (thn (ha pins s σ H _ I h) fun v s1 ⟨x,H1,I1,r1,q1⟩=>?_)
  obtain⟨c,rfl,q1⟩:=q1
  cases r1
  exact not_of (wpAny_truthy_bool ⟨.bl (!c),H1,I1,rfl,q1⟩)
def tIf (t:TT) (ta tb:TE):TE:=fun σ H Q=>t σ H fun c H1=>if c=true then ta σ H1 Q else tb σ H1 Q
theorem pe_ifExp {c:Expr} (hc:PT X c tA) (ha:PE X a ta) (hb:PE X b tb):PE X (.IfExp c a b pos) (tIf tA ta tb):=by
  intro pins s σ H Q I h
  refine wpAny_IfExp (thn (hc pins s σ H _ I h) fun d s1 ⟨H1,I1,q1⟩=>?_)
  cases d with
  | true=>exact ha pins s1 σ H1 Q I1 q1
  | false=>exact hb pins s1 σ H1 Q I1 q1
end
def SqL (K:PySem.W.Frag) (H:Hp) (a:Addr) (xs:List V):Prop:=
  Rd H a (.lst xs)\/
    ∃ (o:Obj) (its:Array Value) (n:Nat),K.lookup a=some o/\o.cls=.type "list"/\o.dict=none/\o.data=.seq its n/\its.size<=sizeLine/\Vals xs its.toList
def SqT (K:PySem.W.Frag) (H:Hp) (a:Addr) (xs:List V):Prop:=
  Rd H a (.tup xs)\/
    ∃ (o:Obj) (its:Array Value) (n:Nat),K.lookup a=some o/\o.cls=.type "tuple"/\o.data=.seq its n/\its.size<=sizeLine/\Vals xs its.toList
def absV:Value->Option V
  | .none=>some .non
  | .bool b=>some (.bl b)
  | .int i _=>some (.int i)
  | .str x _=>some (.str x)
  | .bytes b _=>some (.byt b)
  | .float b _=>some (.flt b)
  | .ref a=>some (.ref a)
  | .type n=>some (.ty n)
  | _=>none
theorem RelV.abs {x:V} {u:Value} (r:RelV x u):absV u=some x:=by
  cases x with
  | non=>cases r; rfl
  | bl _=>cases r; rfl
  | int _=>obtain⟨t,rfl⟩:=r; rfl
  | str _=>obtain⟨t,rfl⟩:=r; rfl
  | byt _=>obtain⟨t,rfl⟩:=r; rfl
  | flt _=>obtain⟨t,rfl⟩:=r; rfl
  | ref _=>cases r; rfl
  | ty _=>cases r; rfl
theorem RelV.inj {x y:V} {u:Value} (r:RelV x u) (q:RelV y u):x=y:=Option.some.inj (r.abs.symm.trans q.abs)
theorem Vals.inj:∀ {xs ys:List V} {us:List Value},Vals xs us->Vals ys us->xs=ys
  | _,_,_,.nil,.nil=>rfl
  | _,_,_,.cons r t,.cons r' t'=>by rw [r.inj r',Vals.inj t t']
section
variable {X:Cx} {pins:List (Addr×Obj)} {σ:St} {H:Hp} {s:Shared} {a:Addr} {xs ys:List V}
theorem SqL.of {K:PySem.W.Frag} (h:H a=some (.lst xs)):SqL K H a xs:=.inl (.inl h)
theorem SqT.of {K:PySem.W.Frag} (h:H a=some (.tup xs)):SqT K H a xs:=.inl (.inl h)
theorem Inv.list (I:Inv X pins σ H s) (h:SqL X.K H a xs):∃ its:List Value,Vals xs its/\PlainL s.heap a its.toArray/\xs.length<=sizeLine:=by
  rcases h with h | ⟨o,its,n,hk,hc,hd,hs,hz,r⟩
  · obtain⟨z,its,n,r,e⟩:=h.ok I.hok
    exact⟨its,r,⟨_,n,e,rfl,rfl,rfl⟩,z⟩
  · refine⟨its.toList,r,⟨o,n,I.kIn a o hk,hc,hd,by simpa using hs⟩,?_⟩
    have e:=r.length
    simp only [Array.length_toList] at e
    omega
theorem Inv.tuple (I:Inv X pins σ H s) (h:SqT X.K H a xs):∃ its:List Value,Vals xs its/\IsTup s.heap a its.toArray/\xs.length<=sizeLine:=by
  rcases h with h | ⟨o,its,n,hk,hc,hs,hz,r⟩
  · obtain⟨z,its,r,p⟩:=h.ok I.hok
    exact⟨its,r,p,z⟩
  · refine⟨its.toList,r,⟨o,I.kIn a o hk,hc,n,by simpa using hs⟩,?_⟩
    have e:=r.length
    simp only [Array.length_toList] at e
    omega
theorem Inv.list_inj (I:Inv X pins σ H s) (h:SqL X.K H a xs) (h':SqL X.K H a ys):xs=ys:=by
  obtain⟨its,r,⟨o,n,e,_,_,d⟩,_⟩:=I.list h
  obtain⟨its',r',⟨o',n',e',_,_,d'⟩,_⟩:=I.list h'
  rw [e] at e'; cases e'
  rw [d] at d'
  injection d' with d1 _
  have:its=its':=by simpa using congrArg Array.toList d1
  subst this
  exact r.inj r'
theorem Inv.tuple_inj (I:Inv X pins σ H s) (h:SqT X.K H a xs) (h':SqT X.K H a ys):xs=ys:=by
  obtain⟨its,r,⟨o,e,_,n,d⟩,_⟩:=I.tuple h
  obtain⟨its',r',⟨o',e',_,n',d'⟩,_⟩:=I.tuple h'
  rw [e] at e'; cases e'
  rw [d] at d'
  injection d' with d1 _
  have:its=its':=by simpa using congrArg Array.toList d1
  subst this
  exact r.inj r'
end
abbrev Cx.wish (X:Cx) (E:Value->Shared->Prop):Cx:={X with xe:=E}
abbrev Cx.nox (X:Cx):Cx:=X.wish fun _ _=>False
theorem Cx.Ok.wish {X:Cx} (ok:X.Ok) (E:Value->Shared->Prop):(X.wish E).Ok:=
  ⟨ok.mod,ok.kind,ok.glob,ok.blt,ok.above,ok.inj,ok.has,ok.cab,ok.hd,ok.frames,ok.stk,ok.exf,ok.bs,ok.bsz,ok.noex,ok.exfs,ok.funs,ok.frf⟩
theorem Cx.Ok.unwish {X:Cx} {E:Value->Shared->Prop} (ok:(X.wish E).Ok):X.Ok:=
  ⟨ok.mod,ok.kind,ok.glob,ok.blt,ok.above,ok.inj,ok.has,ok.cab,ok.hd,ok.frames,ok.stk,ok.exf,ok.bs,ok.bsz,ok.noex,ok.exfs,ok.funs,ok.frf⟩
section
variable {X:Cx} {pins:List (Addr×Obj)} {σ:St} {H:Hp} {s:Shared} {E:Value->Shared->Prop}
theorem Inv.wish (I:Inv X pins σ H s) (E:Value->Shared->Prop):Inv (X.wish E) pins σ H s:=⟨I.ok.wish E,I.os,I.bare,I.base,I.loc,I.cell,I.free,I.freeC,I.pin,I.hok,I.len⟩
theorem Inv.unwish (I:Inv (X.wish E) pins σ H s):Inv X pins σ H s:=⟨I.ok.unwish,I.os,I.bare,I.base,I.loc,I.cell,I.free,I.freeC,I.pin,I.hok,I.len⟩
theorem SP.unwish {D:Ends} {f:Flow} {s':Shared} (h:SP (X.wish E) pins D f s'):SP X pins D f s':=by
  cases f with
  | next=>obtain⟨σ',H',I,q⟩:=h; exact⟨σ',H',I.unwish,q⟩
  | brk=>obtain⟨σ',H',I,q⟩:=h; exact⟨σ',H',I.unwish,q⟩
  | cont=>obtain⟨σ',H',I,q⟩:=h; exact⟨σ',H',I.unwish,q⟩
  | ret u=>obtain⟨v,σ',H',I,r,q⟩:=h; exact⟨v,σ',H',I.unwish,r,q⟩
theorem PSs.nox {st:List Stmt} {t:TS} (h:PSs X.nox st t):PSs X st t:=fun pins s σ H D I hw=>
  wpAny_mono (h pins s σ H D (I.wish _) hw) (fun _ _ q=>q.unwish) fun _ _ z=>False.elim z
end
section
variable {X:Cx} {st:Stmt} {rest:List Stmt} {t u:TS} {e:Expr} {te:TE} {pos:Pos}
def tNext:TS:=fun D σ H=>D.nx σ H
def tSeq (t u:TS):TS:=fun D σ H=>t {D with nx:=u D} σ H
theorem pss_nil:PSs X [] tNext:=fun _ _ σ H _ I h=>wpAny_execs_nil ⟨σ,H,I,h⟩
theorem pss_cons (h1:PS X st t) (h2:PSs X rest u):PSs X (st::rest) (tSeq t u):=by
  intro pins s σ H D I h
  refine wpAny_execs_cons (thn (h1 pins s σ H {D with nx:=u D} I h) fun f s1 q=>?_)
  cases f with
  | next=>
    obtain⟨σ',H',I',q⟩:=q
    exact h2 pins s1 σ' H' D I' q
  | ret v=>exact q
  | brk=>exact q
  | cont=>exact q
theorem pss_one (h1:PS X st t):PSs X [st] t:=by
  intro pins s σ H D I h
  refine wpAny_execs_cons (thn (h1 pins s σ H D I h) fun f s1 q=>?_)
  cases f with
  | next=>exact wpAny_execs_nil q
  | ret v=>exact q
  | brk=>exact q
  | cont=>exact q
theorem Inv.quiet {pins:List (Addr×Obj)} {σ:St} {H:Hp} {s:Shared} (I:Inv X pins σ H s):interactive X.env=false:=by simp [interactive,I.ok.kind]
def tDrop (te:TE):TS:=fun D σ H=>te σ H fun _ H1=>D.nx σ H1
theorem ps_expr (he:PE X e te) (hs:swapsWith e none pos.line X.env=pure false:=by rfl):PS X (.Expr e pos) (tDrop te):=by
  intro pins s σ H D I h
  exact wpAny_Expr_any (thn (he pins s σ H _ I h) fun v s1 ⟨x,H1,I1,r1,q1⟩=>⟨σ,H1,I1,q1⟩) I.quiet hs
def tRet (te:TE):TS:=fun D σ H=>te σ H D.rt
theorem ps_ret (he:PE X e te):PS X (.Return (some e) pos) (tRet te):=by
  intro pins s σ H D I h
  exact wpAny_Return_some (thn (he pins s σ H _ I h) fun v s1 ⟨x,H1,I1,r1,q1⟩=>⟨x,σ,H1,I1,r1,q1⟩)
def tIfS (c:TT) (t u:TS):TS:=fun D σ H=>c σ H fun b H1=>if b=true then t D σ H1 else u D σ H1
theorem ps_if {c:Expr} {a b:List Stmt} {tc:TT} (hc:PT X c tc) (ha:PSs X a t) (hb:PSs X b u):PS X (.If c a b pos) (tIfS tc t u):=by
  intro pins s σ H D I h
  refine wpAny_If (thn (hc pins s σ H _ I h) fun d s1 ⟨H1,I1,q1⟩=>?_)
  cases d with
  | true=>exact ha pins s1 σ H1 D I1 q1
  | false=>exact hb pins s1 σ H1 D I1 q1
def tNever:TS:=fun _ _ _=>False
theorem ps_never:PS X st tNever:=fun _ _ _ _ _ _ h=>h.elim
end
abbrev TG:=V->St->Hp->(St->Hp->Prop)->Prop
abbrev TGs:=List V->St->Hp->(St->Hp->Prop)->Prop
def PG (X:Cx) (target:Expr) (t:TG):Prop:=
  ∀ (pins:List (Addr×Obj)) (s:Shared) (σ:St) (H:Hp) (v:V) (u:Value) (Q:St->Hp->Prop),Inv X pins σ H s->RelV v u->t v σ H Q->
    wpAny (model X.prog X.w) X.A (assign target X.env u) (fun _ s'=>∃ σ' H',Inv X pins σ' H' s'/\Q σ' H') X.xe s
def PGs (X:Cx) (ts:List Expr) (t:TGs):Prop:=
  ∀ (pins:List (Addr×Obj)) (s:Shared) (σ:St) (H:Hp) (vs:List V) (us:List Value) (Q:St->Hp->Prop),Inv X pins σ H s->Vals vs us->t vs σ H Q->
    wpAny (model X.prog X.w) X.A (assignInOrder ((assignEach ts X.env).map (·.2)) us) (fun _ s'=>∃ σ' H',Inv X pins σ' H' s'/\Q σ' H') X.xe s
abbrev TSet:=V->V->V->Hp->(Hp->Prop)->Prop
def PSet (X:Cx) (t:TSet):Prop:=
  ∀ (pins:List (Addr×Obj)) (s:Shared) (σ:St) (H:Hp) (o i v:V) (ov iv u:Value) (Q:Hp->Prop),Inv X pins σ H s->RelV o ov->RelV i iv->RelV v u->t o i v H Q->
    wpAny (model X.prog X.w) X.A (setItem ov iv u) (fun _ s'=>∃ H',Inv X pins σ H' s'/\Q H') X.xe s
section
variable {X:Cx} {pos:Pos}
def gName (i:Nat):TG:=fun v σ H Q=>Q (σ.set i (some v)) H
theorem pg_name {i:Nat} {x:Str} (hN:X.N.Nodup) (hi:X.N[i]?=some x) (hx:Loc X.env.scope x) (hf:X.fn x=true\/X.env.scope.names.lookup x=some .local:=by first | exact .inl rfl | exact .inr rfl | assumption):PG X (.Name x pos) (gName i):=by
  intro pins s σ H v u Q I r h
  exact wpAny_assign_Name (store_ok I hN hi hx r (fun s' I'=>⟨_,H,I',h⟩) hf)
def gNil:TGs:=fun vs σ H Q=>vs=[]/\Q σ H
def gCons (t:TG) (u:TGs):TGs:=fun vs σ H Q=>∃ v r,vs=v::r/\t v σ H fun σ' H'=>u r σ' H' Q
theorem pgs_nil:PGs X [] gNil:=by
  intro pins s σ H vs us Q I r h
  obtain⟨e,h⟩:=h
  subst e
  cases r
  exact assignInOrder_nil ⟨σ,H,I,h⟩
theorem pgs_cons {e:Expr} {es:List Expr} {t:TG} {u:TGs} (h1:PG X e t) (h2:PGs X es u)
    (hs:(assignEach (e::es) X.env).map (·.2)=assign e X.env::(assignEach es X.env).map (·.2):=by rfl):PGs X (e::es) (gCons t u):=by
  intro pins s σ H vs us Q I r h
  obtain⟨v,vr,e1,h⟩:=h
  subst e1
  cases r with
  | cons r rr=>
    rw [hs]
    refine assignInOrder_cons (thn (h1 pins s σ H _ _ _ I r h) fun _ s1 ⟨σ1,H1,I1,q1⟩=>?_)
    exact h2 pins s1 σ1 H1 _ _ Q I1 rr q1
def gTup (K:PySem.W.Frag) (n:Nat) (t:TGs):TG:=fun v σ H Q=>∃ a xs,v=.ref a/\SqT K H a xs/\xs.length=n/\t xs σ H Q
theorem pg_tup {es:List Expr} {k:Nat} {t:TGs} {n:Nat} (hc:X.calm=true) (h:PGs X es t)
    (hn:(assignEach es X.env).length=n:=by rfl) (hst:(assignEach es X.env).findIdx? (·.1)=none:=by rfl):PG X (.Tuple es k pos) (gTup X.K n t):=by
  intro pins s σ H v u Q I r hw
  obtain⟨a,xs,e1,hq,hl,hw⟩:=hw
  subst e1
  cases r
  obtain⟨its,rv,ht,hz⟩:=I.tuple hq
  refine assign_Tuple_tuple (I.ok.hd hc) ht (by simp [hn,<- hl,rv.length]) hst fun h' hx=>?_
  have I1:Inv X pins σ H {s with heap:=h'}:=I.kept (t':=s.toks) fun b o e=>hx b o (Nat.ne_of_lt (Heap.lt_size e)) e
  exact h pins _ σ H xs _ Q I1 (by simpa using rv) hw
def gSub (to ti:TE) (t:TSet):TG:=fun v σ H Q=>to σ H fun o H1=>ti σ H1 fun i H2=>t o i v H2 fun H3=>Q σ H3
theorem pg_sub {o i:Expr} {to ti:TE} {t:TSet} (ho:PE X o to) (hi:PE X i ti) (hs:PSet X t)
    (ha:∀ v,assign (.Subscript o i pos) X.env v=(do
      let ov <- holding [v] (eval o X.env)
      let iv <- holding [v,ov] (eval i X.env)
      standAt pos
      holding [v,ov,iv] (setItem ov iv v)
      release [v,ov,iv] []):=by intro _; rfl):PG X (.Subscript o i pos) (gSub to ti t):=by
  intro pins s σ H v u Q I r h
  rw [ha]
  refine wpAny_bind (wpAny_holding (thn (ho pins s σ H _ I h) fun ov s1 ⟨x,H1,I1,r1,q1⟩=>?_))
  refine wpAny_bind (wpAny_holding (thn (hi pins s1 σ H1 _ I1 q1) fun iv s2 ⟨y,H2,I2,r2,q2⟩=>?_))
  refine wpAny_bind (wpAny_standAt (wpAny_bind (wpAny_holding (thn (hs pins s2 σ H2 x y v ov iv u _ I2 r1 r2 r q2) fun _ s3 ⟨H3,I3,q3⟩=>?_))))
  exact wpAny_release ⟨σ,H3,I3,q3⟩
def tAsg (te:TE) (g:TG):TS:=fun D σ H=>te σ H fun x H1=>g x σ H1 D.nx
theorem ps_asg {tg e:Expr} {te:TE} {g:TG} (he:PE X e te) (hg:PG X tg g) (hs:swapsWithSole [tg] e pos.line X.env=pure false:=by rfl) (hw:swappedStores [tg] e X.env=pure none:=by rfl)
    (h1:(assignEach [tg] X.env).map (·.2)=[assign tg X.env]:=by rfl):PS X (.Assign [tg] e pos) (tAsg te g):=by
  intro pins s σ H D I h
  refine wpAny_Assign_stores (thn (he pins s σ H _ I h) fun v s1 ⟨x,H1,I1,r1,q1⟩=>?_) hs hw
  rw [h1]
  exact thn (hg pins s1 σ H1 x v _ I1 r1 q1) fun _ s2 q=>q
theorem ps_set {i:Nat} {x:Str} {e:Expr} {te:TE} {pos':Pos} (hN:X.N.Nodup) (hi:X.N[i]?=some x) (hx:Loc X.env.scope x) (he:PE X e te) (hs:swapsWith e (some (.Name x pos')) pos.line X.env=pure false:=by rfl) (hf:X.fn x=true\/X.env.scope.names.lookup x=some .local:=by first | exact .inl rfl | exact .inr rfl | assumption):
    PS X (.Assign [.Name x pos'] e pos) (tAsg te (gName i)):=by
  intro pins s σ H D I h
  refine wpAny_Assign_Name (thn (he pins s σ H _ I h) fun v s1 ⟨y,H1,I1,r1,q1⟩=>?_) hs
  exact store_ok I1 hN hi hx r1 (fun s2 I2=>⟨_,H1,I2,q1⟩) hf
def tPar (i j:Nat) (ta:TA):TS:=fun D σ H=>ta σ H fun vs H1=>∃ v w,vs=[v,w]/\D.nx ((σ.set i (some v)).set j (some w)) H1
theorem ps_par {i j:Nat} {x y:Str} {a b:Expr} {ta:TA} {px py pt:Pos} {kt k2 pt2} (hc:X.calm=true) (hN:X.N.Nodup) (hi:X.N[i]?=some x) (hj:X.N[j]?=some y) (hij:i≠j)
    (hx:X.env.scope.names.lookup x=some .local) (hy:X.env.scope.names.lookup y=some .local) (ha:PA X [a,b] ta)
    (hw:swappedStores [.Tuple [.Name x px,.Name y py] kt pt] (.Tuple [a,b] k2 pt2) X.env=pure (some [x,y]))
    (hs:swapsWithSole [.Tuple [.Name x px,.Name y py] kt pt] (.Tuple [a,b] k2 pt2) pos.line X.env=pure false:=by rfl):
    PS X (.Assign [.Tuple [.Name x px,.Name y py] kt pt] (.Tuple [a,b] k2 pt2) pos) (tPar i j ta):=by
  intro pins s σ H D I h
  rw [exec_Assign_arm]
  refine wpAny_bind (wpAny_standAt ?_)
  rw [hs]
  refine wpAny_bind (wpAny_pure ?_)
  rw [if_neg (by decide)]
  refine wpAny_bind (Tuple_ (thn (ha _ pins s σ H _ I h) fun us s1 ⟨vs,H1,I1,r1,q1⟩=>?_))
  obtain⟨v,w,e1,q1⟩:=q1
  subst e1
  obtain⟨u1,u2,rfl,rv,rw'⟩:∃ u1 u2,us=[u1,u2]/\RelV v u1/\RelV w u2:=by
    cases r1 with
    | cons p q=>
      cases q with
      | cons p' q'=>
        cases q'
        exact⟨_,_,rfl,p,p'⟩
  refine wpAny_newObj_type ?_ (by show 2<=sizeLine; decide)
  have I2:Inv X pins σ H1 {s1 with heap:=s1.heap.push {cls:=.type "tuple",data:=.seq [u1,u2].toArray}}:=I1.kept (t':=s1.toks) fun b o e=>Heap.get?_push_of_some _ e
  rw [hw]
  refine wpAny_bind (wpAny_pure ?_)
  show wpAny (model X.prog X.w) X.A (do rule "assign.swapped-stores"; let items <- unpackItems (.ref s1.heap.objs.size) 2 none; assignInOrder [fun v=>bindName X.env y v,fun v=>bindName X.env x v] items.reverse; pure Flow.next) _ _ _
  refine wpAny_bind (wpAny_rule (wpAny_bind (unpackItems_tuple (items:=#[u1,u2]) (I.ok.hd hc) (IsTup.new s1.heap _) fun h' hx'=>?_)))
  have I3:=I2.kept (h':=h') (t':=s1.toks) fun b o e=>hx' b o (Nat.ne_of_lt (Heap.lt_size e)) e
  show wpAny _ _ (assignInOrder [fun v=>bindName X.env y v,fun v=>bindName X.env x v] [u2,u1] >>= fun _=>pure Flow.next) _ _ _
  refine wpAny_bind (assignInOrder_cons (wpAny_bindName (store_ok I3 hN hj (.inl hy) rw' (fun s2 I4=>?_) (.inr hy))))
  refine assignInOrder_cons (wpAny_bindName (store_ok I4 hN hi (.inl hx) rv (fun s3 I5=>assignInOrder_nil (wpAny_pure ?_)) (.inr hx)))
  rw [List.set_comm _ _ (Ne.symm hij)] at I5
  exact⟨_,H1,I5,q1⟩
end
section
variable {X:Cx} {pos:Pos}
def tWhile (c:TT) (tb:TS):TS:=fun D σ H=>∃ W:Nat->St->Hp->Prop,(∃ m,W m σ H)/\∀ m σ H,W m σ H->
  c σ H fun b H1=>if b=true then ∃ N:St->Hp->Prop,(∀ σ' H',N σ' H'->∃ m',m' < m/\W m' σ' H')/\tb {D with nx:=N,ct:=N,bk:=D.nx} σ H1 else D.nx σ H1
theorem ps_while {c:Expr} {body:List Stmt} {tc:TT} {tb:TS} (hp:PassesOwn (model X.prog X.w) X.A X.env X.xe) (hc:PT X c tc) (hb:PSs X body tb):PS X (.While c body [] pos) (tWhile tc tb):=by
  intro pins s σ H D I h
  obtain⟨W,⟨m0,w0⟩,turn⟩:=h
  refine wpAny_While (codeAny_whileLoop (fun n s'=>∃ σ' H',Inv X pins σ' H' s'/\W n σ' H') ?_ m0 ⟨σ,H,I,w0⟩)
  rintro n s1 ⟨σ1,H1,I1,w1⟩
  refine wpAny_passesOwn hp (thn (hc pins s1 σ1 H1 _ I1 (turn n σ1 H1 w1)) fun b s2 ⟨H2,I2,q2⟩=>?_)
  cases b with
  | true=>
    obtain⟨N,hN,q2⟩:=q2
    rw [if_pos rfl]
    refine wpAny_passesOwn hp (thn (hb pins s2 σ1 H2 _ I2 q2) fun f s3 q3=>?_)
    cases f with
    | next=>
      obtain⟨σ3,H3,I3,n3⟩:=q3
      obtain⟨m',hm,w3⟩:=hN σ3 H3 n3
      exact⟨m',hm,σ3,H3,I3,w3⟩
    | cont=>
      obtain⟨σ3,H3,I3,n3⟩:=q3
      obtain⟨m',hm,w3⟩:=hN σ3 H3 n3
      exact⟨m',hm,σ3,H3,I3,w3⟩
    | brk=>exact q3
    | ret v=>exact q3
  | false=>
    rw [if_neg Bool.false_ne_true]
    exact wpAny_execs_nil ⟨σ1,H2,I2,q2⟩
end
structure It where
  go:Nat->Hp->Prop
  yld:Nat->Hp->V->Hp->Prop
  stop:Nat->Hp->Prop
def FpOk (X:Cx) (pins:List (Addr×Obj)) (H:Hp) (b:Addr):Prop:=
  H b=none/\b≠X.env.locals/\b∉X.fs/\(b∈X.ex\/X.s₀.heap.objs.size<=b)/\(∀ x c,X.env.cells.lookup x=some c->c≠b)/\∀ p∈X.pn++pins,p.1≠b
theorem Inv.fpOk {X:Cx} {pins:List (Addr×Obj)} {σ:St} {H H':Hp} {s:Shared} {b:Addr} (I:Inv X pins σ H s) (hb:s.heap.objs.size<=b) (hn:H' b=none):FpOk X pins H' b:=by
  refine⟨hn,Nat.ne_of_gt (Nat.lt_of_lt_of_le I.lt hb),I.nofs hb,.inr (Nat.le_trans I.sz hb),fun x c e z=>?_,fun p hp z=>?_⟩
  · obtain⟨v,q⟩:=I.cell x c e
    exact absurd (Nat.lt_of_lt_of_le q.lt (by rw [z]; exact hb)) (Nat.lt_irrefl _)
  · exact absurd (Nat.lt_of_lt_of_le (Heap.lt_size (I.pin p hp).1) (by rw [z]; exact hb)) (Nat.lt_irrefl _)
structure Turn (P:Program) (w:World) (K:PySem.W.Frag) (tg:Expr) (J:It) (fp:List Addr) (it:Addr) (tn:Nat->Heap->Prop):Prop where
  mem:it∈fp
  obj:∀ i h,tn i h->∀ b∈fp,∃ o,h.get? b=some o/\∀ v,o.data≠.cell v
  keep:∀ i h h',tn i h->(∀ b∈fp,∀ o,h.get? b=some o->h'.get? b=some o)->tn i h'
  item:∀ (X:Cx),X.prog=P->X.w=w->X.K=K->X.calm=true->∀ (i:Nat) (pins:List (Addr×Obj)) (s:Shared) (σ:St) (H:Hp) (E:Value->Shared->Prop),Inv X pins σ H s->(∀ b∈fp,FpOk X pins H b)->tn i s.heap->J.go i H->
    wpAny (model P w) X.A (pyNext (.ref it)) (fun r s1=>∃ u,r=some u/\
      wpAny (model P w) X.A (letOwnedTupleGo tg (.ref it) u) (fun _ s2=>∃ x H',Inv X pins σ H' s2/\RelV x u/\J.yld i H x H'/\tn (i+1) s2.heap/\∀ b∈fp,H' b=none) E s1) E s
  done:∀ (X:Cx),X.prog=P->X.w=w->X.K=K->X.calm=true->∀ (i:Nat) (pins:List (Addr×Obj)) (s:Shared) (σ:St) (H:Hp) (E:Value->Shared->Prop),Inv X pins σ H s->(∀ b∈fp,FpOk X pins H b)->tn i s.heap->J.stop i H->
    wpAny (model P w) X.A (pyNext (.ref it)) (fun r s1=>r=none/\Inv X pins σ H s1) E s
  self:∀ (A:Around) (i:Nat) (s:Shared) (Q:Value->Shared->Prop) (E:Value->Shared->Prop),tn i s.heap->Q (.ref it) s->wpAny (model P w) A (pyIter (.ref it)) Q E s
abbrev TI:=St->Hp->(It->Hp->Prop)->Prop
def PIE (X:Cx) (pins:List (Addr×Obj)) (σ:St) (tg:Expr) (R:It->Hp->Prop) (itv:Value) (s2:Shared):Prop:=
  ∃ (it:Addr) (fp:List Addr) (tn:Nat->Heap->Prop) (J:It) (H':Hp),itv=.ref it/\Inv X pins σ H' s2/\Turn X.prog X.w X.K tg J fp it tn/\tn 0 s2.heap/\(∀ b∈fp,FpOk X pins H' b)/\R J H'
def PI (X:Cx) (tg iter:Expr) (wi:TI):Prop:=
  ∀ (pins:List (Addr×Obj)) (s:Shared) (σ:St) (H:Hp) (R:It->Hp->Prop),Inv X pins σ H s->wi σ H R->
    wpAny (model X.prog X.w) X.A (eval iter X.env) (fun v s1=>wpAny (model X.prog X.w) X.A (pyIter v) (PIE X pins σ tg R) X.xe s1) X.xe s
theorem go_of {M:Model} {A:Around} {E:Value->Shared->Prop} {s:Shared} {tg:Expr} {it:Addr} {u:Value} {o:Obj} {n:String} {vs:Array Value} {Q:Unit->Shared->Prop} (ho:s.heap.get? it=some o) (hc:o.cls=.type n) (hd:o.data=.fields vs)
    (hn:["enumerate","zip","dict_itemiterator","dict_reverseitemiterator","odict_iterator","itertools.zip_longest","itertools.pairwise"].contains n=false) (hQ:Q () s):wpAny M A (letOwnedTupleGo tg (.ref it) u) Q E s:=by
  unfold letOwnedTupleGo
  cases tg <;> first
    | exact wpAny_pure hQ
    | (cases u <;> first
        | exact wpAny_pure hQ
        | (refine wpAny_bind (wpAny_load ho ?_)
           rw [hc,hd]
           show wpAny M A (if (["enumerate","zip","dict_itemiterator","dict_reverseitemiterator","odict_iterator","itertools.zip_longest","itertools.pairwise"].contains n && vs[0]? == some (rawInt _))=true then _ else _) Q E s
           rw [if_neg (by intro h; rw [hn,Bool.false_and] at h; cases h)]
           exact wpAny_pure hQ))
def Itl (K:PySem.W.Frag) (a:Addr):It:=
  ⟨fun i H=>∃ xs x,SqL K H a xs/\xs[i]?=some x,fun i H x H'=>H'=H/\∀ xs,SqL K H a xs->xs[i]?=some x,fun i H=>∃ xs,SqL K H a xs/\xs.length<=i⟩
def Itt (K:PySem.W.Frag) (a:Addr):It:=
  ⟨fun i H=>∃ xs x,SqT K H a xs/\xs[i]?=some x,fun i H x H'=>H'=H/\∀ xs,SqT K H a xs->xs[i]?=some x,fun i H=>∃ xs,SqT K H a xs/\xs.length<=i⟩
def Itr (lo:Int) (n:Nat):It:=⟨fun i _=>i < n,fun i H x H'=>H'=H/\x=.int (lo+i),fun i _=>n<=i⟩
theorem turn_list {P:Program} {w:World} {K:PySem.W.Frag} {tg:Expr} (a it:Addr):Turn P w K tg (Itl K a) [it] it (fun i h=>h.IsListIter it a i) where
  mem:=by simp
  obj:=fun i h st b hb=>by
    have e:b=it:=by simpa using hb
    subst e
    obtain⟨o,e,c,d⟩:=st
    exact⟨o,e,fun v z=>by rw [d] at z; cases z⟩
  keep:=fun i h h' st k=>st.at fun o e=>k it (by simp) o e
  item:=by
    intro X hP hw hK hc i pins s σ H E I hf st hg
    subst hP hw hK
    obtain⟨xs,x,hq,hx⟩:=hg
    obtain⟨its,rv,p,hz⟩:=I.list hq
    obtain⟨u,hu,ru⟩:=rv.get hx
    obtain⟨f0,f1,f2,f3,f4,f5⟩:=hf it (by simp)
    refine wpAny_pyNext_list_item st p.isList (x:=u) (by simpa using hu) fun h' st' sb=>?_
    have I1:Inv X pins σ H {s with heap:=h'}:=I.turned (t':=s.toks) (fun b o hb e=>(sb.2 b hb).trans e) f0 f1 f3 f4 f5
    obtain⟨o,e,c,d⟩:=id st'
    exact⟨u,rfl,go_of (s:={s with heap:=h'}) e c d (by decide) ⟨x,H,I1,ru,⟨rfl,fun ys hy=>by rw [I.list_inj hy hq]; exact hx⟩,st',fun b hb=>(hf b hb).1⟩⟩
  done:=by
    intro X hP hw hK hc i pins s σ H E I hf st hg
    subst hP hw hK
    obtain⟨xs,hq,hx⟩:=hg
    obtain⟨its,rv,p,hz⟩:=I.list hq
    obtain⟨f0,f1,f2,f3,f4,f5⟩:=hf it (by simp)
    have hl:=rv.length
    exact wpAny_pyNext_list_end (I.ok.hd hc) st p.isList (by simp; omega) fun h' eb=>⟨rfl,I.turned (t':=s.toks) (fun b o hb e=>eb b o hb e) f0 f1 f3 f4 f5⟩
  self:=fun _ _ _ _ _ st h=>wpAny_pyIter_listiter st h
theorem turn_tuple {P:Program} {w:World} {K:PySem.W.Frag} {tg:Expr} (a it:Addr):Turn P w K tg (Itt K a) [it] it (fun i h=>h.IsTupleIter it a i) where
  mem:=by simp
  obj:=fun i h st b hb=>by
    have e:b=it:=by simpa using hb
    subst e
    obtain⟨o,e,c,d⟩:=st
    exact⟨o,e,fun v z=>by rw [d] at z; cases z⟩
  keep:=fun i h h' st k=>st.at fun o e=>k it (by simp) o e
  item:=by
    intro X hP hw hK hc i pins s σ H E I hf st hg
    subst hP hw hK
    obtain⟨xs,x,hq,hx⟩:=hg
    obtain⟨its,rv,p,hz⟩:=I.tuple hq
    obtain⟨u,hu,ru⟩:=rv.get hx
    obtain⟨f0,f1,f2,f3,f4,f5⟩:=hf it (by simp)
    refine wpAny_pyNext_tuple_item st (show s.heap.IsTuple a its.toArray from p) (x:=u) (by simpa using hu) fun h' st' sb=>?_
    have I1:Inv X pins σ H {s with heap:=h'}:=I.turned (t':=s.toks) (fun b o hb e=>(sb.2 b hb).trans e) f0 f1 f3 f4 f5
    obtain⟨o,e,c,d⟩:=id st'
    exact⟨u,rfl,go_of (s:={s with heap:=h'}) e c d (by decide) ⟨x,H,I1,ru,⟨rfl,fun ys hy=>by rw [I.tuple_inj hy hq]; exact hx⟩,st',fun b hb=>(hf b hb).1⟩⟩
  done:=by
    intro X hP hw hK hc i pins s σ H E I hf st hg
    subst hP hw hK
    obtain⟨xs,hq,hx⟩:=hg
    obtain⟨its,rv,p,hz⟩:=I.tuple hq
    obtain⟨f0,f1,f2,f3,f4,f5⟩:=hf it (by simp)
    have hl:=rv.length
    exact wpAny_pyNext_tuple_end (I.ok.hd hc) st (show s.heap.IsTuple a its.toArray from p) (by simp; omega) fun h' eb=>⟨rfl,I.turned (t':=s.toks) (fun b o hb e=>eb b o hb e) f0 f1 f3 f4 f5⟩
  self:=fun _ _ _ _ _ st h=>wpAny_pyIter_tupleiter st h
theorem turn_range {P:Program} {w:World} {K:PySem.W.Frag} {tg:Expr} (it:Addr) (lo:Int) (n:Nat):Turn P w K tg (Itr lo n) [it] it (fun i h=>IsRangeIter h it (lo+(i:Nat)*1) ((n:Int) - (i:Nat)) 1) where
  mem:=by simp
  obj:=fun i h st b hb=>by
    have e:b=it:=by simpa using hb
    subst e
    exact⟨_,st,fun v z=>by
      have z':Data.fields _=Data.cell v:=z
      cases z'⟩
  keep:=fun i h h' st k=>k it (by simp) _ st
  item:=by
    intro X hP hw hK hc i pins s σ H E I hf st hg
    subst hP hw hK
    obtain⟨f0,f1,f2,f3,f4,f5⟩:=hf it (by simp)
    have W:=Walks.range (prog:=X.prog) (w:=X.w) (I.ok.hd hc) it lo 1 n
    refine W.item i s _ _ hg st fun v h' tk hv st' kk=>?_
    obtain⟨t,rfl⟩:=hv
    have I1:Inv X pins σ H {s with heap:=h',toks:=tk}:=I.turned (fun b o hb e=>kk b o (by simpa using hb) e) f0 f1 f3 f4 f5
    refine⟨_,rfl,go_of (s:={s with heap:=h',toks:=tk}) (n:="range_iterator") st' rfl rfl (by decide) ⟨.int (lo+i),H,I1,⟨t,?_⟩,⟨rfl,rfl⟩,st',fun b hb=>(hf b hb).1⟩⟩
    rw [Int.mul_one]
  done:=by
    intro X hP hw hK hc i pins s σ H E I hf st hg
    subst hP hw hK
    obtain⟨f0,f1,f2,f3,f4,f5⟩:=hf it (by simp)
    exact wpAny_pyNext_range_end (I.ok.hd hc) st (by have:n<=i:=hg; omega) fun h' eb=>⟨rfl,I.turned (t':=s.toks) (fun b o hb e=>eb b o hb e) f0 f1 f3 f4 f5⟩
  self:=fun _ _ _ _ _ st h=>wpAny_pyIter_rangeiter st h
section
variable {X:Cx} {tg:Expr}
theorem range_it {pins:List (Addr×Obj)} {σ:St} {H:Hp} {s:Shared} {R:It->Hp->Prop} {E:Value->Shared->Prop} {lo hi:Int} {t u v:Tok} {tk:Nat} (I:Inv X pins σ H s) (h1:-(2 ^ 62)<=lo) (h2:lo < 2 ^ 62) (h3:-(2 ^ 62)<=hi) (h4:hi < 2 ^ 62)
    (q:R (Itr lo (hi - lo).toNat) H):wpAny (model X.prog X.w) X.A (pyIter (.ref s.heap.objs.size)) (PIE X pins σ tg R) E {s with heap:=s.heap.push {cls:=.type "range",data:=.fields #[.int lo t,.int hi u,.int 1 v]},toks:=tk}:=by
  refine wpAny_pyIter_range (IsRange.new ..) (small_one h1 h2 h3 h4) ?_
  have I1:Inv X pins σ H {s with heap:=s.heap.push {cls:=.type "range",data:=.fields #[.int lo t,.int hi u,.int 1 v]},toks:=tk}:=I.kept fun b o e=>Heap.get?_push_of_some _ e
  refine⟨(s.heap.push {cls:=.type "range",data:=.fields #[.int lo t,.int hi u,.int 1 v]}).objs.size,[(s.heap.push {cls:=.type "range",data:=.fields #[.int lo t,.int hi u,.int 1 v]}).objs.size],_,_,H,rfl,
    I1.kept (t':=tk) fun b o e=>Heap.get?_push_of_some _ e,turn_range _ lo (hi - lo).toNat,?_,fun b hb=>?_,q⟩
  · have e1:lo+((0:Nat):Int)*1=lo:=by simp
    have e2:(((hi - lo).toNat:Nat):Int) - ((0:Nat):Int)=Builtin.Range.rangeSize lo hi 1:=by rw [rangeSize_one]; split <;> omega
    show IsRangeIter _ _ (lo+((0:Nat):Int)*1) ((((hi - lo).toNat:Nat):Int) - ((0:Nat):Int)) 1
    rw [e1,e2]
    exact Heap.get?_push_size _ rfl
  · have e:b=(s.heap.push {cls:=.type "range",data:=.fields #[.int lo t,.int hi u,.int 1 v]}).objs.size:=by simpa using hb
    subst e
    exact I1.fpOk (Nat.le_refl _) (I1.hok.fresh (Nat.le_refl _))
def iRng1 (ta:TA):TI:=fun σ H R=>ta σ H fun vs H1=>∃ j:Int,vs=[.int j]/\-(2 ^ 62)<=j/\j < 2 ^ 62/\R (Itr 0 j.toNat) H1
theorem pi_range1 {a:Expr} {ta:TA} {p pos:Pos} (hg:Gl X "range") (hm:X.mg "range"=none) (ha:PA X [a] ta) (hs:starEach [a] X.env=[(false,eval a X.env)]:=by rfl):PI X tg (.Call (.Name "range" p) [a] [] pos) (iRng1 ta):=by
  intro pins s σ H R I h
  refine Call_ (ld_blt I hg hm boot_range (PyProof.Rows.callWith_type1 (thn (ha pos pins s σ H _ I h) fun us s1 ⟨vs,H1,I1,r1,q1⟩=>?_) hs rfl))
  obtain⟨j,e,q1,q2,q⟩:=q1
  subst e
  cases r1 with
  | cons r rr=>
    cases rr
    obtain⟨t,rfl⟩:=r
    exact call_range_1 (range_it I1 (by omega) (by omega) q1 q2 (by simpa using q))
def tFor (wi:TI) (g:TG) (tb:TS):TS:=fun D σ H=>wi σ H fun J H1=>∃ W:Nat->Nat->St->Hp->Prop,(∃ m,W 0 m σ H1)/\∀ i m σ H,W i m σ H->
  (J.stop i H/\D.nx σ H)\/(J.go i H/\∃ N:St->Hp->Prop,(∀ σ' H',N σ' H'->∃ m',m' < m/\W (i+1) m' σ' H')/\∀ x H',J.yld i H x H'->g x σ H' fun σ2 H2=>tb {D with nx:=N,ct:=N,bk:=D.nx} σ2 H2)
def pinsAt (fp:List Addr) (h:Heap):List (Addr×Obj):=fp.filterMap fun b=>(h.get? b).map fun o=>(b,o)
theorem mem_pinsAt {fp:List Addr} {h:Heap} {b:Addr} {o:Obj} (hb:b∈fp) (e:h.get? b=some o):(b,o)∈pinsAt fp h:=List.mem_filterMap.mpr ⟨b,hb,by rw [e]; rfl⟩
theorem of_pinsAt {fp:List Addr} {h:Heap} {p:Addr×Obj} (hp:p∈pinsAt fp h):p.1∈fp/\h.get? p.1=some p.2:=by
  obtain⟨b,hb,e⟩:=List.mem_filterMap.mp hp
  cases q:h.get? b with
  | none=>rw [q] at e; cases e
  | some o=>
    rw [q] at e
    have e':(b,o)=p:=Option.some.inj e
    subst e'
    exact⟨hb,q⟩
theorem Inv.pinned {pins:List (Addr×Obj)} {σ:St} {H:Hp} {s:Shared} {fp:List Addr} (I:Inv X pins σ H s) (hf:∀ b∈fp,FpOk X pins H b) (ho:∀ b∈fp,∃ o,s.heap.get? b=some o/\∀ v,o.data≠.cell v):Inv X (pins++pinsAt fp s.heap) σ H s:=
  I.pins_of fun p hp=>(List.mem_append.mp hp).elim (fun z=>I.pin p (List.mem_append_right _ z)) fun z=>by
    obtain⟨hb,e⟩:=of_pinsAt z
    obtain⟨f0,f1,f2,_⟩:=hf p.1 hb
    obtain⟨o,e',d⟩:=ho p.1 hb
    rw [e] at e'; cases e'
    exact⟨e,f0,f1,f2,d⟩
theorem Inv.unpinned {pins pl:List (Addr×Obj)} {σ:St} {H:Hp} {s:Shared} (I:Inv X (pins++pl) σ H s):Inv X pins σ H s:=I.pins_of fun p hp=>I.pin p (List.mem_append_right _ (List.mem_append_left _ hp))
theorem ps_for {iter:Expr} {body:List Stmt} {wi:TI} {g:TG} {tb:TS} {pos:Pos} (hp:PassesOwn (model X.prog X.w) X.A X.env X.xe) (hc:X.calm=true) (hi:PI X tg iter wi) (hg:PG X tg g) (hb:PSs X body tb)
    (hs:∀ x,foldedSetIterable iter X.env x=pure x:=by intro _; rfl):PS X (.For tg iter body [] pos) (tFor wi g tb):=by
  intro pins s σ H D I h
  refine wpAny_For (thn (hi pins s σ H _ I h) fun v s1 h1=>thn h1 fun itv s2 h2=>?_) hs
  obtain⟨it,fp,tn,J,H2,e,I2,T,st2,f2,W,⟨m0,w0⟩,turn⟩:=h2
  subst e
  have stat:∀ {H':Hp},(∀ b∈fp,H' b=none)->∀ b∈fp,FpOk X pins H' b:=fun hn b hb=>⟨hn b hb,(f2 b hb).2⟩
  refine codeAny_forLoop_any (fun n s'=>∃ i σ' H',Inv X pins σ' H' s'/\tn i s'.heap/\(∀ b∈fp,H' b=none)/\W i n σ' H') ?_ m0 ⟨0,σ,H2,I2,st2,fun b hb=>(f2 b hb).1,w0⟩
  rintro n s3 ⟨i,σ3,H3,I3,st3,fr3,w3⟩
  rcases turn i n σ3 H3 w3 with ⟨stop,qn⟩ | ⟨go,N,hN,step⟩
  · refine wpAny_passesOwn hp (thn (T.done X rfl rfl rfl hc i pins s3 σ3 H3 X.xe I3 (stat fr3) st3 stop) fun r s4 ⟨hr,I4⟩=>?_)
    subst hr
    exact wpAny_execs_nil ⟨σ3,H3,I4,qn⟩
  · refine wpAny_passesOwn hp (thn (T.item X rfl rfl rfl hc i pins s3 σ3 H3 X.xe I3 (stat fr3) st3 go) fun r s4 ⟨u,hr,h4⟩=>?_)
    subst hr
    refine wpAny_passesOwn hp (thn h4 fun _ s5 ⟨x,H5,I5,r5,y5,st5,fr5⟩=>?_)
    have I5':=I5.pinned (stat fr5) (T.obj _ _ st5)
    refine wpAny_passesOwn hp (thn (hg _ s5 σ3 H5 x u _ I5' r5 (step x H5 y5)) fun _ s6 ⟨σ6,H6,I6,q6⟩=>?_)
    refine wpAny_passesOwn hp (thn (hb _ s6 σ6 H6 _ I6 q6) fun f s7 q7=>?_)
    have again:∀ {σ7:St} {H7:Hp},Inv X (pins++pinsAt fp s5.heap) σ7 H7 s7->N σ7 H7->∃ m,m < n/\∃ i σ' H',Inv X pins σ' H' s7/\tn i s7.heap/\(∀ b∈fp,H' b=none)/\W i m σ' H':=fun {σ7 H7} I7 n7=>by
      obtain⟨m',hm,w7⟩:=hN σ7 H7 n7
      refine⟨m',hm,i+1,σ7,H7,I7.unpinned,T.keep _ _ _ st5 fun b hb o e=>(I7.pin (b,o) (List.mem_append_right _ (List.mem_append_right _ (mem_pinsAt hb e)))).1,fun b hb=>?_,w7⟩
      obtain⟨o,e,d⟩:=T.obj _ _ st5 b hb
      exact(I7.pin (b,o) (List.mem_append_right _ (List.mem_append_right _ (mem_pinsAt hb e)))).2.1
    cases f with
    | next=>obtain⟨σ7,H7,I7,n7⟩:=q7; exact again I7 n7
    | cont=>obtain⟨σ7,H7,I7,n7⟩:=q7; exact again I7 n7
    | brk=>obtain⟨σ7,H7,I7,q7⟩:=q7; exact⟨σ7,H7,I7.unpinned,q7⟩
    | ret v=>obtain⟨x7,σ7,H7,I7,r7,q7⟩:=q7; exact⟨x7,σ7,H7,I7.unpinned,r7,q7⟩
end
abbrev R2:=V->V->Hp->VK->Prop
def OpR (X:Cx) (f:Value->Value->Sem Value) (r:R2):Prop:=
  ∀ (pins:List (Addr×Obj)) (s:Shared) (σ:St) (H:Hp) (x y:V) (v u:Value) (Q:VK),Inv X pins σ H s->RelV x v->RelV y u->r x y H Q->
    wpAny (model X.prog X.w) X.A (f v u) (EP X pins σ Q) X.xe s
def UnR (X:Cx) (f:Value->Sem Value) (r:V->Hp->VK->Prop):Prop:=
  ∀ (pins:List (Addr×Obj)) (s:Shared) (σ:St) (H:Hp) (x:V) (v:Value) (Q:VK),Inv X pins σ H s->RelV x v->r x H Q->
    wpAny (model X.prog X.w) X.A (f v) (EP X pins σ Q) X.xe s
def CallR (X:Cx) (f:Value) (r:List V->Hp->VK->Prop):Prop:=
  ∀ (pins:List (Addr×Obj)) (s:Shared) (σ:St) (H:Hp) (xs:List V) (us:List Value) (Q:VK),Inv X pins σ H s->Vals xs us->r xs H Q->
    wpAny (model X.prog X.w) X.A (call f us) (EP X pins σ Q) X.xe s
def tOp (r:R2) (ta tb:TE):TE:=fun σ H Q=>ta σ H fun x H1=>tb σ H1 fun y H2=>r x y H2 Q
def tUn (r:V->Hp->VK->Prop) (ta:TE):TE:=fun σ H Q=>ta σ H fun x H1=>r x H1 Q
def rI (C:Int->Int->Prop) (g:Int->Int->V):R2:=fun x y H Q=>∃ i j,x=.int i/\y=.int j/\C i j/\Q (g i j) H
def rI0 (g:Int->Int->V):R2:=fun x y H Q=>∃ i j,x=.int i/\y=.int j/\Q (g i j) H
def rU (g:Int->V):V->Hp->VK->Prop:=fun x H Q=>∃ i,x=.int i/\Q (g i) H
section
variable {X:Cx} {a b c:Expr} {ta tb tc:TE} {pos:Pos}
theorem binT (ha:PE X a ta) (hb:PE X b tb) {pins:List (Addr×Obj)} {s:Shared} {σ:St} {H:Hp} {R:V->V->Hp->Prop} (I:Inv X pins σ H s)
    (h:ta σ H fun x H1=>tb σ H1 fun y H2=>R x y H2) {Q:Value->Shared->Prop} {f:Value->Value->Sem Value}
    (hf:∀ v u s2 x y H2,Inv X pins σ H2 s2->RelV x v->RelV y u->R x y H2->wpAny (model X.prog X.w) X.A (f v u) Q X.xe s2):
    wpAny (model X.prog X.w) X.A (eval a X.env) (fun v s₁=>wpAny (model X.prog X.w) X.A (eval b X.env) (fun u s₂=>wpAny (model X.prog X.w) X.A (f v u) Q X.xe s₂) X.xe s₁) X.xe s:=by
  refine thn (ha pins s σ H _ I h) fun v s1 ⟨x,H1,I1,r1,q1⟩=>?_
  refine thn (hb pins s1 σ H1 _ I1 q1) fun u s2 ⟨y,H2,I2,r2,q2⟩=>?_
  exact hf v u s2 x y H2 I2 r1 r2 q2
theorem pe_op {op:Operator} {r:R2} (ho:OpR X (binaryOp op) r) (ha:PE X a ta) (hb:PE X b tb):PE X (.BinOp a op b pos) (tOp r ta tb):=by
  intro pins s σ H Q I h
  exact wpAny_BinOp (binT ha hb I h fun v u s2 x y H2 I2 rx ry q=>ho pins s2 σ H2 x y v u Q I2 rx ry q)
theorem pe_un {op:UnaryOp} {r:V->Hp->VK->Prop} (ho:UnR X (unaryOp op) r) (ha:PE X a ta):PE X (.UnaryOp op a pos) (tUn r ta):=by
  intro pins s σ H Q I h
  exact UnaryOp_ (thn (ha pins s σ H _ I h) fun v s1 ⟨x,H1,I1,r1,q1⟩=>ho pins s1 σ H1 x v Q I1 r1 q1)
theorem opI {f:Value->Value->Sem Value} {C:Int->Int->Prop} {g:Int->Int->Int}
    (rule:∀ (i j:Int) (t u:Tok) (s:Shared) (Q:Value->Shared->Prop) (E:Value->Shared->Prop),C i j->Q (.int (g i j) s.toks) {s with toks:=s.toks+1}->wpAny (model X.prog X.w) X.A (f (.int i t) (.int j u)) Q E s):
    OpR X f (rI C fun i j=>.int (g i j)):=by
  intro pins s σ H x y v u Q I rx ry h
  obtain⟨i,j,rfl,rfl,hc,q⟩:=h
  obtain⟨t,rfl⟩:=rx
  obtain⟨t',rfl⟩:=ry
  exact rule i j t t' s _ _ hc ⟨.int (g i j),H,I.tok _,⟨_,rfl⟩,q⟩
theorem opI0 {f:Value->Value->Sem Value} {g:Int->Int->Int}
    (rule:∀ (i j:Int) (t u:Tok) (s:Shared) (Q:Value->Shared->Prop) (E:Value->Shared->Prop),Q (.int (g i j) s.toks) {s with toks:=s.toks+1}->wpAny (model X.prog X.w) X.A (f (.int i t) (.int j u)) Q E s):
    OpR X f (rI0 fun i j=>.int (g i j)):=by
  intro pins s σ H x y v u Q I rx ry h
  obtain⟨i,j,rfl,rfl,q⟩:=h
  obtain⟨t,rfl⟩:=rx
  obtain⟨t',rfl⟩:=ry
  exact rule i j t t' s _ _ ⟨.int (g i j),H,I.tok _,⟨_,rfl⟩,q⟩
theorem opB0 {f:Value->Value->Sem Value} {g:Int->Int->Bool}
    (rule:∀ (i j:Int) (t u:Tok) (s:Shared) (Q:Value->Shared->Prop) (E:Value->Shared->Prop),Q (.bool (g i j)) s->wpAny (model X.prog X.w) X.A (f (.int i t) (.int j u)) Q E s):
    OpR X f (rI0 fun i j=>.bl (g i j)):=by
  intro pins s σ H x y v u Q I rx ry h
  obtain⟨i,j,rfl,rfl,q⟩:=h
  obtain⟨t,rfl⟩:=rx
  obtain⟨t',rfl⟩:=ry
  exact rule i j t t' s _ _ ⟨.bl (g i j),H,I,rfl,q⟩
def CPow (i j:Int):Prop:=0<=j/\j<=1000000/\i.natAbs < 2 ^ 64
theorem op_add:OpR X (binaryOp .Add) (rI0 fun i j=>.int (i+j)):=opI0 fun _ _ _ _ _ _ _ q=>add_int q
theorem op_sub:OpR X (binaryOp .Sub) (rI0 fun i j=>.int (i - j)):=opI0 fun _ _ _ _ _ _ _ q=>sub_int q
theorem op_modN:OpR X (binaryOp .Mod) (rI (fun _ j=>j≠0) fun i j=>.int (i.fmod j)):=opI fun _ _ _ _ _ _ _ hc q=>mod_int' hc q
theorem op_pow:OpR X (binaryOp .Pow) (rI CPow fun i j=>.int (i ^ j.toNat)):=opI fun _ _ _ _ _ _ _ hc q=>pow_int_small hc.1 hc.2.1 hc.2.2 q
theorem op_shl:OpR X (binaryOp .LShift) (rI CPow fun i j=>.int (i*2 ^ j.toNat)):=opI fun _ _ _ _ _ _ _ hc q=>lshift_int_small hc.1 hc.2.1 hc.2.2 q
theorem unI {f:Value->Sem Value} {g:Int->Int}
    (rule:∀ (i:Int) (t:Tok) (s:Shared) (Q:Value->Shared->Prop) (E:Value->Shared->Prop),Q (.int (g i) s.toks) {s with toks:=s.toks+1}->wpAny (model X.prog X.w) X.A (f (.int i t)) Q E s):
    UnR X f (rU fun i=>.int (g i)):=by
  intro pins s σ H x v Q I rx h
  obtain⟨i,rfl,q⟩:=h
  obtain⟨t,rfl⟩:=rx
  exact rule i t s _ _ ⟨.int (g i),H,I.tok _,⟨_,rfl⟩,q⟩
theorem un_neg:UnR X (unaryOp .USub) (rU fun i=>.int (-i)):=unI fun _ _ _ _ _ q=>neg_int q
end
def scal:V->V->Bool
  | .non,.non=>true | .non,.int _=>true | .int _,.non=>true | .non,.bl _=>true | .bl _,.non=>true | .non,.str _=>true | .str _,.non=>true
  | .int _,.int _=>true | .bl _,.bl _=>true | .str _,.str _=>true | .byt _,.byt _=>true
  | .int _,.str _=>true | .str _,.int _=>true | .bl _,.str _=>true | .str _,.bl _=>true
  | _,_=>false
def rEq:R2:=fun x y H Q=>scal x y=true/\Q (.bl (decide (x=y))) H
def rNe:R2:=fun x y H Q=>scal x y=true/\Q (.bl (!decide (x=y))) H
theorem dec_int {i j:Int}:decide (V.int i=V.int j)=(i == j):=by
  rw [Bool.eq_iff_iff]
  simp
theorem dec_bl {i j:Bool}:decide (V.bl i=V.bl j)=(i == j):=by
  rw [Bool.eq_iff_iff]
  simp
theorem dec_str {i j:Str}:decide (V.str i=V.str j)=(i == j):=by
  rw [Bool.eq_iff_iff]
  simp
theorem dec_byt {i j:Array UInt8}:decide (V.byt i=V.byt j)=(i.toList == j.toList):=by
  rw [Bool.eq_iff_iff]
  cases i
  cases j
  simp
section
variable {X:Cx} {a b c:Expr} {ta tb tc:TE} {pos:Pos}
theorem fin_bl {pins:List (Addr×Obj)} {σ:St} {H:Hp} {s:Shared} {Q:VK} {k k':Bool} (I:Inv X pins σ H s) (q:Q (.bl k) H) (e:k=k'):EP X pins σ Q (.bool k') s:=by
  subst e
  exact⟨.bl k,H,I,rfl,q⟩
theorem op_eq:OpR X (compareOp .Eq) rEq:=by
  intro pins s σ H x y v u Q I rx ry h
  obtain⟨hs,q⟩:=h
  cases x with
  | non=>
    cases rx
    cases y with
    | non=>cases ry; exact PySem.EqNone.eq_none_none (fin_bl I q (by simp))
    | bl j=>cases ry; exact PySem.EqNone.eq_none_bool (fin_bl I q (by simp))
    | int j=>obtain⟨t',rfl⟩:=ry; exact PySem.EqNone.eq_none_int (fin_bl I q (by simp))
    | str j=>obtain⟨t',rfl⟩:=ry; exact PySem.EqNone.eq_none_str (fin_bl I q (by simp))
    | _=>exact absurd (show false=true from hs) Bool.false_ne_true
  | bl i=>
    cases rx
    cases y with
    | non=>cases ry; exact PySem.EqNone.eq_bool_none (fin_bl I q (by simp))
    | bl j=>cases ry; exact eq_bool (fin_bl I q dec_bl)
    | str j=>obtain⟨t',rfl⟩:=ry; exact PySem.EqMixed.eq_bool_str (fin_bl I q (by simp))
    | _=>exact absurd (show false=true from hs) Bool.false_ne_true
  | int i=>
    obtain⟨t,rfl⟩:=rx
    cases y with
    | non=>cases ry; exact PySem.EqNone.eq_int_none (fin_bl I q (by simp))
    | int j=>obtain⟨t',rfl⟩:=ry; exact eq_int (fin_bl I q dec_int)
    | str j=>obtain⟨t',rfl⟩:=ry; exact PySem.EqMixed.eq_int_str (fin_bl I q (by simp))
    | _=>exact absurd (show false=true from hs) Bool.false_ne_true
  | str i=>
    obtain⟨t,rfl⟩:=rx
    cases y with
    | non=>cases ry; exact PySem.EqNone.eq_str_none (fin_bl I q (by simp))
    | bl j=>cases ry; exact PySem.EqMixed.eq_str_bool (fin_bl I q (by simp))
    | int j=>obtain⟨t',rfl⟩:=ry; exact PySem.EqMixed.eq_str_int (fin_bl I q (by simp))
    | str j=>obtain⟨t',rfl⟩:=ry; exact eq_str (fin_bl I q dec_str)
    | _=>exact absurd (show false=true from hs) Bool.false_ne_true
  | byt i=>
    obtain⟨t,rfl⟩:=rx
    cases y with
    | byt j=>obtain⟨t',rfl⟩:=ry; exact PySem.W.eq_bytes (fin_bl I q dec_byt)
    | _=>exact absurd (show false=true from hs) Bool.false_ne_true
  | _=>cases y <;> exact absurd (show false=true from hs) Bool.false_ne_true
theorem op_ne:OpR X (compareOp .NotEq) rNe:=by
  intro pins s σ H x y v u Q I rx ry h
  obtain⟨hs,q⟩:=h
  cases x with
  | non=>
    cases rx
    cases y with
    | non=>cases ry; exact PySem.EqNone.ne_none_none (fin_bl I q (by simp))
    | bl j=>cases ry; exact PySem.EqNone.ne_none_bool (fin_bl I q (by simp))
    | int j=>obtain⟨t',rfl⟩:=ry; exact PySem.EqNone.ne_none_int (fin_bl I q (by simp))
    | str j=>obtain⟨t',rfl⟩:=ry; exact PySem.EqNone.ne_none_str (fin_bl I q (by simp))
    | _=>exact absurd (show false=true from hs) Bool.false_ne_true
  | bl i=>
    cases rx
    cases y with
    | non=>cases ry; exact PySem.EqNone.ne_bool_none (fin_bl I q (by simp))
    | bl j=>cases ry; exact ne_bool (fin_bl I q (congrArg not dec_bl))
    | str j=>obtain⟨t',rfl⟩:=ry; exact PySem.EqMixed.ne_bool_str (fin_bl I q (by simp))
    | _=>exact absurd (show false=true from hs) Bool.false_ne_true
  | int i=>
    obtain⟨t,rfl⟩:=rx
    cases y with
    | non=>cases ry; exact PySem.EqNone.ne_int_none (fin_bl I q (by simp))
    | int j=>obtain⟨t',rfl⟩:=ry; exact ne_int (fin_bl I q (congrArg not dec_int))
    | str j=>obtain⟨t',rfl⟩:=ry; exact PySem.EqMixed.ne_int_str (fin_bl I q (by simp))
    | _=>exact absurd (show false=true from hs) Bool.false_ne_true
  | str i=>
    obtain⟨t,rfl⟩:=rx
    cases y with
    | non=>cases ry; exact PySem.EqNone.ne_str_none (fin_bl I q (by simp))
    | bl j=>cases ry; exact PySem.EqMixed.ne_str_bool (fin_bl I q (by simp))
    | int j=>obtain⟨t',rfl⟩:=ry; exact PySem.EqMixed.ne_str_int (fin_bl I q (by simp))
    | str j=>obtain⟨t',rfl⟩:=ry; exact ne_str (fin_bl I q (congrArg not dec_str))
    | _=>exact absurd (show false=true from hs) Bool.false_ne_true
  | byt i=>
    obtain⟨t,rfl⟩:=rx
    cases y with
    | byt j=>obtain⟨t',rfl⟩:=ry; exact PySem.W.ne_bytes (fin_bl I q (congrArg not dec_byt))
    | _=>exact absurd (show false=true from hs) Bool.false_ne_true
  | _=>cases y <;> exact absurd (show false=true from hs) Bool.false_ne_true
theorem op_lt:OpR X (compareOp .Lt) (rI0 fun i j=>.bl (decide (i < j))):=opB0 fun _ _ _ _ _ _ _ q=>lt_int q
theorem op_le:OpR X (compareOp .LtE) (rI0 fun i j=>.bl (decide (i<=j))):=opB0 fun _ _ _ _ _ _ _ q=>le_int q
theorem op_gt:OpR X (compareOp .Gt) (rI0 fun i j=>.bl (decide (j < i))):=opB0 fun _ _ _ _ _ _ _ q=>gt_int q
theorem op_ge:OpR X (compareOp .GtE) (rI0 fun i j=>.bl (decide (j<=i))):=opB0 fun _ _ _ _ _ _ _ q=>ge_int q
theorem op_isN:OpR X (compareOp .Is) (fun x y H Q=>y=.non/\Q (.bl (decide (x=.non))) H):=by
  intro pins s σ H x y v u Q I rx ry h
  obtain⟨rfl,q⟩:=h
  cases ry
  refine is_none_gen (fin_bl I q ?_)
  cases x <;> first
    | (cases rx; rfl)
    | (obtain ⟨t,rfl⟩:=rx; rfl)
theorem op_notN:OpR X (compareOp .IsNot) (fun x y H Q=>y=.non/\Q (.bl (!decide (x=.non))) H):=by
  intro pins s σ H x y v u Q I rx ry h
  obtain⟨rfl,q⟩:=h
  cases ry
  refine isnot_none_gen (fin_bl I q ?_)
  cases x <;> first
    | (cases rx; rfl)
    | (obtain ⟨t,rfl⟩:=rx; rfl)
theorem nomark (b:Expr) {op:CmpOp} (h:op≠.In:=by decide) (h2:op≠.NotIn:=by decide):behindInMarks op b=false:=by
  have e1:(op == CmpOp.In)=false:=by cases op <;> first | rfl | exact absurd rfl h
  have e2:(op == CmpOp.NotIn)=false:=by cases op <;> first | rfl | exact absurd rfl h2
  cases b <;> simp [behindInMarks,e1,e2]
theorem pe_cmpR {op:CmpOp} {r:R2} (ho:OpR X (compareOp op) r) (ha:PE X a ta) (hb:PE X b tb) (hm:behindInMarks op b=false):PE X (.Compare a [op] [b] pos) (tOp r ta tb):=by
  intro pins s σ H Q I h
  exact wpAny_Compare1 (binT ha hb I h fun v u s2 x y H2 I2 rx ry q=>ho pins s2 σ H2 x y v u Q I2 rx ry q) hm
def tTest (t:TE):TT:=fun σ H Q=>t σ H fun x H'=>∃ k,x=.bl k/\Q k H'
theorem pt_cmpR {op:CmpOp} {r:R2} (ho:OpR X (compareOp op) r) (ha:PE X a ta) (hb:PE X b tb) (hm:behindInMarks op b=false):PT X (.Compare a [op] [b] pos) (tTest (tOp r ta tb)):=by
  intro pins s σ H Q I h
  refine wpAny_isTrue_Compare1 (thn (ha pins s σ H _ I h) fun v s1 ⟨x,H1,I1,r1,q1⟩=>thn (hb pins s1 σ H1 _ I1 q1) fun u s2 ⟨y,H2,I2,r2,q2⟩=>
    thn (ho pins s2 σ H2 x y v u _ I2 r1 r2 q2) fun c s3 ⟨z,H3,I3,r3,k,e,q3⟩=>?_) hm
  subst e
  cases r3
  exact wpAny_truthy_bool ⟨H3,I3,q3⟩
def tChain (r r':R2) (ta tb tc:TE):TE:=fun σ H Q=>ta σ H fun x H1=>tb σ H1 fun y H2=>r x y H2 fun z H3=>∃ k,z=.bl k/\
  (if k=true then tc σ H3 fun w' H4=>r' y w' H4 Q else Q (.bl false) H3)
theorem pe_chain {op op':CmpOp} {r r':R2} (ho:OpR X (compareOp op) r) (ho':OpR X (compareOp op') r') (ha:PE X a ta) (hb:PE X b tb) (hc:PE X c tc)
    (hm:lastMarks [op,op'] [b,c]=false:=by with_unfolding_all rfl):PE X (.Compare a [op,op'] [b,c] pos) (tChain r r' ta tb tc):=by
  intro pins s σ H Q I h
  refine Compare_chain (thn (ha pins s σ H _ I h) fun v s1 ⟨x,H1,I1,r1,q1⟩=>chain_link (thn (hb pins s1 σ H1 _ I1 q1) fun u s2 ⟨y,H2,I2,r2,q2⟩=>
    thn (ho pins s2 σ H2 x y v u _ I2 r1 r2 q2) fun d s3 ⟨z,H3,I3,r3,k,e,q3⟩=>?_)) hm
  subst e
  cases r3
  refine wpAny_truthy_bool ?_
  cases k with
  | false=>exact ite_ff ⟨.bl false,H3,I3,rfl,q3⟩
  | true=>exact ite_tt (chain_last (thn (hc pins s3 σ H3 _ I3 q3) fun w' s4 ⟨z',H4,I4,r4,q4⟩=>ho' pins s4 σ H4 y z' u w' Q I4 r2 r4 q4))
theorem pt_chain {op op':CmpOp} {r r':R2} (ho:OpR X (compareOp op) r) (ho':OpR X (compareOp op') r') (ha:PE X a ta) (hb:PE X b tb) (hc:PE X c tc)
    (hm:lastMarks [op,op'] [b,c]=false:=by with_unfolding_all rfl):PT X (.Compare a [op,op'] [b,c] pos) (tTest (tChain r r' ta tb tc)):=by
  intro pins s σ H Q I h
  refine isTrue_chain (thn (ha pins s σ H _ I h) fun v s1 ⟨x,H1,I1,r1,q1⟩=>test_link (thn (hb pins s1 σ H1 _ I1 q1) fun u s2 ⟨y,H2,I2,r2,q2⟩=>
    thn (ho pins s2 σ H2 x y v u _ I2 r1 r2 q2) fun d s3 ⟨z,H3,I3,r3,k,e,q3⟩=>?_)) hm
  subst e
  cases r3
  refine wpAny_truthy_bool ?_
  cases k with
  | false=>
    obtain⟨k',e',q'⟩:=q3
    cases e'
    exact ite_ff ⟨H3,I3,q'⟩
  | true=>
    refine ite_tt (test_last (thn (hc pins s3 σ H3 _ I3 q3) fun w' s4 ⟨z',H4,I4,r4,q4⟩=>thn (ho' pins s4 σ H4 y z' u w' _ I4 r2 r4 q4) fun d' s5 ⟨z2,H5,I5,r5,k2,e2,q5⟩=>?_))
    subst e2
    cases r5
    exact wpAny_truthy_bool ⟨H5,I5,q5⟩
theorem line63:(sizeLine:Nat) < 2 ^ 63:=by rw [sizeLine_eq]; decide
theorem op_add_str:OpR X (binaryOp .Add) (fun x y H Q=>∃ i j,x=.str i/\y=.str j/\i.length+j.length<=sizeLine/\Q (.str (i++j)) H):=by
  intro pins s σ H x y v u Q I rx ry h
  obtain⟨i,j,rfl,rfl,hz,q⟩:=h
  obtain⟨t,rfl⟩:=rx
  obtain⟨t',rfl⟩:=ry
  exact add_str (fun t' tk=>⟨.str (i++j),H,I.tok _,⟨_,rfl⟩,q⟩) hz
theorem vals1 {x:V} {us:List Value} (r:Vals [x] us):∃ u,us=[u]/\RelV x u:=by
  cases r with
  | cons r1 r2=>cases r2; exact⟨_,rfl,r1⟩
theorem vals2 {x y:V} {us:List Value} (r:Vals [x,y] us):∃ u w',us=[u,w']/\RelV x u/\RelV y w':=by
  cases r with
  | cons r1 r2=>
    cases r2 with
    | cons r3 r4=>cases r4; exact⟨_,_,rfl,r1,r3⟩
theorem call_abs:CallR X (.builtin "abs") (fun xs H Q=>∃ i,xs=[.int i]/\Q (.int (if i < 0 then -i else i)) H):=by
  intro pins s σ H xs us Q I r h
  obtain⟨i,rfl,q⟩:=h
  obtain⟨u,rfl,t,rfl⟩:=vals1 r
  exact call_abs_int fun u tk=>⟨.int (if i < 0 then -i else i),H,I.tok _,⟨_,rfl⟩,q⟩
theorem call_max2 (hc:X.calm=true):CallR X (.builtin "max") (fun xs H Q=>∃ i j,xs=[.int i,.int j]/\Q (.int (if j > i then j else i)) H):=by
  intro pins s σ H xs us Q I r h
  obtain⟨i,j,rfl,q⟩:=h
  obtain⟨u,w',rfl,⟨t,rfl⟩,⟨t',rfl⟩⟩:=vals2 r
  refine max_two_ints (I.ok.hd hc) fun h' tk k=>⟨_,H,I.kept k,?_,q⟩
  by_cases hj:j > i
  · rw [if_pos hj,if_pos hj]; exact⟨_,rfl⟩
  · rw [if_neg hj,if_neg hj]; exact⟨_,rfl⟩
theorem call_min2 (hc:X.calm=true):CallR X (.builtin "min") (fun xs H Q=>∃ i j,xs=[.int i,.int j]/\Q (.int (if j < i then j else i)) H):=by
  intro pins s σ H xs us Q I r h
  obtain⟨i,j,rfl,q⟩:=h
  obtain⟨u,w',rfl,⟨t,rfl⟩,⟨t',rfl⟩⟩:=vals2 r
  refine min_two_ints (I.ok.hd hc) fun h' tk k=>⟨_,H,I.kept k,?_,q⟩
  by_cases hj:j < i
  · rw [if_pos hj,if_pos hj]; exact⟨_,rfl⟩
  · rw [if_neg hj,if_neg hj]; exact⟨_,rfl⟩
end
structure Room (k:Nat) (A:Around):Prop where
  hd:A.handled=none
  dp:A.depth+3*k+5 < recursionLimit
  un:A.units+16*k+200 < cLine
theorem Room.mono {j k:Nat} {A:Around} (r:Room k A) (h:j<=k):Room j A:=⟨r.hd,by have:=r.dp; omega,by have:=r.un; omega⟩
theorem Room.deeper {k:Nat} {A:Around} (r:Room (k+1) A) (env:Env):Room k (A.deeper env):=
  ⟨r.hd,by have:=r.dp; show A.depth+1+3*k+5 < _; omega,by have:=r.un; show A.units+3+16*k+200 < _; omega⟩
theorem Room.depth {k:Nat} {A:Around} (r:Room k A):A.depth < recursionLimit:=by have:=r.dp; omega
theorem Room.units {k:Nat} {A:Around} (r:Room k A):A.units+64 < cLine:=by have:=r.un; omega
def tNil:TA:=fun _ H Q=>Q [] H
def tCons (ta:TE) (tr:TA):TA:=fun σ H Q=>ta σ H fun x H1=>tr σ H1 fun xs H2=>Q (x::xs) H2
section
variable {X:Cx} {e:Expr} {es:List Expr} {te:TE} {t:TA} {pos:Pos}
theorem pa_nil:PA X [] tNil:=fun _ _ _ _ H Q I h=>Calls.spliced_nil ⟨[],H,I,.nil,h⟩
theorem pa_cons (ha:PE X e te) (hr:PA X es t) (hs:starEach (e::es) X.env=(false,eval e X.env)::starEach es X.env:=by rfl):PA X (e::es) (tCons te t):=by
  intro pos pins s σ H Q I h
  rw [hs]
  show wpAny _ _ (spliced ((false,eval e X.env)::backTo pos (starEach es X.env))) _ _ s
  refine Calls.spliced_cons (thn (ha pins s σ H _ I h) fun u s1 ⟨x,H1,I1,r1,q1⟩=>?_)
  exact thn (hr pos pins s1 σ H1 _ I1 q1) fun us s2 ⟨xs,H2,I2,r2,q2⟩=>⟨x::xs,H2,I2,.cons r1 r2,q2⟩
def tTup (t:TA):TE:=fun σ H Q=>t σ H fun xs H1=>xs.length<=sizeLine/\∀ p,H1 p=none->Q (.ref p) (upd H1 p (.tup xs))
def tLst (t:TA):TE:=fun σ H Q=>t σ H fun xs H1=>xs.length<=sizeLine/\∀ p,H1 p=none->Q (.ref p) (upd H1 p (.lst xs))
theorem pe_tup {x1} (h:PA X es t):PE X (.Tuple es x1 pos) (tTup t):=by
  intro pins s σ H Q I hq
  refine wpAny_Tuple_spliced (thn (h pos pins s σ H _ I hq) fun us s1 ⟨xs,H1,I1,r,z,q⟩=>⟨by rw [<- r.length]; exact z,?_⟩)
  have hf:H1 s1.heap.objs.size=none:=I1.hok.fresh (Nat.le_refl _)
  refine⟨.ref s1.heap.objs.size,upd H1 s1.heap.objs.size (.tup xs),I1.laid (t':=s1.toks) (fun b u e=>Heap.get?_push_of_some _ e) (Nat.le_refl _) ?_,rfl,q _ hf⟩
  exact⟨z,us,r,⟨_,Heap.get?_push_size _ rfl,rfl,_,rfl⟩⟩
theorem pe_lst (h:PA X es t):PE X (.List es pos) (tLst t):=by
  intro pins s σ H Q I hq
  refine wpAny_List_spliced (thn (h pos pins s σ H _ I hq) fun us s1 ⟨xs,H1,I1,r,z,q⟩=>⟨by rw [<- r.length]; exact z,?_⟩)
  have hf:H1 s1.heap.objs.size=none:=I1.hok.fresh (Nat.le_refl _)
  refine⟨.ref s1.heap.objs.size,upd H1 s1.heap.objs.size (.lst xs),I1.laid (t':=s1.toks) (fun b u e=>Heap.get?_push_of_some _ e) (Nat.le_refl _) ?_,rfl,q _ hf⟩
  exact⟨z,us,0,r,Heap.get?_push_size _ rfl⟩
end
abbrev Sp:=List V->Hp->VK->XK->Prop
abbrev CXT:=List Env->Hp->Shared->XK->Value->Shared->Prop
structure Env0 (P:Program) (w:World) (K:PySem.W.Frag) (mg:Str->Option Value) (base:Heap) (A:Around) (outer:List Env) (s:Shared) (H:Hp):Prop where
  frames:A.frames=some outer
  mod:Mod K mg base
  bs:∀ b o,base.get? b=some o->s.heap.get? b=some o/\H b=none
  bsz:base.objs.size<=s.heap.objs.size
  funs:s.heap.FunFrames base outer
  frf:∀ b∈frs outer,H b=none
  hok:HOk P w H s.heap
  bare:AllBare s.gens
def CE (outer:List Env) (P:Program) (w:World) (H:Hp) (s:Shared) (Q:VK) (u:Value) (s':Shared):Prop:=
  ∃ v H',s'.os=s.os/\AllBare s'.gens/\Un (frs outer) [] H H' s.heap s'.heap/\HOk P w H' s'.heap/\RelV v u/\Q v H'
def CR (CX:CXT) (outer:List Env) (P:Program) (w:World) (H:Hp) (s:Shared) (Q:VK) (E:XK) (r:Result) (s':Shared):Prop:=
  match r with
  | .ok (.ret u)=>CE outer P w H s Q u s'
  | .ok _=>False
  | .error e=>CX outer H s E e s'
structure FnOk (P:Program) (w:World) (K:PySem.W.Frag) (mg:Str->Option Value) (base:Heap) (CX:CXT) (k:Nat) (f:Addr) (fd:FuncData) (ps:List Str) (sp:Sp):Prop where
  len:∀ vs H Q E,sp vs H Q E->vs.length=ps.length
  run:∀ (A:Around) (outer:List Env) (s:Shared) (H:Hp) (args:Args) (us:List Value) (vs:List V) (Q:VK) (E:XK),Room k A->Env0 P w K mg base A outer s H->BindsTo s fd args (ps.zip us)->Vals vs us->sp vs H Q E->
    codeAny (model P w) A (.call (.ref f) args) (CR CX outer P w H s Q E) s
section
variable {X:Cx} {pins:List (Addr×Obj)} {σ:St} {H:Hp} {s s':Shared}
theorem Inv.env0 (I:Inv X pins σ H s):Env0 X.prog X.w X.K X.mg X.base X.A X.stack s H:=
  ⟨I.ok.frames,I.ok.mod,I.bs,Nat.le_trans I.ok.bsz I.sz,I.stack,I.stkFree,I.hok,I.bare⟩
theorem Inv.after {Q:VK} {u:Value} (I:Inv X pins σ H s) (h:CE X.stack X.prog X.w H s Q u s'):EP X pins σ Q u s':=by
  obtain⟨v,H',os,bare,un,hok,r,q⟩:=h
  obtain⟨hh,g,d,t,os'⟩:=s'
  obtain rfl:os'=s.os:=os
  exact⟨v,H',I.call (h':=hh) (g':=g) (d':=d) (t':=t) (ch:=[]) un hok bare (fun b z=>absurd z (by simp)),r,q⟩
end
def tCall (sp:Sp) (dvs:List V) (E:XK) (t:TA):TE:=fun σ H Q=>t σ H fun vs H1=>sp (vs++dvs) H1 Q E
def Binds (K:PySem.W.Frag) (fd:FuncData) (ps:List Str) (ds:List Value):Prop:=
  ∀ (s:Shared) (us:List Value),K.In s.heap->(us++ds).length=ps.length->BindsTo s fd ⟨us,[]⟩ (ps.zip (us++ds))
theorem Binds.all {K:PySem.W.Frag} {fd:FuncData} {ps:List Str} (h:∀ us:List Value,us.length=ps.length->bindArgs fd ⟨us,[]⟩=pure (ps.zip us)):Binds K fd ps []:=fun s us _ hl=>by
  rw [List.append_nil] at hl ⊢
  exact .of_eq (h us hl)
def Passes (CX:CXT) (X:Cx) (E:XK):Prop:=∀ (pins:List (Addr×Obj)) (σ:St) (H:Hp) (s:Shared) (e:Value) (s':Shared),Inv X pins σ H s->CX X.stack H s E e s'->X.xe e s'
section
variable {X:Cx} {CX:CXT} {k:Nat} {f C:Addr} {fd:FuncData} {ps:List Str} {sp:Sp} {dvs:List V} {ds:List Value} {E:XK} {x m:Str} {p pos apos:Pos} {e o:Expr} {es:List Expr} {ta:TE} {t:TA}
theorem run_fn {pins:List (Addr×Obj)} {σ:St} {H:Hp} {s:Shared} {Q:VK} {us:List Value} {vs:List V} (F:FnOk X.prog X.w X.K X.mg X.base CX k f fd ps sp) (hr:Room k X.A) (hb:Binds X.K fd ps ds) (hd:Vals dvs ds) (hx:Passes CX X E)
    (I:Inv X pins σ H s) (r:Vals vs us) (h:sp (vs++dvs) H Q E):wpAny (model X.prog X.w) X.A (call (.ref f) us) (EP X pins σ Q) X.xe s:=by
  have r2:Vals (vs++dvs) (us++ds):=r.append hd
  have hl:(us++ds).length=ps.length:=by rw [<- r2.length]; exact F.len _ _ _ _ h
  refine wpAny_call (codeAny_mono (F.run X.A X.stack s H ⟨us,[]⟩ (us++ds) (vs++dvs) Q E hr I.env0 (hb s us I.kIn hl) r2 h) fun r s' hq=>?_)
  cases r with
  | error e=>exact hx pins σ H s e s' I hq
  | ok fl=>
    cases fl with
    | ret u=>exact I.after hq
    | next=>exact False.elim hq
    | brk=>exact False.elim hq
    | cont=>exact False.elim hq
theorem pe_call (F:FnOk X.prog X.w X.K X.mg X.base CX k f fd ps sp) (hr:Room k X.A) (hg:Gl X x) (hm:X.mg x=some (.ref f)) (hk:PySem.W.keepIn X.K (.ref f)=true) (hb:Binds X.K fd ps ds) (hd:Vals dvs ds) (hx:Passes CX X E)
    (ha:PA X (e::es) t) (hdb:(x == ("__debug__":Str))=false:=by decide) (he:starEach (e::es) X.env=(false,eval e X.env)::starEach es X.env:=by rfl) (hpl:(backTo pos (starEach es X.env)).any (·.1)=false:=by rfl):
    PE X (.Call (.Name x p) (e::es) [] pos) (tCall sp dvs E t):=by
  intro pins s σ H Q I h
  refine wpAny_Call_Name_kw (ld_glob I hg hm ?_ hdb)
  refine PySem.W.callWith_K (h₀:=X.base) I.ok.mod.kin hk (thn (ha pos pins s σ H _ I h) fun us s1 ⟨vs,H1,I1,r,q⟩=>⟨I1.kIn,?_⟩) he hpl
  exact run_fn F hr hb hd hx I1 r q
end
structure FnScope (N P:List Str) (sc:Scope):Prop where
  kind:sc.kind=.function
  co:sc.isCoroutine=false
  gen:sc.isGenerator=false
  nd:N.Nodup
  pre:N.take P.length=P
  par:∀ x∈P,sc.names.lookup x=some .local\/sc.names.lookup x=some .cell
  nofree:∀ y∈sc.names,y.2≠.free
theorem bindL_out {kindOf:Str->Option NameKind} {x:Str}:∀ {binds:List (Str×Value)} {m:Str->Option Value},(∀ v,(x,v)∉binds)->bindL kindOf binds m x=m x
  | [],_,_=>rfl
  | (n,v)::r,m,h=>by
    unfold bindL
    rw [bindL_out fun w hw=>h w (List.mem_cons_of_mem _ hw)]
    split
    · have:x≠n:=by rintro rfl; exact h v List.mem_cons_self
      simp [this]
    · rfl
theorem bindC_out {kindOf:Str->Option NameKind} {x:Str}:∀ {binds:List (Str×Value)} {m:Str->Option Value},(∀ v,(x,v)∉binds)->bindC kindOf binds m x=m x
  | [],_,_=>rfl
  | (n,v)::r,m,h=>by
    unfold bindC
    rw [bindC_out fun w hw=>h w (List.mem_cons_of_mem _ hw)]
    split
    · rfl
    · have:x≠n:=by rintro rfl; exact h v List.mem_cons_self
      simp [this]
theorem bindL_get {kindOf:Str->Option NameKind} {x:Str} {v:Value}:∀ {P:List Str} {vs:List Value} {i:Nat} {m:Str->Option Value},P.Nodup->P[i]?=some x->vs[i]?=some v->kindOf x=some .local->
    bindL kindOf (P.zip vs) m x=some v
  | [],_,_,_,_,h,_,_=>by simp at h
  | _::_,[],_,_,_,_,h,_=>by simp at h
  | p::P,w::vs,0,m,nd,h1,h2,hk=>by
    simp at h1 h2; subst h1; subst h2
    show bindL kindOf ((p,w)::P.zip vs) m p=_
    unfold bindL
    rw [bindL_out fun v hv=>(List.nodup_cons.mp nd).1 (List.of_mem_zip hv).1,if_pos hk]
    simp
  | p::P,w::vs,i+1,m,nd,h1,h2,hk=>by
    show bindL kindOf ((p,w)::P.zip vs) m x=_
    unfold bindL
    exact bindL_get (i:=i) (List.nodup_cons.mp nd).2 (by simpa using h1) (by simpa using h2) hk
theorem bindC_get {kindOf:Str->Option NameKind} {x:Str} {v:Value}:∀ {P:List Str} {vs:List Value} {i:Nat} {m:Str->Option Value},P.Nodup->P[i]?=some x->vs[i]?=some v->kindOf x≠some .local->
    bindC kindOf (P.zip vs) m x=some v
  | [],_,_,_,_,h,_,_=>by simp at h
  | _::_,[],_,_,_,_,h,_=>by simp at h
  | p::P,w::vs,0,m,nd,h1,h2,hk=>by
    simp at h1 h2; subst h1; subst h2
    show bindC kindOf ((p,w)::P.zip vs) m p=_
    unfold bindC
    rw [bindC_out fun v hv=>(List.nodup_cons.mp nd).1 (List.of_mem_zip hv).1,if_neg hk]
    simp
  | p::P,w::vs,i+1,m,nd,h1,h2,hk=>by
    show bindC kindOf ((p,w)::P.zip vs) m x=_
    unfold bindC
    exact bindC_get (i:=i) (List.nodup_cons.mp nd).2 (by simpa using h1) (by simpa using h2) hk
def start (N:List Str) (vs:List V):St:=vs.map some++List.replicate (N.length - vs.length) none
def cxOf (CX:CXT) (P:Program) (w:World) (K:PySem.W.Frag) (mg:Str->Option Value) (base:Heap) (N:List Str) (qual:Str) (scope:Scope) (f:Addr) (cd:Value) (A:Around) (outer:List Env) (s:Shared) (H:Hp) (E:XK):Cx where
  prog:=P
  w:=w
  K:=K
  mg:=mg
  base:=base
  A:=A.deeper (envOfC qual scope s.heap.objs.size f cd)
  N:=N
  s₀:=s
  H₀:=H
  env:=envOfC qual scope s.heap.objs.size f cd
  outer:=outer
  stack:=envOfC qual scope s.heap.objs.size f cd::outer
  ex:=[]
  calm:=true
  fn:=fun _=>true
  pn:=[]
  xe:=fun e s'=>wpAny (model P w) (A.deeper (envOfC qual scope s.heap.objs.size f cd)) (leaving (envOfC qual scope s.heap.objs.size f cd) e) (fun _ s''=>CX outer H s E e s'') (fun e' s''=>CX outer H s E e' s'') s'
theorem cell_has {sc:Scope} {n:Nat} {x:Str} (h:sc.names.lookup x=some .cell):∃ c,(cellsFrom n sc.names []).lookup x=some c:=by
  have q:=PySem.W.cellsFrom_some sc.names n [] (.inl h)
  exact Option.isSome_iff_exists.mp q
theorem inv_start {CX:CXT} {P:Program} {w:World} {K:PySem.W.Frag} {mg:Str->Option Value} {base:Heap} {N ps:List Str} {qual:Str} {scope:Scope} {f:Addr} {cd:Value} {A:Around} {outer:List Env} {s s1:Shared} {H:Hp} {E:XK} {us:List Value} {vs:List V}
    (S:FnScope N ps scope) (hd:A.handled=none) (e0:Env0 P w K mg base A outer s H) (hl:vs.length=ps.length) (r:Vals vs us)
    (x:InCallC s s.heap.objs.size (bindL (envOfC qual scope s.heap.objs.size f cd).kindOf (ps.zip us) fun _=>none) (cellsFrom (s.heap.objs.size+1) scope.names []) (bindC (envOfC qual scope s.heap.objs.size f cd).kindOf (ps.zip us) fun _=>none) s1):
    Inv (cxOf CX P w K mg base N qual scope f cd A outer s H E) [] (start N vs) H s1:=by
  have hpl:ps.length<=N.length:=by have:=congrArg List.length S.pre; rw [List.length_take] at this; omega
  obtain⟨h1,tk,rfl,hk⟩:=x.done
  have noA:∀ b:Addr,b∉(cxOf CX P w K mg base N qual scope f cd A outer s H E).ex:=fun b z=>absurd (show b∈([]:List Addr) from z) (by simp)
  refine⟨⟨e0.mod,S.kind,rfl,rfl,Nat.le_refl _,fun y z c h1 h2=>?_,fun y hy=>?_,fun y c _ h=>?_,fun _=>hd,Around.frames_deeper e0.frames,.inr ⟨rfl,rfl⟩,fun b z=>absurd z (noA b),e0.bs,e0.bsz,fun b _ _=>noA b,fun b z=>absurd z (noA b),e0.funs,e0.frf⟩,
    rfl,e0.bare,Un.kept hk,⟨_,x.toInCall.ns,fun i y v h1 h2 h3=>?_⟩,fun y c h=>⟨_,x.cell y c h⟩,e0.hok.fresh (Nat.le_refl _),fun y c h=>?_,fun p hp=>absurd (show p∈([]:List (Addr×Obj)) from hp) (by simp),e0.hok.kept hk,?_⟩
  · exact name_of_addr x.apart (PySem.mem_of_lookup h1) (PySem.mem_of_lookup h2)
  · have hy:scope.names.lookup y=some .cell\/scope.names.lookup y=some .free:=hy
    rcases hy with hy | hy
    · exact cell_has hy
    · exact absurd rfl (S.nofree _ (PySem.mem_of_lookup hy))
  · exact Nat.le_of_lt (x.above y c (PySem.mem_of_lookup h))
  · have hi:i < vs.length:=by
      unfold start at h2
      by_cases hi:i < vs.length
      · exact hi
      · rw [List.getElem?_append_right (by simpa using hi)] at h2
        rw [List.getElem?_replicate] at h2
        split at h2 <;> cases h2
    have ha:vs[i]?=some v:=by
      unfold start at h2
      rw [List.getElem?_append_left (by simpa using hi),List.getElem?_map] at h2
      cases e:vs[i]? with
      | none=>rw [e] at h2; cases h2
      | some a=>rw [e] at h2; cases h2; rfl
    obtain⟨u,hu,rv⟩:=r.get ha
    have hp:ps[i]?=some y:=by
      rw [<- S.pre,List.getElem?_take_of_lt (by omega)]; exact h1
    have ndP:ps.Nodup:=by rw [<- S.pre]; exact S.nd.sublist (List.take_sublist _ _)
    refine⟨u,rv,?_⟩
    rcases S.par y (List.mem_of_getElem? hp) with k | k
    · exact .inl ⟨k,bindL_get ndP hp hu k⟩
    · obtain⟨c,e⟩:=cell_has (n:=s.heap.objs.size+1) k
      refine .inr ⟨.inl k,c,e,?_⟩
      have q:=x.cell y c e
      rw [bindC_get ndP hp hu (by show scope.names.lookup y≠_; rw [k]; decide)] at q
      exact q
  · exact e0.hok.fresh (Nat.le_of_lt (x.above y c (PySem.mem_of_lookup h)))
  · unfold start
    show _=N.length
    rw [List.length_append,List.length_map,List.length_replicate]
    omega
theorem fn_of {CX:CXT} {P:Program} {w:World} {K:PySem.W.Frag} {mg:Str->Option Value} {base:Heap} {k:Nat} {f:Addr} {name qual:Str} {params:Arguments} {body:List Stmt} {scope:Scope} {dV kV doc pm cdv ct oc:Value} {an od:Option Addr}
    {osl:Array (Option Value)} {N ps:List Str} {sp:Sp} (lk:K.lookup f=some ⟨oc,od,.func (PySem.W.fnOf name qual params body scope dV kV doc pm an cdv ct),osl⟩) (hcd:PySem.W.codeIn K cdv qual=true) (S:FnScope N ps scope)
    (len:∀ vs H Q E,sp vs H Q E->vs.length=ps.length)
    (hbody:∀ (A:Around) (outer:List Env) (s:Shared) (H:Hp) (vs:List V) (Q:VK) (E:XK),Room k (A.deeper (envOfC qual scope s.heap.objs.size f cdv))->sp vs H Q E->
      ∃ t,PSs (cxOf CX P w K mg base N qual scope f cdv A outer s H E) body t/\t {nx:=fun _ H'=>Q .non H',rt:=Q} (start N vs) H):
    FnOk P w K mg base CX (k+1) f (PySem.W.fnOf name qual params body scope dV kV doc pm an cdv ct) ps sp:=by
  refine⟨len,fun A outer s H args us vs Q E hr e0 hb r hsp=>?_⟩
  have hl:=len _ _ _ _ hsp
  have KX:K.In s.heap:=e0.mod.kin.keeps fun b o e=>(e0.bs b o e).1
  have lim:s.heap.NoLimit:=e0.mod.nolimit.keeps fun b o e=>(e0.bs b o e).1
  have hkind:∀ y∈ps.zip us,scope.names.lookup y.1=some .local\/(scope.names.lookup y.1=some .cell/\((cellsFrom (s.heap.objs.size+1) scope.names []).lookup y.1).isSome=true):=fun⟨n,v⟩ hy=>by
    rcases S.par n (List.of_mem_zip hy).1 with q | q
    · exact .inl q
    · exact .inr ⟨q,PySem.W.cellsFrom_some _ _ _ (.inl q)⟩
  refine codeAny_call_function hr.depth (KX _ _ lk) rfl S.co S.gen rfl (PySem.W.codeRec_of KX hcd) (hb _ _ _ _ ?_)
  refine wpAny_newFunctionEnv_cells S.kind hkind fun env he s1 x=>?_
  subst he
  refine⟨lim.keeps x.toInCall.keep,codeAny_func ?_⟩
  obtain⟨t,ht,hq⟩:=hbody A outer s H vs Q E (hr.deeper _) hsp
  have I:Inv (cxOf CX P w K mg base N qual scope f cdv A outer s H E) [] (start N vs) H s1:=inv_start S hr.hd e0 hl r x
  refine wpAny_mono (ht [] s1 (start N vs) H _ I hq) (fun fl s' hs=>?_) fun e s' hs=>hs
  have fin:∀ {σ':St} {H':Hp} {v:V} {u:Value},Inv (cxOf CX P w K mg base N qual scope f cdv A outer s H E) [] σ' H' s'->RelV v u->Q v H'->CE outer P w H s Q u s':=
    fun {σ' H' v u} J rv q=>⟨v,H',J.os,J.bare,J.base,J.hok,rv,q⟩
  cases fl with
  | ret u=>
    obtain⟨v,σ',H',J,rv,q⟩:=hs
    exact fin J rv q
  | next=>
    obtain⟨σ',H',J,q⟩:=hs
    exact fin (v:=V.non) (u:=Value.none) J rfl q
  | brk=>
    obtain⟨_,_,_,q⟩:=hs
    exact False.elim q
  | cont=>
    obtain⟨_,_,_,q⟩:=hs
    exact False.elim q
section
variable {X:Cx} {x:Str} {p pos:Pos} {e:Expr} {es:List Expr} {t:TA} {id T:String} {r:List V->Hp->VK->Prop}
def tCB (r:List V->Hp->VK->Prop) (t:TA):TE:=fun σ H Q=>t σ H fun vs H1=>r vs H1 Q
theorem pe_callB (hc:CallR X (.builtin id) r) (hg:Gl X x) (hm:X.mg x=none) (hv:bootBuiltins x=some (.builtin id)) (ha:PA X (e::es) t) (hn:x≠"__name__":=by decide) (hdb:(x == ("__debug__":Str))=false:=by decide)
    (he:starEach (e::es) X.env=(false,eval e X.env)::starEach es X.env:=by rfl) (hpl:(backTo pos (starEach es X.env)).any (·.1)=false:=by rfl):PE X (.Call (.Name x p) (e::es) [] pos) (tCB r t):=by
  intro pins s σ H Q I h
  refine wpAny_Call_Name_kw (ld_blt I hg hm hv ?_ hn hdb)
  exact PyProof.Rows.callWith_builtin1 (thn (ha pos pins s σ H _ I h) fun us s1 ⟨vs,H1,I1,r1,q1⟩=>hc pins s1 σ H1 vs us Q I1 r1 q1) he hpl
theorem pe_callTy (hc:CallR X (.type T) r) (hg:Gl X x) (hm:X.mg x=none) (hv:bootBuiltins x=some (.type T)) (ha:PA X (e::es) t) (hn:x≠"__name__":=by decide) (hdb:(x == ("__debug__":Str))=false:=by decide)
    (he:starEach (e::es) X.env=(false,eval e X.env)::starEach es X.env:=by rfl) (hpl:(backTo pos (starEach es X.env)).any (·.1)=false:=by rfl):PE X (.Call (.Name x p) (e::es) [] pos) (tCB r t):=by
  intro pins s σ H Q I h
  refine wpAny_Call_Name_kw (ld_blt I hg hm hv ?_ hn hdb)
  exact PyProof.Rows.callWith_type1 (thn (ha pos pins s σ H _ I h) fun us s1 ⟨vs,H1,I1,r1,q1⟩=>hc pins s1 σ H1 vs us Q I1 r1 q1) he hpl
end
end L2
namespace HT
open PySem PyProof.Rows
section
variable {prog:Program} {w:World} {A:Around} {E:Value->Shared->Prop} {s:Shared}
theorem cat_tup {t b:Addr} {vs ws:List Value} {Q:Value->Shared->Prop} (ht:IsTup s.heap t vs.toArray) (hb:IsTup s.heap b ws.toArray) (hv:vs≠[])
    (h1:ws=[]->Q (.ref t) s) (h2:ws≠[]->Q (.ref s.heap.objs.size) {s with heap:=s.heap.push {cls:=.type "tuple",data:=.seq (vs++ws).toArray}})
    (hsz:vs.length+ws.length<=sizeLine):wpAny (model prog w) A (binaryOp .Add (.ref t) (.ref b)) Q E s:=by
  obtain⟨⟨cls,dd,data,sl⟩,ho,hc,n,hd⟩:=id ht
  obtain⟨⟨cls2,dd2,data2,sl2⟩,ho2,hc2,n2,hd2⟩:=id hb
  simp only at hc hd hc2 hd2
  subst hc hd hc2 hd2
  have e:vs.toArray++ws.toArray=(vs++ws).toArray:=by simp
  by_cases hw:ws=[]
  · exact concat_meets ⟨_,ho,rfl⟩ ⟨_,ho2,rfl⟩ noFill_tuple_add seq_tuple_add PySem.F.slot_tuple_add PySem.F.entry_tuple_add (PySem.F.args_tuple_add_2 _ _)
      (tuple_addW1 t b vs.toArray ws.toArray n n2 dd dd2 sl sl2 (by simpa using hv) (by simp [hw])) ⟨ho,ho2,h1 hw⟩
  · refine concat_meets ⟨_,ho,rfl⟩ ⟨_,ho2,rfl⟩ noFill_tuple_add seq_tuple_add PySem.F.slot_tuple_add PySem.F.entry_tuple_add (PySem.F.args_tuple_add_2 _ _)
      (tuple_addW2 t b vs.toArray ws.toArray n n2 dd dd2 sl sl2 (by simpa using hv) (by simpa using hw) (by rw [List.size_toArray,List.size_toArray]; exact hsz)) ⟨ho,ho2,?_⟩
    rw [e]
    exact h2 hw
def sIx (n d:Nat):Option Int->Nat
  | none=>d
  | some v=>if v < 0 then(v+(n:Int)).toNat else min v.toNat n
theorem sIx_le (n d:Nat) (hd:d<=n) (o:Option Int):sIx n d o<=n:=by
  cases o with
  | none=>exact hd
  | some v=>
    show(if v < 0 then(v+(n:Int)).toNat else min v.toNat n)<=n
    by_cases hv:v < 0
    · rw [if_pos hv]; omega
    · rw [if_neg hv]; exact Nat.min_le_right _ _
theorem clip_eq (v:Int) (n d:Nat):(if v < 0 then max (v+(n:Int)) 0 else min v (n:Int))=((sIx n d (some v):Nat):Int):=by
  show(if v < 0 then max (v+(n:Int)) 0 else min v (n:Int))=(((if v < 0 then(v+(n:Int)).toNat else min v.toNat n):Nat):Int)
  by_cases hv:v < 0
  · simp only [if_pos hv]; omega
  · simp only [if_neg hv]; omega
theorem adjust_gen (lo hi:Option Int) (n:Nat):Builtin.Slice.sliceAdjust lo hi 1 (n:Int)=(((sIx n 0 lo:Nat):Int),((sIx n n hi:Nat):Int)):=by
  have h1:¬ ((1:Int) < 0):=by omega
  unfold Builtin.Slice.sliceAdjust
  simp only [h1,if_false]
  refine Prod.ext ?_ ?_
  · cases lo with
    | none=>rfl
    | some v=>exact clip_eq v n 0
  · cases hi with
    | none=>rfl
    | some v=>exact clip_eq v n n
theorem places_gen (i j:Nat):Builtin.Slice.slicePlaces (i:Int) (j:Int) 1=j - i:=by
  unfold Builtin.Slice.slicePlaces
  have h1:(1:Int) > 0:=by omega
  simp only [h1,if_true,Int.ediv_one]
  split <;> omega
theorem slicePart_ {v:Value} {o:Option Int} {Q:Option Int->Shared->Prop} (p:IsPart v o) (h:Q o s):wpAny (model prog w) A (Builtin.Slice.slicePartIndex v) Q E s:=by
  cases p with
  | none=>exact slicePart_none h
  | int i t=>exact slicePart_int h
theorem sliceApplied_gen {sl:Addr} {vl vu:Value} {lo hi:Option Int} {n:Nat} {Q:Int×Int×Nat->Shared->Prop} (hs:s.heap.IsSliceOf sl vl vu .none) (pl:IsPart vl lo) (pu:IsPart vu hi)
    (h:Q (((sIx n 0 lo:Nat):Int),1,sIx n n hi - sIx n 0 lo) s):wpAny (model prog w) A (Builtin.Slice.sliceApplied (.ref sl) (pure (n:Int))) Q E s:=by
  obtain⟨os,hos,hcs,hds⟩:=id hs
  unfold Builtin.Slice.sliceApplied Builtin.Slice.sliceFields
  refine wpAny_bind (wpAny_bind (wpAny_field hos hds (x:=vl) rfl (wpAny_bind (wpAny_field hos hds (x:=vu) rfl (wpAny_bind (wpAny_field hos hds (x:=.none) rfl (wpAny_pure ?_)))))))
  refine wpAny_bind (slicePart_none ?_)
  show wpAny _ _ (if ((1:Int) == 0)=true then _ else _) _ _ s
  rw [if_neg (by decide)]
  refine wpAny_bind (slicePart_ pl (wpAny_bind (slicePart_ pu (wpAny_bind (wpAny_pure ?_)))))
  show wpAny _ _ (match Builtin.Slice.sliceAdjust lo hi 1 (n:Int) with | (lo,hi)=>pure (lo,(1:Int),Builtin.Slice.slicePlaces lo hi 1)) _ _ s
  rw [adjust_gen lo hi n]
  show wpAny _ _ (pure (((sIx n 0 lo:Nat):Int),(1:Int),Builtin.Slice.slicePlaces ((sIx n 0 lo:Nat):Int) ((sIx n n hi:Nat):Int) 1)) _ _ s
  rw [places_gen]
  exact wpAny_pure h
theorem pick_gen (xs:Array Value) (i k:Nat):((List.range k).filterMap fun(m:Nat)=>xs[((i:Int)+(m:Int)*1).toNat]?).toArray=((xs.toList.drop i).take k).toArray:=by
  have e:(fun (m:Nat)=>xs[((i:Int)+(m:Int)*1).toNat]?)=fun m=>xs[i+m]?:=by
    funext m
    have:((i:Int)+(m:Int)*1).toNat=i+m:=by omega
    rw [this]
  rw [e]
  have:=pick_run xs i k
  rw [List.filterMap_map] at this
  have e2:((fun x=>xs[x]?) ∘ fun x=>i+x)=fun m=>xs[i+m]?:=rfl
  rw [e2] at this
  rw [this]
theorem getItem_tuple_cut {t sl:Addr} {items:Array Value} {vl vu:Value} {lo hi:Option Int} {Q:Value->Shared->Prop} (ht:IsTup s.heap t items) (hs:s.heap.IsSliceOf sl vl vu .none) (pl:IsPart vl lo) (pu:IsPart vu hi)
    (hw:¬ (sIx items.size 0 lo=0/\sIx items.size items.size hi=items.size))
    (h:Q (.ref s.heap.objs.size) {s with heap:=s.heap.push {cls:=.type "tuple",data:=.seq ((items.toList.drop (sIx items.size 0 lo)).take (sIx items.size items.size hi - sIx items.size 0 lo)).toArray}})
    (hsz:items.size<=sizeLine):wpAny (model prog w) A (getItem (.ref t) (.ref sl)) Q E s:=by
  have htake:sizeOk (.seq ((items.toList.drop (sIx items.size 0 lo)).take (sIx items.size items.size hi - sIx items.size 0 lo)).toArray):=by
    show((items.toList.drop (sIx items.size 0 lo)).take (sIx items.size items.size hi - sIx items.size 0 lo)).toArray.size<=sizeLine
    rw [List.size_toArray,List.length_take,List.length_drop,Array.length_toList]
    omega
  have hj:sIx items.size items.size hi<=items.size:=sIx_le _ _ (Nat.le_refl _) hi
  obtain⟨os,hos,hcs,hds⟩:=id hs
  have hTs:s.TypeIs (.ref sl) "slice":=⟨os,hos,hcs⟩
  unfold getItem
  try with_reducible refine wpAny_holding ?_
  first | refine wpAny_bind (wpAny_pure ?_) | skip
  refine wpAny_bind (wpAny_sequenceKey ht.typeIs (by decide) ?_)
  refine wpAny_bind (wpAny_callSpecial?_slot (name:=Str.ofString "__getitem__") ht.typeIs PyProof.Rows.slot_tuple_getitem
    (wpAny_call_entry PyProof.Rows.slot_tuple_getitem ht.typeIs entry_tuple_getitem ?_ (args_tuple_getitem _ _)))
  show wpAny _ _ (Builtin.Tuple.tupleItemsOf (.ref t) >>= _) _ _ s
  refine wpAny_bind (tupleItemsOf_ ht ?_)
  refine wpAny_bind (wpAny_typeOf hTs ?_)
  rw [if_pos (by decide)]
  refine wpAny_bind (sliceApplied_gen hs pl pu ?_)
  have hno:¬ ((((sIx items.size 0 lo:Nat):Int) == 0 && (1:Int) == 1 && (sIx items.size items.size hi - sIx items.size 0 lo) == items.size)=true):=by
    intro q
    rw [Bool.and_eq_true,Bool.and_eq_true] at q
    have q1:((sIx items.size 0 lo:Nat):Int)=0:=eq_of_beq q.1.1
    have q2:sIx items.size items.size hi - sIx items.size 0 lo=items.size:=eq_of_beq q.2
    exact hw ⟨by omega,by omega⟩
  show wpAny _ _ (if (((sIx items.size 0 lo:Nat):Int) == 0 && (1:Int) == 1 && (sIx items.size items.size hi - sIx items.size 0 lo) == items.size)=true then _ else _) _ _ s
  rw [if_neg hno,pick_gen]
  first
    | exact wpAny_bind (m:=Builtin.Tuple.tupleExact _) (wpAny_newObj_type (wpAny_pure ⟨_,rfl,wpAny_pure h⟩) htake)
    | exact wpAny_bind (m:=Builtin.Tuple.tupleExact _) (wpAny_newObj_type (wpAny_bind (wpAny_pure (wpAny_pure ⟨_,rfl,wpAny_pure h⟩))) htake)
    | exact wpAny_bind (wpAny_bind (m:=Builtin.Tuple.tupleExact _) (wpAny_newObj_type (wpAny_pure (wpAny_pure ⟨_,rfl,wpAny_pure h⟩)) htake))
    | exact wpAny_bind (wpAny_bind (m:=Builtin.Tuple.tupleExact _) (wpAny_newObj_type (wpAny_pure ⟨_,rfl,wpAny_pure h⟩) htake))
end
end HT
namespace L2
open PySem PySem.Spec PyProof.Rows
abbrev TO:=St->Hp->(Option Int->Hp->Prop)->Prop
def PO (X:Cx) (e:Option Expr) (t:TO):Prop:=
  ∀ (pins:List (Addr×Obj)) (s:Shared) (σ:St) (H:Hp) (Q:Option Int->Hp->Prop),Inv X pins σ H s->t σ H Q->
    wpAny (model X.prog X.w) X.A (evalPart e X.env) (fun u s'=>∃ o H',Inv X pins σ H' s'/\IsPart u o/\Q o H') X.xe s
def tNoPart:TO:=fun _ H Q=>Q none H
def tPart (t:TE):TO:=fun σ H Q=>t σ H fun x H1=>∃ i,x=.int i/\Q (some i) H1
section
variable {X:Cx} {e:Expr} {te:TE} {lo hi:Option Expr} {tl th:TO} {pos p2:Pos}
theorem po_none:PO X none tNoPart:=by
  intro pins s σ H Q I h
  rw [evalPart_none]
  exact wpAny_pure ⟨none,H,I,.none,h⟩
theorem po_some (h:PE X e te):PO X (some e) (tPart te):=by
  intro pins s σ H Q I hw
  rw [evalPart_some]
  refine thn (h pins s σ H _ I hw) fun u s1 ⟨x,H1,I1,r1,q1⟩=>?_
  obtain⟨i,rfl,q⟩:=q1
  obtain⟨t,rfl⟩:=r1
  exact⟨some i,H1,I1,.int i t,q⟩
def SlR (X:Cx) (r:V->Option Int->Option Int->Hp->VK->Prop):Prop:=
  ∀ (pins:List (Addr×Obj)) (s:Shared) (σ:St) (H:Hp) (x:V) (v vl vu:Value) (lo hi:Option Int) (sl:Addr) (Q:VK),Inv X pins σ H s->RelV x v->s.heap.IsSliceOf sl vl vu .none->IsPart vl lo->IsPart vu hi->r x lo hi H Q->
    ∃ T id,typeLookup (.type T) "__getitem__"=pure (some (.builtin id))/\s.TypeIs v T/\wpAny (model X.prog X.w) X.A (getItem v (.ref sl)) (EP X pins σ Q) X.xe s
theorem SlR.or {r r':V->Option Int->Option Int->Hp->VK->Prop} (h:SlR X r) (h':SlR X r'):SlR X (fun x lo hi H Q=>r x lo hi H Q\/r' x lo hi H Q):=by
  intro pins s σ H x v vl vu lo hi sl Q I rx hs pl pu q
  rcases q with q | q
  · exact h pins s σ H x v vl vu lo hi sl Q I rx hs pl pu q
  · exact h' pins s σ H x v vl vu lo hi sl Q I rx hs pl pu q
def tSl (r:V->Option Int->Option Int->Hp->VK->Prop) (te:TE) (tl th:TO):TE:=fun σ H Q=>te σ H fun x H1=>tl σ H1 fun l H2=>th σ H2 fun u H3=>r x l u H3 Q
theorem pe_slice {r:V->Option Int->Option Int->Hp->VK->Prop} (hr:SlR X r) (he:PE X e te) (hl:PO X lo tl) (hu:PO X hi th):PE X (.Subscript e (.Slice lo hi none p2) pos) (tSl r te tl th):=by
  intro pins s σ H Q I h
  refine Subscript_ (thn (he pins s σ H _ I h) fun v s1 ⟨x,H1,I1,r1,q1⟩=>?_)
  refine wpAny_Slice (thn (hl pins s1 σ H1 _ I1 q1) fun vl s2 ⟨l,H2,I2,pl,q2⟩=>thn (hu pins s2 σ H2 _ I2 q2) fun vu s3 ⟨u,H3,I3,pu,q3⟩=>?_)
  rw [evalPart_none]
  refine wpAny_pure ?_
  have I4:Inv X pins σ H3 {s3 with heap:=s3.heap.push {cls:=.type "slice",data:=.fields #[vl,vu,.none]}}:=I3.kept (t':=s3.toks) fun b ob q=>Heap.get?_push_of_some _ q
  obtain⟨T,id,hT,ht,hg⟩:=hr pins {s3 with heap:=s3.heap.push {cls:=.type "slice",data:=.fields #[vl,vu,.none]}} σ H3 x v vl vu l u s3.heap.objs.size Q I4 r1 (Heap.IsSliceOf.new ..) pl pu q3
  show wpAny (model X.prog X.w) X.A (subscriptTail e (.Slice lo hi none p2) v (.ref s3.heap.objs.size)) (EP X pins σ Q) X.xe {s3 with heap:=s3.heap.push {cls:=.type "slice",data:=.fields #[vl,vu,.none]}}
  exact tail_any (ops:=[.ref s3.heap.objs.size,v]) ht hT hg (by with_unfolding_all rfl)
def cutV (xs:List V) (lo hi:Option Int):List V:=(xs.drop (HT.sIx xs.length 0 lo)).take (HT.sIx xs.length xs.length hi - HT.sIx xs.length 0 lo)
theorem cutV_length (xs:List V) (lo hi:Option Int):(cutV xs lo hi).length<=xs.length:=by
  unfold cutV
  rw [List.length_take,List.length_drop]
  omega
def rSlT (K:PySem.W.Frag):V->Option Int->Option Int->Hp->VK->Prop:=fun x lo hi H Q=>∃ a xs,x=.ref a/\SqT K H a xs/\
  ¬ (HT.sIx xs.length 0 lo=0/\HT.sIx xs.length xs.length hi=xs.length)/\∀ p,H p=none->Q (.ref p) (upd H p (.tup (cutV xs lo hi)))
theorem sl_tup:SlR X (rSlT X.K):=by
  intro pins s σ H x v vl vu lo hi sl Q I rx hs pl pu h
  obtain⟨a,xs,rfl,hx,hw,q⟩:=h
  cases rx
  obtain⟨its,r,ht,hz⟩:=I.tuple hx
  have hlen:its.toArray.size=xs.length:=by rw [List.size_toArray]; exact r.length.symm
  refine⟨"tuple",_,PyProof.Rows.slot_tuple_getitem.lookup,ht.typeIs,?_⟩
  refine HT.getItem_tuple_cut ht hs pl pu (by rw [hlen]; exact hw) ?_ (by rw [hlen]; exact hz)
  rw [hlen]
  refine⟨.ref s.heap.objs.size,_,I.laid (t':=s.toks) (o:=.tup (cutV xs lo hi)) (fun b ob q=>Heap.get?_push_of_some _ q) (Nat.le_refl _) ?_,rfl,q _ (I.hok.fresh (Nat.le_refl _))⟩
  exact⟨Nat.le_trans (cutV_length xs lo hi) hz,_,(r.drop (HT.sIx xs.length 0 lo)).take (HT.sIx xs.length xs.length hi - HT.sIx xs.length 0 lo),IsTup.new _ _⟩
def rCatT (K:PySem.W.Frag):R2:=fun x y H Q=>∃ a b xs ys,x=.ref a/\y=.ref b/\SqT K H a xs/\SqT K H b ys/\xs≠[]/\xs.length+ys.length<=sizeLine/\
  (ys=[]->Q (.ref a) H)/\(ys≠[]->∀ p,H p=none->Q (.ref p) (upd H p (.tup (xs++ys))))
theorem Vals.nil_iff {xs:List V} {us:List Value} (r:Vals xs us):us=[]↔xs=[]:=by
  cases r with
  | nil=>simp
  | cons _ _=>simp
theorem op_catT:OpR X (binaryOp .Add) (rCatT X.K):=by
  intro pins s σ H x y v u Q I rx ry h
  obtain⟨a,b,xs,ys,rfl,rfl,ha,hb,hx,hz,q1,q2⟩:=h
  cases rx
  cases ry
  obtain⟨its,r1,p1,_⟩:=I.tuple ha
  obtain⟨its2,r2,p2,_⟩:=I.tuple hb
  refine HT.cat_tup p1 p2 (fun z=>hx (r1.nil_iff.mp z)) (fun z=>⟨.ref a,H,I,rfl,q1 (r2.nil_iff.mp z)⟩) (fun z=>?_) (by rw [<- r1.length,<- r2.length]; exact hz)
  refine⟨.ref s.heap.objs.size,_,I.laid (t':=s.toks) (o:=.tup (xs++ys)) (fun b ob q=>Heap.get?_push_of_some _ q) (Nat.le_refl _) ?_,rfl,q2 (fun w=>z (r2.nil_iff.mpr w)) _ (I.hok.fresh (Nat.le_refl _))⟩
  exact⟨by rw [List.length_append]; exact hz,_,r1.append r2,IsTup.new _ _⟩
end
def ixN (n:Nat) (i:Int):Option Nat:=if 0<=i then(if i < n then some i.toNat else none) else if -(n:Int)<=i then some (i+n).toNat else none
def atI {α:Type} (xs:List α) (i:Int):Option α:=(ixN xs.length i).bind fun j=>xs[j]?
theorem ixN_seq {n:Nat} {i:Int} {j:Nat} (h:ixN n i=some j):seqIndex? i n=some j/\j < n/\-(n:Int)<=i/\i < n:=by
  unfold ixN at h
  by_cases h0:0<=i
  · rw [if_pos h0] at h
    by_cases h1:i < n
    · rw [if_pos h1] at h
      have e:i.toNat=j:=Option.some.inj h
      exact⟨by rw [seqIndex_of h0 h1,e],by omega,by omega,h1⟩
    · rw [if_neg h1] at h; cases h
  · rw [if_neg h0] at h
    by_cases h1:-(n:Int)<=i
    · rw [if_pos h1] at h
      have e:(i+n).toNat=j:=Option.some.inj h
      exact⟨by rw [seqIndex_neg (by omega) h1,e],by omega,h1,by omega⟩
    · rw [if_neg h1] at h; cases h
theorem atI_get {α:Type} {xs:List α} {i:Int} {v:α} (h:atI xs i=some v):∃ j,seqIndex? i xs.length=some j/\xs[j]?=some v/\j < xs.length/\-(xs.length:Int)<=i/\i < xs.length:=by
  unfold atI at h
  cases e:ixN xs.length i with
  | none=>rw [e] at h; cases h
  | some j=>
    rw [e] at h
    obtain⟨h1,h2,h3,h4⟩:=ixN_seq e
    exact⟨j,h1,h,h2,h3,h4⟩
theorem atI_nat {α:Type} {xs:List α} {j:Nat} {v:α} (h:xs[j]?=some v):atI xs (j:Int)=some v:=by
  have hj:j < xs.length:=(List.getElem?_eq_some_iff.mp h).1
  have e:ixN xs.length (j:Int)=some j:=by
    unfold ixN
    rw [if_pos (by omega),if_pos (by omega)]; simp
  unfold atI; rw [e]; exact h
def PlainIx (b:Expr):Prop:=∀ o i,subscripted b false o i=operate [o,i] (getItem o i)
def IxR (X:Cx) (r:R2):Prop:=
  ∀ (value slice:Expr) (pins:List (Addr×Obj)) (s:Shared) (σ:St) (H:Hp) (x y:V) (v u:Value) (Q:VK),Inv X pins σ H s->RelV x v->RelV y u->r x y H Q->
    subscripted slice false v u=operate [v,u] (getItem v u)->wpAny (model X.prog X.w) X.A (subscriptTail value slice v u) (EP X pins σ Q) X.xe s
def MtR (X:Cx) (id:String) (r:V->List V->Hp->VK->Prop):Prop:=
  ∀ (pins:List (Addr×Obj)) (s:Shared) (σ:St) (H:Hp) (x:V) (xs:List V) (v:Value) (us:List Value) (Q:VK),Inv X pins σ H s->RelV x v->Vals xs us->r x xs H Q->
    wpAny (model X.prog X.w) X.A (call (.builtin id) (v::us)) (EP X pins σ Q) X.xe s
section
variable {X:Cx} {a b:Expr} {ta tb:TE} {pos:Pos}
theorem pe_ix {r:R2} (hr:IxR X r) (ha:PE X a ta) (hb:PE X b tb) (hs:PlainIx b):PE X (.Subscript a b pos) (tOp r ta tb):=by
  intro pins s σ H Q I h
  exact Subscript_ (binT ha hb I h fun v u s2 x y H2 I2 rx ry q=>hr a b pins s2 σ H2 x y v u Q I2 rx ry q (hs _ _))
def rIxL (K:PySem.W.Frag):R2:=fun x y H Q=>∃ p xs i v,x=.ref p/\y=.int i/\SqL K H p xs/\atI xs i=some v/\Q v H
def rIxT (K:PySem.W.Frag):R2:=fun x y H Q=>∃ p xs i v,x=.ref p/\y=.int i/\SqT K H p xs/\atI xs i=some v/\Q v H
theorem ix_list:IxR X (rIxL X.K):=by
  intro value slice pins s σ H x y v u Q I rx ry h hs
  obtain⟨p,xs,i,z,rfl,rfl,hq,he,q⟩:=h
  cases rx
  obtain⟨t,rfl⟩:=ry
  obtain⟨its,r,pl,hz⟩:=I.list hq
  obtain⟨j,h1,h2,h3,h4,h5⟩:=atI_get he
  obtain⟨w,ew,rw'⟩:=r.get h2
  have hl:=r.length
  have hn:=line63
  have fin:EP X pins σ Q w s:=⟨z,H,I,rw',q⟩
  by_cases h0:0<=i
  · have hj:i.toNat=j:=by
      rw [seqIndex_of h0 h5] at h1
      exact Option.some.inj h1
    exact item_listR pl.isList h0 (by omega) (by rw [hj]; simpa using ew) fin hs
  · have hj:(i+(its.toArray.size:Int)).toNat=j:=by
      rw [seqIndex_neg (by omega) h4] at h1
      rw [List.size_toArray,<- hl]
      exact Option.some.inj h1
    exact subscriptTail_builtinR (x:=w) pl.isList.typeIs slot_list_getitem.lookup
      (wpAny_getItem_list_neg (Q:=fun r s'=>r=w/\EP X pins σ Q r s') pl.isList (by omega) (by rw [List.size_toArray] <;> omega) (by omega) (by rw [hj]; simpa using ew) ⟨rfl,fin⟩) hs
theorem ix_tup:IxR X (rIxT X.K):=by
  intro value slice pins s σ H x y v u Q I rx ry h hs
  obtain⟨p,xs,i,z,rfl,rfl,hq,he,q⟩:=h
  cases rx
  obtain⟨t,rfl⟩:=ry
  obtain⟨its,r,pl,hz⟩:=I.tuple hq
  obtain⟨j,h1,h2,h3,h4,h5⟩:=atI_get he
  obtain⟨w,ew,rw'⟩:=r.get h2
  have hl:=r.length
  have hn:=line63
  have fin:EP X pins σ Q w s:=⟨z,H,I,rw',q⟩
  exact subscriptTail_builtinR (x:=w) pl.typeIs slot_tuple_getitem.lookup
    (getItem_tuple (j:=j) (Q:=fun r s'=>r=w/\EP X pins σ Q r s') pl (by omega) (by omega) (by rw [List.size_toArray,<- hl]; exact h1) (by simpa using ew) ⟨rfl,fin⟩) hs
theorem mapSeq_set (its:List Value) (n j:Nat) (u:Value):Obj.mapSeq (·.setIfInBounds j u) {cls:=.type "list",data:=.seq its.toArray n}={cls:=.type "list",data:=.seq (its.set j u).toArray n}:=by
  simp [Obj.mapSeq]
theorem Inv.lst {pins:List (Addr×Obj)} {σ:St} {H:Hp} {s:Shared} {p:Addr} {xs:List V} (I:Inv X pins σ H s) (h:H p=some (.lst xs)):
    ∃ (its:List Value) (n:Nat),Vals xs its/\s.heap.get? p=some {cls:=.type "list",data:=.seq its.toArray n}/\xs.length<=sizeLine:=by
  obtain⟨z,its,n,r,e⟩:=I.hok p _ h
  exact⟨its,n,r,e,z⟩
theorem Inv.lstUpd {pins:List (Addr×Obj)} {σ:St} {H:Hp} {s:Shared} {p:Addr} {xs ys:List V} {its its':List Value} {n n':Nat} {f:Obj->Obj} (I:Inv X pins σ H s) (h:H p=some (.lst xs))
    (ho:s.heap.get? p=some {cls:=.type "list",data:=.seq its.toArray n}) (hf:f {cls:=.type "list",data:=.seq its.toArray n}={cls:=.type "list",data:=.seq its'.toArray n'}) (r:Vals ys its') (hz:ys.length<=sizeLine) (t:Nat):
    Inv X pins σ (upd H p (.lst ys)) {s with heap:=s.heap.update p f,toks:=t}:=by
  have e:(s.heap.update p f).get? p=some {cls:=.type "list",data:=.seq its'.toArray n'}:=by
    rw [Heap.get?_update_self f ho (by rw [hf] <;> rfl),hf]
  refine I.write (x:=p) (e:=p) (by rw [h]; trivial) (.inl rfl) (fun b u hb q=>(Heap.get?_update_other _ _ (Ne.symm hb)).trans q) ⟨_,e⟩ ?_
  exact⟨hz,its',n',r,e⟩
def rSetL:V->V->V->Hp->(Hp->Prop)->Prop:=fun o i v H Q=>∃ p xs k j,o=.ref p/\i=.int k/\H p=some (.lst xs)/\ixN xs.length k=some j/\Q (upd H p (.lst (xs.set j v)))
theorem set_list:PSet X rSetL:=by
  intro pins s σ H o i v ov iv u Q I ro ri rv h
  obtain⟨p,xs,k,j,rfl,rfl,hp,hj,q⟩:=h
  cases ro
  obtain⟨t,rfl⟩:=ri
  obtain⟨its,n,r,ho,hz⟩:=I.lst hp
  obtain⟨h1,h2,h3,h4⟩:=ixN_seq hj
  have hl:=r.length
  have hn:=line63
  have I':Inv X pins σ (upd H p (.lst (xs.set j v))) {s with heap:=s.heap.update p (Obj.mapSeq (·.setIfInBounds j u))}:=
    I.lstUpd hp ho (mapSeq_set its n j u) (r.set rv j) (by rw [List.length_set]; exact hz) s.toks
  by_cases h0:0<=k
  · have hk:k.toNat=j:=by
      rw [seqIndex_of h0 h4] at h1
      exact Option.some.inj h1
    exact PySem.W.ki_setAt ho h0 (by omega) (by rw [List.size_toArray,<- hl]; exact h4) (by rw [hk]; exact⟨_,I',q⟩)
  · have hk:(k+(its.toArray.size:Int)).toNat=j:=by
      rw [seqIndex_neg (by omega) h3] at h1
      rw [List.size_toArray,<- hl]
      exact Option.some.inj h1
    exact PySem.W.ki_setBack ho (by omega) (by rw [List.size_toArray,<- hl]; exact h3) (by omega) (by rw [hk]; exact⟨_,I',q⟩)
theorem slice_bounds (lo hi:Option Int) (n:Nat):(sliceBounds lo hi none n).1=((HT.sIx n 0 lo:Nat):Int)/\(sliceBounds lo hi none n).2.1=((HT.sIx n n hi:Nat):Int)/\(sliceBounds lo hi none n).2.2=1:=by
  refine⟨?_,?_,rfl⟩
  · cases lo with
    | none=>simp [sliceBounds,HT.sIx]
    | some i=>
      simp only [sliceBounds,HT.sIx,Option.getD_none,show(1:Int) > 0 by decide,if_true]
      by_cases h:i < 0
      · simp only [h,if_true] <;> omega
      · simp only [h,if_false] <;> omega
  · cases hi with
    | none=>simp [sliceBounds,HT.sIx]
    | some i=>
      simp only [sliceBounds,HT.sIx,Option.getD_none,show(1:Int) > 0 by decide,if_true]
      by_cases h:i < 0
      · simp only [h,if_true] <;> omega
      · simp only [h,if_false] <;> omega
theorem slicePick_cut (its:List Value) (lo hi:Option Int):slicePick its.toArray lo hi none=((its.drop (HT.sIx its.length 0 lo)).take (HT.sIx its.length its.length hi - HT.sIx its.length 0 lo)).toArray:=by
  obtain⟨h1,h2,h3⟩:=slice_bounds lo hi its.toArray.size
  unfold slicePick
  rw [h1,h2,h3]
  simp only [sliceRange_one,pick_run,List.size_toArray] <;> rfl
def rSlL (K:PySem.W.Frag):V->Option Int->Option Int->Hp->VK->Prop:=fun x lo hi H Q=>∃ a xs,x=.ref a/\SqL K H a xs/\∀ p,H p=none->Q (.ref p) (upd H p (.lst (cutV xs lo hi)))
theorem sl_list:SlR X (rSlL X.K):=by
  intro pins s σ H x v vl vu lo hi sl Q I rx hs pl pu h
  obtain⟨a,xs,rfl,hx,q⟩:=h
  cases rx
  obtain⟨its,r,ht,hz⟩:=I.list hx
  have hlen:=r.length
  refine⟨"list",_,slot_list_getitem.lookup,ht.isList.typeIs,?_⟩
  refine wpAny_getItem_list_slice ht.isList hs pl pu .none (by simp) ?_ (by rw [List.size_toArray] <;> omega)
  rw [slicePick_cut,<- hlen]
  refine⟨.ref s.heap.objs.size,_,I.laid (t':=s.toks) (o:=.lst (cutV xs lo hi)) (fun b ob q=>Heap.get?_push_of_some _ q) (Nat.le_refl _) ?_,rfl,q _ (I.hok.fresh (Nat.le_refl _))⟩
  exact⟨Nat.le_trans (cutV_length xs lo hi) hz,_,0,(r.drop (HT.sIx xs.length 0 lo)).take (HT.sIx xs.length xs.length hi - HT.sIx xs.length 0 lo),Heap.get?_push_size _ rfl⟩
theorem call_len_seq:CallR X (.builtin "len") (fun xs H Q=>∃ p ys,xs=[.ref p]/\(SqL X.K H p ys\/SqT X.K H p ys)/\Q (.int ys.length) H):=by
  intro pins s σ H xs us Q I r h
  obtain⟨p,ys,rfl,hq,q⟩:=h
  obtain⟨u,rfl,rx⟩:=vals1 r
  cases rx
  have hn:=line63
  rcases hq with hq | hq
  · obtain⟨its,r',pl,hz⟩:=I.list hq
    have hlen:=r'.length
    exact Calls.call_len_list pl.isList (by simp only [List.size_toArray] <;> omega) ⟨.int ys.length,H,I.tok _,⟨s.toks+1,by rw [List.size_toArray,hlen]⟩,q⟩
  · obtain⟨its,r',pl,hz⟩:=I.tuple hq
    have hlen:=r'.length
    exact len_tuple pl (by simp only [List.size_toArray] <;> omega) ⟨.int ys.length,H,I.tok _,⟨s.toks+1,by rw [List.size_toArray,hlen]⟩,q⟩
theorem call_tuple_of:CallR X (.type "tuple") (fun xs H Q=>∃ p ys,xs=[.ref p]/\((SqL X.K H p ys/\∀ l,H l=none->Q (.ref l) (upd H l (.tup ys)))\/(SqT X.K H p ys/\Q (.ref p) H))):=by
  intro pins s σ H xs us Q I r h
  obtain⟨p,ys,rfl,h⟩:=h
  obtain⟨u,rfl,rx⟩:=vals1 r
  cases rx
  rcases h with ⟨hq,q⟩ | ⟨hq,q⟩
  · obtain⟨its,r',pl,hz⟩:=I.list hq
    have hlen:=r'.length
    refine call_tuple_list pl.isList (fun h' kp=>?_) (by simp only [List.size_toArray] <;> omega)
    have I1:Inv X pins σ H {s with heap:=h'}:=I.kept (t':=s.toks) kp
    have I2:Inv X pins σ (upd H h'.objs.size (.tup ys)) {s with heap:=h'.push {cls:=.type "tuple",data:=.seq its.toArray}}:=
      I1.laid (t':=s.toks) (fun b o e=>Heap.get?_push_of_some _ e) (Nat.le_refl _) (show ObjOk X.prog X.w _ _ _ (.tup ys) from⟨hz,its,r',IsTup.new _ _⟩)
    exact⟨.ref h'.objs.size,_,I2,rfl,q _ (I1.hok.fresh (Nat.le_refl _))⟩
  · obtain⟨its,r',pl,hz⟩:=I.tuple hq
    exact call_tuple_same pl ⟨.ref p,H,I,rfl,q⟩
def tyV (K:PySem.W.Frag) (T:String) (x:V) (H:Hp):Prop:=match x with
  | .str _=>T="str"
  | .int _=>T="int"
  | .ref p=>(T="list"/\∃ xs,SqL K H p xs)\/(T="tuple"/\∃ o,K.lookup p=some o/\o.cls=.type "tuple"/\o.dict=none)\/
      (T="dict"/\((∃ kvs,H p=some (.dK kvs))\/∃ kvs,H p=some (.dT kvs)))\/(T="set"/\∃ S n,H p=some (.set S n))
  | _=>False
theorem tyV_is {pins:List (Addr×Obj)} {σ:St} {H:Hp} {s:Shared} {T:String} {x:V} {v:Value} (I:Inv X pins σ H s) (r:RelV x v) (ty:tyV X.K T x H):
    s.TypeIs v T/\∀ a,v=.ref a->∃ ob,s.heap.get? a=some ob/\ob.dict=none:=by
  cases x with
  | str z=>
    obtain⟨t,rfl⟩:=r
    cases (show T="str" from ty)
    exact⟨typeIs_str s z t,fun _ e=>nomatch e⟩
  | int i=>
    obtain⟨t,rfl⟩:=r
    cases (show T="int" from ty)
    exact⟨typeIs_int s i t,fun _ e=>nomatch e⟩
  | ref p=>
    cases r
    rcases ty with ⟨rfl,xs,hq⟩ | ⟨rfl,o,hk,hc,hd⟩ | ⟨rfl,hk⟩ | ⟨rfl,S,n,hk⟩
    · obtain⟨its,_,pl,_⟩:=I.list hq
      refine⟨pl.isList.typeIs,fun a e=>?_⟩
      cases e
      obtain⟨o,n,e,c,hd,_⟩:=pl
      exact⟨o,e,hd⟩
    · refine⟨⟨o,I.kIn p o hk,hc⟩,fun a e=>?_⟩
      cases e
      exact⟨o,I.kIn _ o hk,hd⟩
    · have z:∃ o,s.heap.get? p=some o/\o.ExactDict:=by
        rcases hk with ⟨kvs,hk⟩ | ⟨kvs,hk⟩
        · obtain⟨_,_,_,_,o,_,_,e,ex,_⟩:=I.hok p _ hk
          exact⟨o,e,ex⟩
        · obtain⟨_,_,_,_,o,_,_,e,ex,_⟩:=I.hok p _ hk
          exact⟨o,e,ex⟩
      obtain⟨o,e,ex⟩:=z
      refine⟨⟨o,e,ex.1⟩,fun a e2=>?_⟩
      cases e2
      exact⟨o,e,ex.2.1⟩
    · obtain⟨o,_,_,_,e,ex,_⟩:=I.hok p _ hk
      refine⟨⟨o,e,ex.1⟩,fun a e2=>?_⟩
      cases e2
      exact⟨o,e,ex.2.1⟩
  | _=>exact False.elim ty
def tBM0 (K:PySem.W.Frag) (T:String) (r:V->List V->Hp->VK->Prop) (to:TE):TE:=fun σ H Q=>to σ H fun x H1=>tyV K T x H1/\r x [] H1 Q
def tBM (K:PySem.W.Frag) (T:String) (r:V->List V->Hp->VK->Prop) (to:TE) (t:TA):TE:=fun σ H Q=>to σ H fun x H1=>tyV K T x H1/\t σ H1 fun xs H2=>r x xs H2 Q
variable {o e:Expr} {es:List Expr} {to:TE} {t:TA} {name:Str} {apos cpos:Pos} {T id:String} {r:V->List V->Hp->VK->Prop}
theorem pe_bm0 (pa:PlainAttrs T) (slot:Slot T name id) (hty:typeOf (.builtin id)=pure (.type "method_descriptor")) (hm:MtR X id r) (ho:PE X o to)
    (hbase:attributeBase o name X.env (eval o X.env)=eval o X.env:=by rfl) (hline:(apos.endLine == cpos.line)=true:=by rfl):PE X (.Call (.Attribute o name apos) [] [] cpos) (tBM0 X.K T r to):=by
  intro pins s σ H Q I h
  refine wpAny_Call_method0_late hbase hline (thn (ho pins s σ H _ I h) fun v s1 ⟨x,H1,I1,r1,ty,q1⟩=>?_)
  obtain⟨h1,h2⟩:=tyV_is I1 r1 ty
  exact⟨T,id,pa,slot,hty,h1,h2,Calls.callWith_builtin rfl (PySem.evalArgs_none (hm pins s1 σ H1 x [] v [] Q I1 r1 .nil q1))⟩
theorem pe_bm (pa:PlainAttrs T) (slot:Slot T name id) (hty:typeOf (.builtin id)=pure (.type "method_descriptor")) (hm:MtR X id r) (ho:PE X o to) (ha:PA X (e::es) t)
    (hbase:attributeBase o name X.env (eval o X.env)=eval o X.env:=by rfl)
    (hfew:((backTo cpos (starEach (e::es) X.env)).all (fun x=>!x.1) && (backToKw cpos (keywordEach [] X.env)).all (fun x=>x.1.isSome)
      && decide ((e::es).length+([]:List Keyword).length+(if ([]:List Keyword).isEmpty then 0 else 1) < 30))=true:=by rfl)
    (hline:(apos.endLine == cpos.line)=true:=by rfl) (hs:starEach (e::es) X.env=(false,eval e X.env)::starEach es X.env:=by rfl) (hplain:(backTo cpos (starEach es X.env)).any (·.1)=false:=by rfl):
    PE X (.Call (.Attribute o name apos) (e::es) [] cpos) (tBM X.K T r to t):=by
  intro pins s σ H Q I h
  refine wpAny_Call_method_late hbase hfew hline rfl (thn (ho pins s σ H _ I h) fun v s1 ⟨x,H1,I1,r1,ty,q1⟩=>?_)
  obtain⟨h1,h2⟩:=tyV_is I1 r1 ty
  refine⟨T,id,pa,slot,hty,h1,h2,?_⟩
  have hA:=ha cpos pins s1 σ H1 _ I1 q1
  rw [hs] at hA ⊢
  refine Calls.callWith_builtin (by show(false || (backTo cpos (starEach es X.env)).any (·.1))=false; rw [hplain] <;> rfl) (Calls.evalArgs_plain ?_)
  exact thn hA fun us s2 ⟨vs,H2,I2,r2,q2⟩=>hm pins s2 σ H2 x vs v us Q I2 r1 r2 q2
end
def MtM (X:Cx) (id:String) (r:V->List V->Hp->VK->Prop):Prop:=
  ∀ (pins:List (Addr×Obj)) (s:Shared) (σ:St) (H:Hp) (x:V) (xs:List V) (v:Value) (us:List Value) (Q:VK),Inv X pins σ H s->RelV x v->Vals xs us->r x xs H Q->
    wpAny (model X.prog X.w) X.A (call (.builtin id) (v::us)) (EP X pins σ Q) X.xe s
theorem Vals.one:∀ {x:V} {us:List Value},Vals [x] us->∃ u,us=[u]/\RelV x u
  | _,_,.cons r .nil=>⟨_,rfl,r⟩
section
variable {X:Cx} {pins:List (Addr×Obj)} {σ:St} {H:Hp} {s:Shared} {l b:Addr} {xs ys zs:List V}
theorem Inv.lset {its its':List Value} {n:Nat} {f:Array Value->Array Value} {t':Nat} (I:Inv X pins σ H s) (hH:H l=some (.lst xs))
    (e:s.heap.get? l=some {cls:=.type "list",data:=.seq its.toArray n}) (hf:f its.toArray=its'.toArray) (hv:Vals ys its') (hz:ys.length<=sizeLine):
    Inv X pins σ (upd H l (.lst ys)) {s with heap:=s.heap.update l (Obj.mapSeq f),toks:=t'}:=by
  have q:=PySem.IsL.update e f
  rw [hf] at q
  refine I.write (x:=l) (e:=l) (by rw [hH]; exact trivial) (.inl rfl) (fun b' u hb hu=>(Heap.get?_update_other s.heap (Obj.mapSeq f) (Ne.symm hb)).trans hu) ⟨_,q⟩ ?_
  exact⟨hz,its',_,hv,q⟩
theorem Inv.lnew {its:List Value} {t':Nat} (I:Inv X pins σ H s) (hv:Vals ys its) (hz:ys.length<=sizeLine):
    Inv X pins σ (upd H s.heap.objs.size (.lst ys)) {s with heap:=s.heap.push {cls:=.type "list",data:=.seq its.toArray},toks:=t'}:=
  I.laid (fun _ _ q=>Heap.get?_push_of_some _ q) (Nat.le_refl _) ⟨hz,its,0,hv,Heap.get?_push_size _ rfl⟩
theorem Inv.fresh (I:Inv X pins σ H s):H s.heap.objs.size=none:=I.hok.fresh (Nat.le_refl _)
theorem Inv.lstM (I:Inv X pins σ H s) (hH:H l=some (.lst xs)):xs.length<=sizeLine/\∃ (its:List Value) (n:Nat),Vals xs its/\xs.length=its.length/\s.heap.get? l=some {cls:=.type "list",data:=.seq its.toArray n}:=by
  obtain⟨z,its,n,r,e⟩:=I.hok l _ hH
  exact⟨z,its,n,r,r.length,e⟩
theorem notLongL {n:Nat} (h:n<=sizeLine):Builtin.List.listTooLong n=false:=by
  unfold Builtin.List.listTooLong
  exact decide_eq_false (by omega)
end
section
variable {X:Cx}
def rAppend:V->List V->Hp->VK->Prop:=fun x vs H Q=>∃ l xs y,x=.ref l/\vs=[y]/\H l=some (.lst xs)/\xs.length < sizeLine/\Q .non (upd H l (.lst (xs++[y])))
theorem mt_append:MtM X "list.append" rAppend:=by
  intro pins s σ H x vs v us Q I rx rv h
  obtain⟨l,xs,y,rfl,rfl,hH,hz,q⟩:=h
  cases rx
  obtain⟨u,rfl,ru⟩:=rv.one
  obtain⟨z,its,n,r,hl,e⟩:=I.lstM hH
  refine call_meets F.slot_list_append ⟨_,e,rfl⟩ F.entry_list_append (F.args_list_append_2 _ _) (PySem.list_append l its.toArray n u (by rw [List.size_toArray]; omega)) ⟨e,?_⟩
  refine⟨.non,_,I.lset (its':=its++[u]) hH e (by simp) (r.append (.cons ru .nil)) ?_,rfl,q⟩
  rw [List.length_append,List.length_singleton]
  omega
def rExtend:V->List V->Hp->VK->Prop:=fun x vs H Q=>∃ l b xs zs,x=.ref l/\vs=[.ref b]/\H l=some (.lst xs)/\H b=some (.lst zs)/\xs.length+zs.length<=sizeLine/\Q .non (upd H l (.lst (xs++zs)))
theorem mt_extend:MtM X "list.extend" rExtend:=by
  intro pins s σ H x vs v us Q I rx rv h
  obtain⟨l,b,xs,zs,rfl,rfl,hH,hB,hz,q⟩:=h
  cases rx
  obtain⟨u,rfl,ru⟩:=rv.one
  cases ru
  obtain⟨z,its,n,r,hl,e⟩:=I.lstM hH
  obtain⟨z2,its2,n2,r2,hl2,e2⟩:=I.lstM hB
  have hsz:its.toArray.size+its2.toArray.size<=sizeLine:=by rw [List.size_toArray,List.size_toArray]; omega
  have hlong:¬ (!its.toArray.isEmpty && Builtin.List.listTooLong (its.toArray.size+its2.toArray.size))=true:=by
    rw [notLongL hsz,Bool.and_false]
    exact Bool.false_ne_true
  refine call_meets F.slot_list_extend ⟨_,e,rfl⟩ F.entry_list_extend (F.args_list_extend_2 _ _)
    (AutoSeq1.list_extend_list_list_0 l its.toArray n b its2.toArray n2 hlong (by rw [List.size_toArray]; omega) (by omega)) ⟨e,e2,?_⟩
  refine⟨.non,_,I.lset (its':=its++its2) hH e (by simp) (r.append r2) ?_,rfl,q⟩
  rw [List.length_append]
  omega
def rCat:R2:=fun x y H Q=>∃ l b xs zs,x=.ref l/\y=.ref b/\H l=some (.lst xs)/\H b=some (.lst zs)/\xs.length+zs.length<=sizeLine/\∀ p,H p=none->Q (.ref p) (upd H p (.lst (xs++zs)))
theorem op_cat:OpR X (binaryOp .Add) rCat:=by
  intro pins s σ H x y v u Q I rx ry h
  obtain⟨l,b,xs,zs,rfl,rfl,hH,hB,hz,q⟩:=h
  cases rx
  cases ry
  obtain⟨z,its,n,r,hl,e⟩:=I.lstM hH
  obtain⟨z2,its2,n2,r2,hl2,e2⟩:=I.lstM hB
  refine PySem.P.add_list e e2 ?_ (by rw [List.size_toArray,List.size_toArray]; omega)
  have ea:its.toArray++its2.toArray=(its++its2).toArray:=by simp
  rw [ea]
  exact⟨.ref _,_,I.lnew (t':=s.toks) (r.append r2) (by rw [List.length_append]; omega),rfl,q _ I.fresh⟩
end
def IsD (H:Hp) (a:Addr):Prop:=(∃ kvs,Rd H a (.dK kvs))\/∃ kvs,Rd H a (.dT kvs)
end L2
namespace Att
open PySem PySem.W PySem.Calls PyProof.Rows
theorem ints_of_wellAll {P:Params} {h:Heap}:∀ (ns:List Int) (vs:List Value),WellAll P h vs (ns.map WData.int)->IntsAre vs ns:=by
  intro ns
  induction ns with
  | nil=>
    intro vs w
    rw [List.map_nil] at w
    cases w
    exact .nil
  | cons n ns ih=>
    intro vs w
    rw [List.map_cons] at w
    cases w with
    | cons a b=>
      cases a
      exact .cons _ _ (ih _ b)
theorem script_of {l:OpenLaw} {n:Nat} (hn:l.most=some n) {P:Params} {h:Heap} {args:List WData} {vals:List Value}
    (hpre:l.row.toRowW.claim.pre args=true) (hwl:WellAll P h vals args):
    ∃ a vs ns,vals=[Value.ref a]/\args=[WData.list (ns.map WData.int)]/\h.get? a=some {cls:=.type "list",data:=.seq vs.toArray}/\IntsAre vs ns/\ns.length<=n:=by
  have hsh:WShape.hasAll [] args [.list .int]=true:=(pre_splitW hpre).1
  have hc:l.pre.holds [] {args:=args}=true:=(pre_splitW hpre).2
  obtain⟨d,r,rfl,h1,h2⟩:=hasAllW_cons hsh
  obtain rfl:=hasAllW_nil h2
  obtain⟨xs,rfl,h3⟩:=hasW_list h1
  obtain⟨ns,rfl⟩:=items_int h3
  have hlen:ns.length<=n:=by
    unfold OpenLaw.pre at hc
    have h4:(WTm.not (.lt (.lit (.int (n:Int))) (.len (.arg 0)))).holds [] {args:=[.list (ns.map .int)]}=true:=by
      have h4:=(holds_andW hc).1
      rw [hn] at h4
      exact h4
    have h5:=condW_of h4 (w_not (w_lt w_lit (w_len_list (w_arg rfl))))
    rw [List.length_map] at h5
    refine Nat.le_of_not_lt fun q=>?_
    have q':(n:Int) < ((ns.length:Nat):Int):=by omega
    first
      | (rw [decide_eq_true q'] at h5; exact absurd h5 (by decide))
      | (simp at h5; omega)
  cases hwl with
  | cons w1 w2=>
    cases w2
    cases w1 with
    | list ho hall=>exact⟨_,_,ns,rfl,rfl,ho,ints_of_wellAll ns _ hall,hlen⟩
theorem post_true (l:OpenLaw) (args:List WData):l.row.toRowW.claim.post args (.bool true) args=true:=
  postW_of (r:=l.row.toRowW) (X:=(true == true))
    (show WShape.has [] (.bool true) .bool=true by first | rfl | decide | simp [WShape.has,WShape.arms,WShape.armsAll])
    (show (WTm.eq .res (.lit (.bool true))).value [] {args:=args,res:=some (.bool true),after:=args}=some (.bool (true == true)) from w_eq_bool (w_res rfl) w_lit) rfl
theorem attach_call {l:OpenLaw} {n:Nat} {q:Program} {loose:List Str} {XP:(Str->Option Value)->Heap->Prop} {YP:World->Heap->Prop} {d:DefRec}
    (hn:l.most=some n) (hdf:d.params.defaults=[])
    (call:∀ (w:World) (s₀ s₁:Shared) (mg mb:Str->Option Value) (fa:Addr) (o:Obj) (pm cd doc:Value) (a:Addr) (vs:List Value) (ns:List Int),
      Ground q loose [] XP w s₀ mg mb s₁.heap->YP w s₁.heap->
      s₁.heap.get? fa=some o->o.data=.func (docDef d.name d.params d.body d.scope pm cd doc)->s₁.heap.CodeRec cd d.name->mg d.name=some (.ref fa)->
      s₁.heap.get? a=some {cls:=.type "list",data:=.seq vs.toArray}->IntsAre vs ns->ns.length<=n->s₁.gens=#[]->
      codeAny (model l.prog w) callerA (.call (.ref fa) ⟨[.ref a],[]⟩) (fun r s'=>r=.ok (.ret (.bool true))/\OldK s₁.heap s'.heap/\s'.os=s₁.os/\AllBare s'.gens) s₁):
    WalkO q loose XP YP l.row.toRowW d [] (fun f vs=>PySem.call f vs):=by
  intro w s₀ s₁ mg mb G Y fa o pm cd doc dV kV ho hd hcd hD hmg hg args vals as hpre hlay hrd hwl hlo
  obtain rfl:dV=.none:=Dflts.none hD hdf
  obtain rfl:kV=.none:=Dflts.noKw hD
  obtain⟨a,vs,ns,rfl,rfl,hobj,hints,hlen⟩:=script_of hn hpre hwl
  refine enter_call (codeAny_mono (call w s₀ s₁ mg mb fa o pm cd doc a vs ns G Y ho (fd_plain hd) hcd hmg hobj hints hlen hg) fun r s' hq=>?_)
  obtain⟨rfl,h2,h3,h4⟩:=hq
  exact⟨.inl ⟨.bool true,.bool true,[],rfl,fun _=>rfl,.bool true,post_true l _,fun _=>⟨List.Pairwise.nil,fun _ hm=>(nomatch hm)⟩⟩,h2,h3,h4⟩
section
variable {prog:Program} {w:World} {A:Around} {E:Value->Shared->Prop} {s:Shared} {K:Frag}
def ledger (h:Heap) (L d:Addr):List (Addr×Obj):=(List.range h.objs.size).filterMap fun a=>if a=L\/a=d then none else(h.get? a).map fun o=>(a,o)
end
end Att
namespace L2
open PySem PySem.Spec PyProof.Rows
theorem vals_ints:∀ {vs:List Value} {ns:List Int},IntsAre vs ns->Vals (ns.map V.int) vs
  | _,_,.nil=>.nil
  | _,_,.cons n t h=>.cons ⟨t,rfl⟩ (vals_ints h)
abbrev KOf {K:PySem.W.Frag} {h:Heap} (_:K.In h):PySem.W.Frag:=K
def defArgs (s:Stmt):Arguments:=match s with
  | .FunctionDef _ a _ _ _ _ _ _ _ _=>a
  | _=>{posonlyargs:=[],args:=[],vararg:=none,kwonlyargs:=[],kw_defaults:=[],kwarg:=none,defaults:=[]}
def defBody (s:Stmt):List Stmt:=match s with
  | .FunctionDef _ _ b _ _ _ _ _ _ _=>b
  | _=>[]
def defScope (s:Stmt):Scope:=match s with
  | .FunctionDef _ _ _ _ _ _ sc _ _ _=>sc
  | _=>{kind:=.function,names:=[],isGenerator:=false,isCoroutine:=false}
abbrev CX0:CXT:=fun _ _ _ _ _ _=>False
abbrev E0:XK:=fun _ _ _=>False
theorem pass0 {X:Cx}:Passes CX0 X E0:=fun _ _ _ _ _ _ _ h=>h.elim
structure Fun (K:PySem.W.Frag) (x qual:Str) (st:Stmt) (f:Addr) (fd:FuncData):Prop where
  ex:∃ (oc:Value) (od:Option Addr) (kV doc pm:Value) (an:Option Addr) (cdv ct:Value) (osl:Array (Option Value)),
    fd=PySem.W.fnOf x qual (defArgs st) (defBody st) (defScope st) .none kV doc pm an cdv ct/\K.lookup f=some ⟨oc,od,.func fd,osl⟩/\PySem.W.codeIn K cdv qual=true
  kp:PySem.W.keepIn K (.ref f)=true
section
variable {P:Program} {w:World} {K:PySem.W.Frag} {mg:Str->Option Value} {base:Heap}
theorem Fun.ok {x qual:Str} {st:Stmt} {f:Addr} {fd:FuncData} {N ps:List Str} {k:Nat} {sp:Sp} (F:Fun K x qual st f fd) (S:FnScope N ps (defScope st)) (len:∀ vs H Q E,sp vs H Q E->vs.length=ps.length)
    (hbody:∀ (cdv:Value) (A:Around) (outer:List Env) (s:Shared) (H:Hp) (vs:List V) (Q:VK) (E:XK),Room k (A.deeper (envOfC qual (defScope st) s.heap.objs.size f cdv))->sp vs H Q E->
      ∃ t,PSs (cxOf CX0 P w K mg base N qual (defScope st) f cdv A outer s H E).nox (defBody st) t/\t {nx:=fun _ H'=>Q .non H',rt:=Q} (start N vs) H):FnOk P w K mg base CX0 (k+1) f fd ps sp:=by
  obtain⟨oc,od,kV,doc,pm,an,cdv,ct,osl,rfl,lk,hcd⟩:=F.ex
  refine fn_of lk hcd S len fun A outer s H vs Q E hr hsp=>?_
  obtain⟨t,h,q⟩:=hbody cdv A outer s H vs Q E hr hsp
  exact⟨t,h.nox,q⟩
theorem Fun.binds {x qual:Str} {st:Stmt} {f:Addr} {fd:FuncData} {ps:List Str} (F:Fun K x qual st f fd)
    (h:∀ (kV doc pm:Value) (an:Option Addr) (cdv ct:Value) (us:List Value),us.length=ps.length->bindArgs (PySem.W.fnOf x qual (defArgs st) (defBody st) (defScope st) .none kV doc pm an cdv ct) ⟨us,[]⟩=pure (ps.zip us)):Binds K fd ps []:=by
  obtain⟨oc,od,kV,doc,pm,an,cdv,ct,osl,rfl,lk,hcd⟩:=F.ex
  exact .all (h kV doc pm an cdv ct)
theorem fun_mk {x qual:Str} {st:Stmt} {f:Addr} {oc:Value} {od an:Option Addr} {osl:Array (Option Value)} {kV doc pm cdv ct:Value} (l:K.lookup f=some ⟨oc,od,.func (PySem.W.fnOf x qual (defArgs st) (defBody st) (defScope st) .none kV doc pm an cdv ct),osl⟩)
    (c:PySem.W.codeIn K cdv qual=true) (k:PySem.W.keepIn K (.ref f)=true):Fun K x qual st f (PySem.W.fnOf x qual (defArgs st) (defBody st) (defScope st) .none kV doc pm an cdv ct):=⟨⟨oc,od,kV,doc,pm,an,cdv,ct,osl,rfl,l,c⟩,k⟩
end
theorem iteF {A B:Prop} (h:B):if false=true then A else B:=by
  rw [if_neg Bool.false_ne_true]
  exact h
theorem iteT {A B:Prop} (h:A):if true=true then A else B:=by
  rw [if_pos rfl]
  exact h
end L2
set_option linter.all false
namespace HM
theorem gcd_fmod (a b:Int):Int.gcd b (a.fmod b)=Int.gcd a b:=by
  have h:=Int.gcd_sub_mul_right_right b a (a.fdiv b)
  rw [Int.fmod_def,Int.mul_comm b,h,Int.gcd_comm]
theorem fmod_lt (a b:Int) (h:b≠0):(a.fmod b).natAbs < b.natAbs:=by
  rcases Int.lt_or_gt_of_ne h with hb | hb
  · have e:a.fmod b=-((-a).fmod (-b)):=by rw [Int.neg_fmod_neg,Int.neg_neg]
    have h1:=Int.fmod_nonneg_of_pos (-a) (show 0 < -b by omega)
    have h2:=Int.fmod_lt_of_pos (-a) (show 0 < -b by omega)
    omega
  · have h1:=Int.fmod_nonneg_of_pos a hb
    have h2:=Int.fmod_lt_of_pos a hb
    omega
theorem gcd_zero (a:Int):((Int.gcd a 0:Nat):Int)=if a < 0 then -a else a:=by
  rw [Int.gcd_zero_right]
  split <;> omega
def shr (t b:Int):Int:=if b < 0 then -((Int.gcd t b:Nat):Int) else((Int.gcd t b:Nat):Int)
theorem shr_ne {t b:Int} (h:b≠0):shr t b≠0:=by
  have h1:Int.gcd t b≠0:=fun e=>h (Int.gcd_eq_zero_iff.mp e).2
  unfold shr
  split <;> omega
theorem div_num {t b:Int} (h:b≠0):t.fdiv (shr t b)=(Rat.divInt t b).num:=by
  have hg:((Int.gcd t b:Nat):Int) ∣ t:=Int.gcd_dvd_left t b
  rw [Rat.num_divInt,Int.gcd_comm b t]
  unfold shr
  rcases Int.lt_or_gt_of_ne h with hb | hb
  · rw [if_pos hb,Int.sign_eq_neg_one_of_neg hb,Int.fdiv_eq_ediv_of_dvd (Int.neg_dvd.mpr hg),Int.ediv_neg,Int.neg_mul,Int.one_mul,Int.neg_ediv_of_dvd hg]
  · rw [if_neg (by omega),Int.sign_eq_one_of_pos hb,Int.fdiv_eq_ediv_of_dvd hg,Int.one_mul]
theorem div_den {t b:Int} (h:b≠0):b.fdiv (shr t b)=((Rat.divInt t b).den:Int):=by
  have hg:((Int.gcd t b:Nat):Int) ∣ b:=Int.gcd_dvd_right t b
  rw [Rat.den_divInt,Int.gcd_comm b t,if_neg h]
  unfold shr
  rcases Int.lt_or_gt_of_ne h with hb | hb
  · rw [if_pos hb,Int.fdiv_eq_ediv_of_dvd (Int.neg_dvd.mpr hg),Int.ediv_neg,Int.natCast_ediv]
    rw [show ((b.natAbs:Nat):Int)=-b by omega,Int.neg_ediv_of_dvd hg]
  · rw [if_neg (by omega),Int.fdiv_eq_ediv_of_dvd hg,Int.natCast_ediv]
    rw [show ((b.natAbs:Nat):Int)=b by omega]
theorem add_of (a b:Rat):Rat.divInt (a.num*b.den+b.num*a.den) (a.den*b.den)=a+b:=by
  rw [Rat.add_def',Rat.mkRat_eq_div,Rat.divInt_eq_div]; simp [Rat.intCast_natCast]
theorem sub_of (a b:Rat):Rat.divInt (a.num*b.den - b.num*a.den) (a.den*b.den)=a - b:=by
  rw [Rat.sub_def',Rat.mkRat_eq_div,Rat.divInt_eq_div]; simp [Rat.intCast_natCast]
theorem mul_of (a b:Rat):Rat.divInt (a.num*b.num) (a.den*b.den)=a*b:=by
  rw [Rat.mul_def',Rat.mkRat_eq_div,Rat.divInt_eq_div]; simp [Rat.intCast_natCast]
theorem div_of (a b:Rat):Rat.divInt (a.num*b.den) (a.den*b.num)=a / b:=by
  rw [Rat.div_def,<- Rat.num_divInt_den b,Rat.inv_divInt]
  conv=>rhs; rw [<- Rat.num_divInt_den a]
  rw [Rat.divInt_mul_divInt,Rat.num_divInt_den]
def isqN:Nat->Nat
  | 0=>0
  | n+1=>if (isqN n+1)*(isqN n+1)<=n+1 then isqN n+1 else isqN n
theorem isqN_spec:∀ n,isqN n*isqN n<=n/\n < (isqN n+1)*(isqN n+1)
  | 0=>by decide
  | n+1=>by
    obtain⟨h1,h2⟩:=isqN_spec n
    unfold isqN
    split
    · rename_i h
      refine⟨h,?_⟩
      have:(isqN n+1+1)*(isqN n+1+1)=(isqN n+1)*(isqN n+1)+2*(isqN n+1)+1:=by grind
      omega
    · rename_i h
      exact⟨Nat.le_succ_of_le h1,Nat.lt_of_not_le h⟩
def isq (n:Int):Int:=(isqN n.toNat:Nat)
structure Rt (n r:Int):Prop where
  nn:0<=r
  le:r*r<=n
  lt:n < (r+1)*(r+1)
theorem isq_rt {n:Int} (h:0<=n):Rt n (isq n):=by
  obtain⟨h1,h2⟩:=isqN_spec n.toNat
  refine⟨by unfold isq; omega,?_,?_⟩
  · unfold isq
    have:((isqN n.toNat*isqN n.toNat:Nat):Int)<=(n.toNat:Int):=Int.ofNat_le.mpr h1
    rw [Int.natCast_mul] at this
    omega
  · unfold isq
    have:((n.toNat:Nat):Int) < (((isqN n.toNat+1)*(isqN n.toNat+1):Nat):Int):=Int.ofNat_lt.mpr h2
    rw [Int.natCast_mul,Int.natCast_add] at this
    rw [show ((n.toNat:Nat):Int)=n by omega] at this
    exact this
theorem sq_mono {a b:Int} (ha:0<=a) (h:a<=b):a*a<=b*b:=Int.mul_le_mul h h ha (by omega)
theorem Rt.le_of {n r x:Int} (h:Rt n r) (hx:x*x<=n):x<=r:=by
  apply Int.not_lt.mp
  intro hl
  have:=sq_mono (a:=r+1) (b:=x) (by have:=h.nn; omega) (by omega)
  have:=h.lt
  omega
theorem Rt.uniq {n r q:Int} (h:Rt n r) (h':Rt n q):r=q:=Int.le_antisymm (h'.le_of h.le) (h.le_of h'.le)
theorem isq_eq {n r:Int} (h:Rt n r):isq n=r:=(isq_rt (Int.le_trans (by have:=sq_mono (Int.le_refl 0) h.nn; omega) h.le)).uniq h
theorem isq_sq {n x:Int} (e:x*x=n):isq n*isq n=n:=by
  have h:Rt n x.natAbs:=by
    refine⟨by omega,?_,?_⟩
    · rw [Int.natAbs_mul_self' x]; omega
    · have:((x.natAbs:Int)+1)*((x.natAbs:Int)+1)=(x.natAbs:Int)*(x.natAbs:Int)+2*x.natAbs+1:=by grind
      rw [Int.natAbs_mul_self' x] at this
      omega
  rw [isq_eq h,Int.natAbs_mul_self' x]
  exact e
theorem newton_ge {n g r:Int} (hg:0 < g) (hr:0<=r) (h:r*r<=n):r<=(g+n / g) / 2:=by
  apply Int.not_lt.mp
  intro hl
  have h1:g+n / g+1<=2*r:=by omega
  have hn:0<=n:=by have:=sq_mono (Int.le_refl 0) hr; omega
  have hq:0<=n / g:=Int.ediv_nonneg hn (by omega)
  have h2:=sq_mono (a:=g+n / g+1) (b:=2*r) (by omega) h1
  have h3:n < (n / g+1)*g:=by
    have:=Int.lt_ediv_add_one_mul_self n hg
    exact this
  have h4:0<=(g - (n / g+1))*(g - (n / g+1)):=by
    rw [<- Int.natAbs_mul_self' (g - (n / g+1))]; exact Int.natCast_nonneg _
  generalize n / g=q at*
  grind
theorem newton_lt {n g r:Int} (hn:0<=n) (h:Rt n r) (hg:r < g):(g+n / g) / 2 < g:=by
  have h0:=h.nn
  have h1:n / g < r+1:=by
    apply Int.ediv_lt_of_lt_mul (by omega)
    have:=h.lt
    have h2:(r+1)*(r+1)<=(r+1)*g:=Int.mul_le_mul_of_nonneg_left (by omega) (by omega)
    omega
  omega
def Bt (n:Nat) (x:Int):Prop:=x.natAbs < 2 ^ n
theorem two_pow_le {m n:Nat} (h:m<=n):2 ^ m<=2 ^ n:=Nat.pow_le_pow_right (by decide) h
theorem Bt.mono {m n:Nat} {x:Int} (h:Bt m x) (hm:m<=n):Bt n x:=Nat.lt_of_lt_of_le h (two_pow_le hm)
theorem Bt.mul {m n:Nat} {x y:Int} (hx:Bt m x) (hy:Bt n y):Bt (m+n) (x*y):=by
  unfold Bt at*
  rw [Int.natAbs_mul,Nat.pow_add]
  exact Nat.mul_lt_mul'' hx hy
theorem Bt.add {m n:Nat} {x y:Int} (hx:Bt m x) (hy:Bt n y):Bt (max m n+1) (x+y):=by
  have h1:=hx.mono (Nat.le_max_left m n)
  have h2:=hy.mono (Nat.le_max_right m n)
  unfold Bt at*
  have:=Int.natAbs_add_le x y
  rw [Nat.pow_succ]
  omega
theorem Bt.neg {m:Nat} {x:Int} (hx:Bt m x):Bt m (-x):=by unfold Bt at *; omega
theorem Bt.sub {m n:Nat} {x y:Int} (hx:Bt m x) (hy:Bt n y):Bt (max m n+1) (x - y):=by
  rw [Int.sub_eq_add_neg]; exact hx.add hy.neg
theorem Bt.le {m:Nat} {x y:Int} (hx:Bt m x) (h:y.natAbs<=x.natAbs):Bt m y:=Nat.lt_of_le_of_lt h hx
structure Sz (n:Nat) (q:Rat):Prop where
  num:Bt n q.num
  den:Bt n q.den
theorem Sz.mono {m n:Nat} {q:Rat} (h:Sz m q) (hm:m<=n):Sz n q:=⟨h.num.mono hm,h.den.mono hm⟩
theorem natAbs_fdiv_le:∀ a b:Int,(a.fdiv b).natAbs<=a.natAbs
  | .ofNat 0,b=>by
    have e:Int.fdiv (.ofNat 0) b=0:=Int.zero_fdiv b
    rw [e]; exact Nat.zero_le _
  | .ofNat (k+1),.ofNat j=>Nat.div_le_self (k+1) j
  | .ofNat (k+1),.negSucc j=>Nat.succ_le_succ (Nat.div_le_self k (j+1))
  | .negSucc _,.ofNat 0=>Nat.zero_le _
  | .negSucc k,.ofNat (j+1)=>Nat.succ_le_succ (Nat.div_le_self k (j+1))
  | .negSucc k,.negSucc j=>Nat.div_le_self (k+1) (j+1)
theorem Sz.divInt {n:Nat} {t b:Int} (ht:Bt n t) (hb:Bt n b) (h:b≠0):Sz n (Rat.divInt t b):=
  ⟨by rw [<- div_num h]; exact ht.le (natAbs_fdiv_le _ _),by rw [<- div_den h]; exact hb.le (natAbs_fdiv_le _ _)⟩
theorem den_ne (q:Rat):(q.den:Int)≠0:=by have:=q.den_nz; omega
theorem den_mul_ne (p q:Rat):(p.den:Int)*q.den≠0:=Int.mul_ne_zero (den_ne p) (den_ne q)
theorem Sz.add {m n:Nat} {a b:Rat} (ha:Sz m a) (hb:Sz n b):Sz (m+n+1) (a+b):=by
  rw [<- add_of]
  refine .divInt ?_ ?_ (den_mul_ne a b)
  · exact((ha.num.mul hb.den).add (hb.num.mul ha.den)).mono (by omega)
  · exact(ha.den.mul hb.den).mono (by omega)
theorem Sz.sub {m n:Nat} {a b:Rat} (ha:Sz m a) (hb:Sz n b):Sz (m+n+1) (a - b):=by
  rw [<- sub_of]
  refine .divInt ?_ ?_ (den_mul_ne a b)
  · exact((ha.num.mul hb.den).sub (hb.num.mul ha.den)).mono (by omega)
  · exact(ha.den.mul hb.den).mono (by omega)
theorem Sz.mul {m n:Nat} {a b:Rat} (ha:Sz m a) (hb:Sz n b):Sz (m+n) (a*b):=by
  rw [<- mul_of]
  exact .divInt (ha.num.mul hb.num) (ha.den.mul hb.den) (den_mul_ne a b)
theorem num_ne {q:Rat} (h:q≠0):q.num≠0:=fun e=>h (Rat.num_eq_zero.mp e)
theorem Sz.div {m n:Nat} {a b:Rat} (ha:Sz m a) (hb:Sz n b) (h:b≠0):Sz (m+n) (a / b):=by
  rw [<- div_of]
  exact .divInt (ha.num.mul hb.den) (ha.den.mul hb.num) (Int.mul_ne_zero (den_ne a) (num_ne h))
theorem Sz.neg {m:Nat} {a:Rat} (ha:Sz m a):Sz m (-a):=⟨by rw [Rat.neg_num]; exact ha.num.neg,by rw [Rat.neg_den]; exact ha.den⟩
theorem sq_num (r:Rat):(r*r).num=r.num*r.num:=by
  have h:=Rat.num_pow r 2
  rw [show r ^ 2=r*r by grind,show r.num ^ 2=r.num*r.num by grind] at h
  exact h
theorem sq_den (r:Rat):(r*r).den=r.den*r.den:=by
  have h:=Rat.den_pow r 2
  rw [show r ^ 2=r*r by grind,show r.den ^ 2=r.den*r.den by grind] at h
  exact h
def NoSq (u:Rat):Prop:=∀ r:Rat,r*r≠u
theorem noSq_int {u:Int} (h:isq u*isq u≠u):NoSq (u:Rat):=fun r e=>by
  have h1:=congrArg Rat.num e
  rw [sq_num,Rat.num_intCast] at h1
  exact h (isq_sq h1)
theorem isq_le {n:Int} (h:0<=n):isq n<=n:=by
  have rt:=isq_rt h
  have h0:=rt.nn
  have h1:=rt.le
  rcases Int.lt_or_le (isq n) 1 with h2 | h2
  · omega
  · have:isq n*1<=isq n*isq n:=Int.mul_le_mul_of_nonneg_left h2 h0
    omega
theorem isq_bt {n:Int} {m:Nat} (h:0<=n) (hb:Bt m n):Bt m (isq n):=hb.le (by have:=isq_le h; have:=(isq_rt h).nn; omega)
theorem isq_zero:isq 0=0:=by decide
theorem fdiv2 (a:Int) {b:Int} (h:0 < b):a.fdiv b=a / b:=Int.fdiv_eq_ediv_of_nonneg a (by omega)
abbrev absI (a:Int):Int:=if a < 0 then -a else a
theorem absI_nn (a:Int):0<=absI a:=by unfold absI; split <;> omega
theorem rat_sq_nonneg (r:Rat):0<=r*r:=by
  rcases Rat.le_total (a:=0) (b:=r) with h | h
  · exact Rat.mul_nonneg h h
  · have:0<=-r:=by grind
    have:=Rat.mul_nonneg this this
    grind
theorem rat_num_den (w:Rat):(w.num:Rat)=w*(w.den:Rat):=by
  have h:=Rat.num_divInt_den w
  rw [Rat.divInt_eq_div,Rat.intCast_natCast] at h
  have hd:(w.den:Rat)≠0:=by
    have:=w.den_nz
    exact fun e=>this (by exact_mod_cast e)
  grind
theorem rat_den_ne (w:Rat):(w.den:Rat)≠0:=by
  have:=w.den_nz
  exact fun e=>this (by exact_mod_cast e)
def Unders:List Int:=[2,3,5,6,7,8,10,12,18,101]
set_option maxRecDepth 20000 in
theorem unders_no {u:Int} (h:u∈Unders):NoSq (u:Rat)/\0 < u/\u < 128:=by
  have:isq u*isq u≠u/\0 < u/\u < 128:=by
    revert u
    decide
  exact⟨noSq_int this.1,this.2⟩
def ab (b:Rat):Rat:=if b < 0 then -b else b
theorem ab_nn (b:Rat):0<=ab b:=by unfold ab; split <;> grind
theorem ab_sq (b:Rat):ab b*ab b=b*b:=by unfold ab; split <;> grind
def ss (b:Rat):Rat:=b*ab b
theorem num_neg_iff (q:Rat):q.num < 0↔q < 0:=by
  have:=Rat.num_nonneg (q:=q)
  constructor
  · intro h
    apply Rat.not_le.mp
    intro h2
    have:=this.mpr h2
    omega
  · intro h
    apply Int.not_le.mp
    intro h2
    exact absurd (this.mp h2) (Rat.not_le.mpr h)
theorem ab_num (q:Rat):(ab q).num=absI q.num:=by
  unfold ab absI
  by_cases h:q < 0
  · rw [if_pos h,if_pos ((num_neg_iff q).mpr h),Rat.neg_num]
  · rw [if_neg h,if_neg (fun e=>h ((num_neg_iff q).mp e))]
theorem ab_den (q:Rat):(ab q).den=q.den:=by
  unfold ab
  split
  · exact Rat.neg_den _
  · rfl
theorem isq_self {x:Int} (h:0<=x):isq (x*x)=x:=isq_eq ⟨h,Int.le_refl _,by grind⟩
theorem ss_zero {b u:Rat} (hu:0 < u):ss b*u=0↔b=0:=by
  unfold ss ab
  constructor
  · intro h
    have hu':u≠0:=by grind
    split at h <;> grind
  · intro h
    subst h
    grind
theorem ss_ab {b u:Rat} (hu:0 < u):ab (ss b*u)=b*b*u:=by
  have h2:=rat_sq_nonneg b
  have h3:=Rat.mul_nonneg h2 (Rat.le_of_lt hu)
  unfold ss
  by_cases h:b < 0
  · have e:b*ab b*u=-(b*b*u):=by unfold ab; rw [if_pos h]; grind
    rw [e]
    have hp:0 < b*b*u:=by
      have h4:0 < -b:=by grind
      have h5:=Rat.mul_pos h4 h4
      have h6:=Rat.mul_pos h5 hu
      grind
    unfold ab
    rw [if_pos (by grind)]
    grind
  · have e:b*ab b*u=b*b*u:=by unfold ab; rw [if_neg h]
    rw [e]
    unfold ab
    rw [if_neg (by grind)]
theorem ss_neg {b u:Rat} (hu:0 < u):ss b*u < 0↔b < 0:=by
  have h2:=rat_sq_nonneg b
  have h3:=Rat.mul_nonneg h2 (Rat.le_of_lt hu)
  unfold ss ab
  constructor
  · intro h
    split at h
    · assumption
    · exfalso; grind
  · intro h
    rw [if_pos h]
    have h4:0 < -b:=by grind
    have h5:=Rat.mul_pos h4 h4
    have h6:=Rat.mul_pos h5 hu
    grind
theorem ss_mul (a b:Rat):ss (a*b)=ss a*ss b:=by
  have e:ab (a*b)=ab a*ab b:=by
    unfold ab
    by_cases ha:a < 0 <;> by_cases hb:b < 0
    · have:=Rat.mul_pos (show 0 < -a by grind) (show 0 < -b by grind)
      rw [if_neg (by grind),if_pos ha,if_pos hb]; grind
    · rw [if_pos ha,if_neg hb]
      by_cases h0:b=0
      · subst h0; grind
      · have:=Rat.mul_pos (show 0 < -a by grind) (show 0 < b by grind)
        rw [if_pos (by grind)]; grind
    · rw [if_neg ha,if_pos hb]
      by_cases h0:a=0
      · subst h0; grind
      · have:=Rat.mul_pos (show 0 < a by grind) (show 0 < -b by grind)
        rw [if_pos (by grind)]; grind
    · have:=Rat.mul_nonneg (show 0<=a by grind) (show 0<=b by grind)
      rw [if_neg (by grind),if_neg ha,if_neg hb]
  unfold ss
  rw [e]
  grind
theorem ss_negate (b:Rat):ss (-b)=-ss b:=by
  unfold ss ab
  by_cases h:b < 0
  · rw [if_neg (by grind),if_pos h]; grind
  · by_cases h0:b=0
    · subst h0; grind
    · rw [if_pos (by grind),if_neg h]; grind
theorem ss_nonneg {b:Rat} (h:0<=b):ss b=b*b:=by unfold ss ab; rw [if_neg (by grind)]
def sg (p q:Rat):Rat:=if q < 0 then -p else p
theorem norm_ne {a b u:Rat} (hu:NoSq u) (h:¬ (a=0/\b=0)):a*a - b*b*u≠0:=by
  intro e
  by_cases hb:b=0
  · subst hb
    apply h
    exact⟨by grind,rfl⟩
  · exact hu (a / b) (by grind)
def sgR (q:Rat):Int:=if 0 < q then 1 else if q < 0 then -1 else 0
theorem sgR_pos {q:Rat} (h:0 < q):sgR q=1:=if_pos h
theorem sgR_neg {q:Rat} (h:q < 0):sgR q=-1:=by unfold sgR; rw [if_neg (by grind),if_pos h]
theorem tri (q:Rat):0 < q\/q < 0\/q=0:=by
  rcases Rat.le_total (a:=0) (b:=q) with h | h
  · by_cases e:q=0
    · exact .inr (.inr e)
    · exact .inl (by grind)
  · by_cases e:q=0
    · exact .inr (.inr e)
    · exact .inr (.inl (by grind))
def sq2 (a b u:Rat):Int:=if 0 < a*a - b*b*u then sgR a else sgR b
theorem sq2_p {a b u:Rat} (h:0 < a*a - b*b*u):sq2 a b u=sgR a:=if_pos h
theorem div_nn {x y:Rat} (hx:0<=x) (hy:0<=y):0<=x / y:=by
  by_cases h:y=0
  · subst h
    rw [show x / 0=0 by grind]
    exact Rat.le_refl
  · apply Rat.not_lt.mp
    intro hl
    have h1:=Rat.mul_pos (show 0 < -(x / y) by grind) (show 0 < y by grind)
    have h2:x / y*y=x:=by grind
    grind
theorem ss_of_zero:ss 0=0:=by unfold ss; grind
theorem num_nn {q:Rat} (h:0<=q):0<=q.num:=Rat.num_nonneg.mpr h
theorem root_of_sq {q r:Rat} (h0:0<=r) (e:r*r=q):isq q.num=r.num/\isq (q.den:Int)=(r.den:Int):=by
  subst e
  rw [sq_num,sq_den]
  refine⟨isq_self (num_nn h0),?_⟩
  rw [Int.natCast_mul]
  exact isq_self (by omega)
theorem sq_of_root {q:Rat} (h0:0<=q) (s1:isq q.num*isq q.num=q.num) (s2:isq (q.den:Int)*isq (q.den:Int)=(q.den:Int)):∃ r:Rat,0<=r/\r*r=q:=by
  have n1:=(isq_rt (num_nn h0)).nn
  have n2:=(isq_rt (n:=(q.den:Int)) (by omega)).nn
  generalize isq q.num=x at s1 n1
  generalize isq (q.den:Int)=y at s2 n2
  have t1:(x:Rat)*x=(q.num:Rat):=by
    have:=congrArg (fun z:Int=>(z:Rat)) s1
    simpa [Rat.intCast_mul] using this
  have t2:(y:Rat)*y=(q.den:Rat):=by
    have:=congrArg (fun z:Int=>(z:Rat)) s2
    simpa [Rat.intCast_mul,Rat.intCast_natCast] using this
  have hd:=rat_den_ne q
  have hy0:(y:Rat)≠0:=by intro e; rw [e] at t2; exact hd (by grind)
  have hwn:=rat_num_den q
  have x0:(0:Rat)<=x:=by exact_mod_cast n1
  have y0:(0:Rat)<=y:=by exact_mod_cast n2
  refine⟨(x:Rat) / y,?_,by grind⟩
  exact div_nn x0 y0
theorem ab_ne {e:Rat} (h:e≠0):ab e≠0:=by unfold ab; split <;> grind
theorem ab_pos {e:Rat} (h:e≠0):0 < ab e:=by have:=ab_nn e; have:=ab_ne h; grind
theorem nn_eq {r s:Rat} (hr:0<=r) (hs:0<=s) (e:r*r=s*s):r=s:=by
  by_cases h:r+s=0
  · grind
  · have:(r - s)*(r+s)=0:=by grind
    grind
theorem share_root {b e u r:Rat} (u0:0 < u) (he:e≠0) (hr:0<=r) (h:r*r=(b*b*u) / (e*e*u)):r=ab b / ab e:=by
  have u1:u≠0:=by grind
  have e1:=ab_sq e
  have b1:=ab_sq b
  have e2:=ab_ne he
  apply nn_eq hr (div_nn (ab_nn b) (ab_nn e))
  rw [h]
  have:ab b / ab e*(ab b / ab e)=(ab b*ab b) / (ab e*ab e):=by grind
  rw [this,e1,b1]
  grind
theorem share_sq {b e u:Rat} (u0:0 < u) (he:e≠0):(ab b / ab e)*(ab b / ab e)=(b*b*u) / (e*e*u):=by
  have u1:u≠0:=by grind
  have e1:=ab_sq e
  have b1:=ab_sq b
  have e2:=ab_ne he
  have:ab b / ab e*(ab b / ab e)=(ab b*ab b) / (ab e*ab e):=by grind
  rw [this,e1,b1]
  grind
theorem share_sg {b e u:Rat} (u0:0 < u):sg (ab b / ab e) (ss b*u)=b / ab e:=by
  unfold sg
  by_cases h:b < 0
  · rw [if_pos ((ss_neg u0).mpr h)]
    unfold ab
    rw [if_pos h]
    grind
  · rw [if_neg (fun z=>h ((ss_neg u0).mp z))]
    unfold ab
    rw [if_neg h]
theorem ss_div {x y:Rat} (hy:0 < y):ss (x / y)=ss x / (y*y):=by
  have h1:x / y=x*(1 / y):=by grind
  have h2:0<=1 / y:=div_nn (by decide) (Rat.le_of_lt hy)
  rw [h1,ss_mul,ss_nonneg h2]
  grind
theorem join_ss {x e u:Rat} (he:e≠0):ss (x / ab e)*(e*e*u)=ss x*u:=by
  have e1:=ab_sq e
  rw [ss_div (ab_pos he),e1]
  grind
theorem sg_ss (p base:Rat):sg (p*p*base) p=ss p*base:=by
  unfold sg ss ab
  by_cases h:p < 0
  · rw [if_pos h,if_pos h]; grind
  · rw [if_neg h,if_neg h]
def pick (b d:Rat):Rat:=if b=0 then d else b
theorem pick_b {b d:Rat}:b=0\/pick b d≠0:=by
  unfold pick
  by_cases h:b=0
  · exact .inl h
  · rw [if_neg h]; exact .inr h
theorem pick_d {b d:Rat}:d=0\/pick b d≠0:=by
  unfold pick
  by_cases h:b=0
  · rw [if_pos h]
    by_cases h2:d=0
    · exact .inl h2
    · exact .inr h2
  · rw [if_neg h]; exact .inr h
theorem pick_zero {b d:Rat} (h:pick b d=0):b=0/\d=0:=by
  unfold pick at h
  by_cases h2:b=0
  · rw [if_pos h2] at h; exact⟨h2,h⟩
  · rw [if_neg h2] at h; exact absurd h h2
theorem plus_join {b d u:Rat}:ss (b / ab (pick b d)+d / ab (pick b d))*(pick b d*pick b d*u)=ss (b+d)*u:=by
  by_cases h:pick b d=0
  · obtain⟨rfl,rfl⟩:=pick_zero h
    rw [h]
    have:ss ((0:Rat)+0)=0:=by rw [show (0:Rat)+0=0 by grind]; exact ss_of_zero
    rw [this]
    grind
  · rw [<- join_ss (x:=b+d) h]
    congr 2
    have:=ab_ne h
    grind
theorem times_part {a b c d u:Rat}:a*c+(b / ab (pick b d))*(d / ab (pick b d))*(pick b d*pick b d*u)=a*c+b*d*u:=by
  by_cases h:pick b d=0
  · obtain⟨rfl,rfl⟩:=pick_zero h
    rw [h]
    grind
  · have e1:=ab_sq (pick b d)
    have e2:=ab_ne h
    rw [<- e1]
    grind
theorem times_join {a b c d u:Rat}:ss (a*(d / ab (pick b d))+c*(b / ab (pick b d)))*(pick b d*pick b d*u)=ss (a*d+b*c)*u:=by
  by_cases h:pick b d=0
  · obtain⟨rfl,rfl⟩:=pick_zero h
    rw [h,show a*(0 / ab (0:Rat))+c*(0 / ab 0)=0 by grind,show a*0+0*c=0 by grind,ss_of_zero]
    grind
  · rw [<- join_ss (x:=a*d+b*c) h]
    congr 2
    have:=ab_ne h
    grind
theorem ab_ss {b u:Rat} (u0:0 < u):ab (ss b*u)=b*b*u:=ss_ab u0
theorem Sz.ab {n:Nat} {q:Rat} (h:Sz n q):Sz n (HM.ab q):=by
  unfold HM.ab
  split
  · exact h.neg
  · exact h
theorem Sz.ss {n:Nat} {q:Rat} (h:Sz n q):Sz (n+n) (HM.ss q):=h.mul h.ab
theorem Sz.sg {n:Nat} {p q:Rat} (h:Sz n p):Sz n (HM.sg p q):=by
  unfold HM.sg
  split
  · exact h.neg
  · exact h
theorem Sz.zero:Sz 1 0:=⟨by show(0:Int).natAbs < 2 ^ 1; decide,by show((1:Nat):Int).natAbs < 2 ^ 1; decide⟩
theorem Sz.pick {n:Nat} {b d:Rat} (hb:Sz n b) (hd:Sz n d):Sz n (HM.pick b d):=by
  unfold HM.pick
  split
  · exact hd
  · exact hb
theorem Sz.div' {m n:Nat} {a b:Rat} (ha:Sz m a) (hb:Sz n b):Sz (m+n+1) (a / b):=by
  by_cases h:b=0
  · subst h
    rw [show a / 0=0 by grind]
    exact Sz.zero.mono (by omega)
  · exact(ha.div hb h).mono (by omega)
theorem sgI_num (q:Rat):(if q.num=0 then(0:Int) else if q.num > 0 then 1 else -1)=sgR q:=by
  rcases tri q with h | h | h
  · have:=num_nn (Rat.le_of_lt h)
    have n0:q.num≠0:=num_ne (by grind)
    rw [if_neg n0,if_pos (by omega),sgR_pos h]
  · have:=(num_neg_iff q).mpr h
    rw [if_neg (by omega),if_neg (by omega),sgR_neg h]
  · subst h; decide
theorem sgR_ss {b u:Rat} (u0:0 < u):sgR (ss b*u)=sgR b:=by
  rcases tri b with h | h | h
  · have:=Rat.mul_pos (Rat.mul_pos h (ab_pos (show b≠0 by grind))) u0
    unfold ss
    rw [sgR_pos h,sgR_pos this]
  · rw [sgR_neg h,sgR_neg ((ss_neg u0).mpr h)]
  · subst h
    rw [ss_of_zero,show(0:Rat)*u=0 by grind]
theorem num_pos_iff (q:Rat):q.num > 0↔0 < q:=by
  constructor
  · intro h
    rcases tri q with h1 | h1 | h1
    · exact h1
    · have:=(num_neg_iff q).mpr h1; omega
    · subst h1; exact absurd h (by decide)
  · intro h
    have:=num_nn (Rat.le_of_lt h)
    have n0:q.num≠0:=num_ne (by grind)
    omega
end HM
namespace L2
open PySem PySem.Spec PyProof.Rows
theorem compTurn_if0 (elt target iter:Expr) (scope:Scope) (pos:Pos) (it acc:Value) (env:Env):
    compTurn (.ListComp elt [⟨target,iter,[],0⟩] scope pos) 0 it acc env=(standAt iter.pos >>= fun _=>pyNext it >>= fun r=>match r with
      | none=>pure (.done .next)
      | some v=>letOwnedTupleGo target it v >>= fun _=>assign target env v >>= fun _=>
        (eval elt env >>= fun x=>call (.builtin "list.append") [acc,x] >>= fun _=>pure ()) >>= fun _=>
          again (.compLoop (.ListComp elt [⟨target,iter,[],0⟩] scope pos) 0 it acc env)):=by rfl
section
variable {prog:Program} {w:World} {A:Around} {R:Result->Shared->Prop} {s:Shared}
abbrev NoE:Value->Shared->Prop:=fun _ _=>False
theorem noE {α:Type} {M:Model} {A:Around} {t:Sem α} {Q:α->Shared->Prop} {E:Value->Shared->Prop} {s:Shared} (h:wpAny M A t Q NoE s):wpAny M A t Q E s:=wpAny_mono h (fun _ _ q=>q) fun _ _ z=>z.elim
theorem compLoop_if0 {elt target iter:Expr} {scope:Scope} {pos:Pos} {it acc:Value} {env:Env} (I:Nat->Shared->Prop)
    (turn:∀ n s,I n s->wpAny (model prog w) A (pyNext it) (fun r s1=>match r with
      | none=>R (.ok .next) s1
      | some v=>wpAny (model prog w) A (letOwnedTupleGo target it v) (fun _ s2=>wpAny (model prog w) A (assign target env v) (fun _ s3=>wpAny (model prog w) A (eval elt env) (fun x s4=>
          wpAny (model prog w) A (call (.builtin "list.append") [acc,x]) (fun _ s5=>∃ m,m < n/\I m s5) NoE s4) NoE s3) NoE s2) NoE s1) NoE s)
    (n:Nat) (h:I n s):codeAny (model prog w) A (.compLoop (.ListComp elt [⟨target,iter,[],0⟩] scope pos) 0 it acc env) R s:=by
  refine codeAny_loop rfl I (fun n s hI=>?_) n h
  show wpAny _ _ ((compTurn (.ListComp elt [⟨target,iter,[],0⟩] scope pos) 0 it acc env).onRaise (fun x=>do noteFrame x env; theTreesLotGoes x)) _ _ s
  refine wpAny_noted ?_
  rw [compTurn_if0]
  refine wpAny_bind (wpAny_standAt (wpAny_bind (noE (wpAny_mono (turn n s hI) (fun r s1 h1=>?_) fun _ _ z=>z))))
  cases r with
  | none=>exact wpAny_pure h1
  | some v=>
    exact wpAny_bind (noE (thn h1 fun _ s2 h2=>wpAny_bind (noE (thn h2 fun _ s3 h3=>wpAny_bind (wpAny_bind (noE (thn h3 fun x s4 h4=>wpAny_bind (noE (thn h4 fun _ s5 h5=>wpAny_pure (wpAny_pure ⟨rfl,h5⟩))))))))))
theorem wpAny_forIn_one {M:Model} {A:Around} {E:Value->Shared->Prop} {c:Expr} {env:Env} {Q:Bool->Shared->Prop} {s:Shared} (h:wpAny M A (PySem.isTrue c env (eval c env)) Q E s):
    wpAny M A (forIn [c] true fun c r=>if r=true then do let ok <- PySem.isTrue c env (eval c env); pure (ForInStep.yield ok) else pure (ForInStep.yield r)) Q E s:=by
  rw [List.forIn_cons]
  refine wpAny_bind ?_
  rw [if_pos rfl]
  refine wpAny_bind (thn h fun ok s1 q=>wpAny_pure ?_)
  show wpAny M A (forIn [] ok _) Q E s1
  rw [List.forIn_nil]
  exact wpAny_pure q
theorem compLoop_if1 {elt target iter c:Expr} {scope:Scope} {pos:Pos} {it acc:Value} {env:Env} (I:Nat->Shared->Prop)
    (turn:∀ n s,I n s->wpAny (model prog w) A (pyNext it) (fun r s1=>match r with
      | none=>R (.ok .next) s1
      | some v=>wpAny (model prog w) A (letOwnedTupleGo target it v) (fun _ s2=>wpAny (model prog w) A (assign target env v) (fun _ s3=>wpAny (model prog w) A (isTrue c env (eval c env)) (fun b s3'=>
          if b=true then wpAny (model prog w) A (eval elt env) (fun x s4=>wpAny (model prog w) A (call (.builtin "list.append") [acc,x]) (fun _ s5=>∃ m,m < n/\I m s5) NoE s4) NoE s3'
          else ∃ m,m < n/\I m s3') NoE s3) NoE s2) NoE s1) NoE s)
    (n:Nat) (h:I n s):codeAny (model prog w) A (.compLoop (.ListComp elt [⟨target,iter,[c],0⟩] scope pos) 0 it acc env) R s:=by
  refine codeAny_loop rfl I (fun n s hI=>?_) n h
  show wpAny _ _ ((compTurn (.ListComp elt [⟨target,iter,[c],0⟩] scope pos) 0 it acc env).onRaise (fun x=>do noteFrame x env; theTreesLotGoes x)) _ _ s
  refine wpAny_noted ?_
  rw [compTurn_list]
  refine wpAny_bind (wpAny_standAt (wpAny_bind (noE (wpAny_mono (turn n s hI) (fun r s1 h1=>?_) fun _ _ z=>z))))
  cases r with
  | none=>exact wpAny_pure h1
  | some v=>
    refine wpAny_bind (noE (thn h1 fun _ s2 h2=>wpAny_bind (noE (thn h2 fun _ s3 h3=>wpAny_bind (wpAny_forIn_one (noE (thn h3 fun b s3' h3'=>?_)))))))
    cases b with
    | true=>
      rw [if_pos rfl] at h3' ⊢
      exact wpAny_bind (wpAny_bind (noE (thn h3' fun x s4 h4=>wpAny_bind (noE (thn h4 fun _ s5 h5=>wpAny_pure (wpAny_pure ⟨rfl,h5⟩))))))
    | false=>
      rw [if_neg Bool.false_ne_true] at h3' ⊢
      exact wpAny_pure ⟨rfl,h3'⟩
end
def cxC (X:Cx) (scope:Scope) (cl:List (Str×Addr)) (N:List Str) (s0:Shared) (H0:Hp) (ex:List Addr) (C:Addr):Cx where
  prog:=X.prog
  w:=X.w
  K:=X.K
  mg:=X.mg
  base:=X.base
  A:=X.A
  N:=N
  s₀:=s0
  H₀:=H0
  env:=compEnvC scope cl C X.env
  outer:=X.stack
  stack:=X.stack
  ex:=ex
  fn:=fun _=>false
  calm:=X.calm
  pn:=[]
  xe:=NoE
structure CompSc (X:Cx) (scope:Scope) (cl:List (Str×Addr)) (N:List Str) (cap:List (Option Nat)):Prop where
  kind:scope.kind=.function
  clos:closureFor scope X.env=pure cl
  nocell:(scope.names.all fun y=>y.2 != NameKind.cell)=true
  names:(scope.names.all fun y=>y.2 != NameKind.local || scope.names.lookup y.1 == some NameKind.local)=true
  sub:∀ p∈cl,X.env.cells.lookup p.1=some p.2
  has:((relabel scope X.env).names.all fun y=>(y.2 != NameKind.cell && y.2 != NameKind.free) || (cl.lookup y.1).isSome)=true
  len:cap.length=N.length
  caps:∀ (i j:Nat) (x:Str),cap[i]?=some (some j)->N[i]?=some x->X.N[j]?=some x/\(X.env.scope.names.lookup x=some .cell\/X.env.scope.names.lookup x=some .free)/\((relabel scope X.env).names.lookup x=some .cell\/(relabel scope X.env).names.lookup x=some .free)
def capSt (cap:List (Option Nat)) (σ:St):St:=cap.map fun o=>match o with
  | some j=>(σ[j]?).join
  | none=>none
theorem capSt_get {cap:List (Option Nat)} {σ:St} {i:Nat} {v:V} (h:(capSt cap σ)[i]?=some (some v)):∃ j,cap[i]?=some (some j)/\σ[j]?=some (some v):=by
  unfold capSt at h
  rw [List.getElem?_map] at h
  cases e:cap[i]? with
  | none=>rw [e] at h; cases h
  | some o=>
    rw [e] at h
    cases o with
    | none=>cases h
    | some j=>
      refine⟨j,rfl,?_⟩
      have h:(σ[j]?).join=some v:=Option.some.inj h
      cases e2:σ[j]? with
      | none=>rw [e2] at h; cases h
      | some q=>rw [e2] at h; exact congrArg some h
theorem lookup_sub {X:Cx} {cl:List (Str×Addr)} (h:∀ p∈cl,X.env.cells.lookup p.1=some p.2) {x:Str} {c:Addr} (e:cl.lookup x=some c):X.env.cells.lookup x=some c:=h (x,c) (PySem.mem_of_lookup e)
theorem inv_comp {X:Cx} {scope:Scope} {cl:List (Str×Addr)} {N:List Str} {cap:List (Option Nat)} (Sc:CompSc X scope cl N cap) {pins:List (Addr×Obj)} {σ:St} {H:Hp} {s:Shared} {fp:List Addr} (I:Inv X pins σ H s)
    (hf:∀ b∈fp,FpOk X pins H b) (ho:∀ b∈fp,∃ o,s.heap.get? b=some o) {h1 h1':Heap} {m:Str->Option Value} {tk:Nat} {ob:Obj}
    (hD:s.heap.push {cls:=.type "list",data:=.seq ([]:List Value).toArray}=h1') (hns:h1.Ns h1'.objs.size m) (hsb:Heap.SameBut h1'.objs.size (h1'.push ob) h1):
    Inv (cxC X scope cl N {s with heap:=h1'} (upd H s.heap.objs.size (.lst [])) fp h1'.objs.size) [] (capSt cap σ) (upd H s.heap.objs.size (.lst [])) {s with heap:=h1,toks:=tk}/\
      Un (frs X.stack) fp H (upd H s.heap.objs.size (.lst [])) s.heap h1':=by
  have hC:h1'.objs.size=s.heap.objs.size+1:=by rw [<- hD,Heap.size_push]
  have k1:∀ b o,s.heap.get? b=some o->h1'.get? b=some o:=fun b o e=>by rw [<- hD]; exact Heap.get?_push_of_some _ e
  have k2:∀ b o,h1'.get? b=some o->h1.get? b=some o:=fun b o e=>(hsb.2 b (Nat.ne_of_lt (Heap.lt_size e))).trans (Heap.get?_push_of_some _ e)
  have hHn:H s.heap.objs.size=none:=I.hok.fresh (Nat.le_refl _)
  have neD:∀ b o,s.heap.get? b=some o->b≠s.heap.objs.size:=fun b o e=>Nat.ne_of_lt (Heap.lt_size e)
  have un1:Un (frs X.stack) fp H (upd H s.heap.objs.size (.lst [])) s.heap h1':=Un.laid k1 (Nat.le_refl _) hHn
  have new:ObjOk X.prog X.w (upd H s.heap.objs.size (.lst [])) h1' s.heap.objs.size (.lst []):=⟨Nat.zero_le _,[],0,.nil,by rw [<- hD]; exact Heap.get?_push_size _ rfl⟩
  have hok1:HOk X.prog X.w (upd H s.heap.objs.size (.lst [])) h1':=I.hok.laid k1 (Nat.le_refl _) new
  have fsub:∀ b∈fp,b∉frs X.stack:=fun b hb z=>by
    obtain⟨_,f1,f2,_⟩:=hf b hb
    rcases List.mem_cons.mp (I.stkSub b z) with e | e
    · exact f1 e
    · exact f2 e
  have cellK:∀ x c,cl.lookup x=some c->∃ v,s.heap.IsCell c v:=fun x c e=>I.cell x c (lookup_sub Sc.sub e)
  refine⟨⟨⟨I.ok.mod,?_,I.ok.glob,I.ok.blt,Nat.le_refl _,fun x y c e1 e2=>I.ok.inj x y c (lookup_sub Sc.sub e1) (lookup_sub Sc.sub e2),fun x hx=>?_,fun x c z=>(by cases z),I.ok.hd,I.ok.frames,.inl rfl,fun b hb=>⟨?_,fun x c e=>?_⟩,fun b o e=>⟨?_,?_⟩,?_,fun b o e hb=>?_,fsub,?_,fun b hb=>?_⟩,
    rfl,I.bare,Un.kept k2,⟨m,hns,fun i x v e1 e2 e3=>?_⟩,fun x c e=>?_,?_,fun x c e=>?_,fun p hp=>absurd hp (by simp [cxC]),hok1.kept k2,?_⟩,un1⟩
  · exact Sc.kind
  · have hx:(relabel scope X.env).names.lookup x=some .cell\/(relabel scope X.env).names.lookup x=some .free:=hx
    have ha:=List.all_eq_true.mp Sc.has
    show ∃ c,cl.lookup x=some c
    rcases hx with hx | hx
    · have:=ha _ (PySem.mem_of_lookup hx)
      exact Option.isSome_iff_exists.mp (by simpa using this)
    · have:=ha _ (PySem.mem_of_lookup hx)
      exact Option.isSome_iff_exists.mp (by simpa using this)
  · obtain⟨o,e⟩:=ho b hb
    have:=Heap.lt_size e
    show b≠h1'.objs.size
    rw [hC]
    exact Nat.ne_of_lt (Nat.lt_succ_of_lt this)
  · exact(hf b hb).2.2.2.2.1 x c (lookup_sub Sc.sub e)
  · exact k1 b o (I.bk b o e)
  · show upd H s.heap.objs.size (.lst []) b=none
    rw [upd_ne (neD b o (I.bk b o e))]
    exact(I.bs b o e).2
  · show X.base.objs.size<=h1'.objs.size
    rw [hC]
    exact Nat.le_succ_of_le (Nat.le_trans I.ok.bsz I.sz)
  · obtain⟨_,_,_,f3,_⟩:=hf b hb
    rcases f3 with f3 | f3
    · exact I.ok.noex b o e f3
    · have q1:=Heap.lt_size e
      have q2:=I.ok.bsz
      exact absurd (Nat.lt_of_lt_of_le q1 (Nat.le_trans q2 f3)) (Nat.lt_irrefl _)
  · exact I.stack.of_keeps fun b o e _=>⟨o,k1 b o e,rfl⟩
  · show upd H s.heap.objs.size (.lst []) b=none
    obtain⟨_,o,e,_⟩:=I.stack.mem hb
    rw [upd_ne (neD b o e)]
    exact I.stkFree b hb
  · obtain⟨j,c1,c2⟩:=capSt_get e2
    obtain⟨d1,d2,d3⟩:=Sc.caps i j x c1 e1
    obtain⟨m0,_,l0⟩:=I.loc
    obtain⟨u,ru,lk⟩:=l0 j x v d1 c2 (d2.elim (fun z=>.inr (.inl z)) fun z=>.inr (.inr z))
    refine⟨u,ru,.inr ⟨d3,?_⟩⟩
    rcases lk with ⟨z,_⟩ | ⟨_,c,z1,z2⟩
    · have z:X.env.scope.names.lookup x=some .local:=z
      rcases d2 with q | q <;> (rw [q] at z; cases z)
    · have ha:=List.all_eq_true.mp Sc.has
      have hs:∃ c',cl.lookup x=some c':=by
        rcases d3 with q | q
        · exact Option.isSome_iff_exists.mp (by simpa using ha _ (PySem.mem_of_lookup q))
        · exact Option.isSome_iff_exists.mp (by simpa using ha _ (PySem.mem_of_lookup q))
      obtain⟨c',q⟩:=hs
      have q2:=lookup_sub Sc.sub q
      rw [z1] at q2
      cases q2
      obtain⟨o,e,d⟩:=z2
      exact⟨c,q,o,k2 _ _ (k1 _ _ e),d⟩
  · obtain⟨v,o,e1,d⟩:=cellK x c e
    exact⟨v,o,k2 _ _ (k1 _ _ e1),d⟩
  · show upd H s.heap.objs.size (.lst []) h1'.objs.size=none
    rw [hC,upd_ne (Nat.succ_ne_self _)]
    exact I.hok.fresh (Nat.le_succ _)
  · obtain⟨v,o,e1,d⟩:=cellK x c e
    show upd H s.heap.objs.size (.lst []) c=none
    rw [upd_ne (neD c o e1)]
    exact I.freeC x c (lookup_sub Sc.sub e)
  · show(capSt cap σ).length=N.length
    unfold capSt
    rw [List.length_map]
    exact Sc.len
def tComp (cap:List (Option Nat)) (wi:TI) (g:TG) (te:TE):TE:=fun σ H Q=>wi σ H fun J H1=>∀ D,H1 D=none->∃ W:Nat->Nat->St->Hp->Prop,(∃ m,W 0 m (capSt cap σ) (upd H1 D (.lst [])))/\∀ i m σ' H',W i m σ' H'->
  (J.stop i H'/\Q (.ref D) H')\/(J.go i H'/\∃ N:St->Hp->Prop,(∀ σ2 H2,N σ2 H2->∃ m',m' < m/\W (i+1) m' σ2 H2)/\∀ x H2,J.yld i H' x H2->g x σ' H2 fun σ3 H3=>te σ3 H3 fun v H4=>∃ ys,H4 D=some (.lst ys)/\ys.length < sizeLine/\N σ3 (upd H4 D (.lst (ys++[v]))))
def tCompIf (cap:List (Option Nat)) (wi:TI) (g:TG) (tc:TT) (te:TE):TE:=fun σ H Q=>wi σ H fun J H1=>∀ D,H1 D=none->∃ W:Nat->Nat->St->Hp->Prop,(∃ m,W 0 m (capSt cap σ) (upd H1 D (.lst [])))/\∀ i m σ' H',W i m σ' H'->
  (J.stop i H'/\Q (.ref D) H')\/(J.go i H'/\∃ N:St->Hp->Prop,(∀ σ2 H2,N σ2 H2->∃ m',m' < m/\W (i+1) m' σ2 H2)/\∀ x H2,J.yld i H' x H2->g x σ' H2 fun σ3 H3=>tc σ3 H3 fun b H3'=>if b=true then te σ3 H3' fun v H4=>∃ ys,H4 D=some (.lst ys)/\ys.length < sizeLine/\N σ3 (upd H4 D (.lst (ys++[v]))) else N σ3 H3')
section
variable {X:Cx} {elt tg iter c:Expr} {scope:Scope} {cl:List (Str×Addr)} {N:List Str} {cap:List (Option Nat)} {pos:Pos} {wi:TI} {g:TG} {te:TE} {tc:TT}
theorem comp_out (Sc:CompSc X scope cl N cap) {pins:List (Addr×Obj)} {σ σ3:St} {H2 H3:Hp} {s2 s4:Shared} {fp:List Addr} {h1':Heap} {C:Addr} (I2:Inv X pins σ H2 s2) (f2:∀ b∈fp,FpOk X pins H2 b) {H1:Hp}
    (un3:Un (frs X.stack) fp H2 H1 s2.heap h1') (I4:Inv (cxC X scope cl N {s2 with heap:=h1'} H1 fp C) [] σ3 H3 s4) {h':Heap} (hC:s2.heap.objs.size<=C) (sb:Heap.SameBut C s4.heap h'):Inv X pins σ H3 {s4 with heap:=h'}:=by
  have u:Un (frs X.stack) fp H2 H3 s2.heap s4.heap:=un3.trans I4.base
  have ne:∀ b o,s2.heap.get? b=some o->b≠C:=fun b o e=>Nat.ne_of_lt (Nat.lt_of_lt_of_le (Heap.lt_size e) hC)
  have u':Un (frs X.stack) fp H2 H3 s2.heap h':=⟨fun b o e n hb hx=>(sb.2 b (ne b o e)).trans (u.keep b o e n hb hx),fun b o e n hb hx=>by
      obtain⟨sl,q⟩:=u.slot b o e n hb hx
      exact⟨sl,(sb.2 b (ne b o e)).trans q⟩,u.free,fun b o e hx=>by
      obtain⟨o',q⟩:=u.there b o e hx
      exact⟨o',(sb.2 b (ne b o e)).trans q⟩,u.tups,u.frzs,u.tbls⟩
  have hok:HOk X.prog X.w H3 h':=fun b ob e=>by
    refine(I4.hok b ob e).stay (fun c w' hc q=>(sb.2 c ?_).trans q) (fun _ q=>q) fun _ _ q=>q
    rintro rfl
    have hfree:H3 c=none:=I4.free
    rcases hc with rfl | hc
    · rw [hfree] at e; cases e
    · rw [hfree] at hc; cases hc
  refine I2.call' (s':={s4 with heap:=h'}) (ch:=fp) I4.os u' hok I4.bare fun b hb=>?_
  obtain⟨_,f1,_,f3,f4,f5⟩:=f2 b hb
  exact⟨f3,f1,f4,f5⟩
theorem comp_fp {s0:Shared} {H0:Hp} {C:Addr} {fp:List Addr} {σ:St} {H:Hp} {s:Shared} (I:Inv (cxC X scope cl N s0 H0 fp C) [] σ H s) (hn:∀ b∈fp,H b=none):∀ b∈fp,FpOk (cxC X scope cl N s0 H0 fp C) [] H b:=fun b hb=>
  ⟨hn b hb,(I.ok.exf b hb).1,I.ok.exfs b hb,.inl hb,(I.ok.exf b hb).2,fun p hp=>absurd hp (by simp [cxC])⟩
theorem pe_comp (hc:X.calm=true) (Sc:CompSc X scope cl N cap) (hi:PI X tg iter wi) (hg:∀ s0 H0 ex C,PG (cxC X scope cl N s0 H0 ex C) tg g) (he:∀ s0 H0 ex C,PE (cxC X scope cl N s0 H0 ex C) elt te)
    (hs:∀ x,foldedSetIterable iter X.env x=pure x:=by intro _; rfl):PE X (.ListComp elt [⟨tg,iter,[],0⟩] scope pos) (tComp cap wi g te):=by
  intro pins s σ H Q I h
  rw [eval_ListComp]
  have hcell:∀ y∈scope.names,y.2≠.cell:=fun y hy=>by simpa using List.all_eq_true.mp Sc.nocell y hy
  have hnames:∀ y∈scope.names,y.2=.local->scope.names.lookup y.1=some .local:=fun y hy e=>by
    have:=List.all_eq_true.mp Sc.names y hy
    rw [e] at this
    simpa using this
  refine wpAny_comprehension_free (use:=none) rfl hs Sc.clos Sc.kind hnames (thn (hi pins s σ H _ I h) fun v s1 h1=>thn h1 fun itv s2 h2=>?_)
  obtain⟨it,fp,tn,J,H2,e,I2,T,st2,f2,hW⟩:=h2
  subst e
  refine wpAny_newObj_type (wpAny_newFunctionEnv hcell (by intro y hy; simp at hy) (fun h1 hns hsb=>?_) Sc.kind)
  obtain⟨W,⟨m0,w0⟩,turn⟩:=hW s2.heap.objs.size I2.fresh
  dsimp only at hns hsb ⊢
  generalize hD:s2.heap.push {cls:=.type "list",dict:=none,data:=.seq ([]:List Value).toArray}=h1' at hns hsb ⊢
  obtain⟨I3,un3⟩:=inv_comp (tk:=s2.toks+([]:List (Str×Value)).length) Sc I2 f2 (fun b hb=>let ⟨o,e,_⟩:=T.obj 0 _ st2 b hb; ⟨o,e⟩) hD hns hsb
  have hC:s2.heap.objs.size<=h1'.objs.size:=by rw [<- hD,Heap.size_push]; exact Nat.le_succ _
  have k1:∀ b o,s2.heap.get? b=some o->h1.get? b=some o:=fun b o e=>by
    have e1:h1'.get? b=some o:=by rw [<- hD]; exact Heap.get?_push_of_some _ e
    exact(hsb.2 b (Nat.ne_of_lt (Heap.lt_size e1))).trans (Heap.get?_push_of_some _ e1)
  have st3:tn 0 h1:=T.keep 0 _ _ st2 fun b _ o e=>k1 b o e
  have fr3:∀ b∈fp,(upd H2 s2.heap.objs.size (.lst [])) b=none:=fun b hb=>by
    obtain⟨o,e,_⟩:=T.obj 0 _ st2 b hb
    rw [upd_ne (Nat.ne_of_lt (Heap.lt_size e))]
    exact(f2 b hb).1
  have loop:∀ s3:Shared,s3={s2 with heap:=h1,toks:=s2.toks+([]:List (Str×Value)).length}->
      codeAny (model X.prog X.w) X.A (.compLoop (.ListComp elt [⟨tg,iter,[],0⟩] scope pos) 0 (.ref it) (.ref s2.heap.objs.size) (compEnvC scope cl h1'.objs.size X.env))
        (compPost (model X.prog X.w) X.A X.xe none (EP X pins σ Q) (.ref s2.heap.objs.size) h1'.objs.size) s3:=by
    rintro s3 rfl
    refine compLoop_if0 (fun n s'=>∃ i σ' H',Inv (cxC X scope cl N {s2 with heap:=h1'} (upd H2 s2.heap.objs.size (.lst [])) fp h1'.objs.size) [] σ' H' s'/\tn i s'.heap/\(∀ b∈fp,H' b=none)/\W i n σ' H') ?_ m0 ⟨0,_,_,I3,st3,fr3,w0⟩
    rintro n s3 ⟨i,σ3,H3,I3,st3,fr3,w3⟩
    rcases turn i n σ3 H3 w3 with ⟨stop,qn⟩ | ⟨go,Nn,hN,step⟩
    · refine thn (T.done (cxC X scope cl N {s2 with heap:=h1'} (upd H2 s2.heap.objs.size (.lst [])) fp h1'.objs.size) rfl rfl rfl hc i [] s3 σ3 H3 NoE I3 (comp_fp I3 fr3) st3 stop) fun r s4 ⟨hr,I4⟩=>?_
      subst hr
      obtain⟨m,hm,_⟩:=I4.loc
      exact⟨m,hm,fun h' sb=>⟨.ref _,H3,comp_out Sc I2 f2 un3 I4 hC sb,rfl,qn⟩⟩
    · refine thn (T.item (cxC X scope cl N {s2 with heap:=h1'} (upd H2 s2.heap.objs.size (.lst [])) fp h1'.objs.size) rfl rfl rfl hc i [] s3 σ3 H3 NoE I3 (comp_fp I3 fr3) st3 go) fun r s4 ⟨u,hr,h4⟩=>?_
      subst hr
      refine thn h4 fun _ s5 ⟨x,H5,I5,r5,y5,st5,fr5⟩=>?_
      have I5':=I5.pinned (comp_fp I5 fr5) (T.obj _ _ st5)
      refine thn (hg _ _ _ _ _ s5 σ3 H5 x u _ I5' r5 (step x H5 y5)) fun _ s6 ⟨σ6,H6,I6,q6⟩=>?_
      refine thn (he _ _ _ _ _ s6 σ6 H6 _ I6 q6) fun uv s7 ⟨v,H7,I7,r7,ys,hy,hl,q7⟩=>?_
      refine thn (mt_append (X:=cxC X scope cl N {s2 with heap:=h1'} (upd H2 s2.heap.objs.size (.lst [])) fp h1'.objs.size) _ s7 σ6 H7 (.ref s2.heap.objs.size) [v] (.ref s2.heap.objs.size) [uv] (fun _ H8=>Nn σ6 H8) I7 rfl (.cons r7 .nil) ⟨_,ys,v,rfl,rfl,hy,hl,q7⟩) fun _ s8 ⟨_,H8,I8,_,n8⟩=>?_
      obtain⟨m',hm,w8⟩:=hN σ6 H8 n8
      refine⟨m',hm,i+1,σ6,H8,I8.unpinned,T.keep _ _ _ st5 fun b hb o e=>(I8.pin (b,o) (List.mem_append_right _ (List.mem_append_right _ (mem_pinsAt hb e)))).1,fun b hb=>?_,w8⟩
      obtain⟨o,e,d⟩:=T.obj _ _ st5 b hb
      exact(I8.pin (b,o) (List.mem_append_right _ (List.mem_append_right _ (mem_pinsAt hb e)))).2.1
  exact codeAny_compStart_list (loop _ rfl) (T.self _ 0 _ _ _ st3 (loop _ rfl))
theorem pe_compIf (hc:X.calm=true) (Sc:CompSc X scope cl N cap) (hi:PI X tg iter wi) (hg:∀ s0 H0 ex C,PG (cxC X scope cl N s0 H0 ex C) tg g) (hcnd:∀ s0 H0 ex C,PT (cxC X scope cl N s0 H0 ex C) c tc) (he:∀ s0 H0 ex C,PE (cxC X scope cl N s0 H0 ex C) elt te)
    (hs:∀ x,foldedSetIterable iter X.env x=pure x:=by intro _; rfl):PE X (.ListComp elt [⟨tg,iter,[c],0⟩] scope pos) (tCompIf cap wi g tc te):=by
  intro pins s σ H Q I h
  rw [eval_ListComp]
  have hcell:∀ y∈scope.names,y.2≠.cell:=fun y hy=>by simpa using List.all_eq_true.mp Sc.nocell y hy
  have hnames:∀ y∈scope.names,y.2=.local->scope.names.lookup y.1=some .local:=fun y hy e=>by
    have:=List.all_eq_true.mp Sc.names y hy
    rw [e] at this
    simpa using this
  refine wpAny_comprehension_free (use:=none) rfl hs Sc.clos Sc.kind hnames (thn (hi pins s σ H _ I h) fun v s1 h1=>thn h1 fun itv s2 h2=>?_)
  obtain⟨it,fp,tn,J,H2,e,I2,T,st2,f2,hW⟩:=h2
  subst e
  refine wpAny_newObj_type (wpAny_newFunctionEnv hcell (by intro y hy; simp at hy) (fun h1 hns hsb=>?_) Sc.kind)
  obtain⟨W,⟨m0,w0⟩,turn⟩:=hW s2.heap.objs.size I2.fresh
  dsimp only at hns hsb ⊢
  generalize hD:s2.heap.push {cls:=.type "list",dict:=none,data:=.seq ([]:List Value).toArray}=h1' at hns hsb ⊢
  obtain⟨I3,un3⟩:=inv_comp (tk:=s2.toks+([]:List (Str×Value)).length) Sc I2 f2 (fun b hb=>let ⟨o,e,_⟩:=T.obj 0 _ st2 b hb; ⟨o,e⟩) hD hns hsb
  have hC:s2.heap.objs.size<=h1'.objs.size:=by rw [<- hD,Heap.size_push]; exact Nat.le_succ _
  have k1:∀ b o,s2.heap.get? b=some o->h1.get? b=some o:=fun b o e=>by
    have e1:h1'.get? b=some o:=by rw [<- hD]; exact Heap.get?_push_of_some _ e
    exact(hsb.2 b (Nat.ne_of_lt (Heap.lt_size e1))).trans (Heap.get?_push_of_some _ e1)
  have st3:tn 0 h1:=T.keep 0 _ _ st2 fun b _ o e=>k1 b o e
  have fr3:∀ b∈fp,(upd H2 s2.heap.objs.size (.lst [])) b=none:=fun b hb=>by
    obtain⟨o,e,_⟩:=T.obj 0 _ st2 b hb
    rw [upd_ne (Nat.ne_of_lt (Heap.lt_size e))]
    exact(f2 b hb).1
  have loop:∀ s3:Shared,s3={s2 with heap:=h1,toks:=s2.toks+([]:List (Str×Value)).length}->
      codeAny (model X.prog X.w) X.A (.compLoop (.ListComp elt [⟨tg,iter,[c],0⟩] scope pos) 0 (.ref it) (.ref s2.heap.objs.size) (compEnvC scope cl h1'.objs.size X.env))
        (compPost (model X.prog X.w) X.A X.xe none (EP X pins σ Q) (.ref s2.heap.objs.size) h1'.objs.size) s3:=by
    rintro s3 rfl
    refine compLoop_if1 (fun n s'=>∃ i σ' H',Inv (cxC X scope cl N {s2 with heap:=h1'} (upd H2 s2.heap.objs.size (.lst [])) fp h1'.objs.size) [] σ' H' s'/\tn i s'.heap/\(∀ b∈fp,H' b=none)/\W i n σ' H') ?_ m0 ⟨0,_,_,I3,st3,fr3,w0⟩
    rintro n s3 ⟨i,σ3,H3,I3,st3,fr3,w3⟩
    rcases turn i n σ3 H3 w3 with ⟨stop,qn⟩ | ⟨go,Nn,hN,step⟩
    · refine thn (T.done (cxC X scope cl N {s2 with heap:=h1'} (upd H2 s2.heap.objs.size (.lst [])) fp h1'.objs.size) rfl rfl rfl hc i [] s3 σ3 H3 NoE I3 (comp_fp I3 fr3) st3 stop) fun r s4 ⟨hr,I4⟩=>?_
      subst hr
      obtain⟨m,hm,_⟩:=I4.loc
      exact⟨m,hm,fun h' sb=>⟨.ref _,H3,comp_out Sc I2 f2 un3 I4 hC sb,rfl,qn⟩⟩
    · refine thn (T.item (cxC X scope cl N {s2 with heap:=h1'} (upd H2 s2.heap.objs.size (.lst [])) fp h1'.objs.size) rfl rfl rfl hc i [] s3 σ3 H3 NoE I3 (comp_fp I3 fr3) st3 go) fun r s4 ⟨u,hr,h4⟩=>?_
      subst hr
      refine thn h4 fun _ s5 ⟨x,H5,I5,r5,y5,st5,fr5⟩=>?_
      have I5':=I5.pinned (comp_fp I5 fr5) (T.obj _ _ st5)
      refine thn (hg _ _ _ _ _ s5 σ3 H5 x u _ I5' r5 (step x H5 y5)) fun _ s6 ⟨σ6,H6,I6,q6⟩=>?_
      have again:∀ {s8:Shared} {H8:Hp},Inv (cxC X scope cl N {s2 with heap:=h1'} (upd H2 s2.heap.objs.size (.lst [])) fp h1'.objs.size) ([]++pinsAt fp s5.heap) σ6 H8 s8->Nn σ6 H8->
          ∃ m,m < n/\∃ i σ' H',Inv (cxC X scope cl N {s2 with heap:=h1'} (upd H2 s2.heap.objs.size (.lst [])) fp h1'.objs.size) [] σ' H' s8/\tn i s8.heap/\(∀ b∈fp,H' b=none)/\W i m σ' H':=fun {s8 H8} I8 n8=>by
        obtain⟨m',hm,w8⟩:=hN σ6 H8 n8
        refine⟨m',hm,i+1,σ6,H8,I8.unpinned,T.keep _ _ _ st5 fun b hb o e=>(I8.pin (b,o) (List.mem_append_right _ (List.mem_append_right _ (mem_pinsAt hb e)))).1,fun b hb=>?_,w8⟩
        obtain⟨o,e,d⟩:=T.obj _ _ st5 b hb
        exact(I8.pin (b,o) (List.mem_append_right _ (List.mem_append_right _ (mem_pinsAt hb e)))).2.1
      refine thn (hcnd _ _ _ _ _ s6 σ6 H6 _ I6 q6) fun b s6' ⟨H6',I6',q6'⟩=>?_
      cases b with
      | true=>
        rw [if_pos rfl] at q6' ⊢
        refine thn (he _ _ _ _ _ s6' σ6 H6' _ I6' q6') fun uv s7 ⟨v,H7,I7,r7,ys,hy,hl,q7⟩=>?_
        refine thn (mt_append (X:=cxC X scope cl N {s2 with heap:=h1'} (upd H2 s2.heap.objs.size (.lst [])) fp h1'.objs.size) _ s7 σ6 H7 (.ref s2.heap.objs.size) [v] (.ref s2.heap.objs.size) [uv] (fun _ H8=>Nn σ6 H8) I7 rfl (.cons r7 .nil) ⟨_,ys,v,rfl,rfl,hy,hl,q7⟩) fun _ s8 ⟨_,H8,I8,_,n8⟩=>?_
        exact again I8 n8
      | false=>
        rw [if_neg Bool.false_ne_true] at q6' ⊢
        exact again I6' q6'
  exact codeAny_compStart_list (loop _ rfl) (T.self _ 0 _ _ _ st3 (loop _ rfl))
end
end L2
namespace DL
open PySem PySem.Spec PyProof.Rows L2
abbrev Fg:=PySem.W.Frag
inductive Ty where
  | non | bool | int | str | tup | lst | dic | verr
def Ty.name:Ty->String
  | .non=>"NoneType" | .bool=>"bool" | .int=>"int" | .str=>"str" | .tup=>"tuple" | .lst=>"list" | .dic=>"dict" | .verr=>"ValueError"
inductive D where
  | non | bl (b:Bool) | int (i:Int) | str (x:Str) | tup (ds:List D) | rl (ds:List D) | ref (a:Addr) | ty (n:Ty)
def SqF (K:Fg) (H:Hp) (a:Addr) (xs:List V):Prop:=
  (∃ o,H a=some (.frz o (.lst xs)))\/∃ (o:Obj) (its:Array Value) (n:Nat),K.lookup a=some o/\o.cls=.type "list"/\o.dict=none/\o.data=.seq its n/\its.size<=sizeLine/\Vals xs its.toList
theorem SqF.sq {K:Fg} {H:Hp} {a:Addr} {xs:List V} (h:SqF K H a xs):SqL K H a xs:=by
  rcases h with h | h
  · exact .inl (.inr h)
  · exact .inr h
mutual
def IsD (K:Fg) (H:Hp):D->V->Prop
  | .non,v=>v=.non
  | .bl b,v=>v=.bl b
  | .int i,v=>v=.int i
  | .str x,v=>v=.str x
  | .tup ds,v=>∃ a xs,v=.ref a/\SqT K H a xs/\IsDs K H ds xs
  | .rl ds,v=>∃ a xs,v=.ref a/\SqF K H a xs/\IsDs K H ds xs
  | .ref a,v=>v=.ref a
  | .ty n,v=>v=.ty n.name
def IsDs (K:Fg) (H:Hp):List D->List V->Prop
  | [],vs=>vs=[]
  | d::ds,vs=>∃ v r,vs=v::r/\IsD K H d v/\IsDs K H ds r
end
def Imm:HO->Prop
  | .tup _=>True
  | .frz _ _=>True
  | _=>False
def Kp (H H':Hp):Prop:=∀ a o,H a=some o->Imm o->H' a=some o
theorem Kp.refl (H:Hp):Kp H H:=fun _ _ h _=>h
theorem Kp.trans {H H1 H2:Hp} (a:Kp H H1) (b:Kp H1 H2):Kp H H2:=fun c o h i=>b c o (a c o h i) i
theorem Kp.tup {K:Fg} {H H':Hp} {a:Addr} {xs:List V} (k:Kp H H') (h:SqT K H a xs):SqT K H' a xs:=by
  rcases h with (h | ⟨o,h⟩) | h
  · exact .inl (.inl (k _ _ h trivial))
  · exact .inl (.inr ⟨o,k _ _ h trivial⟩)
  · exact .inr h
theorem Kp.fro {K:Fg} {H H':Hp} {a:Addr} {xs:List V} (k:Kp H H') (h:SqF K H a xs):SqF K H' a xs:=by
  rcases h with ⟨o,h⟩ | h
  · exact .inl ⟨o,k _ _ h trivial⟩
  · exact .inr h
theorem Kp.new {H:Hp} {p:Addr} {o:HO} (h:H p=none):Kp H (upd H p o):=fun b u e _=>by rw [upd_ne (ne_of_none e h)]; exact e
theorem Kp.mut {H:Hp} {p:Addr} {o u:HO} (h:H p=some u) (n:¬ Imm u):Kp H (upd H p o):=fun b z e i=>by
  rw [upd_ne (fun q=>by subst q; rw [h] at e; cases e; exact n i)]; exact e
mutual
theorem IsD.kp {K:Fg} {H H':Hp} (k:Kp H H'):∀ {d:D} {v:V},IsD K H d v->IsD K H' d v
  | .non,_,h=>by unfold IsD at *; exact h
  | .bl _,_,h=>by unfold IsD at *; exact h
  | .int _,_,h=>by unfold IsD at *; exact h
  | .str _,_,h=>by unfold IsD at *; exact h
  | .ref _,_,h=>by unfold IsD at *; exact h
  | .ty _,_,h=>by unfold IsD at *; exact h
  | .tup ds,_,h=>by
    unfold IsD at*
    obtain⟨a,xs,e,t,r⟩:=h
    exact⟨a,xs,e,k.tup t,IsDs.kp k r⟩
  | .rl ds,_,h=>by
    unfold IsD at*
    obtain⟨a,xs,e,t,r⟩:=h
    exact⟨a,xs,e,k.fro t,IsDs.kp k r⟩
theorem IsDs.kp {K:Fg} {H H':Hp} (k:Kp H H'):∀ {ds:List D} {vs:List V},IsDs K H ds vs->IsDs K H' ds vs
  | [],_,h=>by unfold IsDs at *; exact h
  | d::ds,_,h=>by
    unfold IsDs at*
    obtain⟨v,r,e,h1,h2⟩:=h
    exact⟨v,r,e,IsD.kp k h1,IsDs.kp k h2⟩
end
section
variable {K:Fg} {H:Hp}
theorem isInt {i:Int} {v:V}:IsD K H (.int i) v↔v=.int i:=by unfold IsD; exact Iff.rfl
theorem isBl {b:Bool} {v:V}:IsD K H (.bl b) v↔v=.bl b:=by unfold IsD; exact Iff.rfl
theorem isStr {b:Str} {v:V}:IsD K H (.str b) v↔v=.str b:=by unfold IsD; exact Iff.rfl
theorem isNon {v:V}:IsD K H .non v↔v=.non:=by unfold IsD; exact Iff.rfl
theorem isRef {a:Addr} {v:V}:IsD K H (.ref a) v↔v=.ref a:=by unfold IsD; exact Iff.rfl
theorem isTy {a:Ty} {v:V}:IsD K H (.ty a) v↔v=.ty a.name:=by unfold IsD; exact Iff.rfl
theorem isTup {ds:List D} {v:V}:IsD K H (.tup ds) v↔∃ a xs,v=.ref a/\SqT K H a xs/\IsDs K H ds xs:=by unfold IsD; exact Iff.rfl
theorem isRl {ds:List D} {v:V}:IsD K H (.rl ds) v↔∃ a xs,v=.ref a/\SqF K H a xs/\IsDs K H ds xs:=by unfold IsD; exact Iff.rfl
theorem isNil {vs:List V}:IsDs K H [] vs↔vs=[]:=by unfold IsDs; exact Iff.rfl
theorem isCons {d:D} {ds:List D} {vs:List V}:IsDs K H (d::ds) vs↔∃ v r,vs=v::r/\IsD K H d v/\IsDs K H ds r:=by
  constructor
  · intro h; unfold IsDs at h; exact h
  · intro h; unfold IsDs; exact h
theorem IsDs.nil:IsDs K H [] []:=isNil.mpr rfl
theorem IsDs.cons {d:D} {ds:List D} {v:V} {vs:List V} (h1:IsD K H d v) (h2:IsDs K H ds vs):IsDs K H (d::ds) (v::vs):=isCons.mpr ⟨v,vs,rfl,h1,h2⟩
theorem IsDs.length:∀ {ds:List D} {vs:List V},IsDs K H ds vs->ds.length=vs.length
  | [],_,h=>by rw [isNil.mp h]; rfl
  | d::ds,_,h=>by
    obtain⟨v,r,rfl,_,h2⟩:=isCons.mp h
    rw [List.length_cons,List.length_cons,IsDs.length h2]
theorem IsDs.get:∀ {ds:List D} {vs:List V} {i:Nat} {d:D},IsDs K H ds vs->ds[i]?=some d->∃ v,vs[i]?=some v/\IsD K H d v
  | [],_,_,_,_,e=>by simp at e
  | c::ds,_,0,d,h,e=>by
    obtain⟨v,r,rfl,h1,h2⟩:=isCons.mp h
    simp at e
    subst e
    exact⟨v,rfl,h1⟩
  | c::ds,_,i+1,d,h,e=>by
    obtain⟨v,r,rfl,h1,h2⟩:=isCons.mp h
    obtain⟨u,q1,q2⟩:=IsDs.get (i:=i) (d:=d) h2 (by simpa using e)
    exact⟨u,by simpa using q1,q2⟩
theorem IsDs.set:∀ {ds:List D} {vs:List V} {d:D} {v:V} (i:Nat),IsDs K H ds vs->IsD K H d v->IsDs K H (ds.set i d) (vs.set i v)
  | [],_,_,_,_,h,_=>by rw [isNil.mp h]; exact IsDs.nil
  | c::ds,_,d,v,0,h,hd=>by
    obtain⟨u,r,rfl,h1,h2⟩:=isCons.mp h
    exact IsDs.cons hd h2
  | c::ds,_,d,v,i+1,h,hd=>by
    obtain⟨u,r,rfl,h1,h2⟩:=isCons.mp h
    exact IsDs.cons h1 (IsDs.set i h2 hd)
theorem IsDs.append:∀ {ds es:List D} {vs us:List V},IsDs K H ds vs->IsDs K H es us->IsDs K H (ds++es) (vs++us)
  | [],_,_,_,h,h'=>by rw [isNil.mp h]; exact h'
  | c::ds,_,_,_,h,h'=>by
    obtain⟨u,r,rfl,h1,h2⟩:=isCons.mp h
    exact IsDs.cons h1 (IsDs.append h2 h')
theorem IsDs.drop:∀ {ds:List D} {vs:List V} (n:Nat),IsDs K H ds vs->IsDs K H (ds.drop n) (vs.drop n)
  | _,_,0,h=>h
  | [],_,n+1,h=>by rw [isNil.mp h]; exact IsDs.nil
  | c::ds,_,n+1,h=>by
    obtain⟨u,r,rfl,h1,h2⟩:=isCons.mp h
    exact IsDs.drop n h2
theorem IsDs.take:∀ {ds:List D} {vs:List V} (n:Nat),IsDs K H ds vs->IsDs K H (ds.take n) (vs.take n)
  | _,_,0,h=>by simpa using IsDs.nil
  | [],_,n+1,h=>by rw [isNil.mp h]; exact IsDs.nil
  | c::ds,_,n+1,h=>by
    obtain⟨u,r,rfl,h1,h2⟩:=isCons.mp h
    exact IsDs.cons h1 (IsDs.take n h2)
end
def hashT (ks:List Int):Int:=reduceHash (Builtin.Tuple.tupleHashOf (ks.map hashInt))
def eT (x:List Int×Addr×Value):DictEntry:=⟨hashT x.1,.ref x.2.1,x.2.2⟩
def dxO (es:Array DictEntry) (ep:Nat):Obj:={cls:=.type "dict",dict:=none,data:=.dict es ep,slots:=#[]}
def DxP (a:Addr) (xs:List (List Int×Addr×Value)) (ep:Nat):Heap->Prop:=fun h=>(a == sysModules)=false/\xs.length<=sizeLine/\(xs.map (·.1)).Nodup/\h.get? a=some (dxO (xs.map eT).toArray ep)
inductive Gen where
  | dT (kvs:List (List Int×D)) (ep:Nat)
  | dK (kvs:List (Key×D))
abbrev KtR (K:Fg) (H:Hp):List (List Int×D)->List (List Int×Addr×Value)->Prop:=Paired fun p q=>p.1=q.1/\SqT K H q.2.1 (p.1.map V.int)/\∃ v,RelV v q.2.2/\IsD K H p.2 v
def GObj (K:Fg) (H:Hp) (a:Addr):Gen->Prop
  | .dT kvs ep=>∃ xs,H a=some (.ext (DxP a xs ep))/\KtR K H kvs xs
  | .dK kvs=>∃ ys,H a=some (.dK ys)/\Paired (fun (p:Key×D) (q:Key×V)=>p.1=q.1/\IsD K H p.2 q.2) kvs ys
theorem KtR.kp {K:Fg} {H H':Hp} {kvs:List (List Int×D)} {xs:List (List Int×Addr×Value)} (r:KtR K H kvs xs) (k:Kp H H'):KtR K H' kvs xs:=
  Paired.mapP r fun _ _ ⟨a,b,v,c,d⟩=>⟨a,k.tup b,v,c,d.kp k⟩
theorem GObj.there {K:Fg} {H:Hp} {a:Addr} {g:Gen} (h:GObj K H a g):∃ o,H a=some o/\¬ Imm o:=by
  cases g with
  | dT kvs ep=>obtain⟨xs,e,_⟩:=h; exact⟨_,e,fun z=>z⟩
  | dK kvs=>obtain⟨xs,e,_⟩:=h; exact⟨_,e,fun z=>z⟩
theorem GObj.step {K:Fg} {H H':Hp} {a:Addr} {g:Gen} (h:GObj K H a g) (k:Kp H H') (s:H' a=H a):GObj K H' a g:=by
  cases g with
  | dT kvs ep=>obtain⟨xs,e,r⟩:=h; exact⟨xs,s.trans e,r.kp k⟩
  | dK kvs=>obtain⟨xs,e,r⟩:=h; exact⟨xs,s.trans e,Paired.mapP r fun _ _ z=>⟨z.1,z.2.kp k⟩⟩
inductive DO where
  | lst (ds:List D)
  | dic
  | exc (C:Addr)
  | fn (φ:Hp->Prop)
  | tbl (ψ:Hp->Array Value->Prop)
  | gen (g:Gen)
abbrev DH:=Addr->Option DO
def put (S:DH) (a:Addr) (o:DO):DH:=fun b=>if b=a then some o else S b
theorem put_same {S:DH} {a:Addr} {o:DO}:put S a o a=some o:=by unfold put; rw [if_pos rfl]
theorem put_ne {S:DH} {a b:Addr} {o:DO} (h:b≠a):put S a o b=S b:=by unfold put; rw [if_neg h]
theorem put_put {S:DH} {a:Addr} {o u:DO}:put (put S a o) a u=put S a u:=by funext b; unfold put; split <;> rfl
theorem ne_put {S:DH} {a p:Addr} {o:DO} (h:S a=some o) (h':S p=none):a≠p:=by intro e; subst e; rw [h] at h'; cases h'
def DObj (K:Fg) (H:Hp) (a:Addr):DO->Prop
  | .lst ds=>∃ xs,H a=some (.lst xs)/\IsDs K H ds xs
  | .dic=>∃ kvs,H a=some (.dK kvs)
  | .exc C=>∃ o u,H a=some (.frz o u)/\o.cls=.ref C
  | .fn φ=>(∃ o u,H a=some (.frz o u))/\∀ H',Kp H H'->φ H'
  | .tbl ψ=>∃ ps,H a=some (.tbl ps)/\∀ H',Kp H H'->ψ H' ps
  | .gen g=>GObj K H a g
def Hs (K:Fg) (H:Hp) (S:DH):Prop:=∀ a o,S a=some o->DObj K H a o
section
variable {K:Fg} {H H':Hp} {S:DH} {p:Addr}
theorem Hs.lst {ds:List D} (h:Hs K H S) (e:S p=some (.lst ds)):∃ xs,H p=some (.lst xs)/\IsDs K H ds xs:=h p _ e
theorem Hs.free (h:Hs K H S) (e:H p=none):S p=none:=by
  cases q:S p with
  | none=>rfl
  | some o=>
    have z:=h p o q
    cases o with
    | lst ds=>obtain⟨xs,z,_⟩:=z; rw [e] at z; cases z
    | dic=>obtain⟨xs,z⟩:=z; rw [e] at z; cases z
    | exc C=>obtain⟨_,_,z,_⟩:=z; rw [e] at z; cases z
    | fn φ=>obtain⟨⟨_,_,z⟩,_⟩:=z; rw [e] at z; cases z
    | tbl ψ=>obtain⟨_,z,_⟩:=z; rw [e] at z; cases z
    | gen g=>obtain⟨_,z,_⟩:=GObj.there z; rw [e] at z; cases z
theorem Hs.step (h:Hs K H S) (k:Kp H H') (s:∀ a o,S a=some o->H' a=H a):Hs K H' S:=fun a o e=>by
  have z:=h a o e
  cases o with
  | lst ds=>obtain⟨xs,z,r⟩:=z; exact⟨xs,by rw [s a _ e]; exact z,r.kp k⟩
  | dic=>obtain⟨xs,z⟩:=z; exact⟨xs,by rw [s a _ e]; exact z⟩
  | exc C=>obtain⟨x,y,z,r⟩:=z; exact⟨x,y,by rw [s a _ e]; exact z,r⟩
  | fn φ=>obtain⟨⟨x,y,z⟩,r⟩:=z; exact⟨⟨x,y,by rw [s a _ e]; exact z⟩,fun H2 k2=>r H2 (k.trans k2)⟩
  | tbl ψ=>obtain⟨ps,z,r⟩:=z; exact⟨ps,by rw [s a _ e]; exact z,fun H2 k2=>r H2 (k.trans k2)⟩
  | gen g=>exact GObj.step z k (s a _ e)
theorem Hs.new {o:HO} (h:Hs K H S) (e:H p=none):Hs K (upd H p o) S:=h.step (Kp.new e) fun a u q=>by
  rw [upd_ne]; intro z; subst z; rw [h.free e] at q; cases q
theorem Hs.newL {xs:List V} {ds:List D} (h:Hs K H S) (e:H p=none) (r:IsDs K H ds xs):Hs K (upd H p (.lst xs)) (put S p (.lst ds)):=fun a o q=>by
  by_cases z:a=p
  · subst z
    rw [put_same] at q
    cases q
    exact⟨xs,upd_same,r.kp (Kp.new e)⟩
  · rw [put_ne z] at q
    exact(h.new e) a o q
theorem Hs.setL {xs ys:List V} {ds:List D} (h:Hs K H S) (e:H p=some (.lst xs)) (r:IsDs K H ds ys):Hs K (upd H p (.lst ys)) (put S p (.lst ds)):=fun a o q=>by
  have k:Kp H (upd H p (.lst ys)):=Kp.mut e (fun z=>z)
  by_cases z:a=p
  · subst z
    rw [put_same] at q
    cases q
    exact⟨ys,upd_same,r.kp k⟩
  · rw [put_ne z] at q
    have w:=h a o q
    cases o with
    | lst ds=>obtain⟨xs,w,r⟩:=w; exact⟨xs,by rw [upd_ne z]; exact w,r.kp k⟩
    | dic=>obtain⟨xs,w⟩:=w; exact⟨xs,by rw [upd_ne z]; exact w⟩
    | exc C=>obtain⟨x,y,w,r⟩:=w; exact⟨x,y,by rw [upd_ne z]; exact w,r⟩
    | fn φ=>obtain⟨⟨x,y,w⟩,r⟩:=w; exact⟨⟨x,y,by rw [upd_ne z]; exact w⟩,fun H2 k2=>r H2 (k.trans k2)⟩
    | tbl ψ=>obtain⟨ps,w,r⟩:=w; exact⟨ps,by rw [upd_ne z]; exact w,fun H2 k2=>r H2 (k.trans k2)⟩
    | gen g=>exact GObj.step w k (upd_ne z)
end
abbrev Lo:=List (Option D)
def Lc (K:Fg) (H:Hp):Lo->L2.St->Prop
  | [],σ=>σ=[]
  | none::L,σ=>∃ x r,σ=x::r/\Lc K H L r
  | some d::L,σ=>∃ v r,σ=some v::r/\IsD K H d v/\Lc K H L r
section
variable {K:Fg} {H H':Hp}
theorem Lc.kp (k:Kp H H'):∀ {L:Lo} {σ:L2.St},Lc K H L σ->Lc K H' L σ
  | [],_,h=>h
  | none::L,_,h=>by
    obtain⟨x,r,e,h⟩:=h
    exact⟨x,r,e,Lc.kp k h⟩
  | some d::L,_,h=>by
    obtain⟨v,r,e,h1,h⟩:=h
    exact⟨v,r,e,h1.kp k,Lc.kp k h⟩
theorem Lc.get:∀ {L:Lo} {σ:L2.St} {i:Nat} {d:D},Lc K H L σ->L[i]?=some (some d)->∃ v,σ[i]?=some (some v)/\IsD K H d v
  | [],_,_,_,_,e=>by simp at e
  | none::L,_,0,_,_,e=>by simp at e
  | some c::L,_,0,d,h,e=>by
    obtain⟨v,r,rfl,h1,h⟩:=h
    simp at e
    subst e
    exact⟨v,rfl,h1⟩
  | none::L,_,i+1,d,h,e=>by
    obtain⟨x,r,rfl,h⟩:=h
    obtain⟨u,q1,q2⟩:=Lc.get (i:=i) (d:=d) h (by simpa using e)
    exact⟨u,by simpa using q1,q2⟩
  | some c::L,_,i+1,d,h,e=>by
    obtain⟨v,r,rfl,_,h⟩:=h
    obtain⟨u,q1,q2⟩:=Lc.get (i:=i) (d:=d) h (by simpa using e)
    exact⟨u,by simpa using q1,q2⟩
theorem Lc.set {d:D} {v:V} (hd:IsD K H d v):∀ {L:Lo} {σ:L2.St} (i:Nat),Lc K H L σ->Lc K H (L.set i (some d)) (σ.set i (some v))
  | [],_,_,h=>by
    have e:_=[]:=h
    subst e
    exact rfl
  | none::L,_,0,h=>by
    obtain⟨x,r,rfl,h⟩:=h
    exact⟨v,r,rfl,hd,h⟩
  | some c::L,_,0,h=>by
    obtain⟨x,r,rfl,_,h⟩:=h
    exact⟨v,r,rfl,hd,h⟩
  | none::L,_,i+1,h=>by
    obtain⟨x,r,rfl,h⟩:=h
    exact⟨x,r.set i (some v),rfl,Lc.set hd i h⟩
  | some c::L,_,i+1,h=>by
    obtain⟨x,r,rfl,h1,h⟩:=h
    exact⟨x,r.set i (some v),rfl,h1,Lc.set hd i h⟩
theorem Lc.none:∀ (n:Nat),Lc K H (List.replicate n .none) (List.replicate n .none)
  | 0=>rfl
  | n+1=>⟨_,_,rfl,Lc.none n⟩
theorem Lc.start:∀ {ds:List D} {vs:List V} (n:Nat),IsDs K H ds vs->Lc K H (ds.map some++List.replicate n .none) (vs.map some++List.replicate n .none)
  | [],_,n,h=>by rw [isNil.mp h]; exact Lc.none n
  | d::ds,_,n,h=>by
    obtain⟨v,r,rfl,h1,h2⟩:=isCons.mp h
    exact⟨v,_,rfl,h1,Lc.start n h2⟩
end
abbrev DK:=D->DH->Prop
abbrev DE:=Lo->DH->DK->Prop
abbrev DT:=Lo->DH->(Bool->DH->Prop)->Prop
abbrev DA:=Lo->DH->(List D->DH->Prop)->Prop
structure DEnds where
  nx:Lo->DH->Prop
  rt:DK
  bk:Lo->DH->Prop:=fun _ _=>False
  ct:Lo->DH->Prop:=fun _ _=>False
abbrev DS:=DEnds->Lo->DH->Prop
def up (K:Fg) (g:DE):TE:=fun σ H Q=>∃ L S k,Lc K H L σ/\Hs K H S/\g L S k/\∀ d S' v H',k d S'->Kp H H'->Hs K H' S'->IsD K H' d v->Q v H'
def upT (K:Fg) (g:DT):TT:=fun σ H Q=>∃ L S k,Lc K H L σ/\Hs K H S/\g L S k/\∀ b S' H',k b S'->Kp H H'->Hs K H' S'->Q b H'
def upA (K:Fg) (g:DA):TA:=fun σ H Q=>∃ L S k,Lc K H L σ/\Hs K H S/\g L S k/\∀ ds S' vs H',k ds S'->Kp H H'->Hs K H' S'->IsDs K H' ds vs->Q vs H'
structure Rch (K:Fg) (H:Hp) (M:DEnds) (N:Ends):Prop where
  nx:∀ L S σ H',M.nx L S->Kp H H'->Lc K H' L σ->Hs K H' S->N.nx σ H'
  rt:∀ d S v H',M.rt d S->Kp H H'->Hs K H' S->IsD K H' d v->N.rt v H'
  bk:∀ L S σ H',M.bk L S->Kp H H'->Lc K H' L σ->Hs K H' S->N.bk σ H'
  ct:∀ L S σ H',M.ct L S->Kp H H'->Lc K H' L σ->Hs K H' S->N.ct σ H'
theorem Rch.kp {K:Fg} {H H1:Hp} {M:DEnds} {N:Ends} (r:Rch K H M N) (k:Kp H H1):Rch K H1 M N:=
  ⟨fun L S σ H' h k'=>r.nx L S σ H' h (k.trans k'),fun d S v H' h k'=>r.rt d S v H' h (k.trans k'),fun L S σ H' h k'=>r.bk L S σ H' h (k.trans k'),fun L S σ H' h k'=>r.ct L S σ H' h (k.trans k')⟩
def upS (K:Fg) (g:DS):TS:=fun N σ H=>∃ L S M,Lc K H L σ/\Hs K H S/\g M L S/\Rch K H M N
theorem PE.imp {X:Cx} {e:Expr} {t t':TE} (h:PE X e t) (i:∀ σ H Q,t' σ H Q->t σ H Q):PE X e t':=fun pins s σ H Q I q=>h pins s σ H Q I (i σ H Q q)
theorem PT.imp {X:Cx} {e:Expr} {t t':TT} (h:PT X e t) (i:∀ σ H Q,t' σ H Q->t σ H Q):PT X e t':=fun pins s σ H Q I q=>h pins s σ H Q I (i σ H Q q)
theorem PW.imp {X:Cx} {e:Expr} {t t':TT} (h:PW X e t) (i:∀ σ H Q,t' σ H Q->t σ H Q):PW X e t':=fun w pins s σ H Q I q=>h w pins s σ H Q I (i σ H Q q)
theorem PA.imp {X:Cx} {e:List Expr} {t t':TA} (h:PA X e t) (i:∀ σ H Q,t' σ H Q->t σ H Q):PA X e t':=fun pos pins s σ H Q I q=>h pos pins s σ H Q I (i σ H Q q)
theorem PS.imp {X:Cx} {e:Stmt} {t t':TS} (h:PS X e t) (i:∀ N σ H,t' N σ H->t N σ H):PS X e t':=fun pins s σ H Q I q=>h pins s σ H Q I (i Q σ H q)
theorem PSs.imp {X:Cx} {e:List Stmt} {t t':TS} (h:PSs X e t) (i:∀ N σ H,t' N σ H->t N σ H):PSs X e t':=fun pins s σ H Q I q=>h pins s σ H Q I (i Q σ H q)
theorem up.go {K:Fg} {g:DE} {σ:L2.St} {H:Hp} {Q:VK} {L:Lo} {S:DH} {k:DK} (hL:Lc K H L σ) (hS:Hs K H S) (h:g L S k)
    (n:∀ d S' v H',k d S'->Kp H H'->Lc K H' L σ->Hs K H' S'->IsD K H' d v->Q v H'):up K g σ H Q:=
  ⟨L,S,k,hL,hS,h,fun d S' v H' a b c e=>n d S' v H' a b (hL.kp b) c e⟩
theorem upT.go {K:Fg} {g:DT} {σ:L2.St} {H:Hp} {Q:Bool->Hp->Prop} {L:Lo} {S:DH} {k:Bool->DH->Prop} (hL:Lc K H L σ) (hS:Hs K H S) (h:g L S k)
    (n:∀ b S' H',k b S'->Kp H H'->Lc K H' L σ->Hs K H' S'->Q b H'):upT K g σ H Q:=
  ⟨L,S,k,hL,hS,h,fun b S' H' a c e=>n b S' H' a c (hL.kp c) e⟩
theorem upA.go {K:Fg} {g:DA} {σ:L2.St} {H:Hp} {Q:List V->Hp->Prop} {L:Lo} {S:DH} {k:List D->DH->Prop} (hL:Lc K H L σ) (hS:Hs K H S) (h:g L S k)
    (n:∀ ds S' vs H',k ds S'->Kp H H'->Lc K H' L σ->Hs K H' S'->IsDs K H' ds vs->Q vs H'):upA K g σ H Q:=
  ⟨L,S,k,hL,hS,h,fun d S' v H' a b c e=>n d S' v H' a b (hL.kp b) c e⟩
section
variable {X:Cx} {a b c:Expr} {ga gb gc:DE} {pos:Pos}
def dVar (i:Nat):DE:=fun L S k=>match L[i]? with
  | some (some d)=>k d S
  | _=>False
def dC (d:D):DE:=fun _ S k=>k d S
theorem d_var (i:Nat) {x:Str} (hN:X.N[i]?=some x:=by rfl) (hv:Vis X.env.scope x:=by first | exact Or.inl rfl | exact Or.inr (Or.inl rfl) | exact Or.inr (Or.inr rfl)) (hd:(x == ("__debug__":Str))=false:=by decide)
    (hcd:(x == ("__classdict__":Str))=false:=by decide):PE X (.Name x pos) (up X.K (dVar i)):=
  PE.imp (pe_var hN hv hd hcd) fun σ H Q ⟨L,S,k,hL,hS,h,n⟩=>by
    unfold dVar at h
    split at h
    · rename_i d e
      obtain⟨v,e1,e2⟩:=hL.get e
      exact⟨v,e1,n d S v H h (Kp.refl H) hS e2⟩
    · exact h.elim
theorem d_c {e:Expr} {d:D} {v:V} (h:PE X e (tC v)) (hd:∀ H,IsD X.K H d v):PE X e (up X.K (dC d)):=
  PE.imp h fun σ H Q ⟨L,S,k,hL,hS,h,n⟩=>n d S v H h (Kp.refl H) hS (hd H)
theorem d_int {i j pos}:PE X (.Constant (.int i) j pos) (up X.K (dC (.int i))):=d_c pe_int fun _=>isInt.mpr rfl
theorem d_bl {i j pos}:PE X (.Constant (.bool i) j pos) (up X.K (dC (.bl i))):=d_c pe_bl fun _=>isBl.mpr rfl
theorem d_non {j pos}:PE X (.Constant .none j pos) (up X.K (dC .non)):=d_c pe_non fun _=>isNon.mpr rfl
theorem d_str {i j pos}:PE X (.Constant (.str i) j pos) (up X.K (dC (.str i))):=d_c pe_str fun _=>isStr.mpr rfl
theorem d_ty {x:Str} {n:Ty} (hg:Gl X x) (hm:X.mg x=none) (hv:bootBuiltins x=some (.type n.name)) (hn:x≠"__name__":=by decide) (hd:(x == ("__debug__":Str))=false:=by decide):PE X (.Name x pos) (up X.K (dC (.ty n))):=
  d_c (pe_bltn (v:=.ty n.name) hg hm hv rfl hn hd) fun _=>isTy.mpr rfl
def starB:Expr->Bool
  | .Starred _ _=>true
  | _=>false
theorem star_cons {a:Expr} {es:List Expr} {env:Env} (h:starB a=false):starEach (a::es) env=(false,eval a env)::starEach es env:=by
  cases a <;> first | rfl | cases h
theorem star_any {pos:Pos} {env:Env}:∀ {es:List Expr},(es.all fun e=>!starB e)=true->(backTo pos (starEach es env)).any (·.1)=false
  | [],_=>rfl
  | e::es,h=>by
    rw [List.all_cons,Bool.and_eq_true] at h
    rw [star_cons (by simpa using h.1)]
    exact star_any h.2
def dNil:DA:=fun _ S k=>k [] S
def dCons (g:DE) (t:DA):DA:=fun L S k=>g L S fun d S1=>t L S1 fun ds S2=>k (d::ds) S2
theorem da_nil:PA X [] (upA X.K dNil):=PA.imp pa_nil fun σ H Q ⟨L,S,k,hL,hS,h,n⟩=>n [] S [] H h (Kp.refl H) hS IsDs.nil
theorem da_cons {es:List Expr} {t:DA} (ha:PE X a (up X.K ga)) (hr:PA X es (upA X.K t)) (hs:starEach (a::es) X.env=(false,eval a X.env)::starEach es X.env:=by exact star_cons rfl):PA X (a::es) (upA X.K (dCons ga t)):=
  PA.imp (pa_cons ha hr hs) fun σ H Q ⟨L,S,k,hL,hS,h,n⟩=>up.go hL hS h fun d S1 v H1 h1 k1 hL1 hS1 i1=>upA.go hL1 hS1 h1 fun ds S2 vs H2 h2 k2 hL2 hS2 i2=>
    n (d::ds) S2 (v::vs) H2 h2 (k1.trans k2) hS2 (IsDs.cons (i1.kp k2) i2)
def dTup (t:DA):DE:=fun L S k=>t L S fun ds S1=>ds.length<=sizeLine/\k (.tup ds) S1
def dLst (t:DA):DE:=fun L S k=>t L S fun ds S1=>ds.length<=sizeLine/\∀ p,S1 p=none->k (.ref p) (put S1 p (.lst ds))
theorem d_tup {es:List Expr} {x1} {t:DA} (h:PA X es (upA X.K t)):PE X (.Tuple es x1 pos) (up X.K (dTup t)):=
  PE.imp (pe_tup h) fun σ H Q ⟨L,S,k,hL,hS,h,n⟩=>upA.go hL hS h fun ds S1 vs H1 h1 k1 hL1 hS1 i1=>by
    refine⟨by rw [<- i1.length]; exact h1.1,fun p hp=>?_⟩
    have k2:Kp H1 (upd H1 p (.tup vs)):=Kp.new hp
    exact n (.tup ds) S1 _ _ h1.2 (k1.trans k2) (hS1.new hp) (isTup.mpr ⟨p,vs,rfl,SqT.of upd_same,i1.kp k2⟩)
theorem d_lst {es:List Expr} {t:DA} (h:PA X es (upA X.K t)):PE X (.List es pos) (up X.K (dLst t)):=
  PE.imp (pe_lst h) fun σ H Q ⟨L,S,k,hL,hS,h,n⟩=>upA.go hL hS h fun ds S1 vs H1 h1 k1 hL1 hS1 i1=>by
    refine⟨by rw [<- i1.length]; exact h1.1,fun p hp=>?_⟩
    exact n (.ref p) _ _ _ (h1.2 p (hS1.free hp)) (k1.trans (Kp.new hp)) (hS1.newL hp i1) (isRef.mpr rfl)
abbrev D2:=D->D->DH->DK->Prop
def upR (K:Fg) (r:D2):R2:=fun x y H Q=>∃ d e S k,IsD K H d x/\IsD K H e y/\Hs K H S/\r d e S k/\∀ d' S' v H',k d' S'->Kp H H'->Hs K H' S'->IsD K H' d' v->Q v H'
def dOp (r:D2) (ga gb:DE):DE:=fun L S k=>ga L S fun x S1=>gb L S1 fun y S2=>r x y S2 k
theorem dOp_go {K:Fg} {r:D2}:∀ σ H Q,up K (dOp r ga gb) σ H Q->tOp (upR K r) (up K ga) (up K gb) σ H Q:=fun σ H Q ⟨L,S,k,hL,hS,h,n⟩=>
  up.go hL hS h fun d S1 v H1 h1 k1 hL1 hS1 i1=>up.go hL1 hS1 h1 fun e S2 u H2 h2 k2 hL2 hS2 i2=>
    ⟨d,e,S2,k,i1.kp k2,i2,hS2,h2,fun d' S' v H' q k3 z1 z2=>n d' S' v H' q (k1.trans (k2.trans k3)) z1 z2⟩
theorem d_op {op:Operator} {r:D2} (ho:OpR X (binaryOp op) (upR X.K r)) (ha:PE X a (up X.K ga)) (hb:PE X b (up X.K gb)):PE X (.BinOp a op b pos) (up X.K (dOp r ga gb)):=PE.imp (pe_op ho ha hb) dOp_go
theorem d_cmp {op:CmpOp} {r:D2} (ho:OpR X (compareOp op) (upR X.K r)) (ha:PE X a (up X.K ga)) (hb:PE X b (up X.K gb)) (hm:behindInMarks op b=false):PE X (.Compare a [op] [b] pos) (up X.K (dOp r ga gb)):=PE.imp (pe_cmpR ho ha hb hm) dOp_go
theorem d_ix {r:D2} (hr:IxR X (upR X.K r)) (ha:PE X a (up X.K ga)) (hb:PE X b (up X.K gb)) (hs:PlainIx b):PE X (.Subscript a b pos) (up X.K (dOp r ga gb)):=PE.imp (pe_ix hr ha hb hs) dOp_go
abbrev D1:=D->DH->DK->Prop
def upU (K:Fg) (r:D1):V->Hp->VK->Prop:=fun x H Q=>∃ d S k,IsD K H d x/\Hs K H S/\r d S k/\∀ d' S' v H',k d' S'->Kp H H'->Hs K H' S'->IsD K H' d' v->Q v H'
def dUn (r:D1) (ga:DE):DE:=fun L S k=>ga L S fun x S1=>r x S1 k
theorem d_un {op:UnaryOp} {r:D1} (ho:UnR X (unaryOp op) (upU X.K r)) (ha:PE X a (up X.K ga)):PE X (.UnaryOp op a pos) (up X.K (dUn r ga)):=
  PE.imp (pe_un ho ha) fun σ H Q ⟨L,S,k,hL,hS,h,n⟩=>up.go hL hS h fun d S1 v H1 h1 k1 hL1 hS1 i1=>⟨d,S1,k,i1,hS1,h1,fun d' S' v H' q k3 z1 z2=>n d' S' v H' q (k1.trans k3) z1 z2⟩
def dTest (g:DE):DT:=fun L S k=>g L S fun d S1=>match d with
  | .bl c=>k c S1
  | _=>False
theorem dTest_go {K:Fg} {g:DE}:∀ σ H Q,upT K (dTest g) σ H Q->tTest (up K g) σ H Q:=fun σ H Q ⟨L,S,k,hL,hS,h,n⟩=>
  up.go hL hS h fun d S1 v H1 h1 k1 hL1 hS1 i1=>by
    cases d with
    | bl c=>
      have e:=isBl.mp i1
      subst e
      exact⟨c,rfl,n c S1 H1 h1 k1 hS1⟩
    | _=>exact(show False from h1).elim
theorem dt_cmp {op:CmpOp} {r:D2} (ho:OpR X (compareOp op) (upR X.K r)) (ha:PE X a (up X.K ga)) (hb:PE X b (up X.K gb)) (hm:behindInMarks op b=false):PT X (.Compare a [op] [b] pos) (upT X.K (dTest (dOp r ga gb))):=
  PT.imp (PT.imp (pt_cmpR ho ha hb hm) fun σ H Q h=>dOp_go σ H _ h) dTest_go
theorem dt_val {e:Expr} {g:DE} (h:PE X e (up X.K g)) (he:∀ whole,isTrue e X.env whole=(do let v <- whole; standAt e.pos; holding [v] (truthy v)):=by intro _; rfl):PT X e (upT X.K (dTest g)):=
  PT.imp (pt_val h he) dTest_go
variable {tA tB':DT} {rest:List Expr}
def dOrT (t u:DT):DT:=fun L S k=>t L S fun c S1=>if c=true then k true S1 else u L S1 k
def dNotT (t:DT):DT:=fun L S k=>t L S fun c S1=>k (!c) S1
theorem dw_or1 (ha:PT X a (upT X.K tA)):PW X (.BoolOp .Or [a] pos) (upT X.K tA):=pw_or1 ha
theorem dw_or (ha:PT X a (upT X.K tA)) (hb:PW X (.BoolOp .Or (b::rest) pos) (upT X.K tB')):PW X (.BoolOp .Or (a::b::rest) pos) (upT X.K (dOrT tA tB')):=
  PW.imp (pw_or ha hb) fun σ H Q ⟨L,S,k,hL,hS,h,n⟩=>upT.go hL hS h fun c S1 H1 h1 k1 hL1 hS1=>by
    cases c with
    | true=>
      rw [if_pos rfl] at h1 ⊢
      exact n true S1 H1 h1 k1 hS1
    | false=>
      rw [if_neg Bool.false_ne_true] at h1 ⊢
      exact upT.go hL1 hS1 h1 fun c2 S2 H2 h2 k2 _ hS2=>n c2 S2 H2 h2 (k1.trans k2) hS2
theorem dt_not (ha:PT X a (upT X.K tA)):PT X (.UnaryOp .Not a pos) (upT X.K (dNotT tA)):=
  PT.imp (pt_not ha) fun σ H Q ⟨L,S,k,hL,hS,h,n⟩=>upT.go hL hS h fun c S1 H1 h1 k1 hL1 hS1=>n _ S1 H1 h1 k1 hS1
def dAndV (ga gb:DE):DE:=fun L S k=>ga L S fun x S1=>match x with
  | .bl c=>if c=true then gb L S1 k else k (.bl false) S1
  | _=>False
def dNotV (ga:DE):DE:=fun L S k=>ga L S fun x S1=>match x with
  | .bl c=>k (.bl (!c)) S1
  | _=>False
theorem d_one {op} (h:PE X a (up X.K ga)):PE X (.BoolOp op [a] pos) (up X.K ga):=pe_one h
theorem d_and (ha:PE X a (up X.K ga)) (hb:PE X (.BoolOp .And (b::rest) pos) (up X.K gb)):PE X (.BoolOp .And (a::b::rest) pos) (up X.K (dAndV ga gb)):=
  PE.imp (pe_and ha hb) fun σ H Q ⟨L,S,k,hL,hS,h,n⟩=>up.go hL hS h fun d S1 v H1 h1 k1 hL1 hS1 i1=>by
    cases d with
    | bl c=>
      have e:=isBl.mp i1
      subst e
      refine⟨c,rfl,?_⟩
      have h1:if c=true then _ else _:=h1
      cases c with
      | true=>
        rw [if_pos rfl] at h1 ⊢
        exact up.go hL1 hS1 h1 fun d2 S2 v2 H2 h2 k2 _ hS2 i2=>n d2 S2 v2 H2 h2 (k1.trans k2) hS2 i2
      | false=>
        rw [if_neg Bool.false_ne_true] at h1 ⊢
        exact n _ S1 _ H1 h1 k1 hS1 (isBl.mpr rfl)
    | _=>exact(show False from h1).elim
theorem d_not (ha:PE X a (up X.K ga)):PE X (.UnaryOp .Not a pos) (up X.K (dNotV ga)):=
  PE.imp (pe_not ha) fun σ H Q ⟨L,S,k,hL,hS,h,n⟩=>up.go hL hS h fun d S1 v H1 h1 k1 hL1 hS1 i1=>by
    cases d with
    | bl c=>
      have e:=isBl.mp i1
      subst e
      exact⟨c,rfl,n _ S1 _ H1 h1 k1 hS1 (isBl.mpr rfl)⟩
    | _=>exact(show False from h1).elim
def dIf (t:DT) (ga gb:DE):DE:=fun L S k=>t L S fun c S1=>if c=true then ga L S1 k else gb L S1 k
theorem d_if {c:Expr} (hc:PT X c (upT X.K tA)) (ha:PE X a (up X.K ga)) (hb:PE X b (up X.K gb)):PE X (.IfExp c a b pos) (up X.K (dIf tA ga gb)):=
  PE.imp (pe_ifExp hc ha hb) fun σ H Q ⟨L,S,k,hL,hS,h,n⟩=>upT.go hL hS h fun d S1 H1 h1 k1 hL1 hS1=>by
    cases d with
    | true=>
      rw [if_pos rfl] at h1 ⊢
      exact up.go hL1 hS1 h1 fun d2 S2 v2 H2 h2 k2 _ hS2 i2=>n d2 S2 v2 H2 h2 (k1.trans k2) hS2 i2
    | false=>
      rw [if_neg Bool.false_ne_true] at h1 ⊢
      exact up.go hL1 hS1 h1 fun d2 S2 v2 H2 h2 k2 _ hS2 i2=>n d2 S2 v2 H2 h2 (k1.trans k2) hS2 i2
end
section
variable {X:Cx}
theorem up1 {K:Fg} {H:Hp} {S:DH} {k:DK} {Q:VK} {d:D} {v:V} (n:∀ d' S' v H',k d' S'->Kp H H'->Hs K H' S'->IsD K H' d' v->Q v H') (hS:Hs K H S) (h:k d S) (i:IsD K H d v):Q v H:=n d S v H h (Kp.refl H) hS i
def d2I (C:Int->Int->Prop) (g:Int->Int->D):D2:=fun d e S k=>match d,e with
  | .int i,.int j=>C i j/\k (g i j) S
  | _,_=>False
theorem op2I {f:Value->Value->Sem Value} {C:Int->Int->Prop} {g:Int->Int->D} {gV:Int->Int->V} (ho:OpR X f (rI C gV)) (hg:∀ i j H,IsD X.K H (g i j) (gV i j)):OpR X f (upR X.K (d2I C g)):=by
  intro pins s σ H x y v u Q I rx ry h
  obtain⟨d,e,S,k,i1,i2,hS,r,n⟩:=h
  cases d with
  | int i=>
    cases e with
    | int j=>
      have e1:=isInt.mp i1
      have e2:=isInt.mp i2
      subst e1
      subst e2
      exact ho pins s σ H _ _ v u Q I rx ry ⟨i,j,rfl,rfl,r.1,up1 n hS r.2 (hg i j H)⟩
    | _=>exact(show False from r).elim
  | _=>exact(show False from r).elim
def d2I0 (g:Int->Int->D):D2:=fun d e S k=>match d,e with
  | .int i,.int j=>k (g i j) S
  | _,_=>False
theorem op2I0 {f:Value->Value->Sem Value} {g:Int->Int->D} {gV:Int->Int->V} (ho:OpR X f (rI0 gV)) (hg:∀ i j H,IsD X.K H (g i j) (gV i j)):OpR X f (upR X.K (d2I0 g)):=by
  intro pins s σ H x y v u Q I rx ry h
  obtain⟨d,e,S,k,i1,i2,hS,r,n⟩:=h
  cases d with
  | int i=>
    cases e with
    | int j=>
      have e1:=isInt.mp i1
      have e2:=isInt.mp i2
      subst e1
      subst e2
      exact ho pins s σ H _ _ v u Q I rx ry ⟨i,j,rfl,rfl,up1 n hS r (hg i j H)⟩
    | _=>exact(show False from r).elim
  | _=>exact(show False from r).elim
def CDivB (i j:Int):Prop:=j≠0/\j.natAbs.log2 < 9000
abbrev dSub:D2:=d2I0 fun i j=>.int (i - j)
abbrev dMul:D2:=d2I IntMulOk fun i j=>.int (i*j)
abbrev dDiv:D2:=d2I CDivB fun i j=>.int (i.fdiv j)
abbrev dMod:D2:=d2I (fun _ j=>j≠0) fun i j=>.int (i.fmod j)
abbrev dPow:D2:=d2I CPow fun i j=>.int (i ^ j.toNat)
abbrev dShl:D2:=d2I CPow fun i j=>.int (i*2 ^ j.toNat)
abbrev dLt:D2:=d2I0 fun i j=>.bl (decide (i < j))
abbrev dLe:D2:=d2I0 fun i j=>.bl (decide (i<=j))
abbrev dGt:D2:=d2I0 fun i j=>.bl (decide (j < i))
abbrev dGe:D2:=d2I0 fun i j=>.bl (decide (j<=i))
theorem o_sub:OpR X (binaryOp .Sub) (upR X.K dSub):=op2I0 op_sub fun _ _ _=>isInt.mpr rfl
theorem o_mul:OpR X (binaryOp .Mult) (upR X.K dMul):=op2I (C:=IntMulOk) (gV:=fun i j=>.int (i*j)) (opI fun _ _ _ _ _ _ _ hc q=>mul_int q hc) fun _ _ _=>isInt.mpr rfl
theorem o_div:OpR X (binaryOp .FloorDiv) (upR X.K dDiv):=op2I (C:=CDivB) (gV:=fun i j=>.int (i.fdiv j)) (opI fun _ _ _ _ _ _ _ hc q=>floordiv_int hc.1 q (.inl (PyProof.noPylong_of_log2 hc.2))) fun _ _ _=>isInt.mpr rfl
theorem o_mod:OpR X (binaryOp .Mod) (upR X.K dMod):=op2I op_modN fun _ _ _=>isInt.mpr rfl
theorem o_pow:OpR X (binaryOp .Pow) (upR X.K dPow):=op2I op_pow fun _ _ _=>isInt.mpr rfl
theorem o_shl:OpR X (binaryOp .LShift) (upR X.K dShl):=op2I op_shl fun _ _ _=>isInt.mpr rfl
theorem o_lt:OpR X (compareOp .Lt) (upR X.K dLt):=op2I0 op_lt fun _ _ _=>isBl.mpr rfl
theorem o_le:OpR X (compareOp .LtE) (upR X.K dLe):=op2I0 op_le fun _ _ _=>isBl.mpr rfl
theorem o_gt:OpR X (compareOp .Gt) (upR X.K dGt):=op2I0 op_gt fun _ _ _=>isBl.mpr rfl
theorem o_ge:OpR X (compareOp .GtE) (upR X.K dGe):=op2I0 op_ge fun _ _ _=>isBl.mpr rfl
def dAdd:D2:=fun d e S k=>match d,e with
  | .int i,.int j=>k (.int (i+j)) S
  | .str x,.str y=>x.length+y.length<=sizeLine/\k (.str (x++y)) S
  | .tup xs,.tup ys=>xs≠[]/\ys≠[]/\xs.length+ys.length<=sizeLine/\k (.tup (xs++ys)) S
  | .ref a,.ref b=>∃ xs ys,S a=some (.lst xs)/\S b=some (.lst ys)/\xs.length+ys.length<=sizeLine/\∀ p,S p=none->k (.ref p) (put S p (.lst (xs++ys)))
  | _,_=>False
theorem ne_nil_of {K:Fg} {H:Hp} {ds:List D} {vs:List V} (i:IsDs K H ds vs) (h:ds≠[]):vs≠[]:=by
  intro e
  subst e
  have:=i.length
  exact h (List.length_eq_zero_iff.mp this)
theorem o_add:OpR X (binaryOp .Add) (upR X.K dAdd):=by
  intro pins s σ H x y v u Q I rx ry h
  obtain⟨d,e,S,k,i1,i2,hS,r,n⟩:=h
  cases d with
  | int i=>
    cases e with
    | int j=>
      have e1:=isInt.mp i1
      have e2:=isInt.mp i2
      subst e1
      subst e2
      exact op_add pins s σ H _ _ v u Q I rx ry ⟨i,j,rfl,rfl,up1 n hS r (isInt.mpr rfl)⟩
    | _=>exact(show False from r).elim
  | str i=>
    cases e with
    | str j=>
      have e1:=isStr.mp i1
      have e2:=isStr.mp i2
      subst e1
      subst e2
      exact op_add_str pins s σ H _ _ v u Q I rx ry ⟨i,j,rfl,rfl,r.1,up1 n hS r.2 (isStr.mpr rfl)⟩
    | _=>exact(show False from r).elim
  | tup xs=>
    cases e with
    | tup ys=>
      obtain⟨a,vs,rfl,t1,j1⟩:=isTup.mp i1
      obtain⟨b,us,rfl,t2,j2⟩:=isTup.mp i2
      obtain⟨h1,h2,h3,r⟩:=r
      refine op_catT pins s σ H _ _ v u Q I rx ry ⟨a,b,vs,us,rfl,rfl,t1,t2,ne_nil_of j1 h1,by rw [<- j1.length,<- j2.length]; exact h3,fun z=>absurd z (ne_nil_of j2 h2),fun _ p hp=>?_⟩
      have kp:Kp H (upd H p (.tup (vs++us))):=Kp.new hp
      exact n _ S _ _ r kp (hS.new hp) (isTup.mpr ⟨p,_,rfl,SqT.of upd_same,(j1.append j2).kp kp⟩)
    | _=>exact(show False from r).elim
  | ref a=>
    cases e with
    | ref b=>
      have e1:=isRef.mp i1
      have e2:=isRef.mp i2
      subst e1
      subst e2
      obtain⟨xs,ys,h1,h2,h3,r⟩:=r
      obtain⟨vs,q1,j1⟩:=hS.lst h1
      obtain⟨us,q2,j2⟩:=hS.lst h2
      refine op_cat pins s σ H _ _ v u Q I rx ry ⟨a,b,vs,us,rfl,rfl,q1,q2,by rw [<- j1.length,<- j2.length]; exact h3,fun p hp=>?_⟩
      exact n _ _ _ _ (r p (hS.free hp)) (Kp.new hp) (hS.newL hp (j1.append j2)) (isRef.mpr rfl)
    | _=>exact(show False from r).elim
  | _=>exact(show False from r).elim
def eqF:D->D->Option Bool
  | .int i,.int j=>some (decide (i=j))
  | .bl i,.bl j=>some (decide (i=j))
  | .str i,.str j=>some (decide (i=j))
  | _,_=>none
def dEq:D2:=fun d e S k=>match eqF d e with
  | some b=>k (.bl b) S
  | none=>False
def dNe:D2:=fun d e S k=>match eqF d e with
  | some b=>k (.bl (!b)) S
  | none=>False
theorem eqF_V {K:Fg} {H:Hp} {d e:D} {x y:V} {b:Bool} (h:eqF d e=some b) (i1:IsD K H d x) (i2:IsD K H e y):scal x y=true/\decide (x=y)=b:=by
  unfold eqF at h
  split at h
  · have e1:=isInt.mp i1
    have e2:=isInt.mp i2
    subst e1; subst e2
    cases h
    exact⟨rfl,by simp⟩
  · have e1:=isBl.mp i1
    have e2:=isBl.mp i2
    subst e1; subst e2
    cases h
    exact⟨rfl,by simp⟩
  · have e1:=isStr.mp i1
    have e2:=isStr.mp i2
    subst e1; subst e2
    cases h
    exact⟨rfl,by simp⟩
  · cases h
theorem o_eq:OpR X (compareOp .Eq) (upR X.K dEq):=by
  intro pins s σ H x y v u Q I rx ry h
  obtain⟨d,e,S,k,i1,i2,hS,r,n⟩:=h
  unfold dEq at r
  cases q:eqF d e with
  | none=>rw [q] at r; exact r.elim
  | some b=>
    rw [q] at r
    obtain⟨h1,h2⟩:=eqF_V q i1 i2
    exact op_eq pins s σ H _ _ v u Q I rx ry ⟨h1,by rw [h2]; exact up1 n hS r (isBl.mpr rfl)⟩
theorem o_ne:OpR X (compareOp .NotEq) (upR X.K dNe):=by
  intro pins s σ H x y v u Q I rx ry h
  obtain⟨d,e,S,k,i1,i2,hS,r,n⟩:=h
  unfold dNe at r
  cases q:eqF d e with
  | none=>rw [q] at r; exact r.elim
  | some b=>
    rw [q] at r
    obtain⟨h1,h2⟩:=eqF_V q i1 i2
    exact op_ne pins s σ H _ _ v u Q I rx ry ⟨h1,by rw [h2]; exact up1 n hS r (isBl.mpr rfl)⟩
def isNonD:D->Bool
  | .non=>true
  | _=>false
def dIs:D2:=fun d e S k=>match d,e with
  | .bl c,.bl b=>k (.bl (c == b)) S
  | d,.non=>k (.bl (isNonD d)) S
  | _,_=>False
def dIsNot:D2:=fun d e S k=>match d,e with
  | .bl c,.bl b=>k (.bl (!(c == b))) S
  | d,.non=>k (.bl (!isNonD d)) S
  | _,_=>False
theorem isNonD_V {K:Fg} {H:Hp} {d:D} {x:V} (i:IsD K H d x):decide (x=.non)=isNonD d:=by
  cases d with
  | non=>rw [isNon.mp i]; rfl
  | bl b=>rw [isBl.mp i]; rfl
  | int b=>rw [isInt.mp i]; rfl
  | str b=>rw [isStr.mp i]; rfl
  | ref b=>rw [isRef.mp i]; rfl
  | ty b=>rw [isTy.mp i]; rfl
  | tup b=>obtain⟨a,xs,rfl,_⟩:=isTup.mp i; rfl
  | rl b=>obtain⟨a,xs,rfl,_⟩:=isRl.mp i; rfl
theorem o_is:OpR X (compareOp .Is) (upR X.K dIs):=by
  intro pins s σ H x y v u Q I rx ry h
  obtain⟨d,e,S,k,i1,i2,hS,r,n⟩:=h
  unfold dIs at r
  split at r
  · rename_i c b
    have e1:=isBl.mp i1
    have e2:=isBl.mp i2
    subst e1; subst e2
    cases rx; cases ry
    exact is_bool ⟨.bl _,H,I,rfl,up1 n hS r (isBl.mpr rfl)⟩
  · have e2:=isNon.mp i2
    exact op_isN pins s σ H _ _ v u Q I rx ry ⟨e2,by rw [isNonD_V i1]; exact up1 n hS r (isBl.mpr rfl)⟩
  · exact r.elim
theorem o_isNot:OpR X (compareOp .IsNot) (upR X.K dIsNot):=by
  intro pins s σ H x y v u Q I rx ry h
  obtain⟨d,e,S,k,i1,i2,hS,r,n⟩:=h
  unfold dIsNot at r
  split at r
  · rename_i c b
    have e1:=isBl.mp i1
    have e2:=isBl.mp i2
    subst e1; subst e2
    cases rx; cases ry
    exact isnot_bool ⟨.bl _,H,I,rfl,up1 n hS r (isBl.mpr rfl)⟩
  · have e2:=isNon.mp i2
    exact op_notN pins s σ H _ _ v u Q I rx ry ⟨e2,by rw [isNonD_V i1]; exact up1 n hS r (isBl.mpr rfl)⟩
  · exact r.elim
def dNeg:D1:=fun d S k=>match d with
  | .int i=>k (.int (-i)) S
  | _=>False
theorem o_neg:UnR X (unaryOp .USub) (upU X.K dNeg):=by
  intro pins s σ H x v Q I rx h
  obtain⟨d,S,k,i1,hS,r,n⟩:=h
  cases d with
  | int i=>
    have e1:=isInt.mp i1
    subst e1
    exact un_neg pins s σ H _ v Q I rx ⟨i,rfl,up1 n hS r (isInt.mpr rfl)⟩
  | _=>exact(show False from r).elim
def dIx:D2:=fun d e S k=>match d,e with
  | .tup ds,.int i=>(match atI ds i with
    | some c=>k c S
    | none=>False)
  | .rl ds,.int i=>(match atI ds i with
    | some c=>k c S
    | none=>False)
  | .ref a,.int i=>(match S a with
    | some (.lst ds)=>(match atI ds i with
      | some c=>k c S
      | none=>False)
    | _=>False)
  | _,_=>False
theorem IsDs.atI {K:Fg} {H:Hp} {ds:List D} {vs:List V} {i:Int} {d:D} (r:IsDs K H ds vs) (h:atI ds i=some d):∃ v,L2.atI vs i=some v/\IsD K H d v:=by
  unfold L2.atI at h ⊢
  rw [<- r.length]
  cases q:ixN ds.length i with
  | none=>rw [q] at h; cases h
  | some j=>
    rw [q] at h
    exact r.get h
theorem x_ix:IxR X (upR X.K dIx):=by
  intro value slice pins s σ H x y v u Q I rx ry h hs
  obtain⟨d,e,S,k,i1,i2,hS,r,n⟩:=h
  cases e with
  | int i=>
    have e2:=isInt.mp i2
    subst e2
    cases d with
    | tup ds=>
      obtain⟨a,vs,rfl,t,j⟩:=isTup.mp i1
      cases q:atI ds i with
      | none=>simp only [dIx,q] at r
      | some c=>
        simp only [dIx,q] at r
        obtain⟨w,e1,e2⟩:=j.atI q
        exact ix_tup value slice pins s σ H _ _ v u Q I rx ry ⟨a,vs,i,w,rfl,rfl,t,e1,up1 n hS r e2⟩ hs
    | rl ds=>
      obtain⟨a,vs,rfl,t,j⟩:=isRl.mp i1
      cases q:atI ds i with
      | none=>simp only [dIx,q] at r
      | some c=>
        simp only [dIx,q] at r
        obtain⟨w,e1,e2⟩:=j.atI q
        exact ix_list value slice pins s σ H _ _ v u Q I rx ry ⟨a,vs,i,w,rfl,rfl,t.sq,e1,up1 n hS r e2⟩ hs
    | ref a=>
      have e1:=isRef.mp i1
      subst e1
      cases z:S a with
      | none=>simp only [dIx,z] at r
      | some o=>
        cases o with
        | dic=>simp only [dIx,z] at r
        | exc _=>simp only [dIx,z] at r
        | fn _=>simp only [dIx,z] at r
        | tbl _=>simp only [dIx,z] at r
        | gen _=>simp only [dIx,z] at r
        | lst ds=>
          obtain⟨vs,hl,j⟩:=hS.lst z
          cases q:atI ds i with
          | none=>simp only [dIx,z,q] at r
          | some c=>
            simp only [dIx,z,q] at r
            obtain⟨w,e1,e2⟩:=j.atI q
            exact ix_list value slice pins s σ H _ _ v u Q I rx ry ⟨a,vs,i,w,rfl,rfl,SqL.of hl,e1,up1 n hS r e2⟩ hs
    | _=>exact(show False from r).elim
  | _=>
    cases d <;> exact(show False from r).elim
end
abbrev DSp:=List D->DH->DK->Prop
def upC (K:Fg) (r:DSp):List V->Hp->VK->Prop:=fun xs H Q=>∃ ds S k,IsDs K H ds xs/\Hs K H S/\r ds S k/\∀ d' S' v H',k d' S'->Kp H H'->Hs K H' S'->IsD K H' d' v->Q v H'
def dCall (r:DSp) (t:DA):DE:=fun L S k=>t L S fun ds S1=>r ds S1 k
section
variable {X:Cx} {x:Str} {p pos:Pos} {e:Expr} {es:List Expr} {t:DA} {id T:String} {r:DSp}
theorem dCall_go {K:Fg}:∀ σ H Q,up K (dCall r t) σ H Q->tCB (upC K r) (upA K t) σ H Q:=fun σ H Q ⟨L,S,k,hL,hS,h,n⟩=>
  upA.go hL hS h fun ds S1 vs H1 h1 k1 hL1 hS1 i1=>⟨ds,S1,k,i1,hS1,h1,fun d' S' v H' q k3 z1 z2=>n d' S' v H' q (k1.trans k3) z1 z2⟩
theorem d_callB (hc:CallR X (.builtin id) (upC X.K r)) (hg:Gl X x) (hm:X.mg x=none) (hv:bootBuiltins x=some (.builtin id)) (ha:PA X (e::es) (upA X.K t)) (hn:x≠"__name__":=by decide) (hdb:(x == ("__debug__":Str))=false:=by decide)
    (he:starEach (e::es) X.env=(false,eval e X.env)::starEach es X.env:=by exact star_cons rfl) (hpl:(backTo pos (starEach es X.env)).any (·.1)=false:=by exact star_any rfl):PE X (.Call (.Name x p) (e::es) [] pos) (up X.K (dCall r t)):=
  PE.imp (pe_callB hc hg hm hv ha hn hdb he hpl) dCall_go
theorem d_callT (hc:CallR X (.type T) (upC X.K r)) (hg:Gl X x) (hm:X.mg x=none) (hv:bootBuiltins x=some (.type T)) (ha:PA X (e::es) (upA X.K t)) (hn:x≠"__name__":=by decide) (hdb:(x == ("__debug__":Str))=false:=by decide)
    (he:starEach (e::es) X.env=(false,eval e X.env)::starEach es X.env:=by exact star_cons rfl) (hpl:(backTo pos (starEach es X.env)).any (·.1)=false:=by exact star_any rfl):PE X (.Call (.Name x p) (e::es) [] pos) (up X.K (dCall r t)):=
  PE.imp (pe_callTy hc hg hm hv ha hn hdb he hpl) dCall_go
def spU (K:Fg) (F:DSp):Sp:=fun vs H Q _=>upC K F vs H Q
structure Own (P:Program) (w:World) (K:Fg) (mg:Str->Option Value) (base:Heap) (x:Str) (n:Nat) (F:DSp):Prop where
  ex:∃ f fd ps,FnOk P w K mg base CX0 n f fd ps (spU K F)/\mg x=some (.ref f)/\PySem.W.keepIn K (.ref f)=true/\Binds K fd ps []
theorem d_call {n:Nat} {F:DSp} (c:Own X.prog X.w X.K X.mg X.base x n F) (hr:Room n X.A) (hg:Gl X x) (ha:PA X (e::es) (upA X.K t)) (hdb:(x == ("__debug__":Str))=false:=by decide)
    (he:starEach (e::es) X.env=(false,eval e X.env)::starEach es X.env:=by exact star_cons rfl) (hpl:(backTo pos (starEach es X.env)).any (·.1)=false:=by exact star_any rfl):
    PE X (.Call (.Name x p) (e::es) [] pos) (up X.K (dCall F t)):=by
  obtain⟨f,fd,ps,F1,h1,h2,h3⟩:=c.ex
  refine PE.imp (pe_call F1 hr hg h1 h2 h3 .nil pass0 ha hdb he hpl) fun σ H Q ⟨L,S,k,hL,hS,h,n⟩=>?_
  refine upA.go hL hS h fun ds S1 vs H1 h1 k1 hL1 hS1 i1=>?_
  show spU X.K F (vs++[]) H1 Q E0
  rw [List.append_nil]
  exact⟨ds,S1,k,i1,hS1,h1,fun d' S' v H' q k3 z1 z2=>n d' S' v H' q (k1.trans k3) z1 z2⟩
def bAbs:DSp:=fun ds S k=>match ds with
  | [.int i]=>k (.int (if i < 0 then -i else i)) S
  | _=>False
theorem isDs1 {K:Fg} {H:Hp} {d:D} {xs:List V} (h:IsDs K H [d] xs):∃ x,xs=[x]/\IsD K H d x:=by
  obtain⟨v,r,rfl,h1,h2⟩:=isCons.mp h
  rw [isNil.mp h2]
  exact⟨v,rfl,h1⟩
theorem isDs2 {K:Fg} {H:Hp} {d e:D} {xs:List V} (h:IsDs K H [d,e] xs):∃ x y,xs=[x,y]/\IsD K H d x/\IsD K H e y:=by
  obtain⟨v,r,rfl,h1,h2⟩:=isCons.mp h
  obtain⟨y,rfl,h3⟩:=isDs1 h2
  exact⟨v,y,rfl,h1,h3⟩
theorem b_abs:CallR X (.builtin "abs") (upC X.K bAbs):=by
  intro pins s σ H xs us Q I rs h
  obtain⟨ds,S,k,i,hS,r,n⟩:=h
  unfold bAbs at r
  split at r
  · obtain⟨x,rfl,i1⟩:=isDs1 i
    have e1:=isInt.mp i1
    subst e1
    exact call_abs pins s σ H _ us Q I rs ⟨_,rfl,up1 n hS r (isInt.mpr rfl)⟩
  · exact r.elim
def bLen:DSp:=fun ds S k=>match ds with
  | [.tup xs]=>k (.int xs.length) S
  | [.rl xs]=>k (.int xs.length) S
  | [.ref a]=>(match S a with
    | some (.lst xs)=>k (.int xs.length) S
    | _=>False)
  | _=>False
theorem b_len:CallR X (.builtin "len") (upC X.K bLen):=by
  intro pins s σ H xs us Q I rs h
  obtain⟨ds,S,k,i,hS,r,n⟩:=h
  unfold bLen at r
  split at r
  · obtain⟨x,rfl,i1⟩:=isDs1 i
    obtain⟨a,vs,rfl,t,j⟩:=isTup.mp i1
    exact call_len_seq pins s σ H _ us Q I rs ⟨a,vs,rfl,.inr t,by rw [<- j.length]; exact up1 n hS r (isInt.mpr rfl)⟩
  · obtain⟨x,rfl,i1⟩:=isDs1 i
    obtain⟨a,vs,rfl,t,j⟩:=isRl.mp i1
    exact call_len_seq pins s σ H _ us Q I rs ⟨a,vs,rfl,.inl t.sq,by rw [<- j.length]; exact up1 n hS r (isInt.mpr rfl)⟩
  · obtain⟨x,rfl,i1⟩:=isDs1 i
    have e1:=isRef.mp i1
    subst e1
    split at r
    · rename_i z
      obtain⟨vs,hl,j⟩:=hS.lst z
      exact call_len_seq pins s σ H _ us Q I rs ⟨_,vs,rfl,.inl (SqL.of hl),by rw [<- j.length]; exact up1 n hS r (isInt.mpr rfl)⟩
    · exact r.elim
  · exact r.elim
def bMax:DSp:=fun ds S k=>match ds with
  | [.int i,.int j]=>k (.int (if j > i then j else i)) S
  | _=>False
def bMin:DSp:=fun ds S k=>match ds with
  | [.int i,.int j]=>k (.int (if j < i then j else i)) S
  | _=>False
theorem b_max (hc:X.calm=true:=by rfl):CallR X (.builtin "max") (upC X.K bMax):=by
  intro pins s σ H xs us Q I rs h
  obtain⟨ds,S,k,i,hS,r,n⟩:=h
  unfold bMax at r
  split at r
  · obtain⟨x,y,rfl,i1,i2⟩:=isDs2 i
    have e1:=isInt.mp i1
    have e2:=isInt.mp i2
    subst e1; subst e2
    exact call_max2 hc pins s σ H _ us Q I rs ⟨_,_,rfl,up1 n hS r (isInt.mpr rfl)⟩
  · exact r.elim
theorem b_min (hc:X.calm=true:=by rfl):CallR X (.builtin "min") (upC X.K bMin):=by
  intro pins s σ H xs us Q I rs h
  obtain⟨ds,S,k,i,hS,r,n⟩:=h
  unfold bMin at r
  split at r
  · obtain⟨x,y,rfl,i1,i2⟩:=isDs2 i
    have e1:=isInt.mp i1
    have e2:=isInt.mp i2
    subst e1; subst e2
    exact call_min2 hc pins s σ H _ us Q I rs ⟨_,_,rfl,up1 n hS r (isInt.mpr rfl)⟩
  · exact r.elim
def tyR:Option DO->Option Ty
  | some (.lst _)=>some .lst
  | some .dic=>some .dic
  | _=>none
def tyD (S:DH):D->Option Ty
  | .non=>some .non
  | .bl _=>some .bool
  | .int _=>some .int
  | .str _=>some .str
  | .tup _=>some .tup
  | .rl _=>none
  | .ref a=>tyR (S a)
  | .ty _=>none
def subT:Ty->Ty->Bool
  | .non,.non=>true | .bool,.bool=>true | .bool,.int=>true | .int,.int=>true | .str,.str=>true | .tup,.tup=>true | .lst,.lst=>true | .dic,.dic=>true | .verr,.verr=>true
  | _,_=>false
theorem kit_of {K:Fg} (t c:Ty):PySem.W.kitOne K (.type t.name) (.type c.name)=some (subT t c):=by
  cases t <;> cases c <;> rfl
def mBits:D1:=fun d S k=>match d with
  | .int i=>k (.int ((Builtin.Int.intBits i:Nat):Int)) S
  | _=>False
theorem d_bits {o:Expr} {g:DE} {apos cpos:Pos} (ho:PE X o (up X.K g)) (hbase:attributeBase o "bit_length" X.env (eval o X.env)=eval o X.env:=by rfl) (hline:(apos.endLine == cpos.line)=true:=by rfl):
    PE X (.Call (.Attribute o "bit_length" apos) [] [] cpos) (up X.K (dUn mBits g)):=by
  refine PE.imp (pe_bm0 PySem.F.plainAttrs_int PySem.F.slot_int_bit_length PySem.F.type_int_bit_length (r:=fun x xs H Q=>∃ i,x=.int i/\xs=[]/\Q (.int ((Builtin.Int.intBits i:Nat):Int)) H) ?_ ho hbase hline) fun σ H Q ⟨L,S,k,hL,hS,h,n⟩=>?_
  · intro pins s σ H x xs v us Q I rx rs h
    obtain⟨i,rfl,rfl,q⟩:=h
    obtain⟨t,rfl⟩:=rx
    cases rs
    exact call_int_bit_length ⟨.int _,H,I.tok _,⟨_,rfl⟩,q⟩
  · refine up.go hL hS h fun d S1 v H1 h1 k1 hL1 hS1 i1=>?_
    cases d with
    | int i=>
      have e1:=isInt.mp i1
      subst e1
      exact⟨rfl,i,rfl,rfl,n _ S1 _ H1 h1 k1 hS1 (isInt.mpr rfl)⟩
    | _=>exact(show False from h1).elim
def cutD (xs:List D) (lo hi:Option Int):List D:=(xs.drop (HT.sIx xs.length 0 lo)).take (HT.sIx xs.length xs.length hi - HT.sIx xs.length 0 lo)
abbrev DOp:=Lo->DH->(Option Int->DH->Prop)->Prop
def upO (K:Fg) (g:DOp):TO:=fun σ H Q=>∃ L S k,Lc K H L σ/\Hs K H S/\g L S k/\∀ i S' H',k i S'->Kp H H'->Hs K H' S'->Q i H'
def oNone:DOp:=fun _ S k=>k none S
def oSome (g:DE):DOp:=fun L S k=>g L S fun d S1=>match d with
  | .int i=>k (some i) S1
  | _=>False
theorem do_none:PO X none (upO X.K oNone):=by
  intro pins s σ H Q I h
  obtain⟨L,S,k,hL,hS,h,n⟩:=h
  exact po_none pins s σ H Q I (n none S H h (Kp.refl H) hS)
theorem do_some {e:Expr} {g:DE} (he:PE X e (up X.K g)):PO X (some e) (upO X.K (oSome g)):=by
  intro pins s σ H Q I h
  obtain⟨L,S,k,hL,hS,h,n⟩:=h
  refine po_some he pins s σ H Q I (up.go hL hS h fun d S1 v H1 h1 k1 hL1 hS1 i1=>?_)
  cases d with
  | int i=>
    have e1:=isInt.mp i1
    subst e1
    exact⟨i,rfl,n (some i) S1 H1 h1 k1 hS1⟩
  | _=>exact(show False from h1).elim
end
section
variable {X:Cx} {st:Stmt} {rest:List Stmt} {g h:DS} {e:Expr} {ge:DE} {pos:Pos}
def dNext:DS:=fun M L S=>M.nx L S
def dSeq (g h:DS):DS:=fun M L S=>g {M with nx:=h M} L S
theorem ds_nil:PSs X [] (upS X.K dNext):=PSs.imp pss_nil fun N σ H ⟨L,S,M,hL,hS,h,r⟩=>r.nx L S σ H h (Kp.refl H) hL hS
theorem dSeq_go {K:Fg}:∀ N σ H,upS K (dSeq g h) N σ H->tSeq (upS K g) (upS K h) N σ H:=fun N σ H ⟨L,S,M,hL,hS,q,r⟩=>
  ⟨L,S,{M with nx:=h M},hL,hS,q,⟨fun L' S' σ' H' q' k' hL' hS'=>⟨L',S',M,hL',hS',q',r.kp k'⟩,r.rt,r.bk,r.ct⟩⟩
theorem ds_cons (h1:PS X st (upS X.K g)) (h2:PSs X rest (upS X.K h)):PSs X (st::rest) (upS X.K (dSeq g h)):=PSs.imp (pss_cons h1 h2) dSeq_go
theorem ds_one (h1:PS X st (upS X.K g)):PSs X [st] (upS X.K g):=pss_one h1
def dDrop (ge:DE):DS:=fun M L S=>ge L S fun _ S1=>M.nx L S1
theorem dst_expr (he:PE X e (up X.K ge)) (hs:swapsWith e none pos.line X.env=pure false:=by rfl):PS X (.Expr e pos) (upS X.K (dDrop ge)):=
  PS.imp (ps_expr he hs) fun N σ H ⟨L,S,M,hL,hS,h,r⟩=>up.go hL hS h fun d S1 v H1 h1 k1 hL1 hS1 _=>r.nx L S1 σ H1 h1 k1 hL1 hS1
def dRet (ge:DE):DS:=fun M L S=>ge L S M.rt
theorem dst_ret (he:PE X e (up X.K ge)):PS X (.Return (some e) pos) (upS X.K (dRet ge)):=
  PS.imp (ps_ret he) fun N σ H ⟨L,S,M,hL,hS,h,r⟩=>up.go hL hS h fun d S1 v H1 h1 k1 _ hS1 i1=>r.rt d S1 v H1 h1 k1 hS1 i1
def dIfS (c:DT) (g h:DS):DS:=fun M L S=>c L S fun b S1=>if b=true then g M L S1 else h M L S1
theorem dst_if {c:Expr} {a b:List Stmt} {gc:DT} (hc:PT X c (upT X.K gc)) (ha:PSs X a (upS X.K g)) (hb:PSs X b (upS X.K h)):PS X (.If c a b pos) (upS X.K (dIfS gc g h)):=
  PS.imp (ps_if hc ha hb) fun N σ H ⟨L,S,M,hL,hS,q,r⟩=>upT.go hL hS q fun t S1 H1 h1 k1 hL1 hS1=>by
    cases t with
    | true=>
      rw [if_pos rfl] at h1 ⊢
      exact⟨L,S1,M,hL1,hS1,h1,r.kp k1⟩
    | false=>
      rw [if_neg Bool.false_ne_true] at h1 ⊢
      exact⟨L,S1,M,hL1,hS1,h1,r.kp k1⟩
def dNever:DS:=fun _ _ _=>False
theorem dst_never:PS X st (upS X.K dNever):=PS.imp ps_never fun N σ H ⟨L,S,M,hL,hS,h,r⟩=>h.elim
def dSet (i:Nat) (ge:DE):DS:=fun M L S=>ge L S fun d S1=>M.nx (L.set i (some d)) S1
theorem dst_set {i:Nat} {x:Str} {pos':Pos} (hN:X.N.Nodup) (he:PE X e (up X.K ge)) (hi:X.N[i]?=some x:=by rfl) (hx:Loc X.env.scope x:=by first | exact Or.inl rfl | exact Or.inr rfl) (hs:swapsWith e (some (.Name x pos')) pos.line X.env=pure false:=by rfl)
    (hf:X.fn x=true\/X.env.scope.names.lookup x=some .local:=by first | exact .inl rfl | exact .inr rfl | assumption):PS X (.Assign [.Name x pos'] e pos) (upS X.K (dSet i ge)):=
  PS.imp (ps_set hN hi hx he hs hf) fun N σ H ⟨L,S,M,hL,hS,h,r⟩=>up.go hL hS h fun d S1 v H1 h1 k1 hL1 hS1 i1=>r.nx _ S1 _ H1 h1 k1 (hL1.set i1 i) hS1
def dPar (i j:Nat) (ta:DA):DS:=fun M L S=>ta L S fun ds S1=>match ds with
  | [d,e]=>M.nx ((L.set i (some d)).set j (some e)) S1
  | _=>False
theorem dst_par {i j:Nat} {x y:Str} {a b:Expr} {ta:DA} {px py pt:Pos} {kt k2 pt2} (hc:X.calm=true) (hN:X.N.Nodup) (hij:i≠j) (ha:PA X [a,b] (upA X.K ta)) (hi:X.N[i]?=some x:=by rfl) (hj:X.N[j]?=some y:=by rfl)
    (hx:X.env.scope.names.lookup x=some .local:=by rfl) (hy:X.env.scope.names.lookup y=some .local:=by rfl)
    (hw:swappedStores [.Tuple [.Name x px,.Name y py] kt pt] (.Tuple [a,b] k2 pt2) X.env=pure (some [x,y]):=by rfl)
    (hs:swapsWithSole [.Tuple [.Name x px,.Name y py] kt pt] (.Tuple [a,b] k2 pt2) pos.line X.env=pure false:=by rfl):
    PS X (.Assign [.Tuple [.Name x px,.Name y py] kt pt] (.Tuple [a,b] k2 pt2) pos) (upS X.K (dPar i j ta)):=
  PS.imp (ps_par hc hN hi hj hij hx hy ha hw hs) fun N σ H ⟨L,S,M,hL,hS,h,r⟩=>upA.go hL hS h fun ds S1 vs H1 h1 k1 hL1 hS1 i1=>by
    split at h1
    · obtain⟨v,u,rfl,j1,j2⟩:=isDs2 i1
      exact⟨v,u,rfl,r.nx _ S1 _ H1 h1 k1 ((hL1.set j1 i).set j2 j) hS1⟩
    · exact h1.elim
abbrev DG:=D->Lo->DH->(Lo->DH->Prop)->Prop
def upG (K:Fg) (g:DG):TG:=fun v σ H Q=>∃ d L S k,IsD K H d v/\Lc K H L σ/\Hs K H S/\g d L S k/\∀ L' S' σ' H',k L' S'->Kp H H'->Lc K H' L' σ'->Hs K H' S'->Q σ' H'
theorem PG.imp {e:Expr} {t t':TG} (h:PG X e t) (i:∀ v σ H Q,t' v σ H Q->t v σ H Q):PG X e t':=fun pins s σ H v u Q I rv q=>h pins s σ H v u Q I rv (i v σ H Q q)
def dgName (i:Nat):DG:=fun d L S k=>k (L.set i (some d)) S
theorem dg_name {i:Nat} {x:Str} (hN:X.N.Nodup) (hi:X.N[i]?=some x:=by rfl) (hx:Loc X.env.scope x:=by first | exact Or.inl rfl | exact Or.inr rfl) (hf:X.fn x=true\/X.env.scope.names.lookup x=some .local:=by first | exact .inl rfl | exact .inr rfl | assumption):PG X (.Name x pos) (upG X.K (dgName i)):=
  PG.imp (pg_name hN hi hx hf) fun v σ H Q ⟨d,L,S,k,i1,hL,hS,h,n⟩=>n _ S _ H h (Kp.refl H) (hL.set i1 i) hS
abbrev DGs:=List D->Lo->DH->(Lo->DH->Prop)->Prop
def upGs (K:Fg) (g:DGs):TGs:=fun v σ H Q=>∃ d L S k,IsDs K H d v/\Lc K H L σ/\Hs K H S/\g d L S k/\∀ L' S' σ' H',k L' S'->Kp H H'->Lc K H' L' σ'->Hs K H' S'->Q σ' H'
theorem PGs.imp {e:List Expr} {t t':TGs} (h:PGs X e t) (i:∀ v σ H Q,t' v σ H Q->t v σ H Q):PGs X e t':=fun pins s σ H v u Q I rv q=>h pins s σ H v u Q I rv (i v σ H Q q)
def dgNil:DGs:=fun ds L S k=>ds=[]/\k L S
def dgCons (t:DG) (u:DGs):DGs:=fun ds L S k=>match ds with
  | d::r=>t d L S fun L1 S1=>u r L1 S1 k
  | []=>False
theorem dgs_nil:PGs X [] (upGs X.K dgNil):=PGs.imp pgs_nil fun v σ H Q ⟨d,L,S,k,i1,hL,hS,h,n⟩=>by
  obtain⟨rfl,h⟩:=h
  exact⟨isNil.mp i1,n L S σ H h (Kp.refl H) hL hS⟩
theorem dgs_cons {es:List Expr} {t:DG} {u:DGs} (h1:PG X e (upG X.K t)) (h2:PGs X es (upGs X.K u)) (hs:(assignEach (e::es) X.env).map (·.2)=assign e X.env::(assignEach es X.env).map (·.2):=by rfl):PGs X (e::es) (upGs X.K (dgCons t u)):=
  PGs.imp (pgs_cons h1 h2 hs) fun vs σ H Q ⟨ds,L,S,k,i1,hL,hS,h,n⟩=>by
    cases ds with
    | nil=>exact(show False from h).elim
    | cons d r=>
      obtain⟨v,vr,rfl,j1,j2⟩:=isCons.mp i1
      exact⟨v,vr,rfl,d,L,S,_,j1,hL,hS,h,fun L1 S1 σ1 H1 q k1 hL1 hS1=>⟨r,L1,S1,k,j2.kp k1,hL1,hS1,q,fun L' S' σ' H' q' k'=>n L' S' σ' H' q' (k1.trans k')⟩⟩
def dAsg (ge:DE) (g:DG):DS:=fun M L S=>ge L S fun d S1=>g d L S1 M.nx
theorem dst_asg {tg e:Expr} {g:DG} (he:PE X e (up X.K ge)) (hg:PG X tg (upG X.K g)) (hs:swapsWithSole [tg] e pos.line X.env=pure false:=by rfl) (hw:swappedStores [tg] e X.env=pure none:=by rfl)
    (h1:(assignEach [tg] X.env).map (·.2)=[assign tg X.env]:=by rfl):PS X (.Assign [tg] e pos) (upS X.K (dAsg ge g)):=
  PS.imp (ps_asg he hg hs hw h1) fun N σ H ⟨L,S,M,hL,hS,h,r⟩=>up.go hL hS h fun d S1 v H1 h1 k1 hL1 hS1 i1=>
    ⟨d,L,S1,M.nx,i1,hL1,hS1,h1,fun L' S' σ' H' q k' hL' hS'=>r.nx L' S' σ' H' q (k1.trans k') hL' hS'⟩
def dWhile (c:DT) (b:DS):DS:=fun M L S=>∃ W:Nat->Lo->DH->Prop,(∃ m,W m L S)/\∀ m L S,W m L S->
  c L S fun t S1=>if t=true then ∃ N:Lo->DH->Prop,(∀ L' S',N L' S'->∃ m',m' < m/\W m' L' S')/\b {M with nx:=N,ct:=N,bk:=M.nx} L S1 else M.nx L S1
theorem dst_while {c:Expr} {body:List Stmt} {gc:DT} (hp:PassesOwn (model X.prog X.w) X.A X.env X.xe) (hc:PT X c (upT X.K gc)) (hb:PSs X body (upS X.K g)):PS X (.While c body [] pos) (upS X.K (dWhile gc g)):=
  PS.imp (ps_while hp hc hb) fun N σ H ⟨L,S,M,hL,hS,⟨W,⟨m0,w0⟩,turn⟩,r⟩=>by
    refine⟨fun m σ H1=>∃ L S,Lc X.K H1 L σ/\Hs X.K H1 S/\W m L S/\Kp H H1,⟨m0,L,S,hL,hS,w0,Kp.refl H⟩,?_⟩
    rintro m σ1 H1 ⟨L1,S1,hL1,hS1,w1,k1⟩
    refine upT.go hL1 hS1 (turn m L1 S1 w1) fun t S2 H2 h2 k2 hL2 hS2=>?_
    cases t with
    | true=>
      rw [if_pos rfl] at h2 ⊢
      obtain⟨N',hN,hb⟩:=h2
      refine⟨fun σ' H'=>∃ L' S',Lc X.K H' L' σ'/\Hs X.K H' S'/\N' L' S'/\Kp H H',?_,L1,S2,_,hL2,hS2,hb,?_⟩
      · rintro σ' H' ⟨L',S',hL',hS',n',k'⟩
        obtain⟨m',hm,w'⟩:=hN L' S' n'
        exact⟨m',hm,L',S',hL',hS',w',k'⟩
      · have r2:=r.kp (k1.trans k2)
        exact⟨fun L' S' σ' H' n' k' hL' hS'=>⟨L',S',hL',hS',n',(k1.trans k2).trans k'⟩,r2.rt,r2.nx,fun L' S' σ' H' n' k' hL' hS'=>⟨L',S',hL',hS',n',(k1.trans k2).trans k'⟩⟩
    | false=>
      rw [if_neg Bool.false_ne_true] at h2 ⊢
      exact(r.kp (k1.trans k2)).nx L1 S2 σ1 H2 h2 (Kp.refl H2) hL2 hS2
def dLoop (ok:DH->Prop) (g:DG) (b:DS) (M:DEnds):List D->Lo->DH->Prop
  | [],L,S=>ok S/\M.nx L S
  | d::r,L,S=>ok S/\g d L S fun L1 S1=>b {M with nx:=fun L2 S2=>dLoop ok g b M r L2 S2,ct:=fun L2 S2=>dLoop ok g b M r L2 S2,bk:=M.nx} L1 S1
theorem for_core {K:Fg} {ok:DH->Prop} {gg:DG} {b:DS} {M:DEnds} {ds:List D} {L:Lo} {S:DH} {N:Ends} {σ:L2.St} {H:Hp} {J:It} (hL:Lc K H L σ) (hS:Hs K H S) (h:dLoop ok gg b M ds L S) (r:Rch K H M N)
    (hgo:∀ i d S1 H1,ds[i]?=some d->Kp H H1->Hs K H1 S1->ok S1->J.go i H1/\∀ x H',J.yld i H1 x H'->H'=H1/\IsD K H1 d x)
    (hst:∀ S1 H1,Kp H H1->Hs K H1 S1->ok S1->J.stop ds.length H1):
    ∃ W:Nat->Nat->L2.St->Hp->Prop,(∃ m,W 0 m σ H)/\∀ i m σ H,W i m σ H->
      (J.stop i H/\N.nx σ H)\/(J.go i H/\∃ N':L2.St->Hp->Prop,(∀ σ' H',N' σ' H'->∃ m',m' < m/\W (i+1) m' σ' H')/\∀ x H',J.yld i H x H'->upG K gg x σ H' fun σ2 H2=>upS K b {N with nx:=N',ct:=N',bk:=N.nx} σ2 H2):=by
  refine⟨fun i m σ1 H1=>m=ds.length - i/\i<=ds.length/\∃ L1 S1,Lc K H1 L1 σ1/\Hs K H1 S1/\Kp H H1/\dLoop ok gg b M (ds.drop i) L1 S1,⟨ds.length,by simp,Nat.zero_le _,L,S,hL,hS,Kp.refl H,h⟩,?_⟩
  rintro i m σ1 H1 ⟨rfl,hi,L1,S1,hL1,hS1,k1,w1⟩
  by_cases hlt:i < ds.length
  · have e:ds.drop i=ds[i]::ds.drop (i+1):=List.drop_eq_getElem_cons hlt
    rw [e] at w1
    obtain⟨o1,w1⟩:=w1
    obtain⟨g1,y1⟩:=hgo i ds[i] S1 H1 (by simp [hlt]) k1 hS1 o1
    refine .inr ⟨g1,fun σ' H'=>i+1<=ds.length/\∃ L' S',Lc K H' L' σ'/\Hs K H' S'/\Kp H H'/\dLoop ok gg b M (ds.drop (i+1)) L' S',fun σ' H' ⟨q1,q2⟩=>⟨ds.length - (i+1),by omega,rfl,q1,q2⟩,fun x H' y=>?_⟩
    obtain⟨rfl,ix⟩:=y1 x H' y
    refine⟨ds[i],L1,S1,_,ix,hL1,hS1,w1,fun L2 S2 σ2 H2 q k2 hL2 hS2=>⟨L2,S2,_,hL2,hS2,q,?_⟩⟩
    have r2:=r.kp (k1.trans k2)
    exact⟨fun L3 S3 σ3 H3 q3 k3 hL3 hS3=>⟨hlt,L3,S3,hL3,hS3,(k1.trans k2).trans k3,q3⟩,r2.rt,r2.nx,fun L3 S3 σ3 H3 q3 k3 hL3 hS3=>⟨hlt,L3,S3,hL3,hS3,(k1.trans k2).trans k3,q3⟩⟩
  · have e:i=ds.length:=by omega
    subst e
    rw [List.drop_length] at w1
    obtain⟨o1,w1⟩:=w1
    exact .inl ⟨hst S1 H1 k1 hS1 o1,r.nx L1 S1 σ1 H1 w1 k1 hL1 hS1⟩
def dItems (S:DH):D->Option (List D×Option Addr)
  | .tup ds=>some (ds,none)
  | .rl ds=>some (ds,none)
  | .ref a=>(match S a with
    | some (.lst ds)=>some (ds,some a)
    | _=>none)
  | _=>none
def okFor:List D×Option Addr->DH->Prop
  | (_,none)=>fun _=>True
  | (ds,some a)=>fun S=>S a=some (.lst ds)
def iSeq (K:Fg) (t:TE):TI:=fun σ H R=>t σ H fun x H1=>∃ a,x=.ref a/\(((∃ xs,SqL K H1 a xs)/\R (Itl K a) H1)\/((∃ xs,SqT K H1 a xs)/\R (Itt K a) H1))
theorem pi_seq {tg l:Expr} {tl:TE} (hl:PE X l tl):PI X tg l (iSeq X.K tl):=by
  intro pins s σ H R I h
  refine thn (hl pins s σ H _ I h) fun v s1 ⟨x,H1,I1,r1,q1⟩=>?_
  obtain⟨a,e,q1⟩:=q1
  subst e
  cases r1
  rcases q1 with ⟨⟨xs,hq⟩,q⟩ | ⟨⟨xs,hq⟩,q⟩
  · obtain⟨its,rv,p,hz⟩:=I1.list hq
    refine wpAny_pyIter_list p.isList ?_
    refine⟨s1.heap.objs.size,[s1.heap.objs.size],_,_,H1,rfl,I1.kept (t':=s1.toks) fun b o e=>Heap.get?_push_of_some _ e,turn_list a _,⟨_,Heap.get?_push_size _ rfl,rfl,rfl⟩,fun b hb=>?_,q⟩
    have e:b=s1.heap.objs.size:=by simpa using hb
    subst e
    exact I1.fpOk (Nat.le_refl _) (I1.hok.fresh (Nat.le_refl _))
  · obtain⟨its,rv,p,hz⟩:=I1.tuple hq
    refine wpAny_pyIter_tuple (show s1.heap.IsTuple a its.toArray from p) ?_
    refine⟨s1.heap.objs.size,[s1.heap.objs.size],_,_,H1,rfl,I1.kept (t':=s1.toks) fun b o e=>Heap.get?_push_of_some _ e,turn_tuple a _,⟨_,Heap.get?_push_size _ rfl,rfl,rfl⟩,fun b hb=>?_,q⟩
    have e:b=s1.heap.objs.size:=by simpa using hb
    subst e
    exact I1.fpOk (Nat.le_refl _) (I1.hok.fresh (Nat.le_refl _))
def dForR (ta:DA) (g:DG) (b:DS):DS:=fun M L S=>ta L S fun ds S1=>match ds with
  | [.int n]=>(-(2 ^ 62)<=n/\n < 2 ^ 62)/\dLoop (fun _=>True) g b M ((List.range n.toNat).map fun i=>D.int (i:Nat)) L S1
  | _=>False
theorem dst_forR {tg a:Expr} {body:List Stmt} {ta:DA} {gg:DG} {p pos':Pos} (hp:PassesOwn (model X.prog X.w) X.A X.env X.xe) (hc:X.calm=true) (hgl:Gl X "range") (hm:X.mg "range"=none) (ha:PA X [a] (upA X.K ta)) (hg:PG X tg (upG X.K gg)) (hb:PSs X body (upS X.K g))
    (hs1:starEach [a] X.env=[(false,eval a X.env)]:=by rfl) (hs:∀ x,foldedSetIterable (.Call (.Name "range" p) [a] [] pos') X.env x=pure x:=by intro _; rfl):PS X (.For tg (.Call (.Name "range" p) [a] [] pos') body [] pos) (upS X.K (dForR ta gg g)):=
  PS.imp (ps_for hp hc (pi_range1 hgl hm ha hs1) hg hb hs) fun N σ H ⟨L,S,M,hL,hS,h,r⟩=>upA.go hL hS h fun ds S1 vs H1 h1 k1 hL1 hS1 i1=>by
    split at h1
    · obtain⟨v,rfl,j⟩:=isDs1 i1
      have e:=isInt.mp j
      subst e
      obtain⟨⟨h2,h3⟩,h1⟩:=h1
      refine⟨_,rfl,h2,h3,for_core hL1 hS1 h1 (r.kp k1) (fun i d S2 H2 e k2 hS2 _=>?_) fun S2 H2 k2 hS2 _=>?_⟩
      · rw [List.getElem?_map] at e
        cases q:(List.range (Int.toNat _))[i]? with
        | none=>rw [q] at e; cases e
        | some z=>
          rw [q] at e
          cases e
          have hz:=List.getElem?_eq_some_iff.mp q
          obtain⟨hz1,hz2⟩:=hz
          rw [List.length_range] at hz1
          rw [List.getElem_range] at hz2
          subst hz2
          exact⟨hz1,fun x H' y=>⟨y.1,by rw [y.2]; exact isInt.mpr (by rw [Int.zero_add])⟩⟩
      · rw [List.length_map,List.length_range]
        exact Nat.le_refl _
    · exact h1.elim
end
section
variable {P:Program} {w:World} {K:Fg} {mg:Str->Option Value} {base:Heap}
theorem _root_.L2.Fun.okD {x qual:Str} {st:Stmt} {f:Addr} {fd:FuncData} {N ps:List Str} {k:Nat} {F:DSp} (Fn:Fun K x qual st f fd) (Sc:FnScope N ps (defScope st)) (len:∀ ds S k,F ds S k->ds.length=ps.length)
    (hbody:∀ (cdv:Value) (A:Around) (outer:List Env) (s:Shared) (H:Hp) (E:XK),Room k (A.deeper (envOfC qual (defScope st) s.heap.objs.size f cdv))->
      ∃ g,PSs (cxOf CX0 P w K mg base N qual (defScope st) f cdv A outer s H E).nox (defBody st) (upS K g)/\
        ∀ ds S k,F ds S k->g {nx:=fun _ S'=>k .non S',rt:=k} (ds.map some++List.replicate (N.length - ps.length) none) S):FnOk P w K mg base CX0 (k+1) f fd ps (spU K F):=by
  refine Fn.ok Sc (fun vs H Q E h=>?_) (fun cdv A outer s H vs Q E hr h=>?_)
  · obtain⟨ds,S,k,i,_,q,_⟩:=h
    rw [<- i.length]
    exact len ds S k q
  · obtain⟨g,hg,q⟩:=hbody cdv A outer s H E hr
    obtain⟨ds,S,k',i,hS,h,n⟩:=h
    refine⟨_,hg,ds.map some++List.replicate (N.length - ps.length) none,S,_,?_,hS,q ds S k' h,?_⟩
    · unfold L2.start
      rw [<- i.length,len ds S k' h]
      exact Lc.start _ i
    · exact⟨fun L S' σ H' h1 k1 _ hS'=>n _ S' _ H' h1 k1 hS' (isNon.mpr rfl),fun d S' v H' h1 k1 hS' i1=>n d S' v H' h1 k1 hS' i1,fun _ _ _ _ h1=>h1.elim,fun _ _ _ _ h1=>h1.elim⟩
theorem Own.mk' {x qual:Str} {st:Stmt} {f:Addr} {fd:FuncData} {ps:List Str} {n:Nat} {F:DSp} (Fn:Fun K x qual st f fd) (h:FnOk P w K mg base CX0 n f fd ps (spU K F)) (hm:mg x=some (.ref f)) (hb:Binds K fd ps []):Own P w K mg base x n F:=
  ⟨f,fd,ps,h,hm,Fn.kp,hb⟩
end
end DL
namespace DL
open PySem PySem.Spec PyProof.Rows L2 HM
theorem mok {m n:Nat} {x y:Int} (hx:Bt m x) (hy:Bt n y) (h:m+n<=134217728:=by decide):IntMulOk x y:=IntMulOk.of_le (intBits_le_iff.mpr hx) (intBits_le_iff.mpr hy) h
theorem dok {m:Nat} {y:Int} (h0:y≠0) (hy:Bt m y) (h:m<=9000:=by decide):CDivB x y:=⟨h0,(Nat.log2_lt (by omega)).mpr (hy.mono h)⟩
def pr (a b:Int):D:=.tup [.int a,.int b]
def fr (q:Rat):D:=pr q.num (q.den:Int)
end DL
namespace DL
theorem atI0 {x:D} {r:List D}:L2.atI (x::r) 0=some x:=L2.atI_nat (j:=0) rfl
theorem atI1 {x y:D} {r:List D}:L2.atI (x::y::r) 1=some y:=L2.atI_nat (j:=1) rfl
theorem atI2 {x y z:D} {r:List D}:L2.atI (x::y::z::r) 2=some z:=L2.atI_nat (j:=2) rfl
theorem ixN0 {n:Nat}:L2.ixN (n+1) 0=some 0:=by
  unfold L2.ixN
  rw [if_pos (by decide),if_pos (by omega)]
  rfl
end DL
namespace DL
open PySem PySem.Spec PyProof.Rows L2
def eqS:D->D->Option Bool
  | .int i,.int j=>some (i == j)
  | .bl i,.bl j=>some (i == j)
  | .str i,.str j=>some (i == j)
  | .non,.non=>some true
  | .non,.int _=>some false
  | .int _,.non=>some false
  | .non,.bl _=>some false
  | .bl _,.non=>some false
  | .bl a,.int j=>some ((if a then 1 else 0) == j)
  | .int i,.bl b=>some (i == (if b then 1 else 0))
  | _,_=>none
def eqTs (f:D->D->Option Bool):List D->List D->Option Bool
  | [],[]=>some true
  | [],_::_=>some false
  | _::_,[]=>some false
  | x::xs,y::ys=>match f x y,eqTs f xs ys with
    | some a,some b=>some (a && b)
    | _,_=>none
def eqT:Nat->D->D->Option Bool
  | 0,d,e=>eqS d e
  | n+1,.tup xs,.tup ys=>eqTs (eqT n) xs ys
  | _+1,d,e=>eqS d e
theorem eqT_succ (n:Nat) (d e:D):eqT (n+1) d e=(match d,e with | .tup xs,.tup ys=>eqTs (eqT n) xs ys | d,e=>eqS d e):=by
  cases d <;> cases e <;> rfl
def eqAts (f:D->D->Option Bool):List D->List D->Nat->Bool
  | x::_,y::_,0=>(f x y).getD false
  | _::xs,_::ys,j+1=>eqAts f xs ys j
  | _,_,_=>false
theorem all_succ (e:Nat->Bool) (m:Nat):(List.range (m+1)).all e=(e 0 && (List.range m).all fun j=>e (j+1)):=by
  rw [List.range_succ_eq_map,List.all_cons,List.all_map]
  rfl
theorem eqTs_all {f:D->D->Option Bool}:∀ {xs ys:List D} {b:Bool},eqTs f xs ys=some b->((List.range (min xs.length ys.length)).all (eqAts f xs ys) && xs.length == ys.length)=b
  | [],[],b,h=>by unfold eqTs at h; cases h; rfl
  | [],_::_,b,h=>by unfold eqTs at h; cases h; simp
  | _::_,[],b,h=>by unfold eqTs at h; cases h; simp
  | x::xs,y::ys,b,h=>by
    unfold eqTs at h
    split at h
    · rename_i a c e1 e2
      cases h
      have ih:=eqTs_all e2
      rw [List.length_cons,List.length_cons,Nat.succ_min_succ,all_succ]
      have e3:eqAts f (x::xs) (y::ys) 0=a:=by unfold eqAts; rw [e1]; rfl
      rw [e3,Bool.and_assoc]
      have e4:(fun j=>eqAts f (x::xs) (y::ys) (j+1))=eqAts f xs ys:=by funext j; rfl
      rw [e4]
      have e5:(xs.length+1 == ys.length+1)=(xs.length == ys.length):=by simp
      rw [e5,ih]
    · cases h
theorem eqTs_at {f:D->D->Option Bool}:∀ {xs ys:List D} {b:Bool} {j:Nat} {x y:D},eqTs f xs ys=some b->xs[j]?=some x->ys[j]?=some y->f x y=some (eqAts f xs ys j)
  | [],_,_,_,_,_,_,e,_=>by simp at e
  | _::_,[],_,_,_,_,_,_,e=>by simp at e
  | x::xs,y::ys,b,0,x',y',h,e1,e2=>by
    simp at e1 e2
    subst e1; subst e2
    unfold eqTs at h
    split at h
    · rename_i a c q1 q2
      unfold eqAts
      rw [q1]
      rfl
    · cases h
  | x::xs,y::ys,b,j+1,x',y',h,e1,e2=>by
    unfold eqTs at h
    split at h
    · rename_i a c q1 q2
      unfold eqAts
      exact eqTs_at q2 (by simpa using e1) (by simpa using e2)
    · cases h
section
variable {X:Cx} {pins:List (Addr×Obj)} {σ:L2.St} {H:Hp} {s:Shared}
theorem pair_at {K:Fg} {ds es:List D} {xs ys:List V} {us ws:List Value} {j:Nat} (i1:IsDs K H ds xs) (i2:IsDs K H es ys) (r1:Vals xs us) (r2:Vals ys ws) (h1:j < us.length) (h2:j < ws.length):
    ∃ d e x y,ds[j]?=some d/\es[j]?=some e/\IsD K H d x/\IsD K H e y/\RelV x us[j]/\RelV y ws[j]:=by
  have l1:=i1.length
  have l2:=i2.length
  have l3:=r1.length
  have l4:=r2.length
  have e1:ds[j]?=some ds[j]:=by simp [show j < ds.length by omega]
  have e2:es[j]?=some es[j]:=by simp [show j < es.length by omega]
  obtain⟨x,q1,d1⟩:=i1.get e1
  obtain⟨y,q2,d2⟩:=i2.get e2
  obtain⟨u,q3,rx⟩:=r1.get q1
  obtain⟨w,q4,ry⟩:=r2.get q2
  have f1:us[j]=u:=(List.getElem?_eq_some_iff.mp q3).2
  have f2:ws[j]=w:=(List.getElem?_eq_some_iff.mp q4).2
  exact⟨_,_,x,y,e1,e2,d1,d2,by rw [f1]; exact rx,by rw [f2]; exact ry⟩
theorem eqS_at {K:Fg} {A:Around} {d e:D} {x y:V} {u w:Value} {b:Bool} (h:eqS d e=some b) (i1:IsD K H d x) (i2:IsD K H e y) (rx:RelV x u) (ry:RelV y w):SeqAt.EqAt A s u w b/\SeqAt.RcAt A s u w b:=by
  unfold eqS at h
  split at h
  · cases h; rw [isInt.mp i1] at rx; rw [isInt.mp i2] at ry; obtain⟨t,rfl⟩:=rx; obtain⟨t',rfl⟩:=ry; exact⟨(SeqAt.EqAt.int_int _ _ _ _),(SeqAt.RcAt.int_int _ _ _ _)⟩
  · cases h; rw [isBl.mp i1] at rx; rw [isBl.mp i2] at ry; cases rx; cases ry; exact⟨(SeqAt.EqAt.bool_bool _ _),(SeqAt.RcAt.bool_bool _ _)⟩
  · cases h; rw [isStr.mp i1] at rx; rw [isStr.mp i2] at ry; obtain⟨t,rfl⟩:=rx; obtain⟨t',rfl⟩:=ry; exact⟨(SeqAt.EqAt.str_str _ _ _ _),(SeqAt.RcAt.str_str _ _ _ _)⟩
  · cases h; rw [isNon.mp i1] at rx; rw [isNon.mp i2] at ry; cases rx; cases ry; exact⟨SeqAt.EqAt.same _,SeqAt.RcAt.none_none⟩
  · cases h; rw [isNon.mp i1] at rx; rw [isInt.mp i2] at ry; cases rx; obtain⟨t',rfl⟩:=ry; exact⟨(SeqAt.EqAt.none_int _ _),(SeqAt.RcAt.none_int _ _)⟩
  · cases h; rw [isInt.mp i1] at rx; rw [isNon.mp i2] at ry; obtain⟨t,rfl⟩:=rx; cases ry; exact⟨(SeqAt.EqAt.int_none _ _),(SeqAt.RcAt.int_none _ _)⟩
  · cases h; rw [isNon.mp i1] at rx; rw [isBl.mp i2] at ry; cases rx; cases ry; exact⟨(SeqAt.EqAt.none_bool _),(SeqAt.RcAt.none_bool _)⟩
  · cases h; rw [isBl.mp i1] at rx; rw [isNon.mp i2] at ry; cases rx; cases ry; exact⟨(SeqAt.EqAt.bool_none _),(SeqAt.RcAt.bool_none _)⟩
  · cases h; rw [isBl.mp i1] at rx; rw [isInt.mp i2] at ry; cases rx; obtain⟨t',rfl⟩:=ry; exact⟨(SeqAt.EqAt.bool_int _ _ _),(SeqAt.RcAt.bool_int _ _ _)⟩
  · cases h; rw [isInt.mp i1] at rx; rw [isBl.mp i2] at ry; obtain⟨t,rfl⟩:=rx; cases ry; exact⟨(SeqAt.EqAt.int_bool _ _ _),(SeqAt.RcAt.int_bool _ _ _)⟩
  · cases h
theorem eqS_same {K:Fg} {d e:D} {x:V} {b:Bool} (h:eqS d e=some b) (i1:IsD K H d x) (i2:IsD K H e x):b=true:=by
  unfold eqS at h
  split at h
  · cases h; have e1:=isInt.mp i1; have e2:=isInt.mp i2; rw [e1] at e2; cases e2; simp
  · cases h; have e1:=isBl.mp i1; have e2:=isBl.mp i2; rw [e1] at e2; cases e2; simp
  · cases h; have e1:=isStr.mp i1; have e2:=isStr.mp i2; rw [e1] at e2; cases e2; simp
  · cases h; rfl
  · have e1:=isNon.mp i1; have e2:=isInt.mp i2; rw [e1] at e2; cases e2
  · have e1:=isInt.mp i1; have e2:=isNon.mp i2; rw [e1] at e2; cases e2
  · have e1:=isNon.mp i1; have e2:=isBl.mp i2; rw [e1] at e2; cases e2
  · have e1:=isBl.mp i1; have e2:=isNon.mp i2; rw [e1] at e2; cases e2
  · have e1:=isBl.mp i1; have e2:=isInt.mp i2; rw [e1] at e2; cases e2
  · have e1:=isInt.mp i1; have e2:=isBl.mp i2; rw [e1] at e2; cases e2
  · cases h
theorem eqTs_same {K:Fg} {f:D->D->Option Bool} (hf:∀ d e x b,f d e=some b->IsD K H d x->IsD K H e x->b=true):∀ {ds es:List D} {xs:List V} {b:Bool},eqTs f ds es=some b->IsDs K H ds xs->IsDs K H es xs->b=true
  | [],[],_,_,h,_,_=>by unfold eqTs at h; cases h; rfl
  | [],_::_,_,_,_,i1,i2=>by
    have e1:=isNil.mp i1
    obtain⟨v,r,e2,_⟩:=isCons.mp i2
    rw [e1] at e2; cases e2
  | _::_,[],_,_,_,i1,i2=>by
    have e1:=isNil.mp i2
    obtain⟨v,r,e2,_⟩:=isCons.mp i1
    rw [e1] at e2; cases e2
  | d::ds,e::es,xs,b,h,i1,i2=>by
    obtain⟨v,r,e1,h1,h2⟩:=isCons.mp i1
    obtain⟨v',r',e2,h3,h4⟩:=isCons.mp i2
    rw [e1] at e2
    cases e2
    unfold eqTs at h
    split at h
    · rename_i a c q1 q2
      cases h
      rw [hf _ _ _ _ q1 h1 h3,eqTs_same hf q2 h2 h4]
      rfl
    · cases h
theorem eqT_same (I:Inv X pins σ H s):∀ (n:Nat) (d e:D) (x:V) (b:Bool),eqT n d e=some b->IsD X.K H d x->IsD X.K H e x->b=true
  | 0,d,e,x,b,h,i1,i2=>eqS_same (by unfold eqT at h; exact h) i1 i2
  | n+1,d,e,x,b,h,i1,i2=>by
    rw [eqT_succ] at h
    split at h
    · rename_i xs ys
      obtain⟨a,vs,e1,t1,j1⟩:=isTup.mp i1
      obtain⟨a',vs',e2,t2,j2⟩:=isTup.mp i2
      rw [e1] at e2
      cases e2
      have q:=I.tuple_inj t1 t2
      subst q
      exact eqTs_same (fun d e x b=>eqT_same I n d e x b) h j1 j2
    · exact eqS_same h i1 i2
theorem eqT_at (I:Inv X pins σ H s):∀ (n:Nat) (A:Around) (d e:D) (x y:V) (u w:Value) (b:Bool),A.units+n < cLine->eqT n d e=some b->IsD X.K H d x->IsD X.K H e y->RelV x u->RelV y w->SeqAt.EqAt A s u w b/\SeqAt.RcAt A s u w b
  | 0,A,d,e,x,y,u,w,b,hu,h,i1,i2,rx,ry=>eqS_at (by unfold eqT at h; exact h) i1 i2 rx ry
  | n+1,A,d,e,x,y,u,w,b,hu,h,i1,i2,rx,ry=>by
    have h0:=h
    rw [eqT_succ] at h
    split at h
    · rename_i xs ys
      obtain⟨p,vs,rfl,t1,j1⟩:=isTup.mp i1
      obtain⟨q,vs',rfl,t2,j2⟩:=isTup.mp i2
      cases rx
      cases ry
      obtain⟨us,r1,p1,_⟩:=I.tuple t1
      obtain⟨ws,r2,p2,_⟩:=I.tuple t2
      have l1:=j1.length
      have l2:=j2.length
      have l3:=r1.length
      have l4:=r2.length
      have rc:SeqAt.RcAt A s (.ref p) (.ref q) b:=by
        have e:=eqTs_all h
        have z:=SeqAt.RcAt.tuples (A:=A) (s:=s) (items:=us.toArray) (items2:=ws.toArray) (e:=eqAts (eqT n) xs ys) (show s.heap.IsTuple p us.toArray from p1) (show s.heap.IsTuple q ws.toArray from p2) (by omega) (fun j h1 h2=>by
          simp only [List.size_toArray] at h1 h2
          obtain⟨d,e,x,y,q1,q2,d1,d2,rx,ry⟩:=pair_at j1 j2 r1 r2 h1 h2
          have:=(eqT_at I n A.in1 d e x y us[j] ws[j] _ (by show A.units+1+n < cLine; omega) (eqTs_at h q1 q2) d1 d2 rx ry).1
          simpa using this)
        simp only [List.size_toArray] at z
        rw [<- l3,<- l4,<- l1,<- l2,e] at z
        exact z
      refine⟨?_,rc⟩
      by_cases hpq:p=q
      · subst hpq
        have:=eqT_same I (n+1) _ _ _ _ h0 i1 i2
        subst this
        exact SeqAt.EqAt.same _
      · exact SeqAt.EqAt.of_refs hpq rc
    · exact eqS_at h i1 i2 rx ry
theorem eqS_ne {K:Fg} {A:Around} {d e:D} {x y:V} {u w:Value} {b:Bool} (h:eqS d e=some b) (i1:IsD K H d x) (i2:IsD K H e y) (rx:RelV x u) (ry:RelV y w):SeqAt.RcNeAt A s u w (!b):=by
  unfold eqS at h
  split at h
  · cases h; rw [isInt.mp i1] at rx; rw [isInt.mp i2] at ry; obtain⟨t,rfl⟩:=rx; obtain⟨t',rfl⟩:=ry; exact(SeqAt.RcNeAt.int_int _ _ _ _)
  · cases h; rw [isBl.mp i1] at rx; rw [isBl.mp i2] at ry; cases rx; cases ry; exact(SeqAt.RcNeAt.bool_bool _ _)
  · cases h; rw [isStr.mp i1] at rx; rw [isStr.mp i2] at ry; obtain⟨t,rfl⟩:=rx; obtain⟨t',rfl⟩:=ry; exact(SeqAt.RcNeAt.str_str _ _ _ _)
  · cases h; rw [isNon.mp i1] at rx; rw [isNon.mp i2] at ry; cases rx; cases ry; exact SeqAt.RcNeAt.none_none
  · cases h; rw [isNon.mp i1] at rx; rw [isInt.mp i2] at ry; cases rx; obtain⟨t',rfl⟩:=ry; exact(SeqAt.RcNeAt.none_int _ _)
  · cases h; rw [isInt.mp i1] at rx; rw [isNon.mp i2] at ry; obtain⟨t,rfl⟩:=rx; cases ry; exact(SeqAt.RcNeAt.int_none _ _)
  · cases h; rw [isNon.mp i1] at rx; rw [isBl.mp i2] at ry; cases rx; cases ry; exact(SeqAt.RcNeAt.none_bool _)
  · cases h; rw [isBl.mp i1] at rx; rw [isNon.mp i2] at ry; cases rx; cases ry; exact(SeqAt.RcNeAt.bool_none _)
  · cases h; rw [isBl.mp i1] at rx; rw [isInt.mp i2] at ry; cases rx; obtain⟨t',rfl⟩:=ry; exact(SeqAt.RcNeAt.bool_int _ _ _)
  · cases h; rw [isInt.mp i1] at rx; rw [isBl.mp i2] at ry; obtain⟨t,rfl⟩:=rx; cases ry; exact(SeqAt.RcNeAt.int_bool _ _ _)
  · cases h
theorem eqT_ne (I:Inv X pins σ H s) (n:Nat) (A:Around) (d e:D) (x y:V) (u w:Value) (b:Bool) (hu:A.units+n < cLine) (h:eqT n d e=some b) (i1:IsD X.K H d x) (i2:IsD X.K H e y) (rx:RelV x u) (ry:RelV y w):SeqAt.RcNeAt A s u w (!b):=by
  cases n with
  | zero=>exact eqS_ne (by unfold eqT at h; exact h) i1 i2 rx ry
  | succ n=>
    rw [eqT_succ] at h
    split at h
    · rename_i xs ys
      obtain⟨p,vs,rfl,t1,j1⟩:=isTup.mp i1
      obtain⟨q,vs',rfl,t2,j2⟩:=isTup.mp i2
      cases rx
      cases ry
      obtain⟨us,r1,p1,_⟩:=I.tuple t1
      obtain⟨ws,r2,p2,_⟩:=I.tuple t2
      have l1:=j1.length
      have l2:=j2.length
      have l3:=r1.length
      have l4:=r2.length
      have e:=eqTs_all h
      have z:=SeqAt.RcNeAt.tuples (A:=A) (s:=s) (items:=us.toArray) (items2:=ws.toArray) (e:=eqAts (eqT n) xs ys) (show s.heap.IsTuple p us.toArray from p1) (show s.heap.IsTuple q ws.toArray from p2) (by omega) (fun j h1 h2=>by
        simp only [List.size_toArray] at h1 h2
        obtain⟨d,e,x,y,q1,q2,d1,d2,rx,ry⟩:=pair_at j1 j2 r1 r2 h1 h2
        have:=(eqT_at I n A.in1 d e x y us[j] ws[j] _ (by show A.units+1+n < cLine; omega) (eqTs_at h q1 q2) d1 d2 rx ry).1
        simpa using this)
      simp only [List.size_toArray] at z
      rw [<- l3,<- l4,<- l1,<- l2,e] at z
      exact z
    · exact eqS_ne h i1 i2 rx ry
end
structure EJ (X:Cx) (e:Expr) (g:DE):Prop where
  h:PE X e (up X.K g)
structure TJ (X:Cx) (e:Expr) (g:DT):Prop where
  h:PT X e (upT X.K g)
structure WJ (X:Cx) (e:Expr) (g:DT):Prop where
  h:PW X e (upT X.K g)
structure AJ (X:Cx) (e:List Expr) (g:DA):Prop where
  h:PA X e (upA X.K g)
structure SJ (X:Cx) (e:Stmt) (g:DS):Prop where
  h:PS X e (upS X.K g)
structure SsJ (X:Cx) (e:List Stmt) (g:DS):Prop where
  h:PSs X e (upS X.K g)
structure GJ (X:Cx) (e:Expr) (g:DG):Prop where
  h:PG X e (upG X.K g)
structure GsJ (X:Cx) (e:List Expr) (g:DGs):Prop where
  h:PGs X e (upGs X.K g)
structure OJ (X:Cx) (e:Option Expr) (g:DOp):Prop where
  h:PO X e (upO X.K g)
theorem WJ.pt {X:Cx} {e:Expr} {g:DT} (h:WJ X e g):TJ X e g:=⟨PW.pt h.h⟩
section
variable {X:Cx} {a b c:Expr} {ga gb gc:DE} {pos:Pos}
theorem d_varj (i:Nat) {x:Str} (hN:X.N[i]?=some x:=by rfl) (hv:Vis X.env.scope x:=by first | exact Or.inl rfl | exact Or.inr (Or.inl rfl) | exact Or.inr (Or.inr rfl)) (hd:(x == ("__debug__":Str))=false:=by decide) (hcd:(x == ("__classdict__":Str))=false:=by decide):EJ X (.Name x pos) (dVar i):=⟨d_var (i:=i) (hN:=hN) (hv:=hv) (hd:=hd) (hcd:=hcd)⟩
end
section
variable {X:Cx} {a b c:Expr} {ga gb gc:DE} {pos:Pos}
theorem d_intj {i j pos}:EJ X (.Constant (.int i) j pos) (dC (.int i)):=⟨d_int⟩
end
section
variable {X:Cx} {a b c:Expr} {ga gb gc:DE} {pos:Pos}
theorem d_blj {i j pos}:EJ X (.Constant (.bool i) j pos) (dC (.bl i)):=⟨d_bl⟩
end
section
variable {X:Cx} {a b c:Expr} {ga gb gc:DE} {pos:Pos}
theorem d_nonj {j pos}:EJ X (.Constant .none j pos) (dC .non):=⟨d_non⟩
end
section
variable {X:Cx} {a b c:Expr} {ga gb gc:DE} {pos:Pos}
theorem d_strj {i j pos}:EJ X (.Constant (.str i) j pos) (dC (.str i)):=⟨d_str⟩
end
section
variable {X:Cx} {a b c:Expr} {ga gb gc:DE} {pos:Pos}
theorem d_tyj {x:Str} {n:Ty} (hg:Gl X x) (hm:X.mg x=none) (hv:bootBuiltins x=some (.type n.name)) (hn:x≠"__name__":=by decide) (hd:(x == ("__debug__":Str))=false:=by decide):EJ X (.Name x pos) (dC (.ty n)):=⟨d_ty (hg:=hg) (hm:=hm) (hv:=hv) (hn:=hn) (hd:=hd)⟩
end
section
variable {X:Cx} {a b c:Expr} {ga gb gc:DE} {pos:Pos}
theorem da_nilj:AJ X [] dNil:=⟨da_nil⟩
end
section
variable {X:Cx} {a b c:Expr} {ga gb gc:DE} {pos:Pos}
theorem da_consj {es:List Expr} {t:DA} (ha:EJ X a ga) (hr:AJ X es t) (hs:starEach (a::es) X.env=(false,eval a X.env)::starEach es X.env:=by exact star_cons rfl):AJ X (a::es) (dCons ga t):=⟨da_cons (ha:=ha.h) (hr:=hr.h) (hs:=hs)⟩
end
section
variable {X:Cx} {a b c:Expr} {ga gb gc:DE} {pos:Pos}
theorem d_tupj {es:List Expr} {x1} {t:DA} (h:AJ X es t):EJ X (.Tuple es x1 pos) (dTup t):=⟨d_tup (h:=h.h)⟩
end
section
variable {X:Cx} {a b c:Expr} {ga gb gc:DE} {pos:Pos}
theorem d_lstj {es:List Expr} {t:DA} (h:AJ X es t):EJ X (.List es pos) (dLst t):=⟨d_lst (h:=h.h)⟩
end
section
variable {X:Cx} {a b c:Expr} {ga gb gc:DE} {pos:Pos}
theorem d_opj {op:Operator} {r:D2} (ho:OpR X (binaryOp op) (upR X.K r)) (ha:EJ X a ga) (hb:EJ X b gb):EJ X (.BinOp a op b pos) (dOp r ga gb):=⟨d_op (ho:=ho) (ha:=ha.h) (hb:=hb.h)⟩
end
section
variable {X:Cx} {a b c:Expr} {ga gb gc:DE} {pos:Pos}
theorem d_cmpj {op:CmpOp} {r:D2} (ho:OpR X (compareOp op) (upR X.K r)) (ha:EJ X a ga) (hb:EJ X b gb) (hm:behindInMarks op b=false):EJ X (.Compare a [op] [b] pos) (dOp r ga gb):=⟨d_cmp (ho:=ho) (ha:=ha.h) (hb:=hb.h) (hm:=hm)⟩
end
section
variable {X:Cx} {a b c:Expr} {ga gb gc:DE} {pos:Pos}
theorem d_ixj {r:D2} (hr:IxR X (upR X.K r)) (ha:EJ X a ga) (hb:EJ X b gb) (hs:PlainIx b):EJ X (.Subscript a b pos) (dOp r ga gb):=⟨d_ix (hr:=hr) (ha:=ha.h) (hb:=hb.h) (hs:=hs)⟩
end
section
variable {X:Cx} {a b c:Expr} {ga gb gc:DE} {pos:Pos}
theorem d_unj {op:UnaryOp} {r:D1} (ho:UnR X (unaryOp op) (upU X.K r)) (ha:EJ X a ga):EJ X (.UnaryOp op a pos) (dUn r ga):=⟨d_un (ho:=ho) (ha:=ha.h)⟩
end
section
variable {X:Cx} {a b c:Expr} {ga gb gc:DE} {pos:Pos}
theorem dt_cmpj {op:CmpOp} {r:D2} (ho:OpR X (compareOp op) (upR X.K r)) (ha:EJ X a ga) (hb:EJ X b gb) (hm:behindInMarks op b=false):TJ X (.Compare a [op] [b] pos) (dTest (dOp r ga gb)):=⟨dt_cmp (ho:=ho) (ha:=ha.h) (hb:=hb.h) (hm:=hm)⟩
end
section
variable {X:Cx} {a b c:Expr} {ga gb gc:DE} {pos:Pos}
theorem dt_valj {e:Expr} {g:DE} (h:EJ X e g) (he:∀ whole,isTrue e X.env whole=(do let v <- whole; standAt e.pos; holding [v] (truthy v)):=by intro _; rfl):TJ X e (dTest g):=⟨dt_val (h:=h.h) (he:=he)⟩
end
section
variable {X:Cx} {a b c:Expr} {ga gb gc:DE} {pos:Pos}
variable {tA tB':DT} {rest:List Expr}
theorem dw_or1j (ha:TJ X a tA):WJ X (.BoolOp .Or [a] pos) tA:=⟨dw_or1 (ha:=ha.h)⟩
end
section
variable {X:Cx} {a b c:Expr} {ga gb gc:DE} {pos:Pos}
variable {tA tB':DT} {rest:List Expr}
theorem dw_orj (ha:TJ X a tA) (hb:WJ X (.BoolOp .Or (b::rest) pos) tB'):WJ X (.BoolOp .Or (a::b::rest) pos) (dOrT tA tB'):=⟨dw_or (ha:=ha.h) (hb:=hb.h)⟩
end
section
variable {X:Cx} {a b c:Expr} {ga gb gc:DE} {pos:Pos}
variable {tA tB':DT} {rest:List Expr}
theorem dt_notj (ha:TJ X a tA):TJ X (.UnaryOp .Not a pos) (dNotT tA):=⟨dt_not (ha:=ha.h)⟩
end
section
variable {X:Cx} {a b c:Expr} {ga gb gc:DE} {pos:Pos}
variable {tA tB':DT} {rest:List Expr}
theorem d_onej {op} (h:EJ X a ga):EJ X (.BoolOp op [a] pos) ga:=⟨d_one (h:=h.h)⟩
end
section
variable {X:Cx} {a b c:Expr} {ga gb gc:DE} {pos:Pos}
variable {tA tB':DT} {rest:List Expr}
theorem d_andj (ha:EJ X a ga) (hb:EJ X (.BoolOp .And (b::rest) pos) gb):EJ X (.BoolOp .And (a::b::rest) pos) (dAndV ga gb):=⟨d_and (ha:=ha.h) (hb:=hb.h)⟩
end
section
variable {X:Cx} {a b c:Expr} {ga gb gc:DE} {pos:Pos}
variable {tA tB':DT} {rest:List Expr}
theorem d_notj (ha:EJ X a ga):EJ X (.UnaryOp .Not a pos) (dNotV ga):=⟨d_not (ha:=ha.h)⟩
end
section
variable {X:Cx} {a b c:Expr} {ga gb gc:DE} {pos:Pos}
variable {tA tB':DT} {rest:List Expr}
theorem d_ifj {c:Expr} (hc:TJ X c tA) (ha:EJ X a ga) (hb:EJ X b gb):EJ X (.IfExp c a b pos) (dIf tA ga gb):=⟨d_if (hc:=hc.h) (ha:=ha.h) (hb:=hb.h)⟩
end
section
variable {X:Cx} {x:Str} {p pos:Pos} {e:Expr} {es:List Expr} {t:DA} {id T:String} {r:DSp}
theorem d_callBj (hc:CallR X (.builtin id) (upC X.K r)) (hg:Gl X x) (hm:X.mg x=none) (hv:bootBuiltins x=some (.builtin id)) (ha:AJ X (e::es) t) (hn:x≠"__name__":=by decide) (hdb:(x == ("__debug__":Str))=false:=by decide) (he:starEach (e::es) X.env=(false,eval e X.env)::starEach es X.env:=by exact star_cons rfl) (hpl:(backTo pos (starEach es X.env)).any (·.1)=false:=by exact star_any rfl):EJ X (.Call (.Name x p) (e::es) [] pos) (dCall r t):=⟨d_callB (hc:=hc) (hg:=hg) (hm:=hm) (hv:=hv) (ha:=ha.h) (hn:=hn) (hdb:=hdb) (he:=he) (hpl:=hpl)⟩
end
section
variable {X:Cx} {x:Str} {p pos:Pos} {e:Expr} {es:List Expr} {t:DA} {id T:String} {r:DSp}
theorem d_callTj (hc:CallR X (.type T) (upC X.K r)) (hg:Gl X x) (hm:X.mg x=none) (hv:bootBuiltins x=some (.type T)) (ha:AJ X (e::es) t) (hn:x≠"__name__":=by decide) (hdb:(x == ("__debug__":Str))=false:=by decide) (he:starEach (e::es) X.env=(false,eval e X.env)::starEach es X.env:=by exact star_cons rfl) (hpl:(backTo pos (starEach es X.env)).any (·.1)=false:=by exact star_any rfl):EJ X (.Call (.Name x p) (e::es) [] pos) (dCall r t):=⟨d_callT (hc:=hc) (hg:=hg) (hm:=hm) (hv:=hv) (ha:=ha.h) (hn:=hn) (hdb:=hdb) (he:=he) (hpl:=hpl)⟩
end
section
variable {X:Cx} {x:Str} {p pos:Pos} {e:Expr} {es:List Expr} {t:DA} {id T:String} {r:DSp}
theorem d_callj {n:Nat} {F:DSp} (c:Own X.prog X.w X.K X.mg X.base x n F) (hr:Room n X.A) (hg:Gl X x) (ha:AJ X (e::es) t) (hdb:(x == ("__debug__":Str))=false:=by decide) (he:starEach (e::es) X.env=(false,eval e X.env)::starEach es X.env:=by exact star_cons rfl) (hpl:(backTo pos (starEach es X.env)).any (·.1)=false:=by exact star_any rfl):EJ X (.Call (.Name x p) (e::es) [] pos) (dCall F t):=⟨d_call (c:=c) (hr:=hr) (hg:=hg) (ha:=ha.h) (hdb:=hdb) (he:=he) (hpl:=hpl)⟩
end
section
variable {X:Cx} {x:Str} {p pos:Pos} {e:Expr} {es:List Expr} {t:DA} {id T:String} {r:DSp}
theorem d_bitsj {o:Expr} {g:DE} {apos cpos:Pos} (ho:EJ X o g) (hbase:attributeBase o "bit_length" X.env (eval o X.env)=eval o X.env:=by rfl) (hline:(apos.endLine == cpos.line)=true:=by rfl):EJ X (.Call (.Attribute o "bit_length" apos) [] [] cpos) (dUn mBits g):=⟨d_bits (ho:=ho.h) (hbase:=hbase) (hline:=hline)⟩
end
section
variable {X:Cx} {x:Str} {p pos:Pos} {e:Expr} {es:List Expr} {t:DA} {id T:String} {r:DSp}
theorem do_nonej:OJ X none oNone:=⟨do_none⟩
end
section
variable {X:Cx} {x:Str} {p pos:Pos} {e:Expr} {es:List Expr} {t:DA} {id T:String} {r:DSp}
theorem do_somej {e:Expr} {g:DE} (he:EJ X e g):OJ X (some e) (oSome g):=⟨do_some (he:=he.h)⟩
end
section
variable {X:Cx} {st:Stmt} {rest:List Stmt} {g h:DS} {e:Expr} {ge:DE} {pos:Pos}
theorem ds_nilj:SsJ X [] dNext:=⟨ds_nil⟩
end
section
variable {X:Cx} {st:Stmt} {rest:List Stmt} {g h:DS} {e:Expr} {ge:DE} {pos:Pos}
theorem ds_consj (h1:SJ X st g) (h2:SsJ X rest h):SsJ X (st::rest) (dSeq g h):=⟨ds_cons (h1:=h1.h) (h2:=h2.h)⟩
end
section
variable {X:Cx} {st:Stmt} {rest:List Stmt} {g h:DS} {e:Expr} {ge:DE} {pos:Pos}
theorem ds_onej (h1:SJ X st g):SsJ X [st] g:=⟨ds_one (h1:=h1.h)⟩
end
section
variable {X:Cx} {st:Stmt} {rest:List Stmt} {g h:DS} {e:Expr} {ge:DE} {pos:Pos}
theorem dst_exprj (he:EJ X e ge) (hs:swapsWith e none pos.line X.env=pure false:=by rfl):SJ X (.Expr e pos) (dDrop ge):=⟨dst_expr (he:=he.h) (hs:=hs)⟩
end
section
variable {X:Cx} {st:Stmt} {rest:List Stmt} {g h:DS} {e:Expr} {ge:DE} {pos:Pos}
theorem dst_retj (he:EJ X e ge):SJ X (.Return (some e) pos) (dRet ge):=⟨dst_ret (he:=he.h)⟩
end
section
variable {X:Cx} {st:Stmt} {rest:List Stmt} {g h:DS} {e:Expr} {ge:DE} {pos:Pos}
theorem dst_ifj {c:Expr} {a b:List Stmt} {gc:DT} (hc:TJ X c gc) (ha:SsJ X a g) (hb:SsJ X b h):SJ X (.If c a b pos) (dIfS gc g h):=⟨dst_if (hc:=hc.h) (ha:=ha.h) (hb:=hb.h)⟩
end
section
variable {X:Cx} {st:Stmt} {rest:List Stmt} {g h:DS} {e:Expr} {ge:DE} {pos:Pos}
theorem dst_neverj:SJ X st dNever:=⟨dst_never⟩
end
section
variable {X:Cx} {st:Stmt} {rest:List Stmt} {g h:DS} {e:Expr} {ge:DE} {pos:Pos}
theorem dst_setj {i:Nat} {x:Str} {pos':Pos} (hN:X.N.Nodup) (he:EJ X e ge) (hi:X.N[i]?=some x:=by rfl) (hx:Loc X.env.scope x:=by first | exact Or.inl rfl | exact Or.inr rfl) (hs:swapsWith e (some (.Name x pos')) pos.line X.env=pure false:=by rfl) (hf:X.fn x=true\/X.env.scope.names.lookup x=some .local:=by first | exact .inl rfl | exact .inr rfl | assumption):SJ X (.Assign [.Name x pos'] e pos) (dSet i ge):=⟨dst_set (hN:=hN) (he:=he.h) (hi:=hi) (hx:=hx) (hs:=hs) (hf:=hf)⟩
end
section
variable {X:Cx} {st:Stmt} {rest:List Stmt} {g h:DS} {e:Expr} {ge:DE} {pos:Pos}
theorem dst_parj {i j:Nat} {x y:Str} {a b:Expr} {ta:DA} {px py pt:Pos} {kt k2 pt2} (hc:X.calm=true) (hN:X.N.Nodup) (hij:i≠j) (ha:AJ X [a,b] ta) (hi:X.N[i]?=some x:=by rfl) (hj:X.N[j]?=some y:=by rfl) (hx:X.env.scope.names.lookup x=some .local:=by rfl) (hy:X.env.scope.names.lookup y=some .local:=by rfl) (hw:swappedStores [.Tuple [.Name x px,.Name y py] kt pt] (.Tuple [a,b] k2 pt2) X.env=pure (some [x,y]):=by rfl) (hs:swapsWithSole [.Tuple [.Name x px,.Name y py] kt pt] (.Tuple [a,b] k2 pt2) pos.line X.env=pure false:=by rfl):SJ X (.Assign [.Tuple [.Name x px,.Name y py] kt pt] (.Tuple [a,b] k2 pt2) pos) (dPar i j ta):=⟨dst_par (hc:=hc) (hN:=hN) (hij:=hij) (ha:=ha.h) (hi:=hi) (hj:=hj) (hx:=hx) (hy:=hy) (hw:=hw) (hs:=hs)⟩
end
section
variable {X:Cx} {st:Stmt} {rest:List Stmt} {g h:DS} {e:Expr} {ge:DE} {pos:Pos}
theorem dg_namej {i:Nat} {x:Str} (hN:X.N.Nodup) (hi:X.N[i]?=some x:=by rfl) (hx:Loc X.env.scope x:=by first | exact Or.inl rfl | exact Or.inr rfl) (hf:X.fn x=true\/X.env.scope.names.lookup x=some .local:=by first | exact .inl rfl | exact .inr rfl | assumption):GJ X (.Name x pos) (dgName i):=⟨dg_name (hN:=hN) (hi:=hi) (hx:=hx) (hf:=hf)⟩
end
section
variable {X:Cx} {st:Stmt} {rest:List Stmt} {g h:DS} {e:Expr} {ge:DE} {pos:Pos}
theorem dgs_nilj:GsJ X [] dgNil:=⟨dgs_nil⟩
end
section
variable {X:Cx} {st:Stmt} {rest:List Stmt} {g h:DS} {e:Expr} {ge:DE} {pos:Pos}
theorem dgs_consj {es:List Expr} {t:DG} {u:DGs} (h1:GJ X e t) (h2:GsJ X es u) (hs:(assignEach (e::es) X.env).map (·.2)=assign e X.env::(assignEach es X.env).map (·.2):=by rfl):GsJ X (e::es) (dgCons t u):=⟨dgs_cons (h1:=h1.h) (h2:=h2.h) (hs:=hs)⟩
end
section
variable {X:Cx} {st:Stmt} {rest:List Stmt} {g h:DS} {e:Expr} {ge:DE} {pos:Pos}
theorem dst_asgj {tg e:Expr} {g:DG} (he:EJ X e ge) (hg:GJ X tg g) (hs:swapsWithSole [tg] e pos.line X.env=pure false:=by rfl) (hw:swappedStores [tg] e X.env=pure none:=by rfl) (h1:(assignEach [tg] X.env).map (·.2)=[assign tg X.env]:=by rfl):SJ X (.Assign [tg] e pos) (dAsg ge g):=⟨dst_asg (he:=he.h) (hg:=hg.h) (hs:=hs) (hw:=hw) (h1:=h1)⟩
end
section
variable {X:Cx} {st:Stmt} {rest:List Stmt} {g h:DS} {e:Expr} {ge:DE} {pos:Pos}
theorem dst_whilej {c:Expr} {body:List Stmt} {gc:DT} (hp:PassesOwn (model X.prog X.w) X.A X.env X.xe) (hc:TJ X c gc) (hb:SsJ X body g):SJ X (.While c body [] pos) (dWhile gc g):=⟨dst_while (hp:=hp) (hc:=hc.h) (hb:=hb.h)⟩
end
section
variable {X:Cx} {st:Stmt} {rest:List Stmt} {g h:DS} {e:Expr} {ge:DE} {pos:Pos}
theorem dst_forRj {tg a:Expr} {body:List Stmt} {ta:DA} {gg:DG} {p pos':Pos} (hp:PassesOwn (model X.prog X.w) X.A X.env X.xe) (hc:X.calm=true) (hgl:Gl X "range") (hm:X.mg "range"=none) (ha:AJ X [a] ta) (hg:GJ X tg gg) (hb:SsJ X body g) (hs1:starEach [a] X.env=[(false,eval a X.env)]:=by rfl) (hs:∀ x,foldedSetIterable (.Call (.Name "range" p) [a] [] pos') X.env x=pure x:=by intro _; rfl):SJ X (.For tg (.Call (.Name "range" p) [a] [] pos') body [] pos) (dForR ta gg g):=⟨dst_forR (hp:=hp) (hc:=hc) (hgl:=hgl) (hm:=hm) (ha:=ha.h) (hg:=hg.h) (hb:=hb.h) (hs1:=hs1) (hs:=hs)⟩
end
section
variable {P:Program} {w:World} {K:Fg} {mg:Str->Option Value} {base:Heap}
theorem _root_.L2.Fun.okJ {x qual:Str} {st:Stmt} {f:Addr} {fd:FuncData} {N ps:List Str} {k:Nat} {F:DSp} (Fn:Fun K x qual st f fd) (Sc:FnScope N ps (defScope st)) (len:∀ ds S k,F ds S k->ds.length=ps.length)
    (hbody:∀ (cdv:Value) (A:Around) (outer:List Env) (s:Shared) (H:Hp) (E:XK),Room k (A.deeper (envOfC qual (defScope st) s.heap.objs.size f cdv))->
      ∃ g,SsJ (cxOf CX0 P w K mg base N qual (defScope st) f cdv A outer s H E).nox (defBody st) g/\
        ∀ ds S k,F ds S k->g {nx:=fun _ S'=>k .non S',rt:=k} (ds.map some++List.replicate (N.length - ps.length) none) S):FnOk P w K mg base CX0 (k+1) f fd ps (spU K F):=
  Fn.okD Sc len fun cdv A outer s H E hr=>let ⟨g,h,q⟩:=hbody cdv A outer s H E hr; ⟨g,h.h,q⟩
end
end DL
namespace L2
open PySem PySem.Spec PyProof.Rows
section
variable {X:Cx} {pos:Pos}
def gLst (K:PySem.W.Frag) (n:Nat) (t:TGs):TG:=fun v σ H Q=>∃ a xs,v=.ref a/\SqL K H a xs/\xs.length=n/\t xs σ H Q
theorem pg_lst {es:List Expr} {k:Nat} {t:TGs} {n:Nat} (hc:X.calm=true) (h:PGs X es t)
    (hn:(assignEach es X.env).length=n:=by rfl) (hst:(assignEach es X.env).findIdx? (·.1)=none:=by rfl):PG X (.Tuple es k pos) (gLst X.K n t):=by
  intro pins s σ H v u Q I r hw
  obtain⟨a,xs,e1,hq,hl,hw⟩:=hw
  subst e1
  cases r
  obtain⟨its,rv,ht,hz⟩:=I.list hq
  have e2:(assignEach es X.env).length=its.toArray.size:=by simp [hn,<- hl,rv.length]
  rw [arm_assign_Tuple]
  refine wpAny_bind (wpAny_standAt ?_)
  unfold unpack
  rw [e2,hst]
  refine wpAny_bind (wpAny_holding (PySem.W.kun_itemsOf (I.ok.hd hc) ht.isList fun h' hx=>?_))
  have I1:Inv X pins σ H {s with heap:=h'}:=I.kept (t':=s.toks) fun b o e=>hx b o (Nat.ne_of_lt (Heap.lt_size e)) e
  exact h pins _ σ H xs _ Q I1 (by simpa using rv) hw
theorem PG.or {e:Expr} {t t':TG} (h:PG X e t) (h':PG X e t'):PG X e (fun v σ H Q=>t v σ H Q\/t' v σ H Q):=by
  intro pins s σ H v u Q I r q
  rcases q with q | q
  · exact h pins s σ H v u Q I r q
  · exact h' pins s σ H v u Q I r q
end
def CapOk (X:Cx) (scope:Scope):List (Option Nat)->List Str->Prop
  | some j::r,x::xs=>(X.N[j]?=some x/\(X.env.scope.names.lookup x=some .cell\/X.env.scope.names.lookup x=some .free)/\((relabel scope X.env).names.lookup x=some .cell\/(relabel scope X.env).names.lookup x=some .free))/\CapOk X scope r xs
  | none::r,_::xs=>CapOk X scope r xs
  | _,_=>True
theorem CapOk.get {X:Cx} {scope:Scope}:∀ {cap:List (Option Nat)} {N:List Str},CapOk X scope cap N->∀ (i j:Nat) (x:Str),cap[i]?=some (some j)->N[i]?=some x->
    X.N[j]?=some x/\(X.env.scope.names.lookup x=some .cell\/X.env.scope.names.lookup x=some .free)/\((relabel scope X.env).names.lookup x=some .cell\/(relabel scope X.env).names.lookup x=some .free)
  | [],_,_,_,_,_,h,_=>by simp at h
  | _::_,[],_,_,_,_,_,h=>by simp at h
  | some _::_,_::_,h,0,j,x,h1,h2=>by
    simp at h1 h2
    subst h1 h2
    exact h.1
  | none::_,_::_,_,0,j,x,h1,_=>by simp at h1
  | some _::_,_::_,h,i+1,j,x,h1,h2=>CapOk.get h.2 i j x (by simpa using h1) (by simpa using h2)
  | none::r,_::xs,h,i+1,j,x,h1,h2=>CapOk.get (show CapOk X scope r xs from h) i j x (by simpa using h1) (by simpa using h2)
def SubOk (X:Cx):List (Str×Addr)->Prop
  | []=>True
  | p::r=>X.env.cells.lookup p.1=some p.2/\SubOk X r
theorem SubOk.mem {X:Cx}:∀ {cl:List (Str×Addr)},SubOk X cl->∀ p∈cl,X.env.cells.lookup p.1=some p.2
  | [],_,p,hp=>by simp at hp
  | q::r,h,p,hp=>by
    rcases List.mem_cons.mp hp with e | e
    · subst e; exact h.1
    · exact SubOk.mem h.2 p e
theorem compSc {X:Cx} {scope:Scope} {cl:List (Str×Addr)} {N:List Str} {cap:List (Option Nat)} (h1:scope.kind=.function) (h2:closureFor scope X.env=pure cl) (h3:(scope.names.all fun y=>y.2 != NameKind.cell)=true)
    (h4:(scope.names.all fun y=>y.2 != NameKind.local || scope.names.lookup y.1 == some NameKind.local)=true) (h5:SubOk X cl)
    (h6:((relabel scope X.env).names.all fun y=>(y.2 != NameKind.cell && y.2 != NameKind.free) || (cl.lookup y.1).isSome)=true) (h7:cap.length=N.length) (h8:CapOk X scope cap N):CompSc X scope cl N cap:=⟨h1,h2,h3,h4,h5.mem,h6,h7,h8.get⟩
end L2
namespace DL
open PySem PySem.Spec PyProof.Rows L2
section
variable {X:Cx} {pos:Pos}
def dgSeq (n:Nat) (t:DGs):DG:=fun d L S k=>match dItems S d with
  | some p=>p.1.length=n/\t p.1 L S k
  | none=>False
theorem dg_seq {es:List Expr} {k:Nat} {t:DGs} {n:Nat} (hc:X.calm=true) (h:GsJ X es t) (hn:(assignEach es X.env).length=n:=by rfl) (hst:(assignEach es X.env).findIdx? (·.1)=none:=by rfl):GJ X (.Tuple es k pos) (dgSeq n t):=
  ⟨PG.imp (PG.or (pg_tup hc h.h hn hst) (pg_lst hc h.h hn hst)) fun v σ H Q ⟨d,L,S,k,i1,hL,hS,h,m⟩=>by
    cases d with
    | tup ds=>
      obtain⟨a,xs,rfl,t1,j⟩:=isTup.mp i1
      exact .inl ⟨a,xs,rfl,t1,by rw [<- j.length]; exact h.1,ds,L,S,k,j,hL,hS,h.2,m⟩
    | rl ds=>
      obtain⟨a,xs,rfl,t1,j⟩:=isRl.mp i1
      exact .inr ⟨a,xs,rfl,t1.sq,by rw [<- j.length]; exact h.1,ds,L,S,k,j,hL,hS,h.2,m⟩
    | ref a=>
      have e1:=isRef.mp i1
      subst e1
      cases z:S a with
      | none=>simp only [dgSeq,dItems,z] at h
      | some o=>
        cases o with
        | dic=>simp only [dgSeq,dItems,z] at h
        | exc _=>simp only [dgSeq,dItems,z] at h
        | fn _=>simp only [dgSeq,dItems,z] at h
        | tbl _=>simp only [dgSeq,dItems,z] at h
        | gen _=>simp only [dgSeq,dItems,z] at h
        | lst ds=>
          simp only [dgSeq,dItems,z] at h
          obtain⟨xs,hl,j⟩:=hS.lst z
          exact .inr ⟨a,xs,rfl,SqL.of hl,by rw [<- j.length]; exact h.1,ds,L,S,k,j,hL,hS,h.2,m⟩
    | _=>exact(show False from h).elim⟩
end
def capL (cap:List (Option Nat)) (L:Lo):Lo:=cap.map fun o=>match o with
  | some j=>(L[j]?).join
  | none=>none
theorem Lc.cap {K:Fg} {H:Hp} {L:Lo} {σ:L2.St} (hL:Lc K H L σ):∀ cap:List (Option Nat),Lc K H (capL cap L) (capSt cap σ)
  | []=>rfl
  | Option.none::r=>⟨_,_,rfl,Lc.cap hL r⟩
  | Option.some j::r=>by
    show Lc K H ((L[j]?).join::capL r L) ((σ[j]?).join::capSt r σ)
    cases e:L[j]? with
    | none=>exact⟨_,_,rfl,Lc.cap hL r⟩
    | some o=>
      cases o with
      | none=>exact⟨_,_,rfl,Lc.cap hL r⟩
      | some d=>
        obtain⟨v,e1,e2⟩:=hL.get e
        rw [e1]
        exact⟨v,_,rfl,e2,Lc.cap hL r⟩
abbrev DB:=Lo->DH->(Option D->DH->Prop)->Prop
def bdAll (ge:DE):DB:=fun L S k=>ge L S fun v S1=>k (some v) S1
def bdIf (c:DT) (ge:DE):DB:=fun L S k=>c L S fun b S1=>if b=true then ge L S1 fun v S2=>k (some v) S2 else k none S1
def dCLoop (ok:DH->Prop) (p:Addr) (g:DG) (bd:DB) (k:DK):List D->List D->Lo->DH->Prop
  | [],_,_,S=>ok S/\k (.ref p) S
  | d::r,acc,L,S=>ok S/\g d L S fun L1 S1=>bd L1 S1 fun o S2=>match o with
    | some v=>S2 p=some (.lst acc)/\acc.length < sizeLine/\dCLoop ok p g bd k r (acc++[v]) L1 (put S2 p (.lst (acc++[v])))
    | none=>dCLoop ok p g bd k r acc L1 S2
def dCompR (cap:List (Option Nat)) (ta:DA) (g:DG) (bd:DB):DE:=fun L S k=>ta L S fun ds S1=>match ds with
  | [.int n]=>(-(2 ^ 62)<=n/\n < 2 ^ 62)/\∀ p,S1 p=none->dCLoop (fun _=>True) p g bd k ((List.range n.toNat).map fun i=>D.int (i:Nat)) [] (capL cap L) (put S1 p (.lst []))
  | _=>False
section
variable {K:Fg} {ok:DH->Prop} {gg:DG} {ge:DE} {gc:DT} {k:DK} {ds:List D} {L:Lo} {S:DH} {σ:L2.St} {H:Hp} {J:It} {Q:VK} {p:Addr}
theorem comp_core (hL:Lc K H L σ) (hS:Hs K H S) (hp:H p=none) (h:dCLoop ok p gg (bdAll ge) k ds [] L (put S p (.lst [])))
    (n:∀ d S' v H',k d S'->Kp H H'->Hs K H' S'->IsD K H' d v->Q v H')
    (hgo:∀ i d S1 H1,ds[i]?=some d->Kp H H1->Hs K H1 S1->ok S1->J.go i H1/\∀ x H',J.yld i H1 x H'->H'=H1/\IsD K H1 d x)
    (hst:∀ S1 H1,Kp H H1->Hs K H1 S1->ok S1->J.stop ds.length H1):
    ∃ W:Nat->Nat->L2.St->Hp->Prop,(∃ m,W 0 m σ (upd H p (.lst [])))/\∀ i m σ' H',W i m σ' H'->
      (J.stop i H'/\Q (.ref p) H')\/(J.go i H'/\∃ N:L2.St->Hp->Prop,(∀ σ2 H2,N σ2 H2->∃ m',m' < m/\W (i+1) m' σ2 H2)/\∀ x H2,J.yld i H' x H2->upG K gg x σ' H2 fun σ3 H3=>up K ge σ3 H3 fun v H4=>∃ ys,H4 p=some (.lst ys)/\ys.length < sizeLine/\N σ3 (upd H4 p (.lst (ys++[v])))):=by
  refine⟨fun i m σ1 H1=>m=ds.length - i/\i<=ds.length/\∃ acc L1 S1,Lc K H1 L1 σ1/\Hs K H1 S1/\Kp H H1/\dCLoop ok p gg (bdAll ge) k (ds.drop i) acc L1 S1,⟨ds.length,by simp,Nat.zero_le _,[],L,_,hL.kp (Kp.new hp),hS.newL hp IsDs.nil,Kp.new hp,h⟩,?_⟩
  rintro i m σ1 H1 ⟨rfl,hi,acc,L1,S1,hL1,hS1,k1,w1⟩
  by_cases hlt:i < ds.length
  · have e:ds.drop i=ds[i]::ds.drop (i+1):=List.drop_eq_getElem_cons hlt
    rw [e] at w1
    obtain⟨o1,w1⟩:=w1
    obtain⟨g1,y1⟩:=hgo i ds[i] S1 H1 (by simp [hlt]) k1 hS1 o1
    refine .inr ⟨g1,fun σ' H'=>i+1<=ds.length/\∃ acc L' S',Lc K H' L' σ'/\Hs K H' S'/\Kp H H'/\dCLoop ok p gg (bdAll ge) k (ds.drop (i+1)) acc L' S',fun σ' H' ⟨q1,q2⟩=>⟨ds.length - (i+1),by omega,rfl,q1,q2⟩,fun x H' y=>?_⟩
    obtain⟨rfl,ix⟩:=y1 x H' y
    refine⟨ds[i],L1,S1,_,ix,hL1,hS1,w1,fun L2 S2 σ2 H2 q k2 hL2 hS2=>up.go hL2 hS2 q fun d S3 v H3 h3 k3 hL3 hS3 i3=>?_⟩
    obtain⟨z1,z2,z3⟩:=h3
    obtain⟨xs,hl,j⟩:=hS3.lst z1
    have k4:Kp H3 (upd H3 p (.lst (xs++[v]))):=Kp.mut hl (fun z=>z)
    exact⟨xs,hl,by rw [<- j.length]; exact z2,hlt,_,L2,_,hL3.kp k4,hS3.setL hl (j.append (IsDs.cons i3 IsDs.nil)),((k1.trans k2).trans k3).trans k4,z3⟩
  · have e:i=ds.length:=by omega
    subst e
    rw [List.drop_length] at w1
    obtain⟨o1,w1⟩:=w1
    exact .inl ⟨hst S1 H1 k1 hS1 o1,n _ S1 _ H1 w1 k1 hS1 (isRef.mpr rfl)⟩
theorem comp_coreIf (hL:Lc K H L σ) (hS:Hs K H S) (hp:H p=none) (h:dCLoop ok p gg (bdIf gc ge) k ds [] L (put S p (.lst [])))
    (n:∀ d S' v H',k d S'->Kp H H'->Hs K H' S'->IsD K H' d v->Q v H')
    (hgo:∀ i d S1 H1,ds[i]?=some d->Kp H H1->Hs K H1 S1->ok S1->J.go i H1/\∀ x H',J.yld i H1 x H'->H'=H1/\IsD K H1 d x)
    (hst:∀ S1 H1,Kp H H1->Hs K H1 S1->ok S1->J.stop ds.length H1):
    ∃ W:Nat->Nat->L2.St->Hp->Prop,(∃ m,W 0 m σ (upd H p (.lst [])))/\∀ i m σ' H',W i m σ' H'->
      (J.stop i H'/\Q (.ref p) H')\/(J.go i H'/\∃ N:L2.St->Hp->Prop,(∀ σ2 H2,N σ2 H2->∃ m',m' < m/\W (i+1) m' σ2 H2)/\∀ x H2,J.yld i H' x H2->upG K gg x σ' H2 fun σ3 H3=>upT K gc σ3 H3 fun b H3'=>if b=true then up K ge σ3 H3' fun v H4=>∃ ys,H4 p=some (.lst ys)/\ys.length < sizeLine/\N σ3 (upd H4 p (.lst (ys++[v]))) else N σ3 H3'):=by
  refine⟨fun i m σ1 H1=>m=ds.length - i/\i<=ds.length/\∃ acc L1 S1,Lc K H1 L1 σ1/\Hs K H1 S1/\Kp H H1/\dCLoop ok p gg (bdIf gc ge) k (ds.drop i) acc L1 S1,⟨ds.length,by simp,Nat.zero_le _,[],L,_,hL.kp (Kp.new hp),hS.newL hp IsDs.nil,Kp.new hp,h⟩,?_⟩
  rintro i m σ1 H1 ⟨rfl,hi,acc,L1,S1,hL1,hS1,k1,w1⟩
  by_cases hlt:i < ds.length
  · have e:ds.drop i=ds[i]::ds.drop (i+1):=List.drop_eq_getElem_cons hlt
    rw [e] at w1
    obtain⟨o1,w1⟩:=w1
    obtain⟨g1,y1⟩:=hgo i ds[i] S1 H1 (by simp [hlt]) k1 hS1 o1
    refine .inr ⟨g1,fun σ' H'=>i+1<=ds.length/\∃ acc L' S',Lc K H' L' σ'/\Hs K H' S'/\Kp H H'/\dCLoop ok p gg (bdIf gc ge) k (ds.drop (i+1)) acc L' S',fun σ' H' ⟨q1,q2⟩=>⟨ds.length - (i+1),by omega,rfl,q1,q2⟩,fun x H' y=>?_⟩
    obtain⟨rfl,ix⟩:=y1 x H' y
    refine⟨ds[i],L1,S1,_,ix,hL1,hS1,w1,fun L2 S2 σ2 H2 q k2 hL2 hS2=>upT.go hL2 hS2 q fun b S2' H2' h2 k2' hL2' hS2'=>?_⟩
    cases b with
    | true=>
      rw [if_pos rfl] at h2 ⊢
      refine up.go hL2' hS2' h2 fun d S3 v H3 h3 k3 hL3 hS3 i3=>?_
      obtain⟨z1,z2,z3⟩:=h3
      obtain⟨xs,hl,j⟩:=hS3.lst z1
      have k4:Kp H3 (upd H3 p (.lst (xs++[v]))):=Kp.mut hl (fun z=>z)
      exact⟨xs,hl,by rw [<- j.length]; exact z2,hlt,_,L2,_,hL3.kp k4,hS3.setL hl (j.append (IsDs.cons i3 IsDs.nil)),(((k1.trans k2).trans k2').trans k3).trans k4,z3⟩
    | false=>
      rw [if_neg Bool.false_ne_true] at h2 ⊢
      exact⟨hlt,acc,L2,S2',hL2',hS2',(k1.trans k2).trans k2',h2⟩
  · have e:i=ds.length:=by omega
    subst e
    rw [List.drop_length] at w1
    obtain⟨o1,w1⟩:=w1
    exact .inl ⟨hst S1 H1 k1 hS1 o1,n _ S1 _ H1 w1 k1 hS1 (isRef.mpr rfl)⟩
end
theorem range_go {K:Fg} {H:Hp} {n:Int}:∀ i d (S1:DH) H1,((List.range n.toNat).map fun i=>D.int (i:Nat))[i]?=some d->Kp H H1->Hs K H1 S1->(fun _=>True:DH->Prop) S1->(Itr 0 n.toNat).go i H1/\∀ x H',(Itr 0 n.toNat).yld i H1 x H'->H'=H1/\IsD K H1 d x:=by
  intro i d S1 H1 e _ _ _
  rw [List.getElem?_map] at e
  cases q:(List.range (Int.toNat _))[i]? with
  | none=>rw [q] at e; cases e
  | some z=>
    rw [q] at e
    cases e
    obtain⟨hz1,hz2⟩:=List.getElem?_eq_some_iff.mp q
    rw [List.length_range] at hz1
    rw [List.getElem_range] at hz2
    subst hz2
    exact⟨hz1,fun x H' y=>⟨y.1,by rw [y.2]; exact isInt.mpr (by rw [Int.zero_add])⟩⟩
section
variable {X:Cx} {elt tg iter c a:Expr} {scope:Scope} {cl:List (Str×Addr)} {N:List Str} {cap:List (Option Nat)} {pos p pos':Pos} {gg:DG} {ge gi:DE} {gc:DT} {ta:DA}
theorem d_compRj (hc:X.calm=true) (Sc:CompSc X scope cl N cap) (hgl:Gl X "range") (hm:X.mg "range"=none) (ha:AJ X [a] ta) (hg:∀ s0 H0 ex C,GJ (cxC X scope cl N s0 H0 ex C) tg gg) (he:∀ s0 H0 ex C,EJ (cxC X scope cl N s0 H0 ex C) elt ge)
    (hs1:starEach [a] X.env=[(false,eval a X.env)]:=by exact star_cons rfl) (hs:∀ x,foldedSetIterable (.Call (.Name "range" p) [a] [] pos') X.env x=pure x:=by intro _; rfl):
    EJ X (.ListComp elt [⟨tg,.Call (.Name "range" p) [a] [] pos',[],0⟩] scope pos) (dCompR cap ta gg (bdAll ge)):=
  ⟨PE.imp (pe_comp hc Sc (pi_range1 hgl hm ha.h hs1) (fun s0 H0 ex C=>(hg s0 H0 ex C).h) (fun s0 H0 ex C=>(he s0 H0 ex C).h) hs) fun σ H Q ⟨L,S,k,hL,hS,h,n⟩=>upA.go hL hS h fun ds S1 vs H1 h1 k1 hL1 hS1 i1=>by
    split at h1
    · obtain⟨v,rfl,j⟩:=isDs1 i1
      have e:=isInt.mp j
      subst e
      obtain⟨⟨h2,h3⟩,h1⟩:=h1
      refine⟨_,rfl,h2,h3,fun D hD=>comp_core (hL1.cap cap) hS1 hD (h1 D (hS1.free hD)) (fun d S' v H' q k3=>n d S' v H' q (k1.trans k3)) range_go fun S2 H2 k2 hS2 _=>?_⟩
      rw [List.length_map,List.length_range]
      exact Nat.le_refl _
    · exact h1.elim⟩
end
def GTup (K:Fg) (mg:Str->Option Value) (x:Str) (ns:List Int):Prop:=∃ p o its n,mg x=some (.ref p)/\K.lookup p=some o/\o.cls=.type "tuple"/\o.data=.seq its n/\its.size<=sizeLine/\Vals (ns.map V.int) its.toList
theorem isDs_ints {K:Fg} {H:Hp}:∀ ns:List Int,IsDs K H (ns.map D.int) (ns.map V.int)
  | []=>IsDs.nil
  | _::ns=>IsDs.cons (isInt.mpr rfl) (isDs_ints ns)
theorem d_gtup {X:Cx} {x:Str} {ns:List Int} {pos:Pos} (g:GTup X.K X.mg x ns) (hg:Gl X x) (hd:(x == ("__debug__":Str))=false:=by decide):EJ X (.Name x pos) (dC (.tup (ns.map D.int))):=by
  obtain⟨p,o,its,n,hm,h1,h2,h3,h4,h5⟩:=g
  exact⟨d_c (pe_glob (v:=.ref p) hg hm rfl hd) fun H=>isTup.mpr ⟨p,_,rfl,.inr ⟨o,its,n,h1,h2,h3,h4,h5⟩,isDs_ints ns⟩⟩
theorem upR.imp {K:Fg} {r r':D2} (i:∀ d e S k,r' d e S k->r d e S k):∀ x y H Q,upR K r' x y H Q->upR K r x y H Q:=fun x y H Q ⟨d,e,S,k,a,b,c,h,n⟩=>⟨d,e,S,k,a,b,c,i d e S k h,n⟩
theorem upC.imp {K:Fg} {r r':DSp} (i:∀ ds S k,r' ds S k->r ds S k):∀ xs H Q,upC K r' xs H Q->upC K r xs H Q:=fun xs H Q ⟨ds,S,k,a,b,h,n⟩=>⟨ds,S,k,a,b,i ds S k h,n⟩
theorem IxR.imp {X:Cx} {r r':R2} (h:IxR X r) (i:∀ x y H Q,r' x y H Q->r x y H Q):IxR X r':=fun value slice pins s σ H x y v u Q I rx ry q=>h value slice pins s σ H x y v u Q I rx ry (i x y H Q q)
theorem CallR.imp {X:Cx} {f:Value} {r r':List V->Hp->VK->Prop} (h:CallR X f r) (i:∀ xs H Q,r' xs H Q->r xs H Q):CallR X f r':=fun pins s σ H xs us Q I rs q=>h pins s σ H xs us Q I rs (i xs H Q q)
def dIxE:D2:=fun d e S k=>match d,e with
  | .tup ds,.int i=>(match L2.atI ds i with
    | some c=>k c S
    | none=>False)
  | .rl ds,.int i=>∃ c,L2.atI ds i=some c/\k c S
  | .ref a,.int i=>∃ ds c,S a=some (.lst ds)/\L2.atI ds i=some c/\k c S
  | _,_=>False
theorem x_ixE {X:Cx}:IxR X (upR X.K dIxE):=IxR.imp x_ix (upR.imp fun d e S k h=>by
  unfold dIxE at h
  split at h
  · exact h
  · obtain⟨c,h1,h2⟩:=h
    simp only [dIx,h1]
    exact h2
  · obtain⟨ds,c,h0,h1,h2⟩:=h
    simp only [dIx,h0,h1]
    exact h2
  · exact h.elim)
def bLenE:DSp:=fun ds S k=>match ds with
  | [.tup xs]=>k (.int xs.length) S
  | [.rl xs]=>k (.int xs.length) S
  | [.ref a]=>∃ xs,S a=some (.lst xs)/\k (.int xs.length) S
  | _=>False
theorem b_lenE {X:Cx}:CallR X (.builtin "len") (upC X.K bLenE):=CallR.imp b_len (upC.imp fun ds S k h=>by
  unfold bLenE at h
  split at h
  · exact h
  · exact h
  · obtain⟨xs,h1,h2⟩:=h
    simp only [bLen,h1]
    exact h2
  · exact h.elim)
def dForE (gi:DE) (g:DG) (b:DS):DS:=fun M L S=>gi L S fun d S1=>∃ p,dItems S1 d=some p/\dLoop (okFor p) g b M p.1 L S1
def Mono (g:DE):Prop:=∀ L S (k k':DK),(∀ d S,k d S->k' d S)->g L S k->g L S k'
def dgSeqE (n:Nat) (t:DGs):DG:=fun d L S k=>∃ p,dItems S d=some p/\p.1.length=n/\t p.1 L S k
theorem GJ.imp {X:Cx} {e:Expr} {g g':DG} (h:GJ X e g) (i:∀ d L S k,g' d L S k->g d L S k):GJ X e g':=⟨PG.imp h.h fun v σ H Q ⟨d,L,S,k,a,hL,hS,q,n⟩=>⟨d,L,S,k,a,hL,hS,i d L S k q,n⟩⟩
theorem dg_seqE {X:Cx} {pos:Pos} {es:List Expr} {k:Nat} {t:DGs} {n:Nat} (hc:X.calm=true) (h:GsJ X es t) (hn:(assignEach es X.env).length=n:=by rfl) (hst:(assignEach es X.env).findIdx? (·.1)=none:=by rfl):GJ X (.Tuple es k pos) (dgSeqE n t):=
  GJ.imp (dg_seq hc h hn hst) fun d L S k ⟨p,h1,h2⟩=>by
    simp only [dgSeq,h1]
    exact h2
section
variable {X:Cx} {pos:Pos}
def dgSubE (go gi:DE):DG:=fun d L S k=>go L S fun o S1=>gi L S1 fun i S2=>match o,i with
  | .ref a,.int j=>∃ ds n,S2 a=some (.lst ds)/\ixN ds.length j=some n/\k L (put S2 a (.lst (ds.set n d)))
  | _,_=>False
theorem dg_subE {o i:Expr} {go gi:DE} (ho:EJ X o go) (hi:EJ X i gi)
    (ha:∀ v,assign (.Subscript o i pos) X.env v=(do
      let ov <- holding [v] (eval o X.env)
      let iv <- holding [v,ov] (eval i X.env)
      standAt pos
      holding [v,ov,iv] (setItem ov iv v)
      release [v,ov,iv] []):=by intro _; rfl):GJ X (.Subscript o i pos) (dgSubE go gi):=
  ⟨PG.imp (pg_sub ho.h hi.h set_list ha) fun v σ H Q ⟨d,L,S,k,i1,hL,hS,h,n⟩=>up.go hL hS h fun c S1 u H1 h1 k1 hL1 hS1 j1=>up.go hL1 hS1 h1 fun c2 S2 u2 H2 h2 k2 hL2 hS2 j2=>by
    cases c with
    | ref a=>
      cases c2 with
      | int z=>
        have e1:=isRef.mp j1
        have e2:=isInt.mp j2
        subst e1
        subst e2
        obtain⟨ds,m,w,q,h2⟩:=h2
        obtain⟨vs,hl,j⟩:=hS2.lst w
        refine⟨a,vs,z,m,rfl,rfl,hl,by rw [<- j.length]; exact q,?_⟩
        have k3:Kp H2 (upd H2 a (.lst (vs.set m v))):=Kp.mut hl (fun z=>z)
        exact n L _ σ _ h2 (k1.trans (k2.trans k3)) (hL2.kp k3) (hS2.setL hl (j.set m (i1.kp (k1.trans k2))))
      | _=>exact(show False from h2).elim
    | _=>exact(show False from h2).elim⟩
theorem seq_go {K:Fg} {S1:DH} {H1:Hp} {d:D} {v:V} {p:List D×Option Addr} (hS1:Hs K H1 S1) (i1:IsD K H1 d v) (hp:dItems S1 d=some p):∃ a,v=.ref a/\
    (((∃ xs, SqL K H1 a xs) ∧ (∀ i c S2 H2, p.1[i]? = some c → Kp H1 H2 → Hs K H2 S2 → okFor p S2 → (Itl K a).go i H2 ∧ ∀ x H', (Itl K a).yld i H2 x H' → H' = H2 ∧ IsD K H2 c x) ∧ ∀ S2 H2, Kp H1 H2 → Hs K H2 S2 → okFor p S2 → (Itl K a).stop p.1.length H2) ∨
     ((∃ xs,SqT K H1 a xs)/\(∀ i c S2 H2,p.1[i]?=some c->Kp H1 H2->Hs K H2 S2->okFor p S2->(Itt K a).go i H2/\∀ x H',(Itt K a).yld i H2 x H'->H'=H2/\IsD K H2 c x)/\∀ S2 H2,Kp H1 H2->Hs K H2 S2->okFor p S2->(Itt K a).stop p.1.length H2)):=by
  cases d with
  | tup ds=>
    cases hp
    obtain⟨a,xs,rfl,t,j⟩:=isTup.mp i1
    refine⟨a,rfl,.inr ⟨⟨xs,t⟩,fun i d S2 H2 e k2 hS2 _=>?_,fun S2 H2 k2 hS2 _=>⟨xs,k2.tup t,by rw [<- j.length]; exact Nat.le_refl _⟩⟩⟩
    obtain⟨w,e1,e2⟩:=j.get e
    refine⟨⟨xs,w,k2.tup t,e1⟩,fun x H' y=>⟨y.1,?_⟩⟩
    have z:=y.2 xs (k2.tup t)
    rw [e1] at z
    cases z
    exact e2.kp k2
  | rl ds=>
    cases hp
    obtain⟨a,xs,rfl,t,j⟩:=isRl.mp i1
    refine⟨a,rfl,.inl ⟨⟨xs,t.sq⟩,fun i d S2 H2 e k2 hS2 _=>?_,fun S2 H2 k2 hS2 _=>⟨xs,(k2.fro t).sq,by rw [<- j.length]; exact Nat.le_refl _⟩⟩⟩
    obtain⟨w,e1,e2⟩:=j.get e
    refine⟨⟨xs,w,(k2.fro t).sq,e1⟩,fun x H' y=>⟨y.1,?_⟩⟩
    have z:=y.2 xs (k2.fro t).sq
    rw [e1] at z
    cases z
    exact e2.kp k2
  | ref a=>
    have e1:=isRef.mp i1
    subst e1
    cases z:S1 a with
    | none=>simp only [dItems,z] at hp; cases hp
    | some o=>
      cases o with
      | dic=>simp only [dItems,z] at hp; cases hp
      | exc _=>simp only [dItems,z] at hp; cases hp
      | fn _=>simp only [dItems,z] at hp; cases hp
      | tbl _=>simp only [dItems,z] at hp; cases hp
      | gen _=>simp only [dItems,z] at hp; cases hp
      | lst ds=>
        simp only [dItems,z] at hp
        cases hp
        obtain⟨xs,hl,j⟩:=hS1.lst z
        refine⟨a,rfl,.inl ⟨⟨xs,SqL.of hl⟩,fun i d S2 H2 e k2 hS2 o2=>?_,fun S2 H2 k2 hS2 o2=>?_⟩⟩
        · obtain⟨ys,hl2,j2⟩:=hS2.lst o2
          obtain⟨w,e1,e2⟩:=j2.get e
          refine⟨⟨ys,w,SqL.of hl2,e1⟩,fun x H' y=>⟨y.1,?_⟩⟩
          have q:=y.2 ys (SqL.of hl2)
          rw [e1] at q
          cases q
          exact e2
        · obtain⟨ys,hl2,j2⟩:=hS2.lst o2
          exact⟨ys,SqL.of hl2,by rw [<- j2.length]; exact Nat.le_refl _⟩
  | _=>cases hp
theorem dst_forEj {tg iter:Expr} {body:List Stmt} {gi:DE} {gg:DG} {g:DS} (hp:PassesOwn (model X.prog X.w) X.A X.env X.xe) (hc:X.calm=true) (hi:EJ X iter gi) (hg:GJ X tg gg) (hb:SsJ X body g)
    (hs:∀ x,foldedSetIterable iter X.env x=pure x:=by intro _; rfl):SJ X (.For tg iter body [] pos) (dForE gi gg g):=
  ⟨PS.imp (ps_for hp hc (pi_seq hi.h) hg.h hb.h hs) fun N σ H ⟨L,S,M,hL,hS,h,r⟩=>up.go hL hS h fun d S1 v H1 h1 k1 hL1 hS1 i1=>by
    obtain⟨p,hp,h1⟩:=h1
    obtain⟨a,e,q⟩:=seq_go hS1 i1 hp
    refine⟨a,e,?_⟩
    rcases q with ⟨q1,q2,q3⟩ | ⟨q1,q2,q3⟩
    · exact .inl ⟨q1,for_core hL1 hS1 h1 (r.kp k1) q2 q3⟩
    · exact .inr ⟨q1,for_core hL1 hS1 h1 (r.kp k1) q2 q3⟩⟩
def dCompE (cap:List (Option Nat)) (gi:DE) (g:DG) (bd:DB):DE:=fun L S k=>gi L S fun d S1=>∃ q,dItems S1 d=some q/\∀ p,S1 p=none->dCLoop (okFor q) p g bd k q.1 [] (capL cap L) (put S1 p (.lst []))
theorem d_compEj {elt tg iter:Expr} {scope:Scope} {cl:List (Str×Addr)} {N:List Str} {cap:List (Option Nat)} {gg:DG} {ge gi:DE} (hc:X.calm=true) (Sc:CompSc X scope cl N cap) (hi:EJ X iter gi) (hg:∀ s0 H0 ex C,GJ (cxC X scope cl N s0 H0 ex C) tg gg) (he:∀ s0 H0 ex C,EJ (cxC X scope cl N s0 H0 ex C) elt ge)
    (hs:∀ x,foldedSetIterable iter X.env x=pure x:=by intro _; rfl):EJ X (.ListComp elt [⟨tg,iter,[],0⟩] scope pos) (dCompE cap gi gg (bdAll ge)):=
  ⟨PE.imp (pe_comp hc Sc (pi_seq hi.h) (fun s0 H0 ex C=>(hg s0 H0 ex C).h) (fun s0 H0 ex C=>(he s0 H0 ex C).h) hs) fun σ H Q ⟨L,S,k,hL,hS,h,n⟩=>up.go hL hS h fun d S1 v H1 h1 k1 hL1 hS1 i1=>by
    obtain⟨p,hp,h1⟩:=h1
    obtain⟨a,e,q⟩:=seq_go hS1 i1 hp
    refine⟨a,e,?_⟩
    have n':∀ d S' v H',k d S'->Kp H1 H'->Hs X.K H' S'->IsD X.K H' d v->Q v H':=fun d S' v H' q k3=>n d S' v H' q (k1.trans k3)
    rcases q with ⟨q1,q2,q3⟩ | ⟨q1,q2,q3⟩
    · exact .inl ⟨q1,fun D hD=>comp_core (hL1.cap cap) hS1 hD (h1 D (hS1.free hD)) n' q2 q3⟩
    · exact .inr ⟨q1,fun D hD=>comp_core (hL1.cap cap) hS1 hD (h1 D (hS1.free hD)) n' q2 q3⟩⟩
end
end DL
namespace L2
open PySem PySem.Spec PyProof.Rows
structure Hands (P:Program) (w:World) (it l:Addr) (st:Nat->Heap->Prop) (sq:Array Value->Heap->Prop):Prop where
  at_:∀ k h h',st k h->(∀ o,h.get? it=some o->h'.get? it=some o)->st k h'
  sqAt:∀ xs h h',sq xs h->(∀ o,h.get? l=some o->h'.get? l=some o)->sq xs h'
  obj:∀ k h,st k h->∃ o,h.get? it=some o/\∀ v,o.data≠.cell v
  item:∀ (A:Around) (k:Nat) (s:Shared) (xs:Array Value) (x:Value) (Q:Value->Shared->Prop) (E:Value->Shared->Prop),st k s.heap->sq xs s.heap->xs[k]?=some x->
    (∀ h',st (k+1) h'->Heap.SameBut it s.heap h'->Q x {s with heap:=h'})->wpAny (model P w) A (Builtin.SmallTypes.nextOf (.ref it)) Q E s
  fin:∀ (A:Around) (k:Nat) (s:Shared) (xs:Array Value) (Q:Value->Shared->Prop) (E:Value->Shared->Prop),A.handled=none->st k s.heap->sq xs s.heap->xs[k]?=none->
    (∀ h' e,Heap.ExtBut it s.heap h'->(∃ o,h'.get? e=some o/\o.cls=.type "StopIteration")->E (.ref e) {s with heap:=h'})->wpAny (model P w) A (Builtin.SmallTypes.nextOf (.ref it)) Q E s
theorem Hands.list {P:Program} {w:World} (it l:Addr):Hands P w it l (fun k h=>h.IsListIter it l k) (fun xs h=>h.IsList l xs) where
  at_:=fun _ _ _ x y=>x.at y
  sqAt:=fun _ _ _ x y=>x.at y
  obj:=fun _ _ ⟨o,e,_,d⟩=>⟨o,e,fun v z=>by rw [d] at z; cases z⟩
  item:=fun _ _ _ _ _ _ _ a b c d=>wpAny_nextOf_list_item a b c d
  fin:=fun _ _ _ _ _ _ hh a b c d=>wpAny_nextOf_list_end hh a b c d
section
variable {prog:Program} {w:World} {A:Around} {E:Value->Shared->Prop} {s:Shared}
theorem nextOf_tuple_item {it t:Addr} {i:Nat} {items} {x:Value} {Q:Value->Shared->Prop} (hit:s.heap.IsTupleIter it t i) (ht:s.heap.IsTuple t items) (hx:items[i]?=some x)
    (hQ:∀ h',h'.IsTupleIter it t (i+1)->Heap.SameBut it s.heap h'->Q x {s with heap:=h'}):wpAny (model prog w) A (Builtin.SmallTypes.nextOf (.ref it)) Q E s:=by
  obtain⟨o,ho,hc,hd⟩:=id hit
  obtain⟨ol,hol,_,nl,hdl⟩:=ht
  unfold Builtin.SmallTypes.nextOf
  refine wpAny_bind (wpAny_callSpecial?_slot (name:=Str.ofString "__next__") hit.typeIs F.slot_tuple_iterator_next (wpAny_call_entry F.slot_tuple_iterator_next hit.typeIs F.entry_tuple_iterator_next ?_ (F.args_tuple_iterator_next_1 _)))
  refine wpAny_bind (m:=field (.ref it) 0) (wpAny_field ho hd (x:=.ref t) rfl ?_)
  show wpAny _ _ (if (Value.ref t == Value.none)=true then _ else _) _ _ s
  rw [if_neg (show ¬ ((Value.ref t == Value.none)=true) from Bool.false_ne_true)]
  refine wpAny_bind (m:=field (.ref it) 1) (wpAny_field ho hd (x:=.int i 0) rfl ?_)
  refine wpAny_bind (m:=seqItems? (.ref t)) (wpAny_seqItems hol hdl ?_)
  simp only [Int.toNat_natCast,hx]
  refine wpAny_bind (wpAny_setField ho hd (by simp) (wpAny_pure ⟨x,rfl,wpAny_pure (hQ _ ⟨_,Heap.get?_update_self _ ho (Obj.isFreed_of_fields (Obj.data_mapFields hd _)),(Obj.cls_mapFields ..).trans hc,?_⟩ (Heap.SameBut.update ..))⟩))
  rw [Obj.data_mapFields hd]
  simp [rawInt]
theorem nextOf_tuple_end {it t:Addr} {i:Nat} {items} {Q:Value->Shared->Prop} (hh:A.handled=none) (hit:s.heap.IsTupleIter it t i) (ht:s.heap.IsTuple t items) (hx:items[i]?=none)
    (hE:∀ h' e,Heap.ExtBut it s.heap h'->(∃ o,h'.get? e=some o/\o.cls=.type "StopIteration")->E (.ref e) {s with heap:=h'}):wpAny (model prog w) A (Builtin.SmallTypes.nextOf (.ref it)) Q E s:=by
  obtain⟨o,ho,hc,hd⟩:=id hit
  obtain⟨ol,hol,_,nl,hdl⟩:=ht
  unfold Builtin.SmallTypes.nextOf
  refine wpAny_bind (wpAny_callSpecial?_slot (name:=Str.ofString "__next__") hit.typeIs F.slot_tuple_iterator_next (wpAny_call_entry F.slot_tuple_iterator_next hit.typeIs F.entry_tuple_iterator_next ?_ (F.args_tuple_iterator_next_1 _)))
  refine wpAny_bind (m:=field (.ref it) 0) (wpAny_field ho hd (x:=.ref t) rfl ?_)
  show wpAny _ _ (if (Value.ref t == Value.none)=true then _ else _) _ _ s
  rw [if_neg (show ¬ ((Value.ref t == Value.none)=true) from Bool.false_ne_true)]
  refine wpAny_bind (m:=field (.ref it) 1) (wpAny_field ho hd (x:=.int i 0) rfl ?_)
  refine wpAny_bind (m:=seqItems? (.ref t)) (wpAny_seqItems hol hdl ?_)
  simp only [Int.toNat_natCast,hx]
  refine wpAny_bind (wpAny_rule (wpAny_bind (wpAny_setField ho hd (by simp) ?_)))
  refine wpAny_bind (m:=newExc (.type "StopIteration") []) ?_
  simp only [newExc,newTuple]
  refine wpAny_bind (wpAny_newObj_type ?_ (by size_fits))
  refine wpAny_bind (m:=firstArgMember _ _) (wpAny_of_eq (a:=Value.none) (by first | rfl | (simp only [firstArgMember]; rfl)) ?_)
  refine wpAny_newObj_type ?_ (by size_fits)
  simp only [raiseNew]
  refine wpAny_bind (wpAny_handled ?_)
  first | rw [show A.in1.handled=none from hh] | rw [hh]
  exact wpAny_bind (wpAny_pure (wpAny_throw (hE _ _ (((Heap.SameBut.update ..).extBut.push _).push _) ⟨_,Heap.get?_push_size _ rfl,rfl⟩)))
end
theorem Hands.tuple {P:Program} {w:World} (it l:Addr):Hands P w it l (fun k h=>h.IsTupleIter it l k) (fun xs h=>h.IsTuple l xs) where
  at_:=fun _ _ _ x y=>x.at y
  sqAt:=fun _ _ _ x y=>x.at y
  obj:=fun _ _ ⟨o,e,_,d⟩=>⟨o,e,fun v z=>by rw [d] at z; cases z⟩
  item:=fun _ _ _ _ _ _ _ a b c d=>nextOf_tuple_item a b c d
  fin:=fun _ _ _ _ _ _ hh a b c d=>nextOf_tuple_end hh a b c d
section
variable {prog:Program} {w:World} {A:Around} {E:Value->Shared->Prop} {s:Shared} {z TI TO i1 i2 l1 l2:Addr} {st1 st2:Nat->Heap->Prop} {sq1 sq2:Array Value->Heap->Prop} {k1 k2:Nat} {xs ys:Array Value} {x y a b:Value}
theorem zip_item {Q:Value->Shared->Prop} (G1:Hands prog w i1 l1 st1 sq1) (G2:Hands prog w i2 l2 st2 sq2) (D:ZipApart z TI TO i1 i2 l1 l2) (hz:IsZip s.heap z TI TO .none) (hTI:IsPair s.heap TI (.ref i1) (.ref i2)) (hTO:IsPair s.heap TO a b)
    (h1:st1 k1 s.heap) (h2:st2 k2 s.heap) (hl1:sq1 xs s.heap) (hl2:sq2 ys s.heap) (hx:xs[k1]?=some x) (hy:ys[k2]?=some y)
    (hQ:∀ h',IsZip h' z TI TO (rawInt s.heap.objs.size)->IsPair h' TO x y->st1 (k1+1) h'->st2 (k2+1) h'->IsPair h' s.heap.objs.size x y->h'.objs.size=s.heap.objs.size+1->
      (∀ c o,c≠z->c≠TO->c≠i1->c≠i2->s.heap.get? c=some o->h'.get? c=some o)->Q (.ref s.heap.objs.size) {s with heap:=h'}):
    wpAny (model prog w) A (Builtin.«zip.__next__» ⟨[.ref z],[]⟩) (fun fin s'=>∃ v,fin=.done (.ret v)/\Q v s') E s:=by
  refine wpAny_bind (m:=field (.ref z) 2) (wpAny_field hz rfl (x:=.bool false) rfl ?_)
  refine wpAny_bind (m:=field (.ref z) 3) (wpAny_field hz rfl (x:=.ref TI) rfl ?_)
  refine wpAny_bind (wpAny_seqItems hTI rfl ?_)
  refine wpAny_bind (m:=Builtin.SmallTypes.ownedTupleIsFree (.ref z)) ?_
  unfold Builtin.SmallTypes.ownedTupleIsFree
  refine wpAny_bind (wpAny_field hz rfl (x:=.none) rfl (wpAny_pure ?_))
  simp only [if_true]
  refine wpAny_bind (wpAny_rule ?_)
  refine wpAny_bind (wpAny_field hz rfl (x:=.ref TO) rfl ?_)
  refine wpAny_bind (wpAny_setField_rec hz (by simp) fun g1 z1 e1=>?_)
  replace z1:IsZip g1 z TI TO .ellipsis:=z1
  refine wpAny_bind ?_
  simp only [List.zipIdx_cons,List.zipIdx_nil,List.forIn_cons,List.forIn_nil]
  refine wpAny_bind (wpAny_bind (wpAny_onRaise ?_))
  refine wpAny_bind (m:=Builtin.SmallTypes.nextOf (.ref i1)) (G1.item _ _ _ _ _ _ _ (G1.at_ _ _ _ h1 fun o q=>e1.extBut _ _ D.i1z q) (G1.sqAt _ _ _ hl1 fun o q=>e1.extBut _ _ D.l1z q) hx fun g2 t1 e2=>wpAny_pure ?_)
  have o2:IsPair g2 TO a b:=e2.extBut _ _ D.TOi1 (e1.extBut _ _ D.TOz hTO)
  refine wpAny_bind (wpAny_seqItems o2 rfl ?_)
  refine wpAny_bind (wpAny_updateSeq_pair o2 fun g3 o3 e3=>?_)
  replace o3:IsPair g3 TO x b:=o3
  refine wpAny_bind (wpAny_letGo (wpAny_pure ?_))
  refine wpAny_bind (wpAny_bind (wpAny_onRaise ?_))
  refine wpAny_bind (m:=Builtin.SmallTypes.nextOf (.ref i2)) (G2.item _ _ _ _ _ _ _ (G2.at_ _ _ _ h2 fun o q=>e3.extBut _ _ D.TOi2.symm (e2.extBut _ _ D.i12.symm (e1.extBut _ _ D.i2z q)))
    (G2.sqAt _ _ _ hl2 fun o q=>e3.extBut _ _ D.l2TO (e2.extBut _ _ D.l2i1 (e1.extBut _ _ D.l2z q))) hy fun g4 t2 e4=>wpAny_pure ?_)
  have o4:IsPair g4 TO x b:=e4.extBut _ _ D.TOi2 o3
  refine wpAny_bind (wpAny_seqItems o4 rfl ?_)
  refine wpAny_bind (wpAny_updateSeq_pair o4 fun g5 o5 e5=>?_)
  replace o5:IsPair g5 TO x y:=o5
  refine wpAny_bind (wpAny_letGo (wpAny_pure (wpAny_pure ?_)))
  refine wpAny_bind (wpAny_seqItems o5 rfl ?_)
  refine wpAny_bind (wpAny_newTuple ?_)
  have hsz:g5.objs.size=s.heap.objs.size:=by rw [e5.1,e4.1,e3.1,e2.1,e1.1]
  have z5:IsZip g5 z TI TO .ellipsis:=e5.extBut _ _ D.TOz.symm (e4.extBut _ _ D.i2z.symm (e3.extBut _ _ D.TOz.symm (e2.extBut _ _ D.i1z.symm z1)))
  have kk:∀ c o,c≠z->c≠TO->c≠i1->c≠i2->s.heap.get? c=some o->g5.get? c=some o:=fun c o c1 c2 c3 c4 e=>
    e5.extBut _ _ c2 (e4.extBut _ _ c4 (e3.extBut _ _ c2 (e2.extBut _ _ c3 (e1.extBut _ _ c1 e))))
  have t15:st1 (k1+1) g5:=G1.at_ _ _ _ t1 fun o q=>e5.extBut _ _ D.TOi1.symm (e4.extBut _ _ D.i12 (e3.extBut _ _ D.TOi1.symm q))
  have t25:st2 (k2+1) g5:=G2.at_ _ _ _ t2 fun o q=>e5.extBut _ _ D.TOi2.symm q
  have hzlt:z < g5.objs.size:=Heap.lt_size z5
  refine wpAny_bind (m:=Builtin.SmallTypes.ownedTupleHandOut (.ref z) (.ref g5.objs.size)) ?_
  unfold Builtin.SmallTypes.ownedTupleHandOut
  have z6:IsZip (g5.push {cls:=.type "tuple",data:=.seq #[x,y]}) z TI TO .ellipsis:=Heap.get?_push_of_some _ z5
  refine wpAny_bind (wpAny_setField_rec z6 (by simp) fun g7 z7 e7=>?_)
  replace z7:IsZip g7 z TI TO (rawInt g5.objs.size):=z7
  refine wpAny_setField_rec z7 (by simp) fun g8 z8 e8=>?_
  replace z8:IsZip g8 z TI TO (rawInt g5.objs.size):=z8
  have up:∀ c o,c≠z->g5.get? c=some o->g8.get? c=some o:=fun c o c1 e=>e8.extBut _ _ c1 (e7.extBut _ _ c1 (Heap.get?_push_of_some _ e))
  have t8:IsPair g8 g5.objs.size x y:=e8.extBut _ _ (Nat.ne_of_gt hzlt) (e7.extBut _ _ (Nat.ne_of_gt hzlt) (Heap.get?_push_size _ rfl))
  have n8:g8.objs.size=g5.objs.size+1:=by rw [e8.1,e7.1,Heap.size_push]
  rw [hsz] at z8 t8 n8
  refine wpAny_pure ⟨_,rfl,?_⟩
  show Q (.ref g5.objs.size) _
  rw [hsz]
  exact hQ g8 z8 (up _ _ D.TOz o5) (G1.at_ _ _ _ t15 fun o e=>up _ o D.i1z e) (G2.at_ _ _ _ t25 fun o e=>up _ o D.i2z e) t8 n8 fun c o c1 c2 c3 c4 e=>up c o c1 (kk c o c1 c2 c3 c4 e)
theorem zip_end {Q:Fin->Shared->Prop} (G1:Hands prog w i1 l1 st1 sq1) (G2:Hands prog w i2 l2 st2 sq2) (hh:A.handled=none) (D:ZipApart z TI TO i1 i2 l1 l2) (hz:IsZip s.heap z TI TO .none) (hTI:IsPair s.heap TI (.ref i1) (.ref i2)) (hTO:IsPair s.heap TO a b)
    (h1:st1 k1 s.heap) (h2:st2 k2 s.heap) (hl1:sq1 xs s.heap) (hl2:sq2 ys s.heap) (hend:xs[k1]?=none\/ys[k2]?=none)
    (hE:∀ h' e,(∀ c o,c≠z->c≠TO->c≠i1->c≠i2->s.heap.get? c=some o->h'.get? c=some o)->(∃ o,h'.get? e=some o/\o.cls=.type "StopIteration")->E (.ref e) {s with heap:=h'}):
    wpAny (model prog w) A (Builtin.«zip.__next__» ⟨[.ref z],[]⟩) Q E s:=by
  refine wpAny_bind (m:=field (.ref z) 2) (wpAny_field hz rfl (x:=.bool false) rfl ?_)
  refine wpAny_bind (m:=field (.ref z) 3) (wpAny_field hz rfl (x:=.ref TI) rfl ?_)
  refine wpAny_bind (wpAny_seqItems hTI rfl ?_)
  refine wpAny_bind (m:=Builtin.SmallTypes.ownedTupleIsFree (.ref z)) ?_
  unfold Builtin.SmallTypes.ownedTupleIsFree
  refine wpAny_bind (wpAny_field hz rfl (x:=.none) rfl (wpAny_pure ?_))
  simp only [if_true]
  refine wpAny_bind (wpAny_rule ?_)
  refine wpAny_bind (wpAny_field hz rfl (x:=.ref TO) rfl ?_)
  refine wpAny_bind (wpAny_setField_rec hz (by simp) fun g1 z1 e1=>?_)
  replace z1:IsZip g1 z TI TO .ellipsis:=z1
  refine wpAny_bind ?_
  simp only [List.zipIdx_cons,List.zipIdx_nil,List.forIn_cons,List.forIn_nil]
  refine wpAny_bind (wpAny_bind (wpAny_onRaise ?_))
  have a1:=G1.at_ _ _ g1 h1 fun o q=>e1.extBut _ _ D.i1z q
  have b1:=G1.sqAt _ _ g1 hl1 fun o q=>e1.extBut _ _ D.l1z q
  cases hx:xs[k1]? with
  | none=>
    refine wpAny_bind (m:=Builtin.SmallTypes.nextOf (.ref i1)) (G1.fin _ _ _ _ _ _ hh a1 b1 hx fun g2 e e2 he=>?_)
    obtain⟨oe,hoe,hce⟩:=he
    have z2:IsZip g2 z TI TO .ellipsis:=e2 _ _ D.i1z.symm z1
    have hez:e≠z:=fun x=>by subst x; rw [z2] at hoe; cases hoe; simp at hce
    exact wpAny_setField_rec z2 (by simp) fun g3 _ e3=>hE g3 e (fun c o c1 _ c3 _ x=>e3.extBut _ _ c1 (e2 _ _ c3 (e1.extBut _ _ c1 x))) ⟨oe,e3.extBut _ _ hez hoe,hce⟩
  | some x=>
    have hy:ys[k2]?=none:=by rcases hend with h | h; rw [hx] at h; cases h; exact h
    refine wpAny_bind (m:=Builtin.SmallTypes.nextOf (.ref i1)) (G1.item _ _ _ _ _ _ _ a1 b1 hx fun g2 t1 e2=>wpAny_pure ?_)
    have o2:IsPair g2 TO a b:=e2.extBut _ _ D.TOi1 (e1.extBut _ _ D.TOz hTO)
    refine wpAny_bind (wpAny_seqItems o2 rfl ?_)
    refine wpAny_bind (wpAny_updateSeq_pair o2 fun g3 o3 e3=>?_)
    refine wpAny_bind (wpAny_letGo (wpAny_pure ?_))
    refine wpAny_bind (wpAny_bind (wpAny_onRaise ?_))
    refine wpAny_bind (m:=Builtin.SmallTypes.nextOf (.ref i2)) (G2.fin _ _ _ _ _ _ hh (G2.at_ _ _ _ h2 fun o q=>e3.extBut _ _ D.TOi2.symm (e2.extBut _ _ D.i12.symm (e1.extBut _ _ D.i2z q)))
      (G2.sqAt _ _ _ hl2 fun o q=>e3.extBut _ _ D.l2TO (e2.extBut _ _ D.l2i1 (e1.extBut _ _ D.l2z q))) hy fun g4 e e4 he=>?_)
    obtain⟨oe,hoe,hce⟩:=he
    have z4:IsZip g4 z TI TO .ellipsis:=e4 _ _ D.i2z.symm (e3.extBut _ _ D.TOz.symm (e2.extBut _ _ D.i1z.symm z1))
    have hez:e≠z:=fun x=>by subst x; rw [z4] at hoe; cases hoe; simp at hce
    exact wpAny_setField_rec z4 (by simp) fun g5 _ e5=>hE g5 e (fun c o c1 c2 c3 c4 x=>e5.extBut _ _ c1 (e4 _ _ c4 (e3.extBut _ _ c2 (e2.extBut _ _ c3 (e1.extBut _ _ c1 x))))) ⟨oe,e5.extBut _ _ hez hoe,hce⟩
theorem pyNext_zip_item {Q:Option Value->Shared->Prop} (G1:Hands prog w i1 l1 st1 sq1) (G2:Hands prog w i2 l2 st2 sq2) (D:ZipApart z TI TO i1 i2 l1 l2) (hz:IsZip s.heap z TI TO .none) (hTI:IsPair s.heap TI (.ref i1) (.ref i2)) (hTO:IsPair s.heap TO a b)
    (h1:st1 k1 s.heap) (h2:st2 k2 s.heap) (hl1:sq1 xs s.heap) (hl2:sq2 ys s.heap) (hx:xs[k1]?=some x) (hy:ys[k2]?=some y)
    (hQ:∀ h',IsZip h' z TI TO (rawInt s.heap.objs.size)->IsPair h' TO x y->st1 (k1+1) h'->st2 (k2+1) h'->IsPair h' s.heap.objs.size x y->h'.objs.size=s.heap.objs.size+1->
      (∀ c o,c≠z->c≠TO->c≠i1->c≠i2->s.heap.get? c=some o->h'.get? c=some o)->Q (some (.ref s.heap.objs.size)) {s with heap:=h'}):wpAny (model prog w) A (pyNext (.ref z)) Q E s:=by
  have hT:s.TypeIs (.ref z) "zip":=⟨_,hz,rfl⟩
  unfold pyNext
  exact wpAny_bind (wpAny_attempt (wpAny_callSpecial?_slot (name:=Str.ofString "__next__") hT F.slot_zip_next
    (wpAny_call_entry F.slot_zip_next hT F.entry_zip_next (zip_item G1 G2 D hz hTI hTO h1 h2 hl1 hl2 hx hy fun h' a1 a2 a3 a4 a5 a6 a7=>wpAny_pure (hQ h' a1 a2 a3 a4 a5 a6 a7)) (F.args_zip_next_1 _))))
theorem pyNext_zip_end {Q:Option Value->Shared->Prop} (G1:Hands prog w i1 l1 st1 sq1) (G2:Hands prog w i2 l2 st2 sq2) (hh:A.handled=none) (D:ZipApart z TI TO i1 i2 l1 l2) (hz:IsZip s.heap z TI TO .none) (hTI:IsPair s.heap TI (.ref i1) (.ref i2)) (hTO:IsPair s.heap TO a b)
    (h1:st1 k1 s.heap) (h2:st2 k2 s.heap) (hl1:sq1 xs s.heap) (hl2:sq2 ys s.heap) (hend:xs[k1]?=none\/ys[k2]?=none)
    (hQ:∀ h',(∀ c o,c≠z->c≠TO->c≠i1->c≠i2->s.heap.get? c=some o->h'.get? c=some o)->Q none {s with heap:=h'}):wpAny (model prog w) A (pyNext (.ref z)) Q E s:=by
  have hT:s.TypeIs (.ref z) "zip":=⟨_,hz,rfl⟩
  unfold pyNext
  refine wpAny_bind (wpAny_attempt (wpAny_callSpecial?_slot (name:=Str.ofString "__next__") hT F.slot_zip_next
    (wpAny_call_entry F.slot_zip_next hT F.entry_zip_next (zip_end G1 G2 hh D hz hTI hTO h1 h2 hl1 hl2 hend fun h' e hk he=>?_) (F.args_zip_next_1 _))))
  obtain⟨o,ho,hc⟩:=he
  exact wpAny_bind (wpAny_isInstance (T:="StopIteration") (b:=true) ⟨o,ho,hc⟩ isSubtype_stop (wpAny_pure (hQ _ hk)))
end
structure Begins (l:Addr) (nm:String) (sq:Array Value->Heap->Prop):Prop where
  iter:∀ (P:Program) (w:World) (A:Around) (s:Shared) (xs:Array Value) (Q:Value->Shared->Prop) (E:Value->Shared->Prop),sq xs s.heap->
    Q (.ref s.heap.objs.size) {s with heap:=s.heap.push {cls:=.type nm,data:=.fields #[.ref l,.int 0 0]}}->wpAny (model P w) A (pyIter (.ref l)) Q E s
  sqAt:∀ xs h h',sq xs h->(∀ o,h.get? l=some o->h'.get? l=some o)->sq xs h'
theorem Begins.list (l:Addr):Begins l "list_iterator" (fun xs h=>h.IsList l xs):=⟨fun _ _ _ _ _ _ _ a b=>wpAny_pyIter_list a b,fun _ _ _ x y=>x.at y⟩
theorem Begins.tuple (l:Addr):Begins l "tuple_iterator" (fun xs h=>h.IsTuple l xs):=⟨fun _ _ _ _ _ _ _ a b=>wpAny_pyIter_tuple a b,fun _ _ _ x y=>x.at y⟩
section
variable {l1 l2:Addr} {n1 n2:String} {sq1 sq2:Array Value->Heap->Prop}
abbrev zh1 (h:Heap) (n1:String) (l1:Addr):Heap:=h.push {cls:=.type n1,data:=.fields #[.ref l1,.int 0 0]}
abbrev zh2 (h:Heap) (n1 n2:String) (l1 l2:Addr):Heap:=(zh1 h n1 l1).push {cls:=.type n2,data:=.fields #[.ref l2,.int 0 0]}
abbrev zh3 (h:Heap) (n1 n2:String) (l1 l2:Addr):Heap:=(zh2 h n1 n2 l1 l2).push {cls:=.type "tuple",data:=.seq #[.ref h.objs.size,.ref (zh1 h n1 l1).objs.size]}
abbrev zh4 (h:Heap) (n1 n2:String) (l1 l2:Addr):Heap:=(zh3 h n1 n2 l1 l2).push {cls:=.type "tuple",data:=.seq #[.none,.none]}
abbrev zh5 (h:Heap) (n1 n2:String) (l1 l2:Addr):Heap:=(zh4 h n1 n2 l1 l2).push {cls:=.type "zip",data:=.fields #[.none,.bool false,.bool false,.ref (zh2 h n1 n2 l1 l2).objs.size,.ref (zh3 h n1 n2 l1 l2).objs.size]}
theorem meets_zip (B1:Begins l1 n1 sq1) (B2:Begins l2 n2 sq2) (xs ys:Array Value):
    Meets (Builtin.«zip.__new__» ⟨[.type "zip",.ref l1,.ref l2],[]⟩) (fun _ R s=>sq1 xs s.heap/\sq2 ys s.heap/\
      R (.ok (.ret (.ref (zh4 s.heap n1 n2 l1 l2).objs.size))) {s with heap:=zh5 s.heap n1 n2 l1 l2}):=
  .of_wp fun prog w A R s h=>by
    obtain⟨hp,g,d,tk,os⟩:=s
    obtain⟨a,b,h⟩:=h
    have hsub:=sub_zip
    have b':sq2 ys (Shared.heap ⟨hp.push {cls:=.type n1,data:=.fields #[.ref l1,.int 0 0]},g,d,tk,os⟩):=B2.sqAt _ _ _ b fun o q=>Heap.get?_push_of_some _ q
    have a':sq1 xs (Shared.heap ⟨hp,g,d,tk,os⟩):=a
    wp_walk using B1.iter _ _ _ _ _ _ _ a',B2.iter _ _ _ _ _ _ _ b'
    exact⟨_,rfl,h⟩
variable {prog:Program} {w:World} {A:Around} {E:Value->Shared->Prop} {s:Shared}
theorem call_zip (B1:Begins l1 n1 sq1) (B2:Begins l2 n2 sq2) {xs ys:Array Value} {Q:Value->Shared->Prop} (hl1:sq1 xs s.heap) (hl2:sq2 ys s.heap)
    (h:∀ h',IsZip h' (s.heap.objs.size+4) (s.heap.objs.size+2) (s.heap.objs.size+3) .none->IsPair h' (s.heap.objs.size+2) (.ref s.heap.objs.size) (.ref (s.heap.objs.size+1))->
      IsPair h' (s.heap.objs.size+3) .none .none->h'.get? s.heap.objs.size=some {cls:=.type n1,data:=.fields #[.ref l1,.int 0 0]}->h'.get? (s.heap.objs.size+1)=some {cls:=.type n2,data:=.fields #[.ref l2,.int 0 0]}->
      (∀ c o,s.heap.get? c=some o->h'.get? c=some o)->Q (.ref (s.heap.objs.size+4)) {s with heap:=h'}):
    wpAny (model prog w) A (call (.type "zip") [.ref l1,.ref l2]) Q E s:=by
  refine callType_new F.called_zip (by decide) (F.typeCall_zip_2 _ _) (F.newCall_zip_2 _ _) (fun obj=>F.args_object_init_3 obj _ _) F.entry_zip_new (meets_zip B1 B2 xs ys) ⟨hl1,hl2,?_⟩
  have z1:(zh1 s.heap n1 l1).objs.size=s.heap.objs.size+1:=Heap.size_push ..
  have z2:(zh2 s.heap n1 n2 l1 l2).objs.size=s.heap.objs.size+2:=by rw [Heap.size_push,z1]
  have z3:(zh3 s.heap n1 n2 l1 l2).objs.size=s.heap.objs.size+3:=by rw [Heap.size_push,z2]
  have z4:(zh4 s.heap n1 n2 l1 l2).objs.size=s.heap.objs.size+4:=by rw [Heap.size_push,z3]
  have g5:(zh5 s.heap n1 n2 l1 l2).get? (zh4 s.heap n1 n2 l1 l2).objs.size=some _:=Heap.get?_push_size _ rfl
  have g4:(zh5 s.heap n1 n2 l1 l2).get? (zh3 s.heap n1 n2 l1 l2).objs.size=some _:=Heap.get?_push_of_some _ (Heap.get?_push_size _ rfl)
  have g3:(zh5 s.heap n1 n2 l1 l2).get? (zh2 s.heap n1 n2 l1 l2).objs.size=some _:=Heap.get?_push_of_some _ (Heap.get?_push_of_some _ (Heap.get?_push_size _ rfl))
  have g2:(zh5 s.heap n1 n2 l1 l2).get? (zh1 s.heap n1 l1).objs.size=some _:=Heap.get?_push_of_some _ (Heap.get?_push_of_some _ (Heap.get?_push_of_some _ (Heap.get?_push_size _ rfl)))
  have g1:(zh5 s.heap n1 n2 l1 l2).get? s.heap.objs.size=some _:=Heap.get?_push_of_some _ (Heap.get?_push_of_some _ (Heap.get?_push_of_some _ (Heap.get?_push_of_some _ (Heap.get?_push_size _ rfl))))
  show _/\_
  rw [z2,z3,z4] at g5
  rw [z1,z2] at g3
  rw [z3] at g4
  rw [z1] at g2
  rw [z4]
  exact⟨⟨_,g5,rfl⟩,h _ g5 g3 g4 g1 g2 fun c o x=>Heap.get?_push_of_some _ (Heap.get?_push_of_some _ (Heap.get?_push_of_some _ (Heap.get?_push_of_some _ (Heap.get?_push_of_some _ x))))⟩
end
section
variable {X:Cx} {pins:List (Addr×Obj)} {σ:St} {H:Hp} {s:Shared} {h':Heap}
theorem Inv.turnedL {t':Nat} (ch:List Addr) (I:Inv X pins σ H s) (k:∀ b o,b∉ch->s.heap.get? b=some o->h'.get? b=some o) (hf:∀ b∈ch,FpOk X pins H b):Inv X pins σ H {s with heap:=h',toks:=t'}:=by
  have nit:∀ b u,H b=some u->b∉ch:=fun b u e z=>by rw [(hf b z).1] at e; cases e
  refine I.step (g':=s.gens) (d':=s.drawn) (ch:=ch) (fun b hb=>⟨(hf b hb).2.2.2.1,(hf b hb).2.1,(hf b hb).2.2.2.2.1,(hf b hb).2.2.2.2.2⟩) (fun b o _ _ hc e _=>k b o hc e) (fun b o _ _ hc e _=>⟨o.slots,k b o hc e⟩) (fun _ _ _ _ n=>n)
    (fun b o hc e=>⟨o,k b o hc e⟩) (fun _ _ e=>e) (fun _ _ _ e=>e) (fun b ps e=>⟨#[],by rw [e]; simp⟩) (fun m hm=>?_) (fun b u e=>?_) I.bare
  · obtain⟨o,es,ep,ho,r⟩:=hm
    exact⟨o,es,ep,k _ o (fun z=>(hf _ z).2.1 rfl) ho,r⟩
  · refine(I.hok b u e).stay (fun c v hc q=>k c v ?_ q) (fun _ q=>q) fun _ _ q=>q
    rcases hc with z | z
    · rw [z]; exact nit b u e
    · exact nit c _ z
theorem Inv.turnedNew {t':Nat} {T:Addr} {xs:List V} (ch:List Addr) (I:Inv X pins σ H s) (k:∀ b o,b∉ch->s.heap.get? b=some o->h'.get? b=some o) (hf:∀ b∈ch,FpOk X pins H b) (hT:s.heap.objs.size<=T)
    (new:ObjOk X.prog X.w (upd H T (.tup xs)) h' T (.tup xs)):Inv X pins σ (upd H T (.tup xs)) {s with heap:=h',toks:=t'}:=by
  have hn:H T=none:=I.hok.fresh hT
  have nit:∀ b u,H b=some u->b∉ch:=fun b u e z=>by rw [(hf b z).1] at e; cases e
  have neT:∀ b o,s.heap.get? b=some o->b≠T:=fun b o e z=>by subst z; exact absurd (Nat.lt_of_lt_of_le (Heap.lt_size e) hT) (Nat.lt_irrefl _)
  refine I.step (g':=s.gens) (d':=s.drawn) (ch:=ch) (fun b hb=>⟨(hf b hb).2.2.2.1,(hf b hb).2.1,(hf b hb).2.2.2.2.1,(hf b hb).2.2.2.2.2⟩) (fun b o _ _ hc e _=>k b o hc e) (fun b o _ _ hc e _=>⟨o.slots,k b o hc e⟩) (fun b o _ e n=>by rw [upd_ne (neT b o e)]; exact n)
    (fun b o hc e=>⟨o,k b o hc e⟩) (fun b _ e=>by rw [upd_ne (ne_of_none e hn)]; exact e) (fun b _ _ e=>by rw [upd_ne (ne_of_none e hn)]; exact e) (fun b ps e=>⟨#[],by rw [upd_ne (ne_of_none e hn),e]; simp⟩) (fun m hm=>?_) (fun b u e=>?_) I.bare
  · obtain⟨o,es,ep,ho,r⟩:=hm
    exact⟨o,es,ep,k _ o (fun z=>(hf _ z).2.1 rfl) ho,r⟩
  · by_cases hb:b=T
    · subst hb
      rw [upd_same] at e
      cases e
      exact new
    · rw [upd_ne hb] at e
      refine(I.hok b u e).stay (fun c v hc q=>k c v ?_ q) (fun c q=>by rw [upd_ne (ne_of_none q hn)]; exact q) fun c _ q=>by rw [upd_ne (ne_of_none q hn)]; exact q
      rcases hc with z | z
      · rw [z]; exact nit b u e
      · exact nit c _ z
end
def SqB (b:Bool) (K:PySem.W.Frag) (H:Hp) (a:Addr) (xs:List V):Prop:=match b with | true=>SqL K H a xs | false=>SqT K H a xs
def itB (b:Bool) (it l:Addr) (k:Nat) (h:Heap):Prop:=match b with | true=>h.IsListIter it l k | false=>h.IsTupleIter it l k
def sqB (b:Bool) (l:Addr) (xs:Array Value) (h:Heap):Prop:=match b with | true=>h.IsList l xs | false=>h.IsTuple l xs
def nmB (b:Bool):String:=match b with | true=>"list_iterator" | false=>"tuple_iterator"
theorem handsB {P:Program} {w:World} (b:Bool) (it l:Addr):Hands P w it l (itB b it l) (sqB b l):=match b with | true=>Hands.list it l | false=>Hands.tuple it l
theorem beginsB (b:Bool) (l:Addr):Begins l (nmB b) (sqB b l):=match b with | true=>Begins.list l | false=>Begins.tuple l
theorem itB_new {b:Bool} {it l:Addr} {h:Heap} (e:h.get? it=some {cls:=.type (nmB b),data:=.fields #[.ref l,.int 0 0]}):itB b it l 0 h:=match b,e with | true,e=>⟨_,e,rfl,rfl⟩ | false,e=>⟨_,e,rfl,rfl⟩
section
variable {X:Cx} {pins:List (Addr×Obj)} {σ:St} {H:Hp} {s:Shared} {a:Addr} {xs ys:List V} {b:Bool}
theorem Inv.sqB (I:Inv X pins σ H s) (h:SqB b X.K H a xs):∃ its:List Value,Vals xs its/\L2.sqB b a its.toArray s.heap:=by
  cases b with
  | true=>obtain⟨its,r,p,_⟩:=I.list h; exact⟨its,r,p.isList⟩
  | false=>obtain⟨its,r,p,_⟩:=I.tuple h; exact⟨its,r,p⟩
theorem Inv.sqB_inj (I:Inv X pins σ H s) (h:SqB b X.K H a xs) (h':SqB b X.K H a ys):xs=ys:=by
  cases b with
  | true=>exact I.list_inj h h'
  | false=>exact I.tuple_inj h h'
theorem sqB_lt {its:Array Value} {h:Heap} (e:L2.sqB b a its h):a < h.objs.size:=by
  cases b with
  | true=>obtain⟨o,e,_⟩:=e; exact Heap.lt_size e
  | false=>obtain⟨o,e,_⟩:=e; exact Heap.lt_size e
end
def Itz (K:PySem.W.Frag) (b1 b2:Bool) (a1 a2:Addr):It:=
  ⟨fun i H => ∃ xs ys x y, SqB b1 K H a1 xs ∧ SqB b2 K H a2 ys ∧ xs[i]? = some x ∧ ys[i]? = some y,
   fun i H v H'=>∃ T x y,v=.ref T/\H T=none/\H'=upd H T (.tup [x,y])/\∀ xs ys,SqB b1 K H a1 xs->SqB b2 K H a2 ys->xs[i]?=some x/\ys[i]?=some y,
   fun i H=>∃ xs ys,SqB b1 K H a1 xs/\SqB b2 K H a2 ys/\(xs.length<=i\/ys.length<=i)⟩
def tnZ (b1 b2:Bool) (z TI TO i1 i2 a1 a2:Addr) (i:Nat) (h:Heap):Prop:=
  IsZip h z TI TO .none/\IsPair h TI (.ref i1) (.ref i2)/\(∃ a b,IsPair h TO a b)/\itB b1 i1 a1 i h/\itB b2 i2 a2 i h
theorem turn_zip {P:Program} {w:World} {K:PySem.W.Frag} {es:List Expr} {k:Nat} {pos:Pos} (b1 b2:Bool) {z TI TO i1 i2 a1 a2:Addr} (D:ZipApart z TI TO i1 i2 a1 a2):
    Turn P w K (.Tuple es k pos) (Itz K b1 b2 a1 a2) [z,TI,TO,i1,i2] z (tnZ b1 b2 z TI TO i1 i2 a1 a2) where
  mem:=by simp
  obj:=fun i h st b hb=>by
    obtain⟨hz,hTI,⟨x,y,hTO⟩,h1,h2⟩:=st
    have hb':b=z\/b=TI\/b=TO\/b=i1\/b=i2:=by simpa using hb
    rcases hb' with rfl | rfl | rfl | rfl | rfl
    · exact⟨_,hz,fun v q=>by cases q⟩
    · exact⟨_,hTI,fun v q=>by cases q⟩
    · exact⟨_,hTO,fun v q=>by cases q⟩
    · exact(handsB (P:=P) (w:=w) b1 b a1).obj _ _ h1
    · exact(handsB (P:=P) (w:=w) b2 b a2).obj _ _ h2
  keep:=fun i h h' st q=>by
    obtain⟨hz,hTI,⟨x,y,hTO⟩,h1,h2⟩:=st
    exact⟨q z (by simp) _ hz,q TI (by simp) _ hTI,⟨x,y,q TO (by simp) _ hTO⟩,(handsB (P:=P) (w:=w) b1 i1 a1).at_ _ _ _ h1 fun o e=>q i1 (by simp) o e,(handsB (P:=P) (w:=w) b2 i2 a2).at_ _ _ _ h2 fun o e=>q i2 (by simp) o e⟩
  item:=by
    intro X hP hw hK hc i pins s σ H E I hf st hg
    subst hP hw hK
    obtain⟨xs,ys,x,y,q1,q2,hx,hy⟩:=hg
    obtain⟨its,rv,p⟩:=I.sqB q1
    obtain⟨jts,rw',p'⟩:=I.sqB q2
    obtain⟨u,hu,ru⟩:=rv.get hx
    obtain⟨u',hu',ru'⟩:=rw'.get hy
    obtain⟨hz,hTI,⟨c,d,hTO⟩,h1,h2⟩:=st
    have hn:H s.heap.objs.size=none:=I.hok.fresh (Nat.le_refl _)
    have old:∀ b∈[z,TI,TO,i1,i2],b≠s.heap.objs.size:=fun b hb e=>by
      have:∃ o,s.heap.get? b=some o:=by
        have hb':b=z\/b=TI\/b=TO\/b=i1\/b=i2:=by simpa using hb
        rcases hb' with rfl | rfl | rfl | rfl | rfl
        · exact⟨_,hz⟩
        · exact⟨_,hTI⟩
        · exact⟨_,hTO⟩
        · obtain⟨o,e,_⟩:=(handsB (P:=X.prog) (w:=X.w) b1 b a1).obj _ _ h1; exact⟨o,e⟩
        · obtain⟨o,e,_⟩:=(handsB (P:=X.prog) (w:=X.w) b2 b a2).obj _ _ h2; exact⟨o,e⟩
      obtain⟨o,eo⟩:=this
      exact absurd (Heap.lt_size eo) (by rw [e]; exact Nat.lt_irrefl _)
    refine pyNext_zip_item (handsB b1 i1 a1) (handsB b2 i2 a2) D hz hTI hTO h1 h2 p p' (x:=u) (y:=u') (by simpa using hu) (by simpa using hu') fun h' c1 c2 c3 c4 c5 c6 c7=>?_
    have I1:Inv X pins σ (upd H s.heap.objs.size (.tup [x,y])) {s with heap:=h'}:=I.turnedNew (t':=s.toks) [z,TO,i1,i2] (fun b o hb e=>c7 b o (fun q=>hb (by simp [q])) (fun q=>hb (by simp [q])) (fun q=>hb (by simp [q])) (fun q=>hb (by simp [q])) e)
      (fun b hb => hf b (by have hb' : b = z ∨ b = TO ∨ b = i1 ∨ b = i2 := by simpa using hb
                            rcases hb' with rfl | rfl | rfl | rfl <;> simp)) (Nat.le_refl _) ⟨Nat.le_of_ble_eq_true rfl,[u,u'],.cons ru (.cons ru' .nil),⟨_,c5,rfl,_,rfl⟩⟩
    refine⟨_,rfl,wpAny_letOwnedTupleGo_zip (s:={s with heap:=h'}) c1 fun h2' g1 g2=>?_⟩
    refine⟨.ref s.heap.objs.size,upd H s.heap.objs.size (.tup [x,y]),?_,rfl,⟨_,x,y,rfl,hn,rfl,fun xs' ys' e1 e2=>by rw [I.sqB_inj e1 q1,I.sqB_inj e2 q2]; exact⟨hx,hy⟩⟩,?_,fun b hb=>?_⟩
    · refine I1.turnedL (t':=s.toks) [z] (fun b o hb e=>g2.extBut _ _ (fun q=>hb (by simp [q])) e) fun b hb=>?_
      have e:b=z:=by simpa using hb
      subst e
      obtain⟨f0,f1,f2,f3,f4,f5⟩:=hf b (by simp)
      exact⟨by rw [upd_ne (old b (by simp))]; exact f0,f1,f2,f3,f4,f5⟩
    · exact⟨g1,g2.extBut _ _ D.TIz (c7 _ _ D.TIz D.TITO D.TIi1 D.TIi2 hTI),⟨_,_,g2.extBut _ _ D.TOz c2⟩,(handsB (P:=X.prog) (w:=X.w) b1 i1 a1).at_ _ _ _ c3 fun o e=>g2.extBut _ _ D.i1z e,(handsB (P:=X.prog) (w:=X.w) b2 i2 a2).at_ _ _ _ c4 fun o e=>g2.extBut _ _ D.i2z e⟩
    · rw [upd_ne (old b hb)]
      exact(hf b hb).1
  done:=by
    intro X hP hw hK hc i pins s σ H E I hf st hg
    subst hP hw hK
    obtain⟨xs,ys,q1,q2,hx⟩:=hg
    obtain⟨its,rv,p⟩:=I.sqB q1
    obtain⟨jts,rw',p'⟩:=I.sqB q2
    obtain⟨hz,hTI,⟨c,d,hTO⟩,h1,h2⟩:=st
    have l1:=rv.length
    have l2:=rw'.length
    refine pyNext_zip_end (handsB b1 i1 a1) (handsB b2 i2 a2) (I.ok.hd hc) D hz hTI hTO h1 h2 p p' (by rcases hx with hx | hx; · left; simp; omega
                                                                                                       · right; simp; omega) fun h' kk=>⟨rfl,I.turnedL (t':=s.toks) [z,TO,i1,i2] (fun b o hb e=>kk b o (fun q=>hb (by simp [q])) (fun q=>hb (by simp [q])) (fun q=>hb (by simp [q])) (fun q=>hb (by simp [q])) e) fun b hb=>hf b ?_⟩
    have hb':b=z\/b=TO\/b=i1\/b=i2:=by simpa using hb
    rcases hb' with rfl | rfl | rfl | rfl <;> simp
  self:=fun _ _ _ _ _ st h=>wpAny_pyIter_zip st.1 h
theorem zapart (n l1 l2:Nat) (h1:l1 < n) (h2:l2 < n):ZipApart (n+4) (n+2) (n+3) n (n+1) l1 l2:=by
  constructor <;> (intro e; simp only [Addr] at e; omega)
def iZip (K:PySem.W.Frag) (ta:TA):TI:=fun σ H R=>ta σ H fun vs H1=>∃ a1 a2 b1 b2,vs=[.ref a1,.ref a2]/\(∃ xs,SqB b1 K H1 a1 xs)/\(∃ ys,SqB b2 K H1 a2 ys)/\R (Itz K b1 b2 a1 a2) H1
theorem pi_zip {X:Cx} {a b:Expr} {ta:TA} {p pos tp:Pos} {es:List Expr} {k:Nat} (hg:Gl X "zip") (hm:X.mg "zip"=none) (ha:PA X [a,b] ta) (hs:starEach [a,b] X.env=[(false,eval a X.env),(false,eval b X.env)]:=by rfl) (hs2:starEach [b] X.env=[(false,eval b X.env)]:=by rfl):
    PI X (.Tuple es k tp) (.Call (.Name "zip" p) [a,b] [] pos) (iZip X.K ta):=by
  intro pins s σ H R I h
  refine Call_ (ld_blt I hg hm boot_zip (PyProof.Rows.callWith_type1 (thn (ha pos pins s σ H _ I h) fun us s1 ⟨vs,H1,I1,r1,q1⟩=>?_) (by rw [hs,hs2]) (by rw [hs2]; rfl)))
  obtain⟨a1,a2,b1,b2,e,⟨xs,e1⟩,⟨ys,e2⟩,q⟩:=q1
  subst e
  cases r1 with
  | cons r rr=>
    cases rr with
    | cons r' rr=>
      cases rr
      cases r
      cases r'
      obtain⟨its,rv,p1⟩:=I1.sqB e1
      obtain⟨jts,rw',p2⟩:=I1.sqB e2
      refine call_zip (beginsB b1 a1) (beginsB b2 a2) p1 p2 fun h' c1 c2 c3 c4 c5 c6=>?_
      refine wpAny_pyIter_zip (s:={s1 with heap:=h'}) c1 ?_
      have fr:∀ j,H1 (s1.heap.objs.size+j)=none:=fun j=>I1.hok.fresh (Nat.le_add_right _ _)
      refine⟨_,[s1.heap.objs.size+4,s1.heap.objs.size+2,s1.heap.objs.size+3,s1.heap.objs.size,s1.heap.objs.size+1],_,_,H1,rfl,I1.kept (t':=s1.toks) c6,turn_zip b1 b2 (zapart _ _ _ (sqB_lt p1) (sqB_lt p2)),⟨c1,c2,⟨_,_,c3⟩,itB_new c4,itB_new c5⟩,fun b hb=>?_,q⟩
      have hb':b=s1.heap.objs.size+4\/b=s1.heap.objs.size+2\/b=s1.heap.objs.size+3\/b=s1.heap.objs.size\/b=s1.heap.objs.size+1:=by simpa using hb
      rcases hb' with rfl | rfl | rfl | rfl | rfl
      · exact I1.fpOk (Nat.le_add_right _ _) (fr 4)
      · exact I1.fpOk (Nat.le_add_right _ _) (fr 2)
      · exact I1.fpOk (Nat.le_add_right _ _) (fr 3)
      · exact I1.fpOk (Nat.le_refl _) (fr 0)
      · exact I1.fpOk (Nat.le_add_right _ _) (fr 1)
end L2
namespace DL
open PySem PySem.Spec PyProof.Rows L2
section
variable {K:Fg} {ok:DH->Prop} {gg:DG} {ge:DE} {k:DK} {ds:List D} {L:Lo} {S:DH} {σ:L2.St} {H:Hp} {J:It} {p:Addr} {Q:V->Hp->Prop}
theorem comp_coreG (hL:Lc K H L σ) (hS:Hs K H S) (hp:H p=none) (h:dCLoop ok p gg (bdAll ge) k ds [] L (put S p (.lst [])))
    (n:∀ d S' v H',k d S'->Kp H H'->Hs K H' S'->IsD K H' d v->Q v H')
    (hgo:∀ i d S1 H1,ds[i]?=some d->Kp H H1->Hs K H1 S1->ok S1->J.go i H1/\∀ x H',J.yld i H1 x H'->Kp H1 H'/\Hs K H' S1/\IsD K H' d x)
    (hst:∀ S1 H1,Kp H H1->Hs K H1 S1->ok S1->J.stop ds.length H1):
    ∃ W:Nat->Nat->L2.St->Hp->Prop,(∃ m,W 0 m σ (upd H p (.lst [])))/\∀ i m σ' H',W i m σ' H'->
      (J.stop i H'/\Q (.ref p) H')\/(J.go i H'/\∃ N:L2.St->Hp->Prop,(∀ σ2 H2,N σ2 H2->∃ m',m' < m/\W (i+1) m' σ2 H2)/\∀ x H2,J.yld i H' x H2->upG K gg x σ' H2 fun σ3 H3=>up K ge σ3 H3 fun v H4=>∃ ys,H4 p=some (.lst ys)/\ys.length < sizeLine/\N σ3 (upd H4 p (.lst (ys++[v])))):=by
  refine⟨fun i m σ1 H1=>m=ds.length - i/\i<=ds.length/\∃ acc L1 S1,Lc K H1 L1 σ1/\Hs K H1 S1/\Kp H H1/\dCLoop ok p gg (bdAll ge) k (ds.drop i) acc L1 S1,⟨ds.length,by simp,Nat.zero_le _,[],L,_,hL.kp (Kp.new hp),hS.newL hp IsDs.nil,Kp.new hp,h⟩,?_⟩
  rintro i m σ1 H1 ⟨rfl,hi,acc,L1,S1,hL1,hS1,k1,w1⟩
  by_cases hlt:i < ds.length
  · have e:ds.drop i=ds[i]::ds.drop (i+1):=List.drop_eq_getElem_cons hlt
    rw [e] at w1
    obtain⟨o1,w1⟩:=w1
    obtain⟨g1,y1⟩:=hgo i ds[i] S1 H1 (by simp [hlt]) k1 hS1 o1
    refine .inr ⟨g1,fun σ' H'=>i+1<=ds.length/\∃ acc L' S',Lc K H' L' σ'/\Hs K H' S'/\Kp H H'/\dCLoop ok p gg (bdAll ge) k (ds.drop (i+1)) acc L' S',fun σ' H' ⟨q1,q2⟩=>⟨ds.length - (i+1),by omega,rfl,q1,q2⟩,fun x H' y=>?_⟩
    obtain⟨k0,hS0,ix⟩:=y1 x H' y
    refine⟨ds[i],L1,S1,_,ix,hL1.kp k0,hS0,w1,fun L2 S2 σ2 H2 q k2 hL2 hS2=>up.go hL2 hS2 q fun d S3 v H3 h3 k3 hL3 hS3 i3=>?_⟩
    obtain⟨z1,z2,z3⟩:=h3
    obtain⟨xs,hl,j⟩:=hS3.lst z1
    have k4:Kp H3 (upd H3 p (.lst (xs++[v]))):=Kp.mut hl (fun z=>z)
    exact⟨xs,hl,by rw [<- j.length]; exact z2,hlt,_,L2,_,hL3.kp k4,hS3.setL hl (j.append (IsDs.cons i3 IsDs.nil)),(((k1.trans k0).trans k2).trans k3).trans k4,z3⟩
  · have e:i=ds.length:=by omega
    subst e
    rw [List.drop_length] at w1
    obtain⟨o1,w1⟩:=w1
    exact .inl ⟨hst S1 H1 k1 hS1 o1,n _ S1 _ H1 w1 k1 hS1 (isRef.mpr rfl)⟩
end
theorem seq_kd {K:Fg} {S1:DH} {H1:Hp} {d:D} {v:V} {p:List D×Option Addr} (hS1:Hs K H1 S1) (i1:IsD K H1 d v) (hp:dItems S1 d=some p):∃ a b,v=.ref a/\
    (∃ xs,SqB b K H1 a xs)/\∀ S2 H2,Kp H1 H2->Hs K H2 S2->okFor p S2->∃ xs,SqB b K H2 a xs/\IsDs K H2 p.1 xs:=by
  cases d with
  | tup ds=>
    cases hp
    obtain⟨a,xs,rfl,t,j⟩:=isTup.mp i1
    exact⟨a,false,rfl,⟨xs,t⟩,fun S2 H2 k2 _ _=>⟨xs,k2.tup t,j.kp k2⟩⟩
  | rl ds=>
    cases hp
    obtain⟨a,xs,rfl,t,j⟩:=isRl.mp i1
    exact⟨a,true,rfl,⟨xs,t.sq⟩,fun S2 H2 k2 _ _=>⟨xs,(k2.fro t).sq,j.kp k2⟩⟩
  | ref a=>
    have e1:=isRef.mp i1
    subst e1
    cases z:S1 a with
    | none=>simp only [dItems,z] at hp; cases hp
    | some o=>
      cases o with
      | dic=>simp only [dItems,z] at hp; cases hp
      | exc _=>simp only [dItems,z] at hp; cases hp
      | fn _=>simp only [dItems,z] at hp; cases hp
      | tbl _=>simp only [dItems,z] at hp; cases hp
      | gen _=>simp only [dItems,z] at hp; cases hp
      | lst ds=>
        simp only [dItems,z] at hp
        cases hp
        obtain⟨xs,hl,j⟩:=hS1.lst z
        refine⟨a,true,rfl,⟨xs,SqL.of hl⟩,fun S2 H2 k2 hS2 o2=>?_⟩
        obtain⟨ys,hl2,j2⟩:=hS2.lst o2
        exact⟨ys,SqL.of hl2,j2⟩
  | _=>cases hp
def zipD (xs ys:List D):List D:=List.zipWith (fun a b=>D.tup [a,b]) xs ys
def dCompZ (cap:List (Option Nat)) (ta:DA) (g:DG) (bd:DB):DE:=fun L S k=>ta L S fun ds S1=>match ds with
  | [d1,d2]=>∃ q1 q2,dItems S1 d1=some q1/\dItems S1 d2=some q2/\∀ p,S1 p=none->dCLoop (fun S=>okFor q1 S/\okFor q2 S) p g bd k (zipD q1.1 q2.1) [] (capL cap L) (put S1 p (.lst []))
  | _=>False
section
variable {X:Cx} {elt a b:Expr} {es:List Expr} {kt:Nat} {tp:Pos} {scope:Scope} {cl:List (Str×Addr)} {N:List Str} {cap:List (Option Nat)} {pos p pos':Pos} {gg:DG} {ge:DE} {ta:DA}
theorem d_compZj (hc:X.calm=true) (Sc:CompSc X scope cl N cap) (hgl:Gl X "zip") (hm:X.mg "zip"=none) (ha:AJ X [a,b] ta) (hg:∀ s0 H0 ex C,GJ (cxC X scope cl N s0 H0 ex C) (.Tuple es kt tp) gg) (he:∀ s0 H0 ex C,EJ (cxC X scope cl N s0 H0 ex C) elt ge)
    (hs1:starEach [a,b] X.env=[(false,eval a X.env),(false,eval b X.env)]:=by rfl) (hs2:starEach [b] X.env=[(false,eval b X.env)]:=by rfl) (hs:∀ x,foldedSetIterable (.Call (.Name "zip" p) [a,b] [] pos') X.env x=pure x:=by intro _; rfl):
    EJ X (.ListComp elt [⟨.Tuple es kt tp,.Call (.Name "zip" p) [a,b] [] pos',[],0⟩] scope pos) (dCompZ cap ta gg (bdAll ge)):=
  ⟨PE.imp (pe_comp hc Sc (pi_zip hgl hm ha.h hs1 hs2) (fun s0 H0 ex C=>(hg s0 H0 ex C).h) (fun s0 H0 ex C=>(he s0 H0 ex C).h) hs) fun σ H Q ⟨L,S,k,hL,hS,h,n⟩=>upA.go hL hS h fun ds S1 vs H1 h1 k1 hL1 hS1 i1=>by
    split at h1
    · rename_i d1 d2
      obtain⟨v1,v2,rfl,j1,j2⟩:∃ v1 v2,vs=[v1,v2]/\IsD X.K H1 d1 v1/\IsD X.K H1 d2 v2:=isDs2 i1
      obtain⟨q1,q2,e1,e2,h1⟩:=h1
      obtain⟨a1,b1,rfl,x1,y1⟩:=seq_kd hS1 j1 e1
      obtain⟨a2,b2,rfl,x2,y2⟩:=seq_kd hS1 j2 e2
      refine⟨a1,a2,b1,b2,rfl,x1,x2,fun pa hD=>comp_coreG (hL1.cap cap) hS1 hD (h1 pa (hS1.free hD)) (fun d S' v H' q k3=>n d S' v H' q (k1.trans k3)) (fun i c S2 H2 e k2 hS2 o2=>?_) fun S2 H2 k2 hS2 o2=>?_⟩
      · obtain⟨xs,w1,u1⟩:=y1 S2 H2 k2 hS2 o2.1
        obtain⟨ys,w2,u2⟩:=y2 S2 H2 k2 hS2 o2.2
        obtain⟨c1,c2,f1,f2,rfl⟩:∃ c1 c2,q1.1[i]?=some c1/\q2.1[i]?=some c2/\D.tup [c1,c2]=c:=by
          unfold zipD at e
          rw [List.getElem?_zipWith] at e
          cases z1:q1.1[i]? with
          | none=>rw [z1] at e; cases e
          | some c1=>
            cases z2:q2.1[i]? with
            | none=>rw [z1,z2] at e; cases e
            | some c2=>rw [z1,z2] at e; exact⟨c1,c2,rfl,rfl,Option.some.inj e⟩
        obtain⟨v1,g1,r1⟩:=u1.get f1
        obtain⟨v2,g2,r2⟩:=u2.get f2
        refine⟨⟨xs,ys,v1,v2,w1,w2,g1,g2⟩,?_⟩
        rintro x H' ⟨T,x',y',rfl,hT,rfl,al⟩
        obtain⟨l1,l2⟩:=al xs ys w1 w2
        rw [g1] at l1
        rw [g2] at l2
        cases l1
        cases l2
        have kn:Kp H2 (upd H2 T (.tup [v1,v2])):=Kp.new hT
        exact⟨kn,hS2.new hT,isTup.mpr ⟨T,[v1,v2],rfl,SqT.of upd_same,IsDs.cons (r1.kp kn) (IsDs.cons (r2.kp kn) IsDs.nil)⟩⟩
      · obtain⟨xs,w1,u1⟩:=y1 S2 H2 k2 hS2 o2.1
        obtain⟨ys,w2,u2⟩:=y2 S2 H2 k2 hS2 o2.2
        refine⟨xs,ys,w1,w2,?_⟩
        rw [<- u1.length,<- u2.length]
        unfold zipD
        rw [List.length_zipWith]
        omega
    · exact h1.elim⟩
end
theorem isDs_bls {K:Fg} {H:Hp}:∀ {bs:List Bool} {xs:List V},IsDs K H (bs.map D.bl) xs->xs=bs.map V.bl
  | [],_,h=>isNil.mp h
  | b::bs,_,h=>by
    obtain⟨v,r,rfl,h1,h2⟩:=isCons.mp h
    rw [isBl.mp h1,isDs_bls h2]
    rfl
theorem vals_bls:∀ {bs:List Bool} {us:List Value},Vals (bs.map V.bl) us->us=bs.map Value.bool
  | [],_,.nil=>rfl
  | b::bs,_,.cons r t=>by
    cases r
    rw [vals_bls t]
    rfl
theorem all_range:∀ (bs:List Bool),(List.range bs.length).all (fun i=>bs.getD i true)=bs.all id
  | []=>rfl
  | b::bs=>by
    rw [List.length_cons,List.range_succ_eq_map,List.all_cons,List.all_map,List.all_cons]
    exact congrArg (b && ·) (all_range bs)
theorem ok_self {S:DH} {d:D} {q:List D×Option Addr} (h:dItems S d=some q):okFor q S:=by
  cases d with
  | tup ds=>cases h; trivial
  | rl ds=>cases h; trivial
  | ref a=>
    simp only [dItems] at h
    split at h
    · rename_i z; cases h; exact z
    · cases h
  | _=>cases h
def bAllE:DSp:=fun ds S k=>match ds with
  | [d]=>∃ (q:List D×Option Addr) (bs:List Bool),dItems S d=some q/\q.1=bs.map D.bl/\k (.bl (bs.all id)) S
  | _=>False
theorem b_allE {X:Cx} (hc:X.calm=true:=by rfl):CallR X (.builtin "all") (upC X.K bAllE):=by
  intro pins s σ H xs us Q I rs h
  obtain⟨ds,S,k,i,hS,r,n⟩:=h
  unfold bAllE at r
  split at r
  · obtain⟨x,rfl,i1⟩:=isDs1 i
    obtain⟨q,bs,e1,e2,r⟩:=r
    obtain⟨a,b,rfl,_,y⟩:=seq_kd hS i1 e1
    obtain⟨vs,w1,w2⟩:=y S H (Kp.refl H) hS (ok_self e1)
    rw [e2] at w2
    have ev:=isDs_bls w2
    subst ev
    obtain⟨its,rv,p⟩:=I.sqB w1
    have ei:=vals_bls rv
    subst ei
    cases rs with
    | cons r0 rr=>
      cases rr
      cases r0
      have hh:X.A.in1.handled=none:=I.ok.hd hc
      have hlt:=sqB_lt p
      have fin:∀ (nm:String) (h':Heap) (tk:Nat),(∀ c o,c∉[s.heap.objs.size]->(s.heap.push {cls:=.type nm,data:=.fields #[.ref a,.int 0 0]}).get? c=some o->h'.get? c=some o)->
          EP X pins σ Q (.bool (bs.all id)) {s with heap:=h',toks:=tk}:=fun nm h' tk kk=>by
        have I1:Inv X pins σ H {s with heap:=s.heap.push {cls:=.type nm,data:=.fields #[.ref a,.int 0 0]}}:=I.kept (t':=s.toks) fun c o e=>Heap.get?_push_of_some _ e
        refine⟨.bl (bs.all id),H,Inv.turnedL (s:={s with heap:=s.heap.push {cls:=.type nm,data:=.fields #[.ref a,.int 0 0]}}) (t':=tk) [s.heap.objs.size] I1 kk (fun c hc=>?_),rfl,n _ _ _ _ r (Kp.refl H) hS (isBl.mpr rfl)⟩
        have e:c=s.heap.objs.size:=by simpa using hc
        subst e
        exact I.fpOk (Nat.le_refl _) (I.hok.fresh (Nat.le_refl _))
      have len:(bs.map Value.bool).toArray.size=bs.length:=by simp
      have tr:∀ A',TruthOf X.prog X.w A' (fun i v=>(bs.map Value.bool).toArray[i]?=some v) (fun i=>bs.getD i true):=fun A' i v s' Q' E' hP hQ=>by
        have hP':(bs[i]?).map Value.bool=some v:=by simpa using hP
        cases z:bs[i]? with
        | none=>rw [z] at hP'; cases hP'
        | some c=>
          rw [z] at hP'
          cases hP'
          refine wpAny_truthy_bool ?_
          simpa [List.getD,z] using hQ
      refine call_all_walk ?_
      cases b with
      | true=>
        refine wpAny_pyIter_list (show s.heap.IsList a _ from p) ?_
        refine⟨s.heap.objs.size,_,_,_,_,_,_,rfl,Walks.list hh s.heap.objs.size a (Nat.ne_of_lt hlt) (bs.map Value.bool).toArray,⟨⟨_,Heap.get?_push_size _ rfl,rfl,rfl⟩,Heap.IsList.at p fun o e=>Heap.get?_push_of_some _ e⟩,tr _,fun h' tk kk=>?_⟩
        rw [len,all_range]
        exact fin _ h' tk kk
      | false=>
        refine wpAny_pyIter_tuple (show s.heap.IsTuple a _ from p) ?_
        refine⟨s.heap.objs.size,_,_,_,_,_,_,rfl,Walks.tuple hh s.heap.objs.size a (Nat.ne_of_lt hlt) (bs.map Value.bool).toArray,⟨⟨_,Heap.get?_push_size _ rfl,rfl,rfl⟩,Heap.IsTuple.at p fun o e=>Heap.get?_push_of_some _ e⟩,tr _,fun h' tk kk=>?_⟩
        rw [len,all_range]
        exact fin _ h' tk kk
  · exact r.elim
theorem kitx_D {X:Cx} {pins:List (Addr×Obj)} {σ:L2.St} {H:Hp} {s:Shared} {S:DH} {d:D} {x:V} {u:Value} {t:Ty} (I:Inv X pins σ H s) (hS:Hs X.K H S) (i:IsD X.K H d x) (r:RelV x u) (h:tyD S d=some t):
    ∃ Hh:Heap->Prop,PySem.W.KitX X.K u (.type t.name) Hh/\Hh s.heap/\u≠.builtin "__main__.__loader__#opaque":=by
  cases d with
  | non=>cases h; rw [isNon.mp i] at r; cases (show u=Value.none from r); exact⟨_,PySem.W.kitx_none,True.intro,fun z=>nomatch z⟩
  | bl b=>cases h; rw [isBl.mp i] at r; cases (show u=Value.bool b from r); exact⟨_,PySem.W.kitx_bool,True.intro,fun z=>nomatch z⟩
  | int b=>cases h; rw [isInt.mp i] at r; obtain⟨tk,q⟩:=(show ∃ t,u=Value.int b t from r); cases q; exact⟨_,PySem.W.kitx_int,True.intro,fun z=>nomatch z⟩
  | str b=>cases h; rw [isStr.mp i] at r; obtain⟨tk,q⟩:=(show ∃ t,u=Value.str b t from r); cases q; exact⟨_,PySem.W.kitx_str,True.intro,fun z=>nomatch z⟩
  | tup ds=>
    cases h
    obtain⟨a,vs,rfl,q,_⟩:=isTup.mp i
    cases (show u=Value.ref a from r)
    obtain⟨its,_,⟨o,h1,h2,_⟩,_⟩:=I.tuple q
    exact⟨_,PySem.W.kitx_tuple,⟨o,h1,h2⟩,fun z=>nomatch z⟩
  | rl ds=>cases h
  | ty n=>cases h
  | ref a=>
    rw [isRef.mp i] at r
    cases (show u=Value.ref a from r)
    have h:tyR (S a)=some t:=h
    cases z:S a with
    | none=>rw [z] at h; cases h
    | some o=>
      rw [z] at h
      cases o with
      | lst ds=>
        cases h
        obtain⟨vs,e,_⟩:=hS.lst z
        obtain⟨its,_,⟨o,n,h1,h2,_⟩,_⟩:=I.list (SqL.of e)
        exact⟨_,PySem.W.kitx_list,⟨o,h1,h2⟩,fun z=>nomatch z⟩
      | dic=>
        cases h
        obtain⟨vs,e⟩:=hS _ _ z
        obtain⟨_,_,vs',_,p⟩:=(show ObjOk X.prog X.w H s.heap a (.dK vs) from I.hok a _ e)
        obtain⟨o,es,ep,h1,h2,_⟩:=p
        exact⟨_,PySem.W.kitx_dict,⟨o,h1,h2.1⟩,fun z=>nomatch z⟩
      | exc _=>cases h
      | fn _=>cases h
      | tbl _=>cases h
      | gen _=>cases h
theorem kitAny_of {K:Fg} (t:Ty):∀ cs:List Ty,PySem.W.kitAny K (.type t.name) (cs.map fun c=>.type c.name)=some (cs.any (subT t))
  | []=>rfl
  | c::r=>by
    have ih:=kitAny_of (K:=K) t r
    rw [List.map_cons,PySem.W.kitAny,kit_of]
    cases z:subT t c with
    | true=>simp [z]
    | false=>simp only [List.any_cons,z,Bool.false_or]; exact ih
theorem isDs_tys {K:Fg} {H:Hp}:∀ {cs:List Ty} {xs:List V},IsDs K H (cs.map D.ty) xs->xs=cs.map fun c=>V.ty c.name
  | [],_,h=>isNil.mp h
  | b::bs,_,h=>by
    obtain⟨v,r,rfl,h1,h2⟩:=isCons.mp h
    rw [isTy.mp h1,isDs_tys h2]
    rfl
theorem vals_tys:∀ {cs:List Ty} {us:List Value},Vals (cs.map fun c=>V.ty c.name) us->us=cs.map fun c=>Value.type c.name
  | [],_,.nil=>rfl
  | b::bs,_,.cons r t=>by
    cases r
    rw [vals_tys t]
    rfl
def bIsiX:DSp:=fun ds S k=>match ds with
  | [d,.ty c]=>∃ t,tyD S d=some t/\k (.bl (subT t c)) S
  | [d,.tup cs]=>∃ (t:Ty) (ts:List Ty),tyD S d=some t/\cs=ts.map D.ty/\k (.bl (ts.any (subT t))) S
  | _=>False
theorem b_isiX {X:Cx}:CallR X (.builtin "isinstance") (upC X.K bIsiX):=by
  intro pins s σ H xs us Q I rs h
  obtain⟨ds,S,k,i,hS,r,n⟩:=h
  unfold bIsiX at r
  split at r
  · rename_i d c
    obtain⟨t,ht,r⟩:=r
    obtain⟨x,y,rfl,i1,i2⟩:=isDs2 i
    have e2:=isTy.mp i2
    subst e2
    obtain⟨u,w',rfl,r1,r2⟩:=vals2 rs
    cases (show w'=Value.type c.name from r2)
    obtain⟨Hh,kx,p,nb⟩:=kitx_D I hS i1 r1 ht
    exact PySem.W.kia_one kx I.kIn p (kit_of t c) nb fun tk=>⟨.bl (subT t c),H,I.tok tk,rfl,n _ _ _ _ r (Kp.refl H) hS (isBl.mpr rfl)⟩
  · rename_i d cs
    obtain⟨t,ts,ht,rfl,r⟩:=r
    obtain⟨x,y,rfl,i1,i2⟩:=isDs2 i
    obtain⟨a,vs,rfl,q,j⟩:=isTup.mp i2
    have ev:=isDs_tys j
    subst ev
    obtain⟨u,w',rfl,r1,r2⟩:=vals2 rs
    cases (show w'=Value.ref a from r2)
    obtain⟨Hh,kx,p,nb⟩:=kitx_D I hS i1 r1 ht
    obtain⟨its,rv,⟨o,h1,h2,m,h3⟩,_⟩:=I.tuple q
    have ei:=vals_tys rv
    subst ei
    obtain⟨oc,od,odt,os⟩:=o
    cases h2
    cases h3
    exact PySem.W.kia_tup kx I.kIn p h1 (kitAny_of t ts) nb fun tk=>⟨.bl (ts.any (subT t)),H,I.tok tk,rfl,n _ _ _ _ r (Kp.refl H) hS (isBl.mpr rfl)⟩
  · exact r.elim
section
variable {X:Cx} {o e a b c:Expr} {go ge ga gb gc:DE} {apos cpos pos:Pos}
def dApp (go ge:DE):DE:=fun L S k=>go L S fun d S1=>match d with
  | .ref a=>(∃ ds,S1 a=some (.lst ds))/\ge L S1 fun e S2=>∃ ds,S2 a=some (.lst ds)/\ds.length < sizeLine/\k .non (put S2 a (.lst (ds++[e])))
  | _=>False
theorem d_appj (ho:EJ X o go) (he:EJ X e ge) (hbase:attributeBase o "append" X.env (eval o X.env)=eval o X.env:=by rfl)
    (hfew:((backTo cpos (starEach [e] X.env)).all (fun x=>!x.1) && (backToKw cpos (keywordEach [] X.env)).all (fun x=>x.1.isSome) && decide ([e].length+([]:List Keyword).length+(if ([]:List Keyword).isEmpty then 0 else 1) < 30))=true:=by rfl)
    (hline:(apos.endLine == cpos.line)=true:=by rfl) (hs:starEach [e] X.env=(false,eval e X.env)::starEach [] X.env:=by rfl) (hpl:(backTo cpos (starEach [] X.env)).any (·.1)=false:=by rfl):
    EJ X (.Call (.Attribute o "append" apos) [e] [] cpos) (dApp go ge):=
  ⟨PE.imp (pe_bm PySem.F.plainAttrs_list PySem.F.slot_list_append PySem.F.type_list_append mt_append ho.h (pa_cons he.h pa_nil hs) hbase hfew hline hs hpl) fun σ H Q ⟨L,S,k,hL,hS,h,n⟩=>up.go hL hS h fun d S1 v H1 h1 k1 hL1 hS1 i1=>by
    cases d with
    | ref a=>
      have e1:=isRef.mp i1
      subst e1
      obtain⟨⟨ds1,z1⟩,h1⟩:=h1
      obtain⟨xs1,hl1,_⟩:=hS1.lst z1
      refine⟨.inl ⟨rfl,xs1,SqL.of hl1⟩,up.go hL1 hS1 h1 fun d2 S2 v2 H2 h2 k2 hL2 hS2 i2=>?_⟩
      obtain⟨ds,z,hz,w⟩:=h2
      obtain⟨xs,hl,j⟩:=hS2.lst z
      have k3:Kp H2 (upd H2 a (.lst (xs++[v2]))):=Kp.mut hl (fun z=>z)
      exact⟨a,xs,v2,rfl,rfl,hl,by rw [<- j.length]; exact hz,n _ _ _ _ w (k1.trans (k2.trans k3)) (hS2.setL hl (j.append (IsDs.cons i2 IsDs.nil))) (isNon.mpr rfl)⟩
    | _=>exact(show False from h1).elim⟩
def dExt (go ge:DE):DE:=fun L S k=>go L S fun d S1=>match d with
  | .ref a=>(∃ ds,S1 a=some (.lst ds))/\ge L S1 fun e S2=>match e with
    | .ref b=>∃ ds es,S2 a=some (.lst ds)/\S2 b=some (.lst es)/\ds.length+es.length<=sizeLine/\k .non (put S2 a (.lst (ds++es)))
    | _=>False
  | _=>False
theorem d_extj (ho:EJ X o go) (he:EJ X e ge) (hbase:attributeBase o "extend" X.env (eval o X.env)=eval o X.env:=by rfl)
    (hfew:((backTo cpos (starEach [e] X.env)).all (fun x=>!x.1) && (backToKw cpos (keywordEach [] X.env)).all (fun x=>x.1.isSome) && decide ([e].length+([]:List Keyword).length+(if ([]:List Keyword).isEmpty then 0 else 1) < 30))=true:=by rfl)
    (hline:(apos.endLine == cpos.line)=true:=by rfl) (hs:starEach [e] X.env=(false,eval e X.env)::starEach [] X.env:=by rfl) (hpl:(backTo cpos (starEach [] X.env)).any (·.1)=false:=by rfl):
    EJ X (.Call (.Attribute o "extend" apos) [e] [] cpos) (dExt go ge):=
  ⟨PE.imp (pe_bm PySem.F.plainAttrs_list PySem.F.slot_list_extend PySem.F.type_list_extend mt_extend ho.h (pa_cons he.h pa_nil hs) hbase hfew hline hs hpl) fun σ H Q ⟨L,S,k,hL,hS,h,n⟩=>up.go hL hS h fun d S1 v H1 h1 k1 hL1 hS1 i1=>by
    cases d with
    | ref a=>
      have e1:=isRef.mp i1
      subst e1
      obtain⟨⟨ds1,z1⟩,h1⟩:=h1
      obtain⟨xs1,hl1,_⟩:=hS1.lst z1
      refine⟨.inl ⟨rfl,xs1,SqL.of hl1⟩,up.go hL1 hS1 h1 fun d2 S2 v2 H2 h2 k2 hL2 hS2 i2=>?_⟩
      cases d2 with
      | ref b=>
        have e2:=isRef.mp i2
        subst e2
        obtain⟨ds,es,z,y,hz,w⟩:=h2
        obtain⟨xs,hl,j⟩:=hS2.lst z
        obtain⟨ys,hm,i⟩:=hS2.lst y
        have k3:Kp H2 (upd H2 a (.lst (xs++ys))):=Kp.mut hl (fun z=>z)
        exact⟨a,b,xs,ys,rfl,rfl,hl,hm,by rw [<- j.length,<- i.length]; exact hz,n _ _ _ _ w (k1.trans (k2.trans k3)) (hS2.setL hl (j.append i)) (isNon.mpr rfl)⟩
      | _=>exact(show False from h2).elim
    | _=>exact(show False from h1).elim⟩
def dChain (r r':D2) (ga gb gc:DE):DE:=fun L S k=>ga L S fun x S1=>gb L S1 fun y S2=>r x y S2 fun z S3=>match z with
  | .bl t=>if t=true then gc L S3 fun w S4=>r' y w S4 k else k (.bl false) S3
  | _=>False
theorem dChain_go {K:Fg} {r r':D2}:∀ σ H Q,up K (dChain r r' ga gb gc) σ H Q->tChain (upR K r) (upR K r') (up K ga) (up K gb) (up K gc) σ H Q:=fun σ H Q ⟨L,S,k,hL,hS,h,n⟩=>
  up.go hL hS h fun d S1 v H1 h1 k1 hL1 hS1 i1=>up.go hL1 hS1 h1 fun e S2 u H2 h2 k2 hL2 hS2 i2=>⟨d,e,S2,_,i1.kp k2,i2,hS2,h2,fun z S3 w H3 q k3 hS3 i3=>by
    cases z with
    | bl t=>
      refine⟨t,isBl.mp i3,?_⟩
      have q':if t=true then gc L S3 (fun w S4=>r' e w S4 k) else k (.bl false) S3:=q
      cases t with
      | false=>
        rw [if_neg Bool.false_ne_true] at q' ⊢
        exact n _ _ _ _ q' (k1.trans (k2.trans k3)) hS3 (isBl.mpr rfl)
      | true=>
        rw [if_pos rfl] at q' ⊢
        exact up.go (hL2.kp k3) hS3 q' fun f S4 w4 H4 h4 k4 hL4 hS4 i4=>⟨e,f,S4,k,i2.kp (k3.trans k4),i4,hS4,h4,fun d' S' v' H' q k5 z1 z2=>n d' S' v' H' q (k1.trans (k2.trans (k3.trans (k4.trans k5)))) z1 z2⟩
    | _=>exact(show False from q).elim⟩
theorem d_chainj {op op':CmpOp} {r r':D2} (ho:OpR X (compareOp op) (upR X.K r)) (ho':OpR X (compareOp op') (upR X.K r')) (ha:EJ X a ga) (hb:EJ X b gb) (hc:EJ X c gc)
    (hm:lastMarks [op,op'] [b,c]=false:=by with_unfolding_all rfl):EJ X (.Compare a [op,op'] [b,c] pos) (dChain r r' ga gb gc):=⟨PE.imp (pe_chain ho ho' ha.h hb.h hc.h hm) dChain_go⟩
theorem dt_chainj {op op':CmpOp} {r r':D2} (ho:OpR X (compareOp op) (upR X.K r)) (ho':OpR X (compareOp op') (upR X.K r')) (ha:EJ X a ga) (hb:EJ X b gb) (hc:EJ X c gc)
    (hm:lastMarks [op,op'] [b,c]=false:=by with_unfolding_all rfl):TJ X (.Compare a [op,op'] [b,c] pos) (dTest (dChain r r' ga gb gc)):=
  ⟨PT.imp (pt_chain ho ho' ha.h hb.h hc.h hm) fun σ H Q ⟨L,S,k,hL,hS,h,n⟩=>dChain_go σ H _ ⟨L,S,_,hL,hS,h,fun d S' v H' q k1 hS1 i1=>by
    cases d with
    | bl t=>exact⟨t,isBl.mp i1,n t S' H' q k1 hS1⟩
    | _=>exact(show False from q).elim⟩⟩
end
theorem for_coreG {K:Fg} {ok:DH->Prop} {gg:DG} {b:DS} {M:DEnds} {ds:List D} {L:Lo} {S:DH} {N:Ends} {σ:L2.St} {H:Hp} {J:It} (hL:Lc K H L σ) (hS:Hs K H S) (h:dLoop ok gg b M ds L S) (r:Rch K H M N)
    (hgo:∀ i d S1 H1,ds[i]?=some d->Kp H H1->Hs K H1 S1->ok S1->J.go i H1/\∀ x H',J.yld i H1 x H'->Kp H1 H'/\Hs K H' S1/\IsD K H' d x)
    (hst:∀ S1 H1,Kp H H1->Hs K H1 S1->ok S1->J.stop ds.length H1):
    ∃ W:Nat->Nat->L2.St->Hp->Prop,(∃ m,W 0 m σ H)/\∀ i m σ H,W i m σ H->
      (J.stop i H/\N.nx σ H)\/(J.go i H/\∃ N':L2.St->Hp->Prop,(∀ σ' H',N' σ' H'->∃ m',m' < m/\W (i+1) m' σ' H')/\∀ x H',J.yld i H x H'->upG K gg x σ H' fun σ2 H2=>upS K b {N with nx:=N',ct:=N',bk:=N.nx} σ2 H2):=by
  refine⟨fun i m σ1 H1=>m=ds.length - i/\i<=ds.length/\∃ L1 S1,Lc K H1 L1 σ1/\Hs K H1 S1/\Kp H H1/\dLoop ok gg b M (ds.drop i) L1 S1,⟨ds.length,by simp,Nat.zero_le _,L,S,hL,hS,Kp.refl H,h⟩,?_⟩
  rintro i m σ1 H1 ⟨rfl,hi,L1,S1,hL1,hS1,k1,w1⟩
  by_cases hlt:i < ds.length
  · have e:ds.drop i=ds[i]::ds.drop (i+1):=List.drop_eq_getElem_cons hlt
    rw [e] at w1
    obtain⟨o1,w1⟩:=w1
    obtain⟨g1,y1⟩:=hgo i ds[i] S1 H1 (by simp [hlt]) k1 hS1 o1
    refine .inr ⟨g1,fun σ' H'=>i+1<=ds.length/\∃ L' S',Lc K H' L' σ'/\Hs K H' S'/\Kp H H'/\dLoop ok gg b M (ds.drop (i+1)) L' S',fun σ' H' ⟨q1,q2⟩=>⟨ds.length - (i+1),by omega,rfl,q1,q2⟩,fun x H' y=>?_⟩
    obtain⟨k0,hS0,ix⟩:=y1 x H' y
    have k10:=k1.trans k0
    refine⟨ds[i],L1,S1,_,ix,hL1.kp k0,hS0,w1,fun L2 S2 σ2 H2 q k2 hL2 hS2=>⟨L2,S2,_,hL2,hS2,q,?_⟩⟩
    have r2:=r.kp (k10.trans k2)
    exact⟨fun L3 S3 σ3 H3 q3 k3 hL3 hS3=>⟨hlt,L3,S3,hL3,hS3,(k10.trans k2).trans k3,q3⟩,r2.rt,r2.nx,fun L3 S3 σ3 H3 q3 k3 hL3 hS3=>⟨hlt,L3,S3,hL3,hS3,(k10.trans k2).trans k3,q3⟩⟩
  · have e:i=ds.length:=by omega
    subst e
    rw [List.drop_length] at w1
    obtain⟨o1,w1⟩:=w1
    exact .inl ⟨hst S1 H1 k1 hS1 o1,r.nx L1 S1 σ1 H1 w1 k1 hL1 hS1⟩
theorem zip_go {K:Fg} {H1:Hp} {q1 q2:List D×Option Addr} {a1 a2:Addr} {b1 b2:Bool} (y1:∀ S2 H2,Kp H1 H2->Hs K H2 S2->okFor q1 S2->∃ xs,SqB b1 K H2 a1 xs/\IsDs K H2 q1.1 xs) (y2:∀ S2 H2,Kp H1 H2->Hs K H2 S2->okFor q2 S2->∃ xs,SqB b2 K H2 a2 xs/\IsDs K H2 q2.1 xs):
    (∀ i d S2 H2,(zipD q1.1 q2.1)[i]?=some d->Kp H1 H2->Hs K H2 S2->(okFor q1 S2/\okFor q2 S2)->(Itz K b1 b2 a1 a2).go i H2/\∀ x H',(Itz K b1 b2 a1 a2).yld i H2 x H'->Kp H2 H'/\Hs K H' S2/\IsD K H' d x)/\
    ∀ S2 H2,Kp H1 H2->Hs K H2 S2->(okFor q1 S2/\okFor q2 S2)->(Itz K b1 b2 a1 a2).stop (zipD q1.1 q2.1).length H2:=by
  refine⟨fun i c S2 H2 e k2 hS2 o2=>?_,fun S2 H2 k2 hS2 o2=>?_⟩
  · obtain⟨xs,w1,u1⟩:=y1 S2 H2 k2 hS2 o2.1
    obtain⟨ys,w2,u2⟩:=y2 S2 H2 k2 hS2 o2.2
    obtain⟨c1,c2,f1,f2,rfl⟩:∃ c1 c2,q1.1[i]?=some c1/\q2.1[i]?=some c2/\D.tup [c1,c2]=c:=by
      unfold zipD at e
      rw [List.getElem?_zipWith] at e
      cases z1:q1.1[i]? with
      | none=>rw [z1] at e; cases e
      | some c1=>
        cases z2:q2.1[i]? with
        | none=>rw [z1,z2] at e; cases e
        | some c2=>rw [z1,z2] at e; exact⟨c1,c2,rfl,rfl,Option.some.inj e⟩
    obtain⟨v1,g1,r1⟩:=u1.get f1
    obtain⟨v2,g2,r2⟩:=u2.get f2
    refine⟨⟨xs,ys,v1,v2,w1,w2,g1,g2⟩,?_⟩
    rintro x H' ⟨T,x',y',rfl,hT,rfl,al⟩
    obtain⟨l1,l2⟩:=al xs ys w1 w2
    rw [g1] at l1
    rw [g2] at l2
    cases l1
    cases l2
    have kn:Kp H2 (upd H2 T (.tup [v1,v2])):=Kp.new hT
    exact⟨kn,hS2.new hT,isTup.mpr ⟨T,[v1,v2],rfl,SqT.of upd_same,IsDs.cons (r1.kp kn) (IsDs.cons (r2.kp kn) IsDs.nil)⟩⟩
  · obtain⟨xs,w1,u1⟩:=y1 S2 H2 k2 hS2 o2.1
    obtain⟨ys,w2,u2⟩:=y2 S2 H2 k2 hS2 o2.2
    refine⟨xs,ys,w1,w2,?_⟩
    rw [<- u1.length,<- u2.length]
    unfold zipD
    rw [List.length_zipWith]
    omega
def dForZ (ta:DA) (g:DG) (b:DS):DS:=fun M L S=>ta L S fun ds S1=>match ds with
  | [d1,d2]=>∃ q1 q2,dItems S1 d1=some q1/\dItems S1 d2=some q2/\dLoop (fun S=>okFor q1 S/\okFor q2 S) g b M (zipD q1.1 q2.1) L S1
  | _=>False
section
variable {X:Cx} {a b:Expr} {es:List Expr} {kt:Nat} {tp p pos pos':Pos} {gg:DG} {ta:DA} {g:DS} {body:List Stmt} {tg:Expr}
theorem dst_forZj (hp:PassesOwn (model X.prog X.w) X.A X.env X.xe) (hc:X.calm=true) (hgl:Gl X "zip") (hm:X.mg "zip"=none) (ha:AJ X [a,b] ta) (hg:GJ X (.Tuple es kt tp) gg) (hb:SsJ X body g)
    (hs1:starEach [a,b] X.env=[(false,eval a X.env),(false,eval b X.env)]:=by rfl) (hs2:starEach [b] X.env=[(false,eval b X.env)]:=by rfl) (hs:∀ x,foldedSetIterable (.Call (.Name "zip" p) [a,b] [] pos') X.env x=pure x:=by intro _; rfl):
    SJ X (.For (.Tuple es kt tp) (.Call (.Name "zip" p) [a,b] [] pos') body [] pos) (dForZ ta gg g):=
  ⟨PS.imp (ps_for hp hc (pi_zip hgl hm ha.h hs1 hs2) hg.h hb.h hs) fun N σ H ⟨L,S,M,hL,hS,h,r⟩=>upA.go hL hS h fun ds S1 vs H1 h1 k1 hL1 hS1 i1=>by
    split at h1
    · rename_i d1 d2
      obtain⟨v1,v2,rfl,j1,j2⟩:=isDs2 i1
      obtain⟨q1,q2,e1,e2,h1⟩:=h1
      obtain⟨a1,b1,rfl,x1,y1⟩:=seq_kd hS1 j1 e1
      obtain⟨a2,b2,rfl,x2,y2⟩:=seq_kd hS1 j2 e2
      obtain⟨z1,z2⟩:=zip_go y1 y2
      exact⟨a1,a2,b1,b2,rfl,x1,x2,for_coreG hL1 hS1 h1 (r.kp k1) z1 z2⟩
    · exact h1.elim⟩
end
section
variable {X:Cx} {pos:Pos}
def dCutE (g:DE) (tl th:DOp):DE:=fun L S k=>g L S fun x S1=>tl L S1 fun lo S2=>th L S2 fun hi S3=>match x with
  | .tup xs=>¬ (HT.sIx xs.length 0 lo=0/\HT.sIx xs.length xs.length hi=xs.length)/\k (.tup (cutD xs lo hi)) S3
  | .rl xs=>∀ p,S3 p=none->k (.ref p) (put S3 p (.lst (cutD xs lo hi)))
  | .ref a=>∃ xs,S3 a=some (.lst xs)/\∀ p,S3 p=none->k (.ref p) (put S3 p (.lst (cutD xs lo hi)))
  | _=>False
theorem d_cutEj {e:Expr} {g:DE} {lo hi:Option Expr} {tl th:DOp} {p2 pos:Pos} (he:EJ X e g) (hl:OJ X lo tl) (hu:OJ X hi th):EJ X (.Subscript e (.Slice lo hi none p2) pos) (dCutE g tl th):=
  ⟨PE.imp (pe_slice (SlR.or sl_tup sl_list) he.h hl.h hu.h) fun σ H Q ⟨L,S,k,hL,hS,h,n⟩=>up.go hL hS h fun d S1 v H1 h1 k1 hL1 hS1 i1=>by
    refine⟨L,S1,_,hL1,hS1,h1,fun lo' S2 H2 h2 k2 hS2=>⟨L,S2,_,hL1.kp k2,hS2,h2,fun hi' S3 H3 h3 k3 hS3=>?_⟩⟩
    cases d with
    | tup xs=>
      obtain⟨a,vs,rfl,t,j⟩:=isTup.mp i1
      have j3:=j.kp (k2.trans k3)
      refine .inl ⟨a,vs,rfl,(k2.trans k3).tup t,by rw [<- j.length]; exact h3.1,fun p hp=>?_⟩
      have k4:Kp H3 (upd H3 p (.tup (cutV vs lo' hi'))):=Kp.new hp
      refine n _ S3 _ _ h3.2 (k1.trans (k2.trans (k3.trans k4))) (hS3.new hp) (isTup.mpr ⟨p,_,rfl,SqT.of upd_same,?_⟩)
      unfold cutD cutV
      rw [j.length]
      exact((j3.drop _).take _).kp k4
    | rl xs=>
      obtain⟨a,vs,rfl,t,j⟩:=isRl.mp i1
      have j3:=j.kp (k2.trans k3)
      refine .inr ⟨a,vs,rfl,((k2.trans k3).fro t).sq,fun p hp=>?_⟩
      refine n _ _ _ _ (h3 p (hS3.free hp)) (k1.trans (k2.trans (k3.trans (Kp.new hp)))) (hS3.newL hp ?_) (isRef.mpr rfl)
      unfold cutD cutV
      rw [j.length]
      exact(j3.drop _).take _
    | ref a=>
      have e1:=isRef.mp i1
      subst e1
      obtain⟨xs,z,h3⟩:=h3
      obtain⟨vs,hl,j⟩:=hS3.lst z
      refine .inr ⟨a,vs,rfl,SqL.of hl,fun p hp=>?_⟩
      refine n _ _ _ _ (h3 p (hS3.free hp)) (k1.trans (k2.trans (k3.trans (Kp.new hp)))) (hS3.newL hp ?_) (isRef.mpr rfl)
      unfold cutD cutV
      rw [j.length]
      exact(j.drop _).take _
    | _=>exact(show False from h3).elim⟩
theorem d_compEIfj {elt tg iter c:Expr} {scope:Scope} {cl:List (Str×Addr)} {N:List Str} {cap:List (Option Nat)} {gg:DG} {ge gi:DE} {gc:DT} (hc:X.calm=true) (Sc:CompSc X scope cl N cap) (hi:EJ X iter gi) (hg:∀ s0 H0 ex C,GJ (cxC X scope cl N s0 H0 ex C) tg gg) (hcnd:∀ s0 H0 ex C,TJ (cxC X scope cl N s0 H0 ex C) c gc) (he:∀ s0 H0 ex C,EJ (cxC X scope cl N s0 H0 ex C) elt ge)
    (hs:∀ x,foldedSetIterable iter X.env x=pure x:=by intro _; rfl):EJ X (.ListComp elt [⟨tg,iter,[c],0⟩] scope pos) (dCompE cap gi gg (bdIf gc ge)):=
  ⟨PE.imp (pe_compIf hc Sc (pi_seq hi.h) (fun s0 H0 ex C=>(hg s0 H0 ex C).h) (fun s0 H0 ex C=>(hcnd s0 H0 ex C).h) (fun s0 H0 ex C=>(he s0 H0 ex C).h) hs) fun σ H Q ⟨L,S,k,hL,hS,h,n⟩=>up.go hL hS h fun d S1 v H1 h1 k1 hL1 hS1 i1=>by
    obtain⟨p,hp,h1⟩:=h1
    obtain⟨a,e,q⟩:=seq_go hS1 i1 hp
    refine⟨a,e,?_⟩
    have n':∀ d S' v H',k d S'->Kp H1 H'->Hs X.K H' S'->IsD X.K H' d v->Q v H':=fun d S' v H' q k3=>n d S' v H' q (k1.trans k3)
    rcases q with ⟨q1,q2,q3⟩ | ⟨q1,q2,q3⟩
    · exact .inl ⟨q1,fun D hD=>comp_coreIf (hL1.cap cap) hS1 hD (h1 D (hS1.free hD)) n' q2 q3⟩
    · exact .inr ⟨q1,fun D hD=>comp_coreIf (hL1.cap cap) hS1 hD (h1 D (hS1.free hD)) n' q2 q3⟩⟩
theorem mem_cutD {xs:List D} {lo hi:Option Int} {d:D} (h:d∈cutD xs lo hi):d∈xs:=List.mem_of_mem_drop (List.mem_of_mem_take h)
theorem loop_ix {ok:DH->Prop} {g:DG} {b:DS} {M:DEnds} (Iv:List D->Lo->DH->Prop) (hok:∀ r L S,Iv r L S->ok S)
    (hs:∀ d r L S N,Iv (d::r) L S->(∀ L' S',Iv r L' S'->N L' S')->g d L S fun L1 S1=>b {M with nx:=N,ct:=N,bk:=M.nx} L1 S1) (hd:∀ L S,Iv [] L S->M.nx L S):∀ r L S,Iv r L S->dLoop ok g b M r L S
  | [],L,S,i=>⟨hok [] L S i,hd L S i⟩
  | d::r,L,S,i=>⟨hok _ L S i,hs d r L S _ i fun L' S' i'=>loop_ix Iv hok hs hd r L' S' i'⟩
end
end DL
namespace L2
open PySem PySem.Spec PyProof.Rows
def CXE (P:Program) (w:World):CXT:=fun outer H s E e s'=>∃ (ea:Addr) (cls a0:Value) (H':Hp) (B:Heap),e=.ref ea/\s'.os=s.os/\AllBare s'.gens/\Heap.FlyingW B outer ea cls a0 s'.heap/\HOk P w H' B/\
  (∀ b o,s.heap.get? b=some o->H b=none->b∉frs outer->B.get? b=some o)/\(∀ b o,s.heap.get? b=some o->b∉frs outer->∃ o',B.get? b=some o')/\Un (frs outer) [] H H' s.heap s'.heap/\E cls none H'
section
variable {P:Program} {w:World} {K:PySem.W.Frag} {mg:Str->Option Value} {base:Heap} {N:List Str} {qual:Str} {scope:Scope} {f:Addr} {cd:Value} {A:Around} {outer:List Env} {s0:Shared} {H0:Hp} {E:XK}
theorem cx_out {pins:List (Addr×Obj)} {σ:St} {H H':Hp} {s:Shared} {sx:Shared} {B h':Heap} {ea:Addr} {cls a0:Value} (I:Inv (cxOf (CXE P w) P w K mg base N qual scope f cd A outer s0 H0 E) pins σ H s) (os:sx.os=s.os) (bare:AllBare sx.gens)
    (fl:Heap.FlyingW B outer ea cls a0 h') (hok:HOk P w H' B) (hB:∀ b o,s.heap.get? b=some o->H b=none->b∉frs (cxOf (CXE P w) P w K mg base N qual scope f cd A outer s0 H0 E).stack->B.get? b=some o)
    (hB2:∀ b o,s.heap.get? b=some o->b∉frs (cxOf (CXE P w) P w K mg base N qual scope f cd A outer s0 H0 E).stack->∃ o',B.get? b=some o')
    (hsl:∀ b∈frs outer,∀ o,s.heap.get? b=some o->∃ sl,h'.get? b=some {o with slots:=sl}) (fr:∀ b o,s.heap.get? b=some o->H b=none->H' b=none) (tu:∀ b xs,H b=some (.tup xs)->H' b=some (.tup xs)) (fz:∀ b o u,H b=some (.frz o u)->H' b=some (.frz o u))
    (tb:∀ b ps,H b=some (.tbl ps)->∃ more,H' b=some (.tbl (ps++more))) (q:E cls none H'):CXE P w outer H0 s0 E (.ref ea) {sx with heap:=h'}:=by
  have nst:∀ b o,s0.heap.get? b=some o->b∉frs outer->b∉frs (cxOf (CXE P w) P w K mg base N qual scope f cd A outer s0 H0 E).stack:=fun b o e hb z=>by
    rcases List.mem_cons.mp (I.stkSub b z) with z | z
    · have:=Heap.lt_size e
      have ab:=I.ok.above
      rw [z] at this
      exact absurd (Nat.lt_of_lt_of_le this ab) (Nat.lt_irrefl _)
    · exact hb z
  have hkeep:∀ b o,s0.heap.get? b=some o->H0 b=none->b∉frs outer->B.get? b=some o:=fun b o e n hb=>
    hB b o (I.base.keep b o e n hb (fun z=>nomatch z)) (I.base.free b o e n (fun z=>nomatch z)) (nst b o e hb)
  have hthere:∀ b o,s0.heap.get? b=some o->b∉frs outer->∃ o',B.get? b=some o':=fun b o e hb=>by
    obtain⟨o',e1⟩:=I.base.there b o e (fun z=>nomatch z)
    exact hB2 b o' e1 (nst b o e hb)
  refine⟨ea,cls,a0,H',B,rfl,os.trans I.os,bare,fl,hok,hkeep,hthere,⟨fun b o e n hb _=>fl.1 _ _ (hkeep b o e n hb),fun b o e n hb _=>?_,fun b o e n _=>?_,fun b o e _=>?_,fun b xs e=>tu _ _ (I.base.tups b xs e),fun b o u e=>fz _ _ _ (I.base.frzs b o u e),fun b ps e=>?_⟩,q⟩
  · obtain⟨sl,e1⟩:=I.base.slot b o e n hb (fun z=>nomatch z)
    obtain⟨sl',e2⟩:=hsl b hb _ e1
    exact⟨sl',e2⟩
  · obtain⟨o',e1⟩:=I.base.there b o e (fun z=>nomatch z)
    exact fr b o' e1 (I.base.free b o e n (fun z=>nomatch z))
  · by_cases hb:b∈frs outer
    · obtain⟨o',e1⟩:=I.base.there b o e (fun z=>nomatch z)
      obtain⟨sl',e2⟩:=hsl b hb _ e1
      exact⟨_,e2⟩
    · obtain⟨o',e1⟩:=hthere b o e hb
      exact⟨o',fl.1 _ _ e1⟩
  · obtain⟨m1,e1⟩:=I.base.tbls b ps e
    obtain⟨m2,e2⟩:=tb b _ e1
    exact⟨m1++m2,by rw [e2,Array.append_assoc]⟩
theorem passesE:Passes (CXE P w) (cxOf (CXE P w) P w K mg base N qual scope f cd A outer s0 H0 E) E:=by
  intro pins σ H s e s' I h
  obtain⟨ea,cls,a0,H',B,rfl,os,bare,fl,hok,hB,hB2,un,q⟩:=h
  show wpAny _ _ (leaving _ (.ref ea)) _ _ s'
  refine wpAny_leaves_onW I.ok.frames rfl fl fun h' fl' up=>?_
  refine cx_out (sx:=s') I os bare fl' hok hB hB2 (fun b hb o e=>?_) (fun b o e n=>un.free b o e n (fun z=>nomatch z)) un.tups un.frzs un.tbls q
  have hb':b∈frs (cxOf (CXE P w) P w K mg base N qual scope f cd A outer s0 H0 E).stack:=List.mem_cons_of_mem _ hb
  have hn:=I.stkFree b hb'
  obtain⟨sl,e1⟩:=un.slot b o e hn hb' (fun z=>nomatch z)
  obtain⟨_,o2,e2,d2⟩:=fl.2.2.1.mem hb'
  rw [e1] at e2
  cases e2
  obtain⟨sl',e3⟩:=up b _ e1 d2
  exact⟨sl',e3⟩
end
theorem exc_own {K:PySem.W.Frag} {C:Addr} {bmB:List Value} {newId:String} {h:Heap} {x:Str} {mg:Str->Option Value} (X:K.In h) (q:PySem.W.excIn K C bmB newId=true) (hm:mg x=some (.ref C)):OwnCls x C bmB newId mg h:=by
  refine⟨hm,?_⟩
  unfold PySem.W.excIn at q
  split at q
  · rename_i d1 c1 sl hlk
    split at q
    · rename_i C1 bm a0 a1 a2 a3 nn a5 hmro hsl
      simp only [Bool.and_eq_true,beq_iff_eq,Bool.not_eq_true'] at q
      obtain⟨⟨⟨⟨⟨q1,q2⟩,q3⟩,q4⟩,q5⟩,q6⟩:=q
      subst q1 q2
      obtain⟨v1,v2,v3,v4,v5,v6,v7,v8,v9,v10,v11⟩:=c1
      dsimp only at hmro q3 q5 q6
      subst hmro q3
      obtain⟨l⟩:=sl
      simp only at hsl
      subst hsl
      exact⟨bm,v4,v1,v5,v2,v6,v7,v8,v9,v10,d1,a0,a1,a2,a3,a5,_,X _ _ hlk,.of_isNs (PySem.W.isNs_of_in X q5),PySem.W.nsMap_none_of_in X q5 q6,PySem.W.tail_of_in X q4⟩
    · cases q
  · cases q
section
variable {P:Program} {w:World} {K:PySem.W.Frag} {mg:Str->Option Value} {base:Heap} {N:List Str} {qual:Str} {scope:Scope} {f:Addr} {cd:Value} {A:Around} {outer:List Env} {s0:Shared} {H0:Hp} {E:XK}
theorem ps_raise {x t:Str} {C:Addr} {bmB:List Value} {Bn newId initId:String} {j:Nat} {p np cpos pos:Pos} (FB:ExcBaseFacts Bn newId initId bmB) (q:PySem.W.excIn K C bmB newId=true) (hm:mg x=some (.ref C))
    (hg:Gl (cxOf (CXE P w) P w K mg base N qual scope f cd A outer s0 H0 E) x) (hd:(x == ("__debug__":Str))=false:=by decide):
    PS (cxOf (CXE P w) P w K mg base N qual scope f cd A outer s0 H0 E) (.Raise (some (.Call (.Name x np) [.Constant (.str t) j p] [] cpos)) none pos) (fun _ _ H=>E (.ref C) none H):=by
  intro pins s σ H D I h
  obtain⟨tl,Nn,nm,qn,bs,hdct,sn,sub,ab,col,dd,k0,k1,k2,k3,k5,mN,hC,hN,hni,T⟩:=(exc_own (x:=x) I.kIn q hm).obj
  refine wpAny_Raise_call_subT (C:=C) (nm:=nm) (q:=qn) (N:=Nn) (bs:=bs) (bm:=tl) (hdct:=hdct) (sn:=sn) (sub:=sub) (ab:=ab) (col:=col) (dd:=dd) (k0:=k0) (k1:=k1) (k2:=k2) (k3:=k3) (k5:=k5)
    FB (mN:=mN) (T.hasType FB.hasBase) (I.ok.hd rfl) rfl hni (ld_glob I hg hm ⟨rfl,?_⟩ hd)
  refine Calls.evalArgs_plain (Calls.spliced_cons (Calls.Constant_str (k:=j) (pos:=p) (Calls.spliced_nil ⟨rfl,Nat.le_of_ble_eq_true rfl,hC,hN,T,fun h' e hx=>?_⟩)))
  show wpAny _ _ (leaving _ (.ref e)) _ _ _
  have I1:=I.tok (s.toks+1)
  have hin:∀ env∈(cxOf (CXE P w) P w K mg base N qual scope f cd A outer s0 H0 E).stack,∀ b,env.frame=some b->b∈frs (cxOf (CXE P w) P w K mg base N qual scope f cd A outer s0 H0 E).stack:=fun env he b hb=>List.mem_filterMap.mpr ⟨env,he,hb⟩
  refine wpAny_leaves_madeW (base:=PySem.W.hideAll s.heap (frs (cxOf (CXE P w) P w K mg base N qual scope f cd A outer s0 H0 E).stack)) I.ok.frames rfl (fun b o z=>PySem.W.of_hideAll _ z) (PySem.W.funFrames_hide I.stack hin) hx fun h2 t2 fl _ _ up=>?_
  refine cx_out (sx:={s with heap:=h',toks:=s.toks+1}) I rfl I.bare fl (fun b ob z=>?_) (fun b o z _ hb=>PySem.W.hideAll_get _ z hb) (fun b o z hb=>⟨o,PySem.W.hideAll_get _ z hb⟩) (fun b hb o z=>?_) (fun _ _ _ n=>n) (fun _ _ z=>z) (fun _ _ _ z=>z) (fun b ps z=>⟨#[],by rw [z]; simp⟩) h
  · refine(I.hok b ob z).stay (fun c v hc y=>PySem.W.hideAll_get _ y fun hf=>?_) (fun _ y=>y) fun _ _ y=>y
    have hn:=I.stkFree c hf
    rcases hc with rfl | hc
    · rw [hn] at z; cases z
    · rw [hn] at hc; cases hc
  · obtain⟨_,o2,e2,d2⟩:=I.stack.mem (List.mem_cons_of_mem _ hb)
    rw [z] at e2
    cases e2
    exact up b o (hx.keeps _ _ z) d2
end
section
variable {X:Cx} {pins:List (Addr×Obj)} {σ:St} {H H':Hp} {s s':Shared} {E:XK}
theorem Inv.landed {B h5:Heap} {ea:Addr} {cls a0:Value} (I:Inv X pins σ H s) (os:s'.os=s.os) (bare:AllBare s'.gens) (fl:Heap.FlyingW B X.stack ea cls a0 s'.heap) (fl5:Heap.FlyingW B X.stack ea cls a0 h5) (up:s'.heap.UpToSlots h5) (hok:HOk X.prog X.w H' B)
    (hB:∀ b o,s.heap.get? b=some o->H b=none->b∉frs X.stack->B.get? b=some o) (hB2:∀ b o,s.heap.get? b=some o->b∉frs X.stack->∃ o',B.get? b=some o') (un:Un (frs X.stack) [] H H' s.heap s'.heap):
    Inv X pins σ H' {s' with heap:=h5}:=by
  have fsl:∀ b∈frs X.stack,∀ o,s.heap.get? b=some o->∃ sl,h5.get? b=some {o with slots:=sl}:=fun b hb o e=>by
    obtain⟨sl,e1⟩:=un.slot b o e (I.stkFree b hb) hb (fun z=>nomatch z)
    obtain⟨_,o2,e2,d2⟩:=fl.2.2.1.mem hb
    rw [e1] at e2
    cases e2
    obtain⟨sl',e3⟩:=up b _ e1 d2
    exact⟨sl',e3⟩
  refine I.call' (s':={s' with heap:=h5}) (ch:=[]) os ⟨fun b o e n hb _=>fl5.1 _ _ (hB b o e n hb),fun b o e n hb _=>fsl b hb o e,un.free,fun b o e _=>?_,un.tups,un.frzs,un.tbls⟩ (hok.kept fl5.1) bare fun b z=>nomatch z
  by_cases hb:b∈frs X.stack
  · obtain⟨sl,e1⟩:=fsl b hb o e
    exact⟨_,e1⟩
  · obtain⟨o',e1⟩:=hB2 b o e hb
    exact⟨o',fl5.1 _ _ e1⟩
theorem Inv.freeze {a:Addr} {o:Obj} (I:Inv X pins σ H s) (e:s.heap.get? a=some o) (hn:H a=none) (h0:X.s₀.heap.get? a=none) (hL:a≠X.env.locals) (hc:∀ x c,X.env.cells.lookup x=some c->c≠a) (hp:∀ p∈X.pn++pins,p.1≠a):
    Inv X pins σ (upd H a (.frz o (.ext fun _=>True))) s:=by
  have ne:∀ b u,X.s₀.heap.get? b=some u->b≠a:=fun b u z y=>by rw [y,h0] at z; cases z
  refine⟨I.ok,I.os,I.bare,⟨I.base.keep,I.base.slot,fun b u z n x=>?_,I.base.there,fun b xs z=>?_,fun b u v z=>?_,fun b ps z=>?_⟩,I.loc,I.cell,?_,fun x c z=>?_,fun p z=>?_,fun b u z=>?_,I.len⟩
  · rw [upd_ne (ne b u z)]; exact I.base.free b u z n x
  · have q:=I.base.tups b xs z
    rw [upd_ne (ne_of_none q hn)]; exact q
  · have q:=I.base.frzs b u v z
    rw [upd_ne (ne_of_none q hn)]; exact q
  · obtain⟨m,q⟩:=I.base.tbls b ps z
    exact⟨m,by rw [upd_ne (ne_of_none q hn)]; exact q⟩
  · rw [upd_ne (Ne.symm hL)]; exact I.free
  · rw [upd_ne (hc x c z)]; exact I.freeC x c z
  · obtain⟨q1,q2,q3⟩:=I.pin p z
    exact⟨q1,by rw [upd_ne (hp p z)]; exact q2,q3⟩
  · by_cases hb:b=a
    · subst hb
      rw [upd_same] at z
      cases z
      exact⟨e,trivial,⟨o,e⟩,fun _ _ _ _=>trivial⟩
    · rw [upd_ne hb] at z
      exact(I.hok b u z).stay (fun _ _ _ q=>q) (fun c q=>by rw [upd_ne (ne_of_none q hn)]; exact q) fun c xs q=>by rw [upd_ne (ne_of_none q hn)]; exact q
abbrev Cx.marked (X:Cx) (v:Value) (W:Value->Shared->Prop):Cx:={X with A:=X.A.mark (some v),calm:=false,xe:=W}
theorem Inv.marked (I:Inv X pins σ H s) (v:Value) (W:Value->Shared->Prop):Inv (X.marked v W) pins σ H s:=
  ⟨⟨I.ok.mod,I.ok.kind,I.ok.glob,I.ok.blt,I.ok.above,I.ok.inj,I.ok.has,I.ok.cab,fun z=>(by cases z),I.ok.frames,I.ok.stk,I.ok.exf,I.ok.bs,I.ok.bsz,I.ok.noex,I.ok.exfs,I.ok.funs,I.ok.frf⟩,I.os,I.bare,I.base,I.loc,I.cell,I.free,I.freeC,I.pin,I.hok,I.len⟩
theorem Inv.unmarked {v:Value} {W:Value->Shared->Prop} (I:Inv (X.marked v W) pins σ H s) (hd:X.calm=true->X.A.handled=none):Inv X pins σ H s:=
  ⟨⟨I.ok.mod,I.ok.kind,I.ok.glob,I.ok.blt,I.ok.above,I.ok.inj,I.ok.has,I.ok.cab,hd,I.ok.frames,I.ok.stk,I.ok.exf,I.ok.bs,I.ok.bsz,I.ok.noex,I.ok.exfs,I.ok.funs,I.ok.frf⟩,I.os,I.bare,I.base,I.loc,I.cell,I.free,I.freeC,I.pin,I.hok,I.len⟩
end
theorem ObjOk.there {P:Program} {w:World} {H:Hp} {h:Heap} {a:Addr} {o:HO} (x:ObjOk P w H h a o):∃ ob,h.get? a=some ob:=by
  cases o with
  | lst xs=>obtain⟨_,_,_,_,e⟩:=x; exact⟨_,e⟩
  | tup xs=>obtain⟨_,_,_,ob,e,_⟩:=x; exact⟨_,e⟩
  | dK kvs=>obtain⟨_,_,_,_,o,_,_,e,_⟩:=x; exact⟨_,e⟩
  | dT kvs=>obtain⟨_,_,_,_,o,_,_,e,_⟩:=x; exact⟨_,e⟩
  | set S n=>obtain⟨o,_,_,_,e,_⟩:=x; exact⟨_,e⟩
  | ins C dx fs=>obtain⟨_,_,_,e,_⟩:=x; exact⟨_,e⟩
  | own y=>obtain⟨_,e⟩:=x; exact⟨_,e⟩
  | xd fs=>obtain⟨_,⟨_,_,_,e,_⟩,_⟩:=x; exact⟨_,e⟩
  | rng lo hi=>obtain⟨_,_,_,e⟩:=x; exact⟨_,e⟩
  | frz ob u=>obtain⟨e,_⟩:=x; exact⟨_,e⟩
  | tbl ps=>exact⟨_,(show h.get? a=some _ from x)⟩
  | met f y=>exact⟨_,(show h.get? a=some _ from x)⟩
  | ext φ=>obtain⟨_,e,_⟩:=x; exact e
def Cells (cells:List (Addr×Obj)) (outer:List Env) (H:Hp) (h:Heap):Prop:=∀ p∈cells,h.get? p.1=some p.2/\H p.1=none/\p.1∉frs outer
theorem Inv.cells {X:Cx} {pins:List (Addr×Obj)} {σ:St} {H:Hp} {s:Shared} {cells:List (Addr×Obj)} (I:Inv X pins σ H s) (hex:X.ex=[]) (h:Cells cells X.outer X.H₀ X.s₀.heap):Cells cells X.stack H s.heap:=fun p hp=>by
  obtain⟨e,n,f⟩:=h p hp
  have nx:p.1∉X.ex:=by rw [hex]; simp
  refine⟨I.base.keep _ _ e n f nx,I.base.free _ _ e n nx,fun z=>?_⟩
  rcases List.mem_cons.mp (I.stkSub p.1 z) with z | z
  · have:=Heap.lt_size e
    rw [z] at this
    exact absurd (Nat.lt_of_lt_of_le this I.ok.above) (Nat.lt_irrefl _)
  · exact f z
section
variable {X:Cx} {pins:List (Addr×Obj)} {σ:St} {H:Hp} {s:Shared} {E:XK}
theorem ld_var {E:Value->Shared->Prop} {i:Nat} {x:Str} {v:V} {pos:Pos} {Q:Value->Shared->Prop} (I:Inv X pins σ H s) (hN:X.N[i]?=some x) (hv:Vis X.env.scope x) (e:σ[i]?=some (some v)) (h:∀ u,RelV v u->Q u s)
    (hd:(x == ("__debug__":Str))=false:=by decide) (hcd:(x == ("__classdict__":Str))=false:=by decide):wpAny (model X.prog X.w) X.A (eval (.Name x pos) X.env) Q E s:=by
  obtain⟨m,hn,hl⟩:=I.loc
  obtain⟨u,r,l⟩:=hl i x v hN e hv
  rcases l with ⟨hk,hm⟩ | ⟨hk,c,hc,hcell⟩
  · exact wpAny_Name (wpAny_loadName_local I.ok.kind hk hn hm (h u r)) hd
  · rcases hk with hk | hk
    · exact wpAny_Name (wpAny_loadName_cell I.ok.kind hk hc hcell (h u r)) hd
    · exact wpAny_Name (wpAny_loadName_free I.ok.kind hk hc hcell (h u r) hcd) hd
theorem callWith_F {M:Model} {A:Around} {E:Value->Shared->Prop} {s:Shared} {env:Env} {pos:Pos} {g:Addr} {o:Obj} {fd:FuncData} {Q:Value->Shared->Prop} (e:s.heap.get? g=some o) (d:o.data=.func fd)
    (h:wpAny M A (call (.ref g) []) Q E s):wpAny M A (callWith pos (.ref g) [] (backTo pos (starEach [] env)) []) Q E s:=
  PySem.W.callWith_of (P:=fun h'=>h'.get? g=some o) rfl (fun h' q=>⟨.frame,.inl rfl,(PySem.W.Looks.ld (part:=none) q).andThen (by rw [d]; exact .now)⟩) (evalArgs_nil3 ⟨e,h⟩)
end
end L2
namespace DL
open PySem PySem.Spec PyProof.Rows L2
abbrev DSpX:=List D->DH->DK->(Addr->DH->Prop)->Prop
def spX (K:Fg) (F:DSpX):Sp:=fun vs H Q E=>∃ ds S k x,IsDs K H ds vs/\Hs K H S/\F ds S k x/\(∀ d' S' v H',k d' S'->Kp H H'->Hs K H' S'->IsD K H' d' v->Q v H')/\∀ C S' H',x C S'->Hs K H' S'->E (.ref C) none H'
structure OwnX (P:Program) (w:World) (K:Fg) (mg:Str->Option Value) (base:Heap) (x:Str) (n:Nat) (F:DSpX):Prop where
  ex:∃ f fd ps,FnOk P w K mg base (CXE P w) n f fd ps (spX K F)/\mg x=some (.ref f)/\PySem.W.keepIn K (.ref f)=true/\Binds K fd ps []
section
variable {P:Program} {w:World} {K:Fg} {mg:Str->Option Value} {base:Heap} {N:List Str} {qual:Str} {scope:Scope} {f:Addr} {cd:Value} {A:Around} {outer:List Env} {s0:Shared} {H0:Hp} {E:XK} {ex:Addr->DH->Prop}
theorem dst_raisej {x t:Str} {C:Addr} {bmB:List Value} {Bn newId initId:String} {j:Nat} {p np cpos pos:Pos} (hE:∀ C S' H',ex C S'->Hs K H' S'->E (.ref C) none H') (FB:ExcBaseFacts Bn newId initId bmB) (q:PySem.W.excIn K C bmB newId=true) (hm:mg x=some (.ref C))
    (hg:Gl (cxOf (CXE P w) P w K mg base N qual scope f cd A outer s0 H0 E) x) (hd:(x == ("__debug__":Str))=false:=by decide):
    SJ (cxOf (CXE P w) P w K mg base N qual scope f cd A outer s0 H0 E) (.Raise (some (.Call (.Name x np) [.Constant (.str t) j p] [] cpos)) none pos) (fun _ _ S=>ex C S):=
  ⟨PS.imp (ps_raise FB q hm hg hd) fun _ _ H ⟨_,S,_,_,hS,h,_⟩=>hE C S H h hS⟩
def dCallX (F:DSpX) (ex:Addr->DH->Prop) (t:DA):DE:=fun L S k=>t L S fun ds S1=>F ds S1 k ex
theorem d_callXj {x:Str} {n:Nat} {F:DSpX} {e:Expr} {es:List Expr} {t:DA} {p pos:Pos} (hE:∀ C S' H',ex C S'->Hs K H' S'->E (.ref C) none H') (c:OwnX P w K mg base x n F) (hr:Room n (cxOf (CXE P w) P w K mg base N qual scope f cd A outer s0 H0 E).A)
    (hg:Gl (cxOf (CXE P w) P w K mg base N qual scope f cd A outer s0 H0 E) x) (ha:AJ (cxOf (CXE P w) P w K mg base N qual scope f cd A outer s0 H0 E) (e::es) t) (hdb:(x == ("__debug__":Str))=false:=by decide)
    (he:starEach (e::es) (cxOf (CXE P w) P w K mg base N qual scope f cd A outer s0 H0 E).env=(false,eval e (cxOf (CXE P w) P w K mg base N qual scope f cd A outer s0 H0 E).env)::starEach es (cxOf (CXE P w) P w K mg base N qual scope f cd A outer s0 H0 E).env:=by exact star_cons rfl)
    (hpl:(backTo pos (starEach es (cxOf (CXE P w) P w K mg base N qual scope f cd A outer s0 H0 E).env)).any (·.1)=false:=by exact star_any rfl):
    EJ (cxOf (CXE P w) P w K mg base N qual scope f cd A outer s0 H0 E) (.Call (.Name x p) (e::es) [] pos) (dCallX F ex t):=by
  obtain⟨g,fd,ps,F1,h1,h2,h3⟩:=c.ex
  refine⟨PE.imp (pe_call F1 hr hg h1 h2 h3 .nil passesE ha.h hdb he hpl) fun σ H Q ⟨L,S,k,hL,hS,h,n⟩=>?_⟩
  refine upA.go hL hS h fun ds S1 vs H1 h1 k1 hL1 hS1 i1=>?_
  show spX K F (vs++[]) H1 Q E
  rw [List.append_nil]
  exact⟨ds,S1,k,ex,i1,hS1,h1,fun d' S' v H' q k3 z1 z2=>n d' S' v H' q (k1.trans k3) z1 z2,hE⟩
theorem _root_.L2.Fun.okX {x qual:Str} {st:Stmt} {f:Addr} {fd:FuncData} {N ps:List Str} {k:Nat} {F:DSpX} (Fn:Fun K x qual st f fd) (Sc:FnScope N ps (defScope st)) (len:∀ ds S k x,F ds S k x->ds.length=ps.length)
    (hbody:∀ (cdv:Value) (A:Around) (outer:List Env) (s:Shared) (H:Hp) (E:XK) (ex:Addr->DH->Prop),Room k (A.deeper (envOfC qual (defScope st) s.heap.objs.size f cdv))->(∀ C S' H',ex C S'->Hs K H' S'->E (.ref C) none H')->
      ∃ g,SsJ (cxOf (CXE P w) P w K mg base N qual (defScope st) f cdv A outer s H E) (defBody st) g/\
        ∀ ds S k,F ds S k ex->g {nx:=fun _ S'=>k .non S',rt:=k} (ds.map some++List.replicate (N.length - ps.length) none) S):FnOk P w K mg base (CXE P w) (k+1) f fd ps (spX K F):=by
  obtain⟨oc,od,kV,doc,pm,an,cdv,ct,osl,rfl,lk,hcd⟩:=Fn.ex
  refine fn_of lk hcd Sc (fun vs H Q E h=>?_) fun A outer s H vs Q E hr h=>?_
  · obtain⟨ds,S,k,x,i,_,q,_⟩:=h
    rw [<- i.length]
    exact len ds S k x q
  · obtain⟨ds,S,k',x,i,hS,h,n,hE⟩:=h
    obtain⟨g,hg,q⟩:=hbody cdv A outer s H E x hr hE
    refine⟨_,hg.h,ds.map some++List.replicate (N.length - ps.length) none,S,_,?_,hS,q ds S k' h,?_⟩
    · unfold L2.start
      rw [<- i.length,len ds S k' x h]
      exact Lc.start _ i
    · exact⟨fun L S' σ H' h1 k1 _ hS'=>n _ S' _ H' h1 k1 hS' (isNon.mpr rfl),fun d S' v H' h1 k1 hS' i1=>n d S' v H' h1 k1 hS' i1,fun _ _ _ _ h1=>h1.elim,fun _ _ _ _ h1=>h1.elim⟩
end
end DL
namespace L2
open PySem PySem.Spec PyProof.Rows
def CodeOk (H:Hp) (qual:Str) (cv:Value):Prop:=∃ (c':Addr) (oc:Obj) (uc:HO) (vs:Array Value) (t:Tok),cv=.ref c'/\H c'=some (.frz oc uc)/\oc.data=.fields vs/\vs[1]?=some (.str qual t)
theorem CodeOk.kp {H H':Hp} {qual:Str} {cv:Value} (h:CodeOk H qual cv) (k:∀ b o u,H b=some (.frz o u)->H' b=some (.frz o u)):CodeOk H' qual cv:=by
  obtain⟨c',oc,uc,vs,t,e,h1,h2,h3⟩:=h
  exact⟨c',oc,uc,vs,t,e,k _ _ _ h1,h2,h3⟩
structure TblOk (H:Hp) (qual:Str) (ps:Array Value):Prop where
  tri:TriplesOk ps.toList
  ok:∀ pos cv,codeAmong pos ps.toList=some cv->CodeOk H qual cv
theorem TblOk.kp {H H':Hp} {qual:Str} {ps:Array Value} (h:TblOk H qual ps) (k:∀ b o u,H b=some (.frz o u)->H' b=some (.frz o u)):TblOk H' qual ps:=⟨h.tri,fun pos cv e=>(h.ok pos cv e).kp k⟩
theorem codeAmong_more {pos p:Pos} {c cv:Value} (l:List Value) (h:TriplesOk l) (e:codeAmong pos (l++[rawInt p.line,rawInt p.col,c])=some cv):codeAmong pos l=some cv\/cv=c:=by
  fun_induction TriplesOk l with
  | case1=>
    simp only [List.nil_append,codeAmong,rawInt] at e
    split at e
    · cases e; exact .inr rfl
    · cases e
  | case2 a t b u x rest ih=>
    simp only [List.cons_append,codeAmong] at e ⊢
    split at e
    · rename_i hc; rw [if_pos hc]; exact .inl e
    · rename_i hc; rw [if_neg hc]; exact ih h e
  | case3=>exact h.elim
theorem triples_more {p:Pos} {c:Value} (l:List Value) (h:TriplesOk l):TriplesOk (l++[rawInt p.line,rawInt p.col,c]):=by
  fun_induction TriplesOk l with
  | case1=>exact trivial
  | case2 a t b u x rest ih=>exact ih h
  | case3=>exact h.elim
def IsLam (qual:Str) (params:Arguments) (body:Expr) (scope:Scope) (clos:List (Str×Addr)) (g:Addr) (H:Hp):Prop:=
  ∃ (o:Obj) (u:HO) (cv pm ctv:Value),H g=some (.frz o u)/\o.data=.func (PySem.W.kla_fn "<lambda>" qual params body scope clos pm cv ctv)/\CodeOk H qual cv
theorem IsLam.kp {H H':Hp} {qual:Str} {params:Arguments} {body:Expr} {scope:Scope} {clos:List (Str×Addr)} {g:Addr} (h:IsLam qual params body scope clos g H) (k:∀ b o u,H b=some (.frz o u)->H' b=some (.frz o u)):IsLam qual params body scope clos g H':=by
  obtain⟨o,u,cv,pm,ctv,h1,h2,h3⟩:=h
  exact⟨o,u,cv,pm,ctv,k _ _ _ h1,h2,h3.kp k⟩
def BltB (mg:Str->Option Value) (base:Heap):Prop:=(∃ bm ob,mg "__builtins__"=some (.ref bm)/\bm≠builtinsNs/\base.get? bm=some ob/\ob.cls=.type "module"/\ob.dict=some builtinsNs/\ob.data=.plain)/\base.NoSeer
def tLam (P:Addr) (qual:Str) (params:Arguments) (body:Expr) (scope:Scope) (clos:List (Str×Addr)):TE:=fun σ H Q=>∃ ps,H P=some (.tbl ps)/\TblOk H qual ps/\
  ∀ g H',H g=none->(∀ b o,b≠P->H b=some o->H' b=some o)->(∃ ps',H' P=some (.tbl ps')/\TblOk H' qual ps')->IsLam qual params body scope clos g H'->Q (.ref g) H'
section
variable {X:Cx} {params:Arguments} {body:Expr} {scope:Scope} {clos:List (Str×Addr)} {c P:Addr} {pos:Pos}
theorem pe_lambda (hC:PySem.W.CodeHd X.base c P) (hb:BltB X.mg X.base) (hcode:X.env.code=.ref c) (hdef:defaultsOf params X.env=([],[])) (hcl:closureFor scope X.env=pure clos):
    PE X (.Lambda params body scope pos) (tLam P (X.env.qual++"<lambda>") params body scope clos):=by
  intro pins s σ H Q I h
  obtain⟨ps,hP,T,k⟩:=h
  have eP:s.heap.get? P=some (PySem.W.tabObj ps):=I.hok P _ hP
  have hg:s.heap.Ns mainGlobals X.mg:=I.mod.glob.keeps I.bk
  obtain⟨bm,ob,b1,b2,b3,b4,b5,b6⟩:=hb.1
  have b3':=I.bk _ _ b3
  have hgP:mainGlobals≠P:=fun q=>by
    obtain⟨o,es,ep,e,hd,_⟩:=id hg
    rw [q,eP] at e; cases e; cases hd
  have hbP:bm≠P:=fun q=>by rw [q,eP] at b3'; cases b3'; cases b4
  have hbG:bm≠mainGlobals:=fun q=>by
    obtain⟨o,es,ep,e,hd,_⟩:=id hg
    rw [q,e] at b3'; cases b3'; rw [hd] at b6; cases b6
  have C:=hC.keeps I.bk
  refine PySem.W.kla_eval hdef ?_
  cases hf:codeAmong pos ps.toList with
  | some cv=>
    refine PySem.W.kla_makeFunctionHit (mg:=X.mg) hcl I.ok.glob hg hcode C eP T.tri hf ⟨bm,ob,b1,b2,hbG,hbP,b3',b4,b5,b6⟩ fun ctv h' tk hk hsz=>?_
    have kk:∀ (x:Obj) b o,s.heap.get? b=some o->(h'.push x).get? b=some o:=fun x b o e=>Heap.get?_push_of_some _ (hk b o e)
    have hn:=I.hok.fresh hsz
    have st:∀ b o,H b=some o->∀ x,upd H h'.objs.size x b=some o:=fun b o e x=>by rw [upd_ne (ne_of_none e hn)]; exact e
    refine⟨.ref h'.objs.size,upd H h'.objs.size (.frz _ (.ext fun _=>True)),I.laid (kk _) hsz ⟨Heap.get?_push_size _ rfl,trivial,⟨_,Heap.get?_push_size _ rfl⟩,fun _ _ _ _=>trivial⟩,rfl,k _ _ hn (fun b o _ e=>st b o e _) ⟨ps,st P _ hP _,T.kp fun b o u e=>st b _ e _⟩ ?_⟩
    exact⟨_,_,cv,_,ctv,upd_same,rfl,(T.ok pos cv hf).kp fun b o u e=>st b _ e _⟩
  | none=>
    refine PySem.W.kla_makeFunction (mg:=X.mg) hcl I.ok.glob hg hcode C eP T.tri hf hgP ⟨bm,ob,b1,b2,hbG,hbP,b3',b4,b5,b6⟩ fun c' ctv h' tk hx hge hlt hrec htb=>?_
    obtain⟨c₂,oc,vs,t,e2,hoc,hd,hv⟩:=hrec
    cases e2
    have hsz:s.heap.objs.size<=h'.objs.size:=Nat.le_trans hge (Nat.le_of_lt hlt)
    have hn:=I.hok.fresh hsz
    have hnc:=I.hok.fresh hge
    have nP:∀ b,H b=none->b≠P:=fun b e z=>by rw [z,hP] at e; cases e
    have cP:=nP _ hnc
    have gP:=nP _ hn
    have gc:h'.objs.size≠c':=Nat.ne_of_gt hlt
    generalize hob:PySem.W.kla_obj "<lambda>" (X.env.qual++"<lambda>") params body scope clos ((X.mg "__name__").getD .none) c' ctv=fo
    have hfo:fo.isFreed=false:=by rw [<- hob]; rfl
    have kk:∀ b o,b≠P->s.heap.get? b=some o->(h'.push fo).get? b=some o:=fun b o n e=>Heap.get?_push_of_some _ (hx b o n e)
    let H':Hp:=upd (upd (upd H P (.tbl (ps++#[rawInt pos.line,rawInt pos.col,.ref c']))) c' (.frz oc (.ext fun _=>True))) h'.objs.size (.frz fo (.ext fun _=>True))
    have st:∀ b o,b≠P->H b=some o->H' b=some o:=fun b o n e=>by
      show upd _ _ _ b=_
      rw [upd_ne (ne_of_none e hn),upd_ne (ne_of_none e hnc),upd_ne n]; exact e
    have nfz:∀ b o u,H b=some (.frz o u)->b≠P:=fun b o u e z=>by rw [z,hP] at e; cases e
    have ntp:∀ b xs,H b=some (.tup xs)->b≠P:=fun b xs e z=>by rw [z,hP] at e; cases e
    have nown:∀ b y,H b=some (.own y)->b≠P:=fun b y e z=>by rw [z,hP] at e; cases e
    have hPP:H' P=some (.tbl (ps++#[rawInt pos.line,rawInt pos.col,.ref c'])):=by
      show upd _ _ _ P=_
      rw [upd_ne (Ne.symm gP),upd_ne (Ne.symm cP),upd_same]
    have hcc:H' c'=some (.frz oc (.ext fun _=>True)):=by
      show upd _ _ _ c'=_
      rw [upd_ne (Ne.symm gc),upd_same]
    have un:Un X.fs [] H H' s.heap (h'.push fo):=by
      refine⟨fun b o e n _ _=>kk b o (nP b n) e,fun b o e n _ _=>⟨o.slots,kk b o (nP b n) e⟩,fun b o e n _=>?_,fun b o e _=>?_,fun b xs e=>st b _ (ntp b xs e) e,fun b o u e=>st b _ (nfz b o u e) e,fun b qs e=>?_⟩
      · have lb:=Heap.lt_size e
        show upd _ _ _ b=none
        rw [upd_ne (Nat.ne_of_lt (Nat.lt_of_lt_of_le lb hsz)),upd_ne (Nat.ne_of_lt (Nat.lt_of_lt_of_le lb hge)),upd_ne (nP b n)]; exact n
      · by_cases z:b=P
        · subst z; exact⟨_,Heap.get?_push_of_some _ htb⟩
        · exact⟨o,kk b o z e⟩
      · by_cases z:b=P
        · subst z
          rw [hP] at e
          cases e
          exact⟨_,hPP⟩
        · exact⟨#[],by rw [st b _ z e]; simp⟩
    have hok:HOk X.prog X.w H' (h'.push fo):=fun b o e=>by
      by_cases z1:b=h'.objs.size
      · subst z1
        have e:upd _ h'.objs.size _ h'.objs.size=some o:=e
        rw [upd_same] at e
        cases e
        exact⟨Heap.get?_push_size _ hfo,trivial,⟨_,Heap.get?_push_size _ hfo⟩,fun _ _ _ _=>trivial⟩
      · by_cases z2:b=c'
        · subst z2
          rw [hcc] at e
          cases e
          exact⟨Heap.get?_push_of_some _ hoc,trivial,⟨_,Heap.get?_push_of_some _ hoc⟩,fun _ _ _ _=>trivial⟩
        · by_cases z3:b=P
          · subst z3
            rw [hPP] at e
            cases e
            exact(Heap.get?_push_of_some _ htb:_)
          · have e1:upd (upd (upd H P _) c' _) h'.objs.size _ b=some o:=e
            rw [upd_ne z1,upd_ne z2,upd_ne z3] at e1
            refine(I.hok b o e1).stay (fun d v hd q=>kk d v ?_ q) (fun d q=>st d _ (nown d b q) q) fun d xs q=>st d _ (ntp d xs q) q
            rcases hd with rfl | hd
            · exact z3
            · exact nown d b hd
    refine⟨.ref h'.objs.size,H',I.un (t':=tk) un hok,rfl,k _ _ hn st ⟨_,hPP,⟨?_,fun p cv e=>?_⟩⟩ ?_⟩
    · rw [Array.toList_append]; exact triples_more _ T.tri
    · rw [Array.toList_append] at e
      rcases codeAmong_more _ T.tri e with e | rfl
      · exact(T.ok p cv e).kp fun b o u q=>st b _ (nfz b o u q) q
      · exact⟨c',oc,_,vs,t,rfl,hcc,hd,hv⟩
    · subst hob
      exact⟨_,_,.ref c',_,ctv,upd_same,rfl,⟨c',oc,_,vs,t,rfl,hcc,hd,hv⟩⟩
end
section
variable {X:Cx} {pins:List (Addr×Obj)} {σ:St} {H H':Hp} {s sx:Shared} {E:XK}
theorem cx_outX {B h':Heap} {ea:Addr} {cls a0:Value} (hex:X.ex=[]) (I:Inv X pins σ H s) (os:sx.os=s.os) (bare:AllBare sx.gens)
    (fl:Heap.FlyingW B X.outer ea cls a0 h') (hok:HOk X.prog X.w H' B) (hB:∀ b o,s.heap.get? b=some o->H b=none->b∉frs X.stack->B.get? b=some o)
    (hB2:∀ b o,s.heap.get? b=some o->b∉frs X.stack->∃ o',B.get? b=some o')
    (hsl:∀ b∈frs X.outer,∀ o,s.heap.get? b=some o->∃ sl,h'.get? b=some {o with slots:=sl}) (fr:∀ b o,s.heap.get? b=some o->H b=none->H' b=none) (tu:∀ b xs,H b=some (.tup xs)->H' b=some (.tup xs)) (fz:∀ b o u,H b=some (.frz o u)->H' b=some (.frz o u))
    (tb:∀ b ps,H b=some (.tbl ps)->∃ more,H' b=some (.tbl (ps++more))) (q:E cls none H'):CXE X.prog X.w X.outer X.H₀ X.s₀ E (.ref ea) {sx with heap:=h'}:=by
  have nx:∀ b:Addr,b∉X.ex:=fun b=>by rw [hex]; simp
  have nst:∀ b o,X.s₀.heap.get? b=some o->b∉frs X.outer->b∉frs X.stack:=fun b o e hb z=>by
    rcases List.mem_cons.mp (I.stkSub b z) with z | z
    · have:=Heap.lt_size e
      have ab:=I.ok.above
      rw [z] at this
      exact absurd (Nat.lt_of_lt_of_le this ab) (Nat.lt_irrefl _)
    · exact hb z
  have hkeep:∀ b o,X.s₀.heap.get? b=some o->X.H₀ b=none->b∉frs X.outer->B.get? b=some o:=fun b o e n hb=>
    hB b o (I.base.keep b o e n hb (nx b)) (I.base.free b o e n (nx b)) (nst b o e hb)
  have hthere:∀ b o,X.s₀.heap.get? b=some o->b∉frs X.outer->∃ o',B.get? b=some o':=fun b o e hb=>by
    obtain⟨o',e1⟩:=I.base.there b o e (nx b)
    exact hB2 b o' e1 (nst b o e hb)
  refine⟨ea,cls,a0,H',B,rfl,os.trans I.os,bare,fl,hok,hkeep,hthere,⟨fun b o e n hb _=>fl.1 _ _ (hkeep b o e n hb),fun b o e n hb _=>?_,fun b o e n _=>?_,fun b o e _=>?_,fun b xs e=>tu _ _ (I.base.tups b xs e),fun b o u e=>fz _ _ _ (I.base.frzs b o u e),fun b ps e=>?_⟩,q⟩
  · obtain⟨sl,e1⟩:=I.base.slot b o e n hb (nx b)
    obtain⟨sl',e2⟩:=hsl b hb _ e1
    exact⟨sl',e2⟩
  · obtain⟨o',e1⟩:=I.base.there b o e (nx b)
    exact fr b o' e1 (I.base.free b o e n (nx b))
  · by_cases hb:b∈frs X.outer
    · obtain⟨o',e1⟩:=I.base.there b o e (nx b)
      obtain⟨sl',e2⟩:=hsl b hb _ e1
      exact⟨_,e2⟩
    · obtain⟨o',e1⟩:=hthere b o e hb
      exact⟨o',fl.1 _ _ e1⟩
  · obtain⟨m1,e1⟩:=I.base.tbls b ps e
    obtain⟨m2,e2⟩:=tb b _ e1
    exact⟨m1++m2,by rw [e2,Array.append_assoc]⟩
theorem passesX (hex:X.ex=[]) (hst:X.stack=X.env::X.outer) (hf:X.env.frame=some X.env.locals)
    (hxe:∀ e s',wpAny (model X.prog X.w) X.A (leaving X.env e) (fun _ s''=>CXE X.prog X.w X.outer X.H₀ X.s₀ E e s'') (fun e' s''=>CXE X.prog X.w X.outer X.H₀ X.s₀ E e' s'') s'->X.xe e s'):Passes (CXE X.prog X.w) X E:=by
  intro pins σ H s e s' I h
  obtain⟨ea,cls,a0,H',B,rfl,os,bare,fl,hok,hB,hB2,un,q⟩:=h
  refine hxe _ _ ?_
  have fr0:X.A.frames=some (X.env::X.outer):=by rw [<- hst]; exact I.ok.frames
  refine wpAny_leaves_onW fr0 hf (by rw [<- hst]; exact fl) fun h' fl' up=>?_
  refine cx_outX (sx:=s') hex I os bare fl' hok hB hB2 (fun b hb o e=>?_) (fun b o e n=>un.free b o e n (by simp)) un.tups un.frzs un.tbls q
  have hb':b∈frs X.stack:=by
    rw [hst]
    unfold frs
    rw [List.filterMap_cons,hf]
    exact List.mem_cons_of_mem _ hb
  have hn:=I.stkFree b hb'
  obtain⟨sl,e1⟩:=un.slot b o e hn hb' (by simp)
  obtain⟨_,o2,e2,d2⟩:=fl.2.2.1.mem hb'
  rw [e1] at e2
  cases e2
  obtain⟨sl',e3⟩:=up b _ e1 d2
  exact⟨sl',e3⟩
end
structure FnOkP (cells:List (Addr×Obj)) (P:Program) (w:World) (K:PySem.W.Frag) (mg:Str->Option Value) (base:Heap) (CX:CXT) (k:Nat) (f:Addr) (fd:FuncData) (ps:List Str) (sp:Sp):Prop where
  len:∀ vs H Q E,sp vs H Q E->vs.length=ps.length
  run:∀ (A:Around) (outer:List Env) (s:Shared) (H:Hp) (args:Args) (us:List Value) (vs:List V) (Q:VK) (E:XK),Room k A->Env0 P w K mg base A outer s H->Cells cells outer H s.heap->BindsTo s fd args (ps.zip us)->Vals vs us->sp vs H Q E->
    codeAny (model P w) A (.call (.ref f) args) (CR CX outer P w H s Q E) s
theorem fn_ofP {cells:List (Addr×Obj)} {CX:CXT} {P:Program} {w:World} {K:PySem.W.Frag} {mg:Str->Option Value} {base:Heap} {k:Nat} {f:Addr} {name qual:Str} {params:Arguments} {body:List Stmt} {scope:Scope} {dV kV doc pm cdv ct oc:Value} {an od:Option Addr}
    {osl:Array (Option Value)} {N ps:List Str} {sp:Sp} (lk:K.lookup f=some ⟨oc,od,.func (PySem.W.fnOf name qual params body scope dV kV doc pm an cdv ct),osl⟩) (hcd:PySem.W.codeIn K cdv qual=true) (S:FnScope N ps scope)
    (len:∀ vs H Q E,sp vs H Q E->vs.length=ps.length)
    (hbody:∀ (A:Around) (outer:List Env) (s:Shared) (H:Hp) (vs:List V) (Q:VK) (E:XK),Room k (A.deeper (envOfC qual scope s.heap.objs.size f cdv))->Cells cells outer H s.heap->sp vs H Q E->
      ∃ t,PSs (cxOf CX P w K mg base N qual scope f cdv A outer s H E) body t/\t {nx:=fun _ H'=>Q .non H',rt:=Q} (start N vs) H):
    FnOkP cells P w K mg base CX (k+1) f (PySem.W.fnOf name qual params body scope dV kV doc pm an cdv ct) ps sp:=by
  refine⟨len,fun A outer s H args us vs Q E hr e0 hce hb r hsp=>?_⟩
  have hl:=len _ _ _ _ hsp
  have KX:K.In s.heap:=e0.mod.kin.keeps fun b o e=>(e0.bs b o e).1
  have lim:s.heap.NoLimit:=e0.mod.nolimit.keeps fun b o e=>(e0.bs b o e).1
  have hkind:∀ y∈ps.zip us,scope.names.lookup y.1=some .local\/(scope.names.lookup y.1=some .cell/\((cellsFrom (s.heap.objs.size+1) scope.names []).lookup y.1).isSome=true):=fun⟨n,v⟩ hy=>by
    rcases S.par n (List.of_mem_zip hy).1 with q | q
    · exact .inl q
    · exact .inr ⟨q,PySem.W.cellsFrom_some _ _ _ (.inl q)⟩
  refine codeAny_call_function hr.depth (KX _ _ lk) rfl S.co S.gen rfl (PySem.W.codeRec_of KX hcd) (hb _ _ _ _ ?_)
  refine wpAny_newFunctionEnv_cells S.kind hkind fun env he s1 x=>?_
  subst he
  refine⟨lim.keeps x.toInCall.keep,codeAny_func ?_⟩
  obtain⟨t,ht,hq⟩:=hbody A outer s H vs Q E (hr.deeper _) hce hsp
  have I:Inv (cxOf CX P w K mg base N qual scope f cdv A outer s H E) [] (start N vs) H s1:=inv_start S hr.hd e0 hl r x
  refine wpAny_mono (ht [] s1 (start N vs) H _ I hq) (fun fl s' hs=>?_) fun e s' hs=>hs
  have fin:∀ {σ':St} {H':Hp} {v:V} {u:Value},Inv (cxOf CX P w K mg base N qual scope f cdv A outer s H E) [] σ' H' s'->RelV v u->Q v H'->CE outer P w H s Q u s':=
    fun {σ' H' v u} J rv q=>⟨v,H',J.os,J.bare,J.base,J.hok,rv,q⟩
  cases fl with
  | ret u=>
    obtain⟨v,σ',H',J,rv,q⟩:=hs
    exact fin J rv q
  | next=>
    obtain⟨σ',H',J,q⟩:=hs
    exact fin (v:=V.non) (u:=Value.none) J rfl q
  | brk=>
    obtain⟨_,_,_,q⟩:=hs
    exact False.elim q
  | cont=>
    obtain⟨_,_,_,q⟩:=hs
    exact False.elim q
def cxL (P:Program) (w:World) (K:PySem.W.Frag) (mg:Str->Option Value) (base:Heap) (N:List Str) (qual:Str) (scope:Scope) (clos:List (Str×Addr)) (f:Addr) (cd:Value) (A:Around) (outer:List Env) (s:Shared) (H:Hp) (E:XK):Cx where
  prog:=P
  w:=w
  K:=K
  mg:=mg
  base:=base
  A:=A.deeper (PySem.W.envX qual scope s.heap.objs.size f cd clos)
  N:=N
  s₀:=s
  H₀:=H
  env:=PySem.W.envX qual scope s.heap.objs.size f cd clos
  outer:=outer
  stack:=PySem.W.envX qual scope s.heap.objs.size f cd clos::outer
  ex:=[]
  calm:=true
  fn:=fun _=>false
  pn:=[]
  xe:=fun e s'=>wpAny (model P w) (A.deeper (PySem.W.envX qual scope s.heap.objs.size f cd clos)) (leaving (PySem.W.envX qual scope s.heap.objs.size f cd clos) e) (fun _ s''=>CXE P w outer H s E e s'') (fun e' s''=>CXE P w outer H s E e' s'') s'
structure LamSc (scope:Scope) (clos:List (Str×Addr)) (N:List Str):Prop where
  kind:scope.kind=.function
  co:scope.isCoroutine=false
  gen:scope.isGenerator=false
  nocell:∀ y∈scope.names,y.2≠.cell
  has:∀ x,scope.names.lookup x=some .free->∃ c,clos.lookup x=some c
  inj:∀ x y c,clos.lookup x=some c->clos.lookup y=some c->x=y
  free:∀ x∈N,scope.names.lookup x=some .free
section
variable {P:Program} {w:World} {K:PySem.W.Frag} {mg:Str->Option Value} {base:Heap} {N:List Str} {qual:Str} {scope:Scope} {clos:List (Str×Addr)} {g:Addr} {cd:Value} {A:Around} {outer:List Env} {s:Shared} {H:Hp} {E:XK} {cells:List (Addr×Obj)} {σ0:St}
theorem inv_lam {h1:Heap} {m:Str->Option Value} {tk:Nat} {ob:Obj} (S:LamSc scope clos N) (hd:A.handled=none) (e0:Env0 P w K mg base A outer s H) (hc:Cells cells outer H s.heap) (hcl:∀ p∈clos,∃ o v,(p.2,o)∈cells/\o.data=.cell v)
    (hcap:∀ (i:Nat) (x:Str) (v:V),N[i]?=some x->σ0[i]?=some (some v)->∃ c o u,clos.lookup x=some c/\(c,o)∈cells/\o.data=.cell (some u)/\RelV v u) (hlen:σ0.length=N.length)
    (hns:h1.Ns s.heap.objs.size m) (hsb:Heap.SameBut s.heap.objs.size (s.heap.push ob) h1):Inv (cxL P w K mg base N qual scope clos g cd A outer s H E) [] σ0 H {s with heap:=h1,toks:=tk}:=by
  have hk:∀ b o,s.heap.get? b=some o->h1.get? b=some o:=fun b o e=>(hsb.2 b (Nat.ne_of_lt (Heap.lt_size e))).trans (Heap.get?_push_of_some _ e)
  have nx:∀ b:Addr,b∉(cxL P w K mg base N qual scope clos g cd A outer s H E).ex:=fun b z=>nomatch z
  have cel:∀ x c,clos.lookup x=some c->∃ o v,s.heap.get? c=some o/\o.data=.cell v/\H c=none:=fun x c e=>by
    obtain⟨o,v,h1,h2⟩:=hcl _ (PySem.mem_of_lookup e)
    exact⟨o,v,(hc _ h1).1,h2,(hc _ h1).2.1⟩
  refine⟨⟨e0.mod,S.kind,rfl,rfl,Nat.le_refl _,S.inj,fun y hy=>?_,fun y c z=>(by cases z),fun _=>hd,Around.frames_deeper e0.frames,.inr ⟨rfl,rfl⟩,fun b z=>absurd z (nx b),e0.bs,e0.bsz,fun b _ _=>nx b,fun b z=>absurd z (nx b),e0.funs,e0.frf⟩,
    rfl,e0.bare,Un.kept hk,⟨m,hns,fun i y v h1 h2 h3=>?_⟩,fun y c h=>?_,e0.hok.fresh (Nat.le_refl _),fun y c h=>?_,fun p hp=>(nomatch hp),e0.hok.kept hk,hlen⟩
  · have hy:scope.names.lookup y=some .cell\/scope.names.lookup y=some .free:=hy
    rcases hy with hy | hy
    · exact absurd rfl (S.nocell _ (PySem.mem_of_lookup hy))
    · exact S.has y hy
  · obtain⟨c,o,u,q1,q2,q3,q4⟩:=hcap i y v h1 h2
    exact⟨u,q4,.inr ⟨.inr (S.free y (List.mem_of_getElem? h1)),c,q1,o,hk _ _ (hc _ q2).1,q3⟩⟩
  · obtain⟨o,v,q1,q2,_⟩:=cel y c h
    exact⟨v,o,hk _ _ q1,q2⟩
  · obtain⟨_,_,_,_,q⟩:=cel y c h
    exact q
end
end L2
namespace DL
open PySem PySem.Spec PyProof.Rows L2
theorem cxe_kp {P:Program} {w:World} {outer:List Env} {H:Hp} {s:Shared} {E:XK} {e:Value} {s':Shared} (h:CXE P w outer H s E e s'):CXE P w outer H s (fun c t H'=>E c t H'/\Kp H H') e s':=by
  obtain⟨ea,cls,a0,H',B,h1,h2,h3,h4,h5,h6,h7,h8,h9⟩:=h
  refine⟨ea,cls,a0,H',B,h1,h2,h3,h4,h5,h6,h7,h8,h9,fun a o z i=>?_⟩
  cases o with
  | tup xs=>exact h8.tups a xs z
  | frz ob u=>exact h8.frzs a ob u z
  | _=>exact i.elim
def dLam (P:Addr) (qual:Str) (params:Arguments) (body:Expr) (scope:Scope) (clos:List (Str×Addr)):DE:=fun _ S k=>S P=some (.tbl fun H ps=>TblOk H qual ps)/\∀ g,S g=none->k (.ref g) (put S g (.fn (IsLam qual params body scope clos g)))
section
variable {X:Cx} {params:Arguments} {body:Expr} {scope:Scope} {clos:List (Str×Addr)} {c P:Addr} {pos:Pos}
theorem d_lamj (hC:PySem.W.CodeHd X.base c P) (hb:BltB X.mg X.base) (hcode:X.env.code=.ref c) (hdef:defaultsOf params X.env=([],[])) (hcl:closureFor scope X.env=pure clos):
    EJ X (.Lambda params body scope pos) (dLam P (X.env.qual++"<lambda>") params body scope clos):=
  ⟨PE.imp (pe_lambda hC hb hcode hdef hcl) fun σ H Q ⟨L,S,k,hL,hS,h,n⟩=>by
    obtain⟨z,h⟩:=h
    obtain⟨ps,hp,hψ⟩:=hS _ _ z
    refine⟨ps,hp,hψ H (Kp.refl H),fun g H' hn st hT hl=>?_⟩
    obtain⟨ps',hp',T'⟩:=hT
    have kp:Kp H H':=fun a o e i=>st a o (fun q=>by subst q; rw [hp] at e; cases e; exact i) e
    refine n _ _ _ _ (h g (hS.free hn)) kp (fun a o e=>?_) (isRef.mpr rfl)
    by_cases y:a=g
    · subst y
      rw [put_same] at e
      cases e
      obtain⟨ob,u,cv,pm,ctv,q1,q2,q3⟩:=id hl
      exact⟨⟨_,_,q1⟩,fun H2 k2=>hl.kp fun b o u e=>k2 _ _ e trivial⟩
    · rw [put_ne y] at e
      by_cases y2:a=P
      · subst y2
        rw [z] at e
        cases e
        exact⟨ps',hp',fun H2 k2=>T'.kp fun b o u e=>k2 _ _ e trivial⟩
      · have w:=hS a o e
        have st':∀ u,H a=some u->H' a=some u:=fun u q=>st a u y2 q
        cases o with
        | lst ds=>obtain⟨xs,q,r⟩:=w; exact⟨xs,st' _ q,r.kp kp⟩
        | dic=>obtain⟨xs,q⟩:=w; exact⟨xs,st' _ q⟩
        | exc C=>obtain⟨x,y,q,r⟩:=w; exact⟨x,y,st' _ q,r⟩
        | fn φ=>obtain⟨⟨x,y,q⟩,r⟩:=w; exact⟨⟨x,y,st' _ q⟩,fun H2 k2=>r H2 (kp.trans k2)⟩
        | tbl ψ=>obtain⟨qs,q,r⟩:=w; exact⟨qs,st' _ q,fun H2 k2=>r H2 (kp.trans k2)⟩
        | gen g=>obtain⟨u,q,_⟩:=GObj.there w; exact GObj.step w kp ((st' u q).trans q.symm)⟩
end
def exE (K:Fg) (ex:Addr->DH->Prop):XK:=fun cls _ H'=>∃ C S',cls=.ref C/\ex C S'/\Hs K H' S'
section
variable {P:Program} {w:World} {K:Fg} {mg:Str->Option Value} {base:Heap} {N:List Str} {qual:Str} {scope:Scope} {clos:List (Str×Addr)} {g:Addr} {cd:Value} {A:Around} {outer:List Env} {s:Shared} {H:Hp} {ex:Addr->DH->Prop}
theorem d_callLj {x:Str} {n:Nat} {F:DSpX} {e:Expr} {es:List Expr} {t:DA} {p pos:Pos} (c:OwnX P w K mg base x n F) (hr:Room n (cxL P w K mg base N qual scope clos g cd A outer s H (exE K ex)).A)
    (hg:Gl (cxL P w K mg base N qual scope clos g cd A outer s H (exE K ex)) x) (ha:AJ (cxL P w K mg base N qual scope clos g cd A outer s H (exE K ex)) (e::es) t) (hdb:(x == ("__debug__":Str))=false:=by decide)
    (he:starEach (e::es) (cxL P w K mg base N qual scope clos g cd A outer s H (exE K ex)).env=(false,eval e (cxL P w K mg base N qual scope clos g cd A outer s H (exE K ex)).env)::starEach es (cxL P w K mg base N qual scope clos g cd A outer s H (exE K ex)).env:=by exact star_cons rfl)
    (hpl:(backTo pos (starEach es (cxL P w K mg base N qual scope clos g cd A outer s H (exE K ex)).env)).any (·.1)=false:=by exact star_any rfl):
    EJ (cxL P w K mg base N qual scope clos g cd A outer s H (exE K ex)) (.Call (.Name x p) (e::es) [] pos) (dCallX F ex t):=by
  obtain⟨f,fd,ps,F1,h1,h2,h3⟩:=c.ex
  refine⟨PE.imp (pe_call F1 hr hg h1 h2 h3 .nil (passesX rfl rfl rfl fun _ _ h=>h) ha.h hdb he hpl) fun σ H1 Q ⟨L,S,k,hL,hS,h,n⟩=>?_⟩
  refine upA.go hL hS h fun ds S1 vs H1 h1 k1 hL1 hS1 i1=>?_
  show spX K F (vs++[]) H1 Q _
  rw [List.append_nil]
  exact⟨ds,S1,k,ex,i1,hS1,h1,fun d' S' v H' q k3 z1 z2=>n d' S' v H' q (k1.trans k3) z1 z2,fun C S' H' q hs=>⟨C,S',rfl,q,hs⟩⟩
theorem _root_.L2.Fun.okP {cells:List (Addr×Obj)} {x qual:Str} {st:Stmt} {f:Addr} {fd:FuncData} {N ps:List Str} {k:Nat} {F:DSp} (Fn:Fun K x qual st f fd) (Sc:FnScope N ps (defScope st)) (len:∀ ds S k,F ds S k->ds.length=ps.length)
    (hbody:∀ (cdv:Value) (A:Around) (outer:List Env) (s:Shared) (H:Hp) (E:XK),Room k (A.deeper (envOfC qual (defScope st) s.heap.objs.size f cdv))->Cells cells outer H s.heap->
      ∃ g,SsJ (cxOf CX0 P w K mg base N qual (defScope st) f cdv A outer s H E).nox (defBody st) g/\
        ∀ ds S k,F ds S k->g {nx:=fun _ S'=>k .non S',rt:=k} (ds.map some++List.replicate (N.length - ps.length) none) S):FnOkP cells P w K mg base CX0 (k+1) f fd ps (spU K F):=by
  obtain⟨oc,od,kV,doc,pm,an,cdv,ct,osl,rfl,lk,hcd⟩:=Fn.ex
  refine fn_ofP lk hcd Sc (fun vs H Q E h=>?_) fun A outer s H vs Q E hr hce h=>?_
  · obtain⟨ds,S,k,i,_,q,_⟩:=h
    rw [<- i.length]
    exact len ds S k q
  · obtain⟨g,hg,q⟩:=hbody cdv A outer s H E hr hce
    obtain⟨ds,S,k',i,hS,h,n⟩:=h
    refine⟨_,hg.h.nox,ds.map some++List.replicate (N.length - ps.length) none,S,_,?_,hS,q ds S k' h,?_⟩
    · unfold L2.start
      rw [<- i.length,len ds S k' h]
      exact Lc.start _ i
    · exact⟨fun L S' σ H' h1 k1 _ hS'=>n _ S' _ H' h1 k1 hS' (isNon.mpr rfl),fun d S' v H' h1 k1 hS' i1=>n d S' v H' h1 k1 hS' i1,fun _ _ _ _ h1=>h1.elim,fun _ _ _ _ h1=>h1.elim⟩
end
theorem _root_.L2.Fun.okC {P:Program} {w:World} {K:Fg} {mg:Str->Option Value} {base:Heap} {x qual:Str} {st:Stmt} {f:Addr} {fd:FuncData} {N ps:List Str} {k:Nat} {F:DSp} {cd0:Value} (Fn:Fun K x qual st f fd) (hc:fd.code=cd0) (Sc:FnScope N ps (defScope st)) (len:∀ ds S k,F ds S k->ds.length=ps.length)
    (hbody:∀ (A:Around) (outer:List Env) (s:Shared) (H:Hp) (E:XK),Room k (A.deeper (envOfC qual (defScope st) s.heap.objs.size f cd0))->
      ∃ g,SsJ (cxOf CX0 P w K mg base N qual (defScope st) f cd0 A outer s H E).nox (defBody st) g/\
        ∀ ds S k,F ds S k->g {nx:=fun _ S'=>k .non S',rt:=k} (ds.map some++List.replicate (N.length - ps.length) none) S):FnOk P w K mg base CX0 (k+1) f fd ps (spU K F):=by
  obtain⟨oc,od,kV,doc,pm,an,cdv,ct,osl,rfl,lk,hcd⟩:=Fn.ex
  cases hc
  refine fn_of lk hcd Sc (fun vs H Q E h=>?_) fun A outer s H vs Q E hr h=>?_
  · obtain⟨ds,S,k,i,_,q,_⟩:=h
    rw [<- i.length]
    exact len ds S k q
  · obtain⟨g,hg,q⟩:=hbody A outer s H E hr
    obtain⟨ds,S,k',i,hS,h,n⟩:=h
    refine⟨_,hg.h.nox,ds.map some++List.replicate (N.length - ps.length) none,S,_,?_,hS,q ds S k' h,?_⟩
    · unfold L2.start
      rw [<- i.length,len ds S k' h]
      exact Lc.start _ i
    · exact⟨fun L S' σ H' h1 k1 _ hS'=>n _ S' _ H' h1 k1 hS' (isNon.mpr rfl),fun d S' v H' h1 k1 hS' i1=>n d S' v H' h1 k1 hS' i1,fun _ _ _ _ h1=>h1.elim,fun _ _ _ _ h1=>h1.elim⟩
structure OwnR (P:Program) (w:World) (K:Fg) (mg:Str->Option Value) (base:Heap) (x:Str) (n:Nat) (F:List (Addr×Obj)->DSp):Prop where
  ex:∃ f fd ps,(∀ cells,FnOkP cells P w K mg base CX0 n f fd ps (spU K (F cells)))/\mg x=some (.ref f)/\PySem.W.keepIn K (.ref f)=true/\Binds K fd ps []
structure LamCap (X:Cx) (scope:Scope) (clos:List (Str×Addr)) (N:List Str) (cap:List (Option Nat)):Prop where
  sc:(∀ x y c,clos.lookup x=some c->clos.lookup y=some c->x=y)->LamSc scope clos N
  sub:∀ p∈clos,X.env.cells.lookup p.1=some p.2
  fn:∀ p∈clos,X.fn p.1=true
  len:cap.length=N.length
  caps:∀ (i j:Nat) (x:Str),cap[i]?=some (some j)->N[i]?=some x->X.N[j]?=some x/\(X.env.scope.names.lookup x=some .cell\/X.env.scope.names.lookup x=some .free)
def LCapOk (X:Cx):List (Option Nat)->List Str->Prop
  | some j::r,x::xs=>(X.N[j]?=some x/\(X.env.scope.names.lookup x=some .cell\/X.env.scope.names.lookup x=some .free))/\LCapOk X r xs
  | none::r,_::xs=>LCapOk X r xs
  | _,_=>True
theorem LCapOk.get {X:Cx}:∀ {cap:List (Option Nat)} {N:List Str},LCapOk X cap N->∀ (i j:Nat) (x:Str),cap[i]?=some (some j)->N[i]?=some x->
    X.N[j]?=some x/\(X.env.scope.names.lookup x=some .cell\/X.env.scope.names.lookup x=some .free)
  | [],_,_,_,_,_,h,_=>by simp at h
  | _::_,[],_,_,_,_,_,h=>by simp at h
  | some _::_,_::_,h,0,j,x,h1,h2=>by
    simp at h1 h2
    subst h1 h2
    exact h.1
  | none::_,_::_,_,0,j,x,h1,_=>by simp at h1
  | some _::_,_::_,h,i+1,j,x,h1,h2=>LCapOk.get h.2 i j x (by simpa using h1) (by simpa using h2)
  | none::r,_::xs,h,i+1,j,x,h1,h2=>LCapOk.get (show LCapOk X r xs from h) i j x (by simpa using h1) (by simpa using h2)
theorem lamCap {X:Cx} {scope:Scope} {clos:List (Str×Addr)} {N:List Str} {cap:List (Option Nat)} (h1:scope.kind=.function) (h2:scope.isCoroutine=false) (h3:scope.isGenerator=false) (h4:(scope.names.all fun y=>y.2 != NameKind.cell)=true)
    (h5:(scope.names.all fun y=>y.2 != NameKind.free || (clos.lookup y.1).isSome)=true) (h6:(N.all fun x=>scope.names.lookup x == some .free)=true) (h7:SubOk X clos) (h8:∀ x,X.fn x=true) (h9:cap.length=N.length) (h10:LCapOk X cap N):LamCap X scope clos N cap:=
  ⟨fun inj=>⟨h1,h2,h3,fun y hy=>by simpa using List.all_eq_true.mp h4 y hy,fun x e=>by
    have:=List.all_eq_true.mp h5 _ (PySem.mem_of_lookup e)
    exact Option.isSome_iff_exists.mp (by simpa using this),inj,fun x hx=>by simpa using List.all_eq_true.mp h6 x hx⟩,h7.mem,fun p _=>h8 p.1,h9,h10.get⟩
end DL
namespace L2
open PySem PySem.Spec PyProof.Rows
structure OnlyT (tabs:List (Addr×Addr)) (H:Hp):Prop where
  only:∀ b,H b=none\/(∃ o xs,H b=some (.frz o (.lst xs)))\/(b∈tabs.map (·.2)/\H b=some (.tbl #[]))
  all:∀ q∈tabs,H q.2=some (.tbl #[])
theorem law_callT {P:Program} {w:World} {K:PySem.W.Frag} {mg mb:Str->Option Value} {CX:CXT} {k:Nat} {fa a:Addr} {fd:FuncData} {x:Str} {sp:Sp} {s₁:Shared} {vs:List Value} {ns:List Int} {tabs:List (Addr×Addr)}
    (hT:PySem.W.TabsAt tabs s₁.heap) (hnK:PySem.W.noTabs K=true) (hbm:BltB mg s₁.heap)
    (KX:K.In s₁.heap) (hns:s₁.heap.Ns mainGlobals mg) (hb:s₁.heap.Ns builtinsNs mb) (hbb:∀ x:Str,x≠"__name__"->mb x=bootBuiltins x) (hlim:s₁.heap.NoLimit) (hg:s₁.gens=#[])
    (ha:s₁.heap.get? a=some {cls:=.type "list",data:=.seq vs.toArray}) (hi:IntsAre vs ns) (hl:ns.length<=sizeLine) (hr:Room k callerA)
    (F:∀ base:Heap,K.In base->base.Ns mainGlobals mg->BltB mg base->PySem.W.CodeAll tabs base->FnOk P w K mg base CX k fa fd [x] sp) (hbind:∀ (s:Shared) (u:Value),BindsTo s fd ⟨[u],[]⟩ [(x,u)])
    (hsp:∀ H:Hp,OnlyT tabs H->SqL K H a (ns.map V.int)->sp [.ref a] H (fun v _=>v=.bl true) fun _ _ _=>False)
    (hCX:∀ H e s',CX [] H s₁ (fun _ _ _=>False) e s'->False):
    codeAny (model P w) callerA (.call (.ref fa) ⟨[.ref a],[]⟩) (fun r s'=>r=.ok (.ret (.bool true))/\OldK s₁.heap s'.heap/\s'.os=s₁.os/\AllBare s'.gens) s₁:=by
  have rv:=vals_ints hi
  have lenV:=hi.length
  have tabO:∀ b∈tabs.map (·.2),s₁.heap.get? b=some (PySem.W.tabObj #[]):=fun b hb=>by
    obtain⟨q,hq,rfl⟩:=List.mem_map.mp hb
    exact(hT q hq).2
  have naT:a∉tabs.map (·.2):=fun z=>by
    have e:=tabO a z
    rw [ha] at e
    cases e
  have nKT:∀ b o,K.lookup b=some o->b∉tabs.map (·.2):=fun b o e z=>by
    have e1:=KX b o e
    rw [tabO b z] at e1
    cases e1
    have h2:=List.all_eq_true.mp hnK (b,_) (PySem.W.mem_of_lookupK e)
    exact absurd (show false=true from h2) Bool.false_ne_true
  have core:∀ H:Hp,OnlyT tabs H->SqL K H a (ns.map V.int)->HOk P w H s₁.heap->(∀ b,H b≠none->b=a\/b∈tabs.map (·.2))->(H a≠none->K.lookup a=none)->
      codeAny (model P w) callerA (.call (.ref fa) ⟨[.ref a],[]⟩) (fun r s'=>r=.ok (.ret (.bool true))/\OldK s₁.heap s'.heap/\s'.os=s₁.os/\AllBare s'.gens) s₁:=by
    intro H hO hS hok hA hK
    have base_of:∀ {b:Addr} {o:Obj},s₁.heap.get? b=some o->H b=none->(hidT s₁.heap H).get? b=some o:=fun e n=>hidT_get e n
    have noC:∀ {b:Addr} {o:Obj},s₁.heap.get? b=some o->o.cls≠.type "list"->o.cls≠.none->H b=none:=fun {b o} e d1 d2=>by
      cases q:H b with
      | none=>rfl
      | some u=>
        rcases hA b (by rw [q]; simp) with e' | e'
        · subst e'
          rw [ha] at e; cases e
          exact absurd rfl d1
        · rw [tabO b e'] at e; cases e
          exact absurd rfl d2
    have noA:∀ {b:Addr} {o:Obj} {es:Array DictEntry} {ep:Nat},s₁.heap.get? b=some o->o.data=.dict es ep->H b=none:=fun {b o es ep} e d=>by
      cases q:H b with
      | none=>rfl
      | some u=>
        rcases hA b (by rw [q]; simp) with e' | e'
        · subst e'
          rw [ha] at e; cases e
          have d':Data.seq vs.toArray _=Data.dict es ep:=d
          cases d'
        · rw [tabO b e'] at e; cases e
          cases d
    have nsK:∀ {b:Addr} {m:Str->Option Value},s₁.heap.Ns b m->(hidT s₁.heap H).Ns b m:=fun {b m} ⟨o,es,ep,e,d,r⟩=>⟨o,es,ep,base_of e (noA e d),d,r⟩
    have hKb:K.In (hidT s₁.heap H):=fun b o e=>base_of (KX b o e) (by
      cases q:H b with
      | none=>rfl
      | some u=>
        rcases hA b (by rw [q]; simp) with e' | e'
        · subst e'
          rw [hK (by rw [q]; simp)] at e; cases e
        · exact absurd e' (nKT b o e))
    have hBb:BltB mg (hidT s₁.heap H):=by
      obtain⟨⟨bm,ob,b1,b2,b3,b4,b5⟩,ns⟩:=hbm
      refine⟨⟨bm,ob,b1,b2,base_of b3 (noC b3 (by rw [b4]; decide) (by rw [b4]; nofun)),b4,b5⟩,?_,?_,?_,?_⟩
      · obtain⟨mc,h1,h2⟩:=ns.statics
        exact⟨mc,nsK h1,h2⟩
      · obtain⟨mc,h1,h2⟩:=ns.mods
        exact⟨mc,nsK h1,h2⟩
      · obtain⟨mc,h1,h2⟩:=ns.imp
        exact⟨mc,nsK h1,h2⟩
      · obtain⟨mg',bm',ob',h1,h2,h3,h4,h5⟩:=ns.main
        exact⟨mg',bm',ob',nsK h1,h2,base_of h3 (noC h3 (by rw [h4]; decide) (by rw [h4]; nofun)),h4,h5⟩
    have hCb:PySem.W.CodeAll tabs (hidT s₁.heap H):=.of fun q hq=>by
      obtain⟨o,vs,file,tf,flags,tg,inF,text,tt,e1,r1,r2⟩:=(hT q hq).1
      exact⟨o,vs,file,tf,flags,tg,inF,text,tt,base_of e1 (noC e1 (by rw [r1]; decide) (by rw [r1]; nofun)),r1,r2⟩
    have hM:Mod K mg (hidT s₁.heap H):=⟨hKb,nsK hns,⟨mb,nsK hb,hbb⟩,let ⟨mc,h1,h2⟩:=hlim; ⟨mc,nsK h1,h2⟩⟩
    have e0:Env0 P w K mg (hidT s₁.heap H) callerA [] s₁ H:=⟨rfl,hM,fun b o e=>of_hidT e,Nat.le_of_eq (hidT_size _ _),trivial,fun b hb=>absurd (show b∈([]:List Addr) from hb) (by simp),hok,.of_eq hg⟩
    refine codeAny_mono ((F _ hKb (nsK hns) hBb hCb).run callerA [] s₁ H ⟨[.ref a],[]⟩ [.ref a] [.ref a] _ _ hr e0 (hbind s₁ (.ref a)) (.cons rfl .nil) (hsp H hO hS)) fun r s' h=>?_
    cases r with
    | error e=>exact(hCX H e s' h).elim
    | ok fl=>
      cases fl with
      | next=>exact False.elim h
      | brk=>exact False.elim h
      | cont=>exact False.elim h
      | ret u=>
        obtain⟨v,H',os,bare,un,hok',r',q⟩:=h
        have q':v=.bl true:=q
        subst q'
        obtain rfl:u=Value.bool true:=r'
        refine⟨rfl,⟨fun b o e=>?_,fun b o e=>un.there b o e (by simp)⟩,os,bare⟩
        rcases hO.only b with z | ⟨ob,xs,z⟩ | ⟨hm,z⟩
        · exact .inl (un.keep b o e z (by intro z; exact absurd (show b∈([]:List Addr) from z) (by simp)) (by simp))
        · have z2:=un.frzs b ob _ z
          obtain⟨e1,_⟩:=hok b _ z
          obtain⟨e2,_⟩:=hok' b _ z2
          rw [e] at e1; cases e1
          exact .inl e2
        · obtain⟨more,z2⟩:=un.tbls b _ z
          have e2:s'.heap.get? b=some (PySem.W.tabObj (#[]++more)):=hok' b _ z2
          have e3:=tabO b hm
          obtain⟨q,hq,rfl⟩:=List.mem_map.mp hm
          rw [e] at e3
          cases e3
          exact .inr (.inl ⟨((hT q hq).1.tab (hT q hq).2).isCodeTable,rfl,#[],more,rfl,e2⟩)
  have tb:∀ b,b∈tabs.map (·.2)->HOk P w (fun _=>none) s₁.heap->ObjOk P w (fun _=>none) s₁.heap b (.tbl #[]):=fun b hb _=>tabO b hb
  cases hk:K.lookup a with
  | some o=>
    have e:=KX a o hk
    rw [ha] at e
    cases e
    refine core (fun b=>if b∈tabs.map (·.2) then some (.tbl #[]) else none) ⟨fun b=>?_,fun q hq=>if_pos (List.mem_map_of_mem hq)⟩ (.inr ⟨_,vs.toArray,_,hk,rfl,rfl,rfl,by rw [List.size_toArray,lenV]; exact hl,by simpa using rv⟩) (fun b u z=>?_) (fun b z=>?_) fun z=>?_
    · by_cases hm:b∈tabs.map (·.2)
      · exact .inr (.inr ⟨hm,if_pos hm⟩)
      · exact .inl (if_neg hm)
    · by_cases hm:b∈tabs.map (·.2)
      · have z':=(if_pos hm).symm.trans z
        cases z'
        exact tabO b hm
      · have z':=(if_neg hm).symm.trans z
        cases z'
    · by_cases hm:b∈tabs.map (·.2)
      · exact .inr hm
      · exact absurd (if_neg hm) z
    · exact absurd (if_neg naT) z
  | none=>
    refine core (fun b=>if b=a then some (.frz {cls:=.type "list",data:=.seq vs.toArray} (.lst (ns.map V.int))) else if b∈tabs.map (·.2) then some (.tbl #[]) else none) ⟨fun b=>?_,fun q hq=>?_⟩ (.inl (.inr ⟨{cls:=.type "list",data:=.seq vs.toArray},if_pos rfl⟩)) (fun b u z=>?_) (fun b z=>?_) fun _=>hk
    · by_cases hb:b=a
      · exact .inr (.inl ⟨_,_,if_pos hb⟩)
      · by_cases hm:b∈tabs.map (·.2)
        · exact .inr (.inr ⟨hm,(if_neg hb).trans (if_pos hm)⟩)
        · exact .inl ((if_neg hb).trans (if_neg hm))
    · have hm:q.2∈tabs.map (·.2):=List.mem_map_of_mem hq
      have hb:q.2≠a:=fun z=>naT (z▸hm)
      exact(if_neg hb).trans (if_pos hm)
    · by_cases hb:b=a
      · have z':=(if_pos hb).symm.trans z
        cases z'
        subst hb
        exact⟨ha,by rw [List.length_map]; exact hl,vs,_,rv,ha⟩
      · by_cases hm:b∈tabs.map (·.2)
        · have z':=((if_neg hb).trans (if_pos hm)).symm.trans z
          cases z'
          exact tabO b hm
        · have z':=((if_neg hb).trans (if_neg hm)).symm.trans z
          cases z'
    · by_cases hb:b=a
      · exact .inl hb
      · by_cases hm:b∈tabs.map (·.2)
        · exact .inr hm
        · exact absurd ((if_neg hb).trans (if_neg hm)) z
theorem walk_ofT {l:PySem.W.OpenLaw} {n k:Nat} {q:Program} {loose:List Str} {XP:(Str->Option Value)->Heap->Prop} {YP:World->Heap->Prop} {d:DefRec} {K:Params->PySem.W.Frag} {CX:World->CXT} {sp:World->Sp} {x:Str} {tabs:List (Addr×Addr)}
    (himp:importsNone q=true) (hn:l.most=some n) (hn2:n<=sizeLine) (hdf:d.params.defaults=[]) (hr:Room k callerA)
    (hY:∀ (w:World) (h:Heap),YP w h->(K w.params).In h) (hnK:∀ w:World,PySem.W.noTabs (K w.params)=true) (hT:∀ (w:World) (h:Heap),YP w h->PySem.W.TabsAt tabs h)
    (F:∀ (w:World) (mg:Str->Option Value) (fa:Addr) (h:Heap),(K w.params).In h->h.Ns mainGlobals mg->mg d.name=some (.ref fa)->
      ∃ fd:FuncData,(∀ (s:Shared) (u:Value),BindsTo s fd ⟨[u],[]⟩ [(x,u)])/\
        ∀ base:Heap,(K w.params).In base->base.Ns mainGlobals mg->BltB mg base->PySem.W.CodeAll tabs base->FnOk l.prog w (K w.params) mg base (CX w) k fa fd [x] (sp w))
    (hsp:∀ (w:World) (H:Hp) (a:Addr) (ns:List Int),ns.length<=n->OnlyT tabs H->SqL (K w.params) H a (ns.map V.int)->sp w [.ref a] H (fun v _=>v=.bl true) fun _ _ _=>False)
    (hCX:∀ (w:World) (H:Hp) (s:Shared) (e:Value) (s':Shared),CX w [] H s (fun _ _ _=>False) e s'->False):
    PySem.W.WalkO q loose XP YP l.row.toRowW d [] (fun f vs=>PySem.call f vs):=by
  refine Att.attach_call hn hdf fun w s₀ s₁ mg mb fa o pm cd doc a vs ns G Y ho hd hcd hmg hobj hints hlen hg=>?_
  have KX:=hY w _ Y
  obtain⟨fd,hb,hF⟩:=F w mg fa _ KX G.T.g hmg
  have hbm:BltB mg s₁.heap:=by
    obtain⟨bm,ob,b1,b2,b3,b4,b5,b6⟩:=G.T.bmain
    exact⟨⟨bm,ob,b1,b2,b3,b4,b5,b6⟩,G.T.seer himp⟩
  exact law_callT (hT w _ Y) (hnK w) hbm KX G.T.g G.T.b G.T.builtins G.T.nolimit hg hobj hints (Nat.le_trans hlen hn2) hr hF hb (fun H hO hS=>hsp w H a ns hlen hO hS) fun H e s'=>hCX w H s₁ e s'
end L2
namespace DL
open PySem PySem.Spec PyProof.Rows L2
theorem mem_lk {β:Type}:∀ {l:List (Addr×β)} {a:Addr} {b:β},l.lookup a=some b->(a,b)∈l
  | [],_,_,e=>by cases e
  | (c,x)::r,a,b,e=>by
    rw [List.lookup_cons] at e
    cases hb:a == c with
    | true=>rw [hb] at e; cases e; rw [eq_of_beq hb]; exact .head _
    | false=>rw [hb] at e; exact .tail _ (mem_lk e)
def tab0 (tq:List (Addr×Str)):DH:=fun b=>(tq.lookup b).map fun q=>DO.tbl fun H ps=>TblOk H q ps
theorem law_upT {K:Fg} {H:Hp} {a:Addr} {ns:List Int} {F:DSp} {E:XK} {tabs:List (Addr×Addr)} {tq:List (Addr×Str)} (ho:OnlyT tabs H) (hS:SqL K H a (ns.map V.int)) (ht:∀ p∈tq,p.1∈tabs.map (·.2)) (h:F [.rl (ns.map D.int)] (tab0 tq) (fun d _=>d=.bl true)):spU K F [.ref a] H (fun v _=>v=.bl true) E:=by
  refine⟨[.rl (ns.map D.int)],tab0 tq,fun d _=>d=.bl true,IsDs.cons (isRl.mpr ⟨a,ns.map V.int,rfl,?_,?_⟩) IsDs.nil,fun b o e=>?_,h,fun d' S' v H' e _ _ i=>?_⟩
  · rcases hS with (h1 | h1) | h1
    · rcases ho.only a with z | ⟨o,xs,z⟩ | ⟨_,z⟩
      · rw [z] at h1; cases h1
      · rw [z] at h1; cases h1
      · rw [z] at h1; cases h1
    · exact .inl h1
    · exact .inr h1
  · clear h hS
    induction ns with
    | nil=>exact IsDs.nil
    | cons n ns ih=>exact IsDs.cons (isInt.mpr rfl) ih
  · unfold tab0 at e
    cases q:tq.lookup b with
    | none=>rw [q] at e; cases e
    | some x=>
      rw [q] at e
      cases e
      obtain⟨t,ht',e2⟩:=List.mem_map.mp (ht _ (mem_lk q))
      have z:=ho.all t ht'
      rw [e2] at z
      exact⟨#[],z,fun H2 _=>⟨trivial,fun pos cv z2=>by cases z2⟩⟩
  · subst e
    exact isBl.mp i
end DL
namespace L2
open PySem PySem.Spec PyProof.Rows
theorem op_divR {X:Cx} {n:Nat} (hr:Room n X.A) (hn:33<=n) (hB:BltB X.mg X.base) (hT:X.prog.given.tree=none) (hst:X.stack=X.env::X.outer) (hg:X.env.scope.isGenerator=false) (hc:X.env.scope.isCoroutine=false):
    OpR X (binaryOp .FloorDiv) (rI (fun _ j=>j≠0) fun i j=>.int (i.fdiv j)):=by
  intro pins s σ H x y v u Q I rx ry h
  obtain⟨i,j,rfl,rfl,hj,q⟩:=h
  obtain⟨t,rfl⟩:=rx
  obtain⟨t',rfl⟩:=ry
  have hd:=hr.dp
  have hN:s.heap.NoSeer:=hB.2.keeps I.bk
  exact floordiv_int hj ⟨.int (i.fdiv j),H,I.tok _,⟨_,rfl⟩,q⟩ (.inr (PylongRoom.of I.nolimit (by show X.A.depth+100 < recursionLimit; omega) (SeerAt.of hN hT (hst▸I.ok.frames) hg hc I.ok.blt I.ok.glob)))
end L2
namespace DL
open PySem PySem.Spec PyProof.Rows L2
abbrev dDivR:D2:=d2I (fun _ j=>j≠0) fun i j=>.int (i.fdiv j)
theorem o_divR {X:Cx} {n:Nat} (hr:Room n X.A) (hB:BltB X.mg X.base) (hT:X.prog.given.tree=none) (hst:X.stack=X.env::X.outer) (hg:X.env.scope.isGenerator=false) (hc:X.env.scope.isCoroutine=false) (hn:33<=n):
    OpR X (binaryOp .FloorDiv) (upR X.K dDivR):=op2I (C:=fun _ j=>j≠0) (gV:=fun i j=>.int (i.fdiv j)) (op_divR hr hn hB hT hst hg hc) fun _ _ _=>isInt.mpr rfl
section
variable {X:Cx} {pins:List (Addr×Obj)} {σ:L2.St} {H:Hp} {s:Shared}
theorem eqL_at (I:Inv X pins σ H s) {S:DH} {a c:Addr} {ds es:List D} {b:Bool} (hS:Hs X.K H S) (h1:S a=some (.lst ds)) (h2:S c=some (.lst es)) (hl:ds.length=es.length) (A:Around) (hu:A.units+8 < cLine) (h:eqTs (eqT 7) ds es=some b):
    SeqAt.RcAt A s (.ref a) (.ref c) b/\SeqAt.RcNeAt A s (.ref a) (.ref c) (!b):=by
  obtain⟨xs,q1,j1⟩:=hS.lst h1
  obtain⟨ys,q2,j2⟩:=hS.lst h2
  obtain⟨us,r1,p1,_⟩:=I.list (SqL.of q1)
  obtain⟨ws,r2,p2,_⟩:=I.list (SqL.of q2)
  have l1:=j1.length
  have l2:=j2.length
  have l3:=r1.length
  have l4:=r2.length
  have hsz:us.toArray.size=ws.toArray.size:=by simp only [List.size_toArray]; omega
  have he:∀ j (h1:j < us.toArray.size) (h2:j < ws.toArray.size),SeqAt.EqAt A.in1 s us.toArray[j] ws.toArray[j] (eqAts (eqT 7) ds es j):=fun j h1 h2=>by
    simp only [List.size_toArray] at h1 h2
    obtain⟨d,e,x,y,q1,q2,d1,d2,rx,ry⟩:=pair_at j1 j2 r1 r2 h1 h2
    have:=(eqT_at I 7 A.in1 d e x y us[j] ws[j] _ (by show A.units+1+7 < cLine; omega) (eqTs_at h q1 q2) d1 d2 rx ry).1
    simpa using this
  have e:=eqTs_all h
  rw [hl,Nat.min_self] at e
  have e:(List.range us.toArray.size).all (eqAts (eqT 7) ds es)=b:=by
    simp only [List.size_toArray]
    rw [<- l3,<- l1,hl]
    simpa using e
  refine⟨?_,?_⟩
  · have z:=SeqAt.RcAt.lists p1.isList p2.isList hsz (by omega) he
    rw [e] at z
    exact z
  · have z:=SeqAt.RcNeAt.lists p1.isList p2.isList hsz (by omega) he
    rw [e] at z
    exact z
end
def dEqX:D2:=fun d e S k=>match d,e with
  | .ref a,.ref c=>∃ xs ys b,S a=some (.lst xs)/\S c=some (.lst ys)/\xs.length=ys.length/\eqTs (eqT 7) xs ys=some b/\k (.bl b) S
  | d,e=>∃ b,eqT 8 d e=some b/\k (.bl b) S
def dNeX:D2:=fun d e S k=>match d,e with
  | .ref a,.ref c=>∃ xs ys b,S a=some (.lst xs)/\S c=some (.lst ys)/\xs.length=ys.length/\eqTs (eqT 7) xs ys=some b/\k (.bl (!b)) S
  | d,e=>∃ b,eqT 8 d e=some b/\k (.bl (!b)) S
theorem o_eqX {X:Cx} {n:Nat} (hr:Room n X.A):OpR X (compareOp .Eq) (upR X.K dEqX):=by
  intro pins s σ H x y v u Q I rx ry h
  obtain⟨d,e,S,k,i1,i2,hS,r,m⟩:=h
  have hu:=hr.units
  unfold dEqX at r
  split at r
  · obtain⟨xs,ys,b,h1,h2,h3,h4,w⟩:=r
    have e1:=isRef.mp i1
    have e2:=isRef.mp i2
    subst e1 e2
    cases rx
    cases ry
    exact(eqL_at I hS h1 h2 h3 X.A (by omega) h4).1 X.prog X.w X.xe _ ⟨.bl b,H,I,rfl,up1 m hS w (isBl.mpr rfl)⟩
  · obtain⟨b,h1,w⟩:=r
    exact(eqT_at I 8 X.A d e x y v u b (by omega) h1 i1 i2 rx ry).2 X.prog X.w X.xe _ ⟨.bl b,H,I,rfl,up1 m hS w (isBl.mpr rfl)⟩
theorem o_neX {X:Cx} {n:Nat} (hr:Room n X.A):OpR X (compareOp .NotEq) (upR X.K dNeX):=by
  intro pins s σ H x y v u Q I rx ry h
  obtain⟨d,e,S,k,i1,i2,hS,r,m⟩:=h
  have hu:=hr.units
  unfold dNeX at r
  split at r
  · obtain⟨xs,ys,b,h1,h2,h3,h4,w⟩:=r
    have e1:=isRef.mp i1
    have e2:=isRef.mp i2
    subst e1 e2
    cases rx
    cases ry
    exact(eqL_at I hS h1 h2 h3 X.A (by omega) h4).2 X.prog X.w X.xe _ ⟨.bl (!b),H,I,rfl,up1 m hS w (isBl.mpr rfl)⟩
  · obtain⟨b,h1,w⟩:=r
    exact eqT_ne I 8 X.A d e x y v u b (by omega) h1 i1 i2 rx ry X.prog X.w X.xe _ ⟨.bl (!b),H,I,rfl,up1 m hS w (isBl.mpr rfl)⟩
theorem mono_lam {P:Addr} {qual:Str} {params:Arguments} {body:Expr} {scope:Scope} {clos:List (Str×Addr)}:Mono (dLam P qual params body scope clos):=fun L S k k' h q=>⟨q.1,fun g hg=>h _ _ (q.2 g hg)⟩
theorem OwnR.mk' {P:Program} {w:World} {K:Fg} {mg:Str->Option Value} {base:Heap} {x qual:Str} {st:Stmt} {f:Addr} {fd:FuncData} {ps:List Str} {n:Nat} {F:List (Addr×Obj)->DSp} (Fn:Fun K x qual st f fd) (h:∀ cells,FnOkP cells P w K mg base CX0 n f fd ps (spU K (F cells))) (hm:mg x=some (.ref f)) (hb:Binds K fd ps []):OwnR P w K mg base x n F:=
  ⟨f,fd,ps,h,hm,Fn.kp,hb⟩
theorem OwnX.mk' {P:Program} {w:World} {K:Fg} {mg:Str->Option Value} {base:Heap} {x qual:Str} {st:Stmt} {f:Addr} {fd:FuncData} {ps:List Str} {n:Nat} {F:DSpX} (Fn:Fun K x qual st f fd) (h:FnOk P w K mg base (CXE P w) n f fd ps (spX K F)) (hm:mg x=some (.ref f)) (hb:Binds K fd ps []):OwnX P w K mg base x n F:=
  ⟨f,fd,ps,h,hm,Fn.kp,hb⟩
def bTuple:DSp:=fun ds S k=>match ds with
  | [.tup xs]=>k (.tup xs) S
  | [.ref a]=>∃ xs,S a=some (.lst xs)/\k (.tup xs) S
  | _=>False
theorem b_tuple {X:Cx}:CallR X (.type "tuple") (upC X.K bTuple):=by
  intro pins s σ H xs us Q I rs h
  obtain⟨ds,S,k,i,hS,r,n⟩:=h
  unfold bTuple at r
  split at r
  · obtain⟨x,rfl,i1⟩:=isDs1 i
    obtain⟨a,vs,rfl,t,j⟩:=isTup.mp i1
    exact call_tuple_of pins s σ H _ us Q I rs ⟨a,vs,rfl,.inr ⟨t,n _ S _ H r (Kp.refl H) hS i1⟩⟩
  · obtain⟨x,rfl,i1⟩:=isDs1 i
    have e1:=isRef.mp i1
    subst e1
    obtain⟨xs,z,r⟩:=r
    obtain⟨vs,hl,j⟩:=hS.lst z
    refine call_tuple_of pins s σ H _ us Q I rs ⟨_,vs,rfl,.inl ⟨SqL.of hl,fun p hp=>?_⟩⟩
    have kp:Kp H (upd H p (.tup vs)):=Kp.new hp
    exact n _ S _ _ r kp (hS.new hp) (isTup.mpr ⟨p,vs,rfl,SqT.of upd_same,j.kp kp⟩)
  · exact r.elim
end DL
namespace L2
open PySem PySem.Spec PyProof.Rows
section
variable {X:Cx} {pos:Pos}
def tPar3 (i j l:Nat) (ta:TA):TS:=fun D σ H=>ta σ H fun vs H1=>∃ v w t,vs=[v,w,t]/\D.nx (((σ.set l (some t)).set j (some w)).set i (some v)) H1
theorem ps_par3 {i j l:Nat} {x y z:Str} {a b c:Expr} {ta:TA} {px py pz pt:Pos} {kt k2 pt2} (hc:X.calm=true) (hN:X.N.Nodup) (hi:X.N[i]?=some x) (hj:X.N[j]?=some y) (hl:X.N[l]?=some z)
    (hx:X.env.scope.names.lookup x=some .local) (hy:X.env.scope.names.lookup y=some .local) (hz:X.env.scope.names.lookup z=some .local) (ha:PA X [a,b,c] ta)
    (hw:swappedStores [.Tuple [.Name x px,.Name y py,.Name z pz] kt pt] (.Tuple [a,b,c] k2 pt2) X.env=pure (some [x,y,z]))
    (hs:swapsWithSole [.Tuple [.Name x px,.Name y py,.Name z pz] kt pt] (.Tuple [a,b,c] k2 pt2) pos.line X.env=pure false:=by rfl):
    PS X (.Assign [.Tuple [.Name x px,.Name y py,.Name z pz] kt pt] (.Tuple [a,b,c] k2 pt2) pos) (tPar3 i j l ta):=by
  intro pins s σ H D I h
  rw [exec_Assign_arm]
  refine wpAny_bind (wpAny_standAt ?_)
  rw [hs]
  refine wpAny_bind (wpAny_pure ?_)
  rw [if_neg (by decide)]
  refine wpAny_bind (Tuple_ (thn (ha _ pins s σ H _ I h) fun us s1 ⟨vs,H1,I1,r1,q1⟩=>?_))
  obtain⟨v,w,t,e1,q1⟩:=q1
  subst e1
  obtain⟨u1,u2,u3,rfl,rv,rw',rt⟩:∃ u1 u2 u3,us=[u1,u2,u3]/\RelV v u1/\RelV w u2/\RelV t u3:=by
    cases r1 with
    | cons p q=>
      cases q with
      | cons p' q'=>
        cases q' with
        | cons p'' q''=>
          cases q''
          exact⟨_,_,_,rfl,p,p',p''⟩
  refine wpAny_newObj_type ?_ (by show 3<=sizeLine; decide)
  have I2:Inv X pins σ H1 {s1 with heap:=s1.heap.push {cls:=.type "tuple",data:=.seq [u1,u2,u3].toArray}}:=I1.kept (t':=s1.toks) fun b o e=>Heap.get?_push_of_some _ e
  rw [hw]
  refine wpAny_bind (wpAny_pure ?_)
  show wpAny (model X.prog X.w) X.A (do rule "assign.swapped-stores"; let items <- unpackItems (.ref s1.heap.objs.size) 3 none; assignInOrder [fun v=>bindName X.env z v,fun v=>bindName X.env y v,fun v=>bindName X.env x v] items.reverse; pure Flow.next) _ _ _
  refine wpAny_bind (wpAny_rule (wpAny_bind (unpackItems_tuple (items:=#[u1,u2,u3]) (I.ok.hd hc) (IsTup.new s1.heap _) fun h' hx'=>?_)))
  have I3:=I2.kept (h':=h') (t':=s1.toks) fun b o e=>hx' b o (Nat.ne_of_lt (Heap.lt_size e)) e
  show wpAny _ _ (assignInOrder [fun v=>bindName X.env z v,fun v=>bindName X.env y v,fun v=>bindName X.env x v] [u3,u2,u1] >>= fun _=>pure Flow.next) _ _ _
  refine wpAny_bind (assignInOrder_cons (wpAny_bindName (store_ok I3 hN hl (.inl hz) rt (fun s2 I4=>?_) (.inr hz))))
  refine assignInOrder_cons (wpAny_bindName (store_ok I4 hN hj (.inl hy) rw' (fun s3 I5=>?_) (.inr hy)))
  refine assignInOrder_cons (wpAny_bindName (store_ok I5 hN hi (.inl hx) rv (fun s4 I6=>assignInOrder_nil (wpAny_pure ?_)) (.inr hx)))
  exact⟨_,H1,I6,q1⟩
end
end L2
namespace DL
open PySem PySem.Spec PyProof.Rows L2
def dPar3 (i j l:Nat) (ta:DA):DS:=fun M L S=>ta L S fun ds S1=>match ds with
  | [d,e,f]=>M.nx (((L.set l (some f)).set j (some e)).set i (some d)) S1
  | _=>False
theorem dst_par3j {X:Cx} {pos:Pos} {i j l:Nat} {x y z:Str} {a b c:Expr} {ta:DA} {px py pz pt:Pos} {kt k2 pt2} (hc:X.calm=true) (hN:X.N.Nodup) (ha:AJ X [a,b,c] ta) (hi:X.N[i]?=some x:=by rfl) (hj:X.N[j]?=some y:=by rfl) (hl:X.N[l]?=some z:=by rfl)
    (hx:X.env.scope.names.lookup x=some .local:=by rfl) (hy:X.env.scope.names.lookup y=some .local:=by rfl) (hz:X.env.scope.names.lookup z=some .local:=by rfl)
    (hw:swappedStores [.Tuple [.Name x px,.Name y py,.Name z pz] kt pt] (.Tuple [a,b,c] k2 pt2) X.env=pure (some [x,y,z]):=by rfl)
    (hs:swapsWithSole [.Tuple [.Name x px,.Name y py,.Name z pz] kt pt] (.Tuple [a,b,c] k2 pt2) pos.line X.env=pure false:=by rfl):
    SJ X (.Assign [.Tuple [.Name x px,.Name y py,.Name z pz] kt pt] (.Tuple [a,b,c] k2 pt2) pos) (dPar3 i j l ta):=
  ⟨PS.imp (ps_par3 hc hN hi hj hl hx hy hz ha.h hw hs) fun N σ H ⟨L,S,M,hL,hS,h,r⟩=>upA.go hL hS h fun ds S1 vs H1 h1 k1 hL1 hS1 i1=>by
    split at h1
    · obtain⟨v,r1,rfl,j1,j2⟩:=isCons.mp i1
      obtain⟨u,t,rfl,j3,j4⟩:=isDs2 j2
      exact⟨v,u,t,rfl,r.nx _ S1 _ H1 h1 k1 (((hL1.set j4 l).set j3 j).set j1 i) hS1⟩
    · exact h1.elim⟩
end DL
namespace L2
open PySem PySem.Spec PyProof.Rows
theorem boot_enum:bootBuiltins "enumerate"=some (.type "enumerate"):=by decide +kernel
theorem drawsB {P:Program} {w:World} {A:Around} (b:Bool) (it l:Addr) (xs:Array Value) (hh:A.handled=none) (hne:it≠l):Draws P w A it [it,l] xs.size (fun i x=>xs[i]?=some x) (fun i h=>itB b it l i h/\sqB b l xs h) where
  live:=fun i h st=>by obtain⟨o,e,_⟩:=(handsB (P:=P) (w:=w) b it l).obj _ _ st.1; exact⟨o,e⟩
  frame:=fun i h h' st q=>⟨(handsB (P:=P) (w:=w) b it l).at_ _ _ _ st.1 fun o e=>q it (by simp) o e,(handsB (P:=P) (w:=w) b it l).sqAt _ _ _ st.2 fun o e=>q l (by simp) o e⟩
  item:=fun i s Q E hi st hQ=>(handsB (P:=P) (w:=w) b it l).item A i s xs xs[i] Q E st.1 st.2 (by simp [hi]) fun h' a1 a2=>hQ _ h' s.toks (by simp [hi]) ⟨a1,(handsB (P:=P) (w:=w) b it l).sqAt _ _ _ st.2 fun o e=>a2.extBut _ _ (Ne.symm hne) e⟩ a2
  done:=fun s Q E st hE=>(handsB (P:=P) (w:=w) b it l).fin _ _ _ _ _ _ hh st.1 st.2 (by simp) hE
def Ite (K:PySem.W.Frag) (b:Bool) (a:Addr):It:=
  ⟨fun i H => ∃ xs x, SqB b K H a xs ∧ xs[i]? = some x,
   fun i H v H'=>∃ T x,v=.ref T/\H T=none/\H'=upd H T (.tup [.int (i:Nat),x])/\∀ xs,SqB b K H a xs->xs[i]?=some x,
   fun i H=>∃ xs,SqB b K H a xs/\xs.length=i⟩
def tnE (b:Bool) (e it a:Addr) (i:Nat) (h:Heap):Prop:=(∃ old,IsEnum h e it (i:Nat) old)/\itB b it a i h
theorem turn_enum {P:Program} {w:World} {K:PySem.W.Frag} {es:List Expr} {k:Nat} {pos:Pos} (b:Bool) {e it a:Addr} (h1:e≠it) (h2:e≠a) (h3:it≠a):
    Turn P w K (.Tuple es k pos) (Ite K b a) [e,it] e (tnE b e it a) where
  mem:=by simp
  obj:=fun i h st c hc=>by
    obtain⟨⟨old,he⟩,hi⟩:=st
    have hc':c=e\/c=it:=by simpa using hc
    rcases hc' with rfl | rfl
    · exact⟨_,he,fun v q=>by cases q⟩
    · exact(handsB (P:=P) (w:=w) b c a).obj _ _ hi
  keep:=fun i h h' st q=>by
    obtain⟨⟨old,he⟩,hi⟩:=st
    exact⟨⟨old,q e (by simp) _ he⟩,(handsB (P:=P) (w:=w) b it a).at_ _ _ _ hi fun o x=>q it (by simp) o x⟩
  item:=by
    intro X hP hw hK hc i pins s σ H E I hf st hg
    subst hP hw hK
    obtain⟨xs,x,q1,hx⟩:=hg
    obtain⟨its,rv,p⟩:=I.sqB q1
    obtain⟨u,hu,ru⟩:=rv.get hx
    obtain⟨⟨old,he⟩,hi⟩:=st
    have hn:H s.heap.objs.size=none:=I.hok.fresh (Nat.le_refl _)
    have helt:e < s.heap.objs.size:=Heap.lt_size he
    have hilt:it < s.heap.objs.size:=by obtain⟨o,z,_⟩:=(handsB (P:=X.prog) (w:=X.w) b it a).obj _ _ hi; exact Heap.lt_size z
    have hlt:i < its.toArray.size:=by
      have:=List.getElem?_eq_some_iff.mp hu
      obtain⟨z,_⟩:=this
      simpa using z
    refine wpAny_pyNext_enum_itemD (drawsB b it a its.toArray (show X.A.in1.handled=none from I.ok.hd hc) h3) he ⟨hi,p⟩ hlt h1 (by simp [h1,h2]) fun x' h' tk hx' ho hst hT hsz hk=>?_
    have ex:x'=u:=by
      have z:its[i]?=some x':=by simpa using hx'
      rw [hu] at z
      exact(Option.some.inj z).symm
    subst ex
    have I1:Inv X pins σ (upd H s.heap.objs.size (.tup [.int (i:Nat),x])) {s with heap:=h',toks:=tk+1}:=
      I.turnedNew (t':=tk+1) [e,it] (fun c o hb y=>hk c o (fun q=>hb (by simp [q])) (fun q=>hb (by simp [q])) y) hf (Nat.le_refl _) ⟨Nat.le_of_ble_eq_true rfl,[.int (i:Nat) tk,x'],.cons ⟨tk,rfl⟩ (.cons ru .nil),⟨_,hT,rfl,_,rfl⟩⟩
    refine⟨_,rfl,wpAny_letOwnedTupleGo_enum (s:={s with heap:=h',toks:=tk+1}) ho fun h2' g1 g2=>?_⟩
    refine⟨.ref s.heap.objs.size,upd H s.heap.objs.size (.tup [.int (i:Nat),x]),?_,rfl,⟨_,x,rfl,hn,rfl,fun xs' e1=>by rw [I.sqB_inj e1 q1]; exact hx⟩,⟨⟨x',by simpa using g1⟩,?_⟩,fun c hb=>?_⟩
    · refine I1.turnedL (t':=tk+1) [e] (fun c o hb y=>g2.extBut _ _ (fun q=>hb (by simp [q])) y) fun c hb=>?_
      have z:c=e:=by simpa using hb
      subst z
      obtain⟨f0,f1,f2,f3,f4,f5⟩:=hf c (by simp)
      exact⟨by rw [upd_ne (Nat.ne_of_lt helt)]; exact f0,f1,f2,f3,f4,f5⟩
    · exact(handsB (P:=X.prog) (w:=X.w) b it a).at_ _ _ _ hst.1 fun o z=>g2.extBut _ _ (Ne.symm h1) z
    · have hc':c=e\/c=it:=by simpa using hb
      rw [upd_ne (by rcases hc' with rfl | rfl; exact Nat.ne_of_lt helt; exact Nat.ne_of_lt hilt)]
      exact(hf c hb).1
  done:=by
    intro X hP hw hK hc i pins s σ H E I hf st hg
    subst hP hw hK
    obtain⟨xs,q1,hx⟩:=hg
    obtain⟨its,rv,p⟩:=I.sqB q1
    obtain⟨⟨old,he⟩,hi⟩:=st
    have l1:=rv.length
    have ez:i=its.toArray.size:=by simp; omega
    refine wpAny_pyNext_enum_endD (drawsB b it a its.toArray (show X.A.in1.handled=none from I.ok.hd hc) h3) he ⟨by rw [<- ez]; exact hi,p⟩ fun h' kk=>⟨rfl,I.turnedL (t':=s.toks) [it] (fun c o hb y=>kk c o (fun q=>hb (by simp [q])) y) fun c hb=>hf c ?_⟩
    have z:c=it:=by simpa using hb
    subst z
    simp
  self:=fun _ _ _ _ _ st h=>by
    obtain⟨⟨old,he⟩,_⟩:=st
    exact wpAny_pyIter_enum he h
theorem meets_enumT (l:Addr) (xs:Array Value) (n:Nat) (dct:Option Addr) (sl:Array (Option Value)):
    Meets (Builtin.«enumerate.__new__» ⟨[.type "enumerate",.ref l],[]⟩) (fun _ R s=>s.heap.get? l=some ⟨.type "tuple",dct,.seq xs n,sl⟩/\
      R (.ok (.ret (.ref (zh1 s.heap "tuple_iterator" l).objs.size))) {s with heap:=(zh1 s.heap "tuple_iterator" l).push {cls:=.type "enumerate",data:=.fields #[.none,.bool false,.ref s.heap.objs.size,rawInt 0,.none,.none]}}):=
  .of_wp fun prog w A R s h=>by
    obtain⟨hp,g,d,tk,os⟩:=s
    obtain⟨hl,h⟩:=h
    have hsub:=sub_enumerate
    have hT:Heap.IsTuple (Shared.heap ⟨hp,g,d,tk,os⟩) l xs:=⟨_,hl,rfl,n,rfl⟩
    wp_walk using AutoSeq1.wpAny_loadPart' hl
    refine wpAny_stack_any fun _=>wpAny_pure ?_
    split
    · rename_i c _ _ _ _ _
      cases (c == Value.type "enumerate") <;> (wp_walk using AutoSeq1.wpAny_loadPart' hl,wpAny_pyIter_tuple hT; exact⟨_,rfl,h⟩)
    · wp_walk using AutoSeq1.wpAny_loadPart' hl,wpAny_pyIter_tuple hT
      exact⟨_,rfl,h⟩
section
variable {prog:Program} {w:World} {A:Around} {E:Value->Shared->Prop} {s:Shared}
theorem call_enumT {l:Addr} {xs:Array Value} {Q:Value->Shared->Prop} (hL:s.heap.IsTuple l xs)
    (h:∀ h',IsEnum h' (s.heap.objs.size+1) s.heap.objs.size 0 .none->h'.get? s.heap.objs.size=some {cls:=.type "tuple_iterator",data:=.fields #[.ref l,.int 0 0]}->(∀ c o,s.heap.get? c=some o->h'.get? c=some o)->Q (.ref (s.heap.objs.size+1)) {s with heap:=h'}):
    wpAny (model prog w) A (call (.type "enumerate") [.ref l]) Q E s:=by
  obtain⟨⟨c,dct,dt,sl⟩,hl,hc,n,hd⟩:=hL
  obtain rfl:c=.type "tuple":=hc
  obtain rfl:dt=.seq xs n:=hd
  refine callType_new F.called_enumerate (by decide) (F.typeCall_enumerate_1 _) (F.newCall_enumerate_1 _) (fun obj=>F.args_object_init_2 obj _) F.entry_enumerate_new (meets_enumT l xs n dct sl) ⟨hl,?_⟩
  have z1:(zh1 s.heap "tuple_iterator" l).objs.size=s.heap.objs.size+1:=Heap.size_push ..
  have g5:=Heap.get?_push_size (zh1 s.heap "tuple_iterator" l) (o:={cls:=.type "enumerate",data:=.fields #[.none,.bool false,.ref s.heap.objs.size,rawInt 0,.none,.none]}) rfl
  show _/\_
  rw [z1] at g5 ⊢
  exact⟨⟨_,g5,rfl⟩,h _ g5 (Heap.get?_push_of_some _ (Heap.get?_push_size _ rfl)) fun c o x=>Heap.get?_push_of_some _ (Heap.get?_push_of_some _ x)⟩
theorem call_enumB {b:Bool} {l:Addr} {xs:Array Value} {Q:Value->Shared->Prop} (hL:sqB b l xs s.heap)
    (h:∀ h',IsEnum h' (s.heap.objs.size+1) s.heap.objs.size 0 .none->itB b s.heap.objs.size l 0 h'->(∀ c o,s.heap.get? c=some o->h'.get? c=some o)->Q (.ref (s.heap.objs.size+1)) {s with heap:=h'}):
    wpAny (model prog w) A (call (.type "enumerate") [.ref l]) Q E s:=by
  cases b with
  | true=>exact call_enumerate_list hL fun h' a1 a2 _ a4=>h h' a1 a2 a4
  | false=>exact call_enumT hL fun h' a1 a2 a4=>h h' a1 ⟨_,a2,rfl,rfl⟩ a4
end
def iEnum (K:PySem.W.Frag) (ta:TA):TI:=fun σ H R=>ta σ H fun vs H1=>∃ a b,vs=[.ref a]/\(∃ xs,SqB b K H1 a xs)/\R (Ite K b a) H1
theorem pi_enum {X:Cx} {a:Expr} {ta:TA} {p pos tp:Pos} {es:List Expr} {k:Nat} (hg:Gl X "enumerate") (hm:X.mg "enumerate"=none) (ha:PA X [a] ta) (hs:starEach [a] X.env=[(false,eval a X.env)]:=by rfl):
    PI X (.Tuple es k tp) (.Call (.Name "enumerate" p) [a] [] pos) (iEnum X.K ta):=by
  intro pins s σ H R I h
  refine Call_ (ld_blt I hg hm boot_enum (PyProof.Rows.callWith_type1 (thn (ha pos pins s σ H _ I h) fun us s1 ⟨vs,H1,I1,r1,q1⟩=>?_) (by rw [hs]; rfl) rfl))
  obtain⟨a1,b,rfl,⟨xs,e1⟩,q⟩:=q1
  cases r1 with
  | cons r rr=>
    cases rr
    cases r
    obtain⟨its,rv,p1⟩:=I1.sqB e1
    have al:=sqB_lt p1
    refine call_enumB p1 fun h' c1 c2 c3=>?_
    refine wpAny_pyIter_enum (s:={s1 with heap:=h'}) c1 ?_
    have fr:∀ j,H1 (s1.heap.objs.size+j)=none:=fun j=>I1.hok.fresh (Nat.le_add_right _ _)
    refine⟨_,[s1.heap.objs.size+1,s1.heap.objs.size],_,_,H1,rfl,I1.kept (t':=s1.toks) c3,turn_enum b (Nat.succ_ne_self _) (Nat.ne_of_gt (Nat.lt_succ_of_lt al)) (Nat.ne_of_gt al),⟨⟨_,c1⟩,c2⟩,fun c hb=>?_,q⟩
    have hb':c=s1.heap.objs.size+1\/c=s1.heap.objs.size:=by simpa using hb
    rcases hb' with rfl | rfl
    · exact I1.fpOk (Nat.le_add_right _ _) (fr 1)
    · exact I1.fpOk (Nat.le_refl _) (fr 0)
end L2
namespace DL
open PySem PySem.Spec PyProof.Rows L2
def enumD:Nat->List D->List D
  | _,[]=>[]
  | j,d::r=>.tup [.int (j:Nat),d]::enumD (j+1) r
theorem enumD_get:∀ {ds:List D} {j i:Nat} {c:D},(enumD j ds)[i]?=some c->∃ d,ds[i]?=some d/\c=.tup [.int ((j+i:Nat):Int),d]
  | [],_,_,_,h=>by cases h
  | d::r,j,0,c,h=>⟨d,rfl,(Option.some.inj h).symm⟩
  | d::r,j,i+1,c,h=>by
    obtain⟨e,h1,h2⟩:=enumD_get (ds:=r) (j:=j+1) (i:=i) h
    exact⟨e,h1,by rw [h2,show j+1+i=j+(i+1) by omega]⟩
theorem enumD_len:∀ {ds:List D} {j:Nat},(enumD j ds).length=ds.length
  | [],_=>rfl
  | _::r,j=>congrArg (·+1) (enumD_len (ds:=r) (j:=j+1))
theorem enum_go {K:Fg} {H1:Hp} {q:List D×Option Addr} {a:Addr} {b:Bool} (y:∀ S2 H2,Kp H1 H2->Hs K H2 S2->okFor q S2->∃ xs,SqB b K H2 a xs/\IsDs K H2 q.1 xs):
    (∀ i d S2 H2,(enumD 0 q.1)[i]?=some d->Kp H1 H2->Hs K H2 S2->okFor q S2->(Ite K b a).go i H2/\∀ x H',(Ite K b a).yld i H2 x H'->Kp H2 H'/\Hs K H' S2/\IsD K H' d x)/\
    ∀ S2 H2,Kp H1 H2->Hs K H2 S2->okFor q S2->(Ite K b a).stop (enumD 0 q.1).length H2:=by
  refine⟨fun i c S2 H2 e k2 hS2 o2=>?_,fun S2 H2 k2 hS2 o2=>?_⟩
  · obtain⟨xs,w1,u1⟩:=y S2 H2 k2 hS2 o2
    obtain⟨d,f1,rfl⟩:=enumD_get e
    obtain⟨v1,g1,r1⟩:=u1.get f1
    refine⟨⟨xs,v1,w1,g1⟩,?_⟩
    rintro x H' ⟨T,x',rfl,hT,rfl,al⟩
    have l1:=al xs w1
    rw [g1] at l1
    cases l1
    have kn:Kp H2 (upd H2 T (.tup [.int (i:Nat),v1])):=Kp.new hT
    exact⟨kn,hS2.new hT,isTup.mpr ⟨T,[.int (i:Nat),v1],rfl,SqT.of upd_same,IsDs.cons (isInt.mpr (by rw [Nat.zero_add])) (IsDs.cons (r1.kp kn) IsDs.nil)⟩⟩
  · obtain⟨xs,w1,u1⟩:=y S2 H2 k2 hS2 o2
    refine⟨xs,w1,?_⟩
    rw [<- u1.length,enumD_len]
def dForEn (ta:DA) (g:DG) (b:DS):DS:=fun M L S=>ta L S fun ds S1=>match ds with
  | [d]=>∃ q,dItems S1 d=some q/\dLoop (okFor q) g b M (enumD 0 q.1) L S1
  | _=>False
section
variable {X:Cx} {a:Expr} {es:List Expr} {kt:Nat} {tp p pos pos':Pos} {gg:DG} {ta:DA} {g:DS} {body:List Stmt}
theorem dst_forEnj (hp:PassesOwn (model X.prog X.w) X.A X.env X.xe) (hc:X.calm=true) (hgl:Gl X "enumerate") (hm:X.mg "enumerate"=none) (ha:AJ X [a] ta) (hg:GJ X (.Tuple es kt tp) gg) (hb:SsJ X body g)
    (hs1:starEach [a] X.env=[(false,eval a X.env)]:=by rfl) (hs:∀ x,foldedSetIterable (.Call (.Name "enumerate" p) [a] [] pos') X.env x=pure x:=by intro _; rfl):
    SJ X (.For (.Tuple es kt tp) (.Call (.Name "enumerate" p) [a] [] pos') body [] pos) (dForEn ta gg g):=
  ⟨PS.imp (ps_for hp hc (pi_enum hgl hm ha.h hs1) hg.h hb.h hs) fun N σ H ⟨L,S,M,hL,hS,h,r⟩=>upA.go hL hS h fun ds S1 vs H1 h1 k1 hL1 hS1 i1=>by
    split at h1
    · rename_i d1
      obtain⟨v1,rfl,j1⟩:=isDs1 i1
      obtain⟨q1,e1,h1⟩:=h1
      obtain⟨a1,b1,rfl,x1,y1⟩:=seq_kd hS1 j1 e1
      obtain⟨z1,z2⟩:=enum_go y1
      exact⟨a1,b1,rfl,x1,for_coreG hL1 hS1 h1 (r.kp k1) z1 z2⟩
    · exact h1.elim⟩
end
def dIxF:D2:=fun d e S k=>match d,e with
  | .tup ds,.int i=>∃ c,L2.atI ds i=some c/\k c S
  | .rl ds,.int i=>∃ c,L2.atI ds i=some c/\k c S
  | .ref a,.int i=>∃ ds c,S a=some (.lst ds)/\L2.atI ds i=some c/\k c S
  | _,_=>False
theorem x_ixF {X:Cx}:IxR X (upR X.K dIxF):=IxR.imp x_ix (upR.imp fun d e S k h=>by
  unfold dIxF at h
  split at h
  · obtain⟨c,h1,h2⟩:=h
    simp only [dIx,h1]
    exact h2
  · obtain⟨c,h1,h2⟩:=h
    simp only [dIx,h1]
    exact h2
  · obtain⟨ds,c,h0,h1,h2⟩:=h
    simp only [dIx,h0,h1]
    exact h2
  · exact h.elim)
theorem isDs_intsM {K:Fg} {H:Hp}:∀ {ns:List Int} {vs:List V},IsDs K H (ns.map D.int) vs->vs=ns.map V.int
  | [],vs,h=>by
    have:=h.length
    exact List.length_eq_zero_iff.mp this.symm
  | n::ns,vs,h=>by
    obtain⟨u,r,rfl,h1,h2⟩:=isCons.mp h
    rw [isInt.mp h1,isDs_intsM h2]
    rfl
end DL
namespace HT
open PySem PyProof.Rows
section
variable {prog:Program} {w:World} {A:Around} {E:Value->Shared->Prop} {s:Shared}
theorem getItem_tuple_whole {t sl:Addr} {items:Array Value} {vl vu:Value} {lo hi:Option Int} {Q:Value->Shared->Prop} (ht:IsTup s.heap t items) (hs:s.heap.IsSliceOf sl vl vu .none) (pl:IsPart vl lo) (pu:IsPart vu hi)
    (hw:sIx items.size 0 lo=0/\sIx items.size items.size hi=items.size) (h:Q (.ref t) s):wpAny (model prog w) A (getItem (.ref t) (.ref sl)) Q E s:=by
  obtain⟨os,hos,hcs,hds⟩:=id hs
  have hTs:s.TypeIs (.ref sl) "slice":=⟨os,hos,hcs⟩
  unfold getItem
  try with_reducible refine wpAny_holding ?_
  first | refine wpAny_bind (wpAny_pure ?_) | skip
  refine wpAny_bind (wpAny_sequenceKey ht.typeIs (by decide) ?_)
  refine wpAny_bind (wpAny_callSpecial?_slot (name:=Str.ofString "__getitem__") ht.typeIs PyProof.Rows.slot_tuple_getitem
    (wpAny_call_entry PyProof.Rows.slot_tuple_getitem ht.typeIs entry_tuple_getitem ?_ (args_tuple_getitem _ _)))
  show wpAny _ _ (Builtin.Tuple.tupleItemsOf (.ref t) >>= _) _ _ s
  refine wpAny_bind (tupleItemsOf_ ht (wpAny_bind (wpAny_typeOf hTs ?_)))
  rw [if_pos (by decide)]
  refine wpAny_bind (sliceApplied_gen hs pl pu ?_)
  rw [hw.1,hw.2]
  show wpAny _ _ (if ((((0:Nat):Int) == 0) && (1:Int) == 1 && (items.size - 0) == items.size)=true then _ else _) _ _ s
  rw [if_pos (by simp)]
  refine wpAny_bind (m:=Builtin.Tuple.tupleIsExact (.ref t)) (wpAny_bind (wpAny_typeOf ht.typeIs (wpAny_pure ?_)))
  rw [if_pos (by decide)]
  first
    | exact wpAny_pure ⟨_,rfl,wpAny_pure h⟩
    | exact wpAny_bind (wpAny_pure (wpAny_pure ⟨_,rfl,wpAny_pure h⟩))
    | (wp_walk; exact⟨_,rfl,wpAny_pure h⟩)
end
end HT
namespace L2
open PySem PySem.Spec PyProof.Rows
section
variable {X:Cx}
theorem sl_tupW:SlR X (fun x lo hi H Q=>∃ a xs,x=.ref a/\SqT X.K H a xs/\(HT.sIx xs.length 0 lo=0/\HT.sIx xs.length xs.length hi=xs.length)/\Q (.ref a) H):=by
  intro pins s σ H x v vl vu lo hi sl Q I rx hs pl pu h
  obtain⟨a,xs,rfl,hx,hw,q⟩:=h
  cases rx
  obtain⟨its,r,ht,hz⟩:=I.tuple hx
  have hlen:its.toArray.size=xs.length:=by rw [List.size_toArray]; exact r.length.symm
  refine⟨"tuple",_,PyProof.Rows.slot_tuple_getitem.lookup,ht.typeIs,?_⟩
  exact HT.getItem_tuple_whole ht hs pl pu (by rw [hlen]; exact hw) ⟨.ref a,H,I,rfl,q⟩
end
end L2
namespace DL
open PySem PySem.Spec PyProof.Rows L2
def dCutX (g:DE) (tl th:DOp):DE:=fun L S k=>g L S fun x S1=>tl L S1 fun lo S2=>th L S2 fun hi S3=>match x with
  | .tup xs=>k (.tup (cutD xs lo hi)) S3
  | _=>False
theorem cut_whole {xs:List D} {lo hi:Option Int} (h:HT.sIx xs.length 0 lo=0/\HT.sIx xs.length xs.length hi=xs.length):cutD xs lo hi=xs:=by
  unfold cutD
  rw [h.1,h.2]
  simp
theorem d_cutXj {X:Cx} {e:Expr} {g:DE} {lo hi:Option Expr} {tl th:DOp} {p2 pos:Pos} (he:EJ X e g) (hl:OJ X lo tl) (hu:OJ X hi th):EJ X (.Subscript e (.Slice lo hi none p2) pos) (dCutX g tl th):=
  ⟨PE.imp (pe_slice (SlR.or sl_tup sl_tupW) he.h hl.h hu.h) fun σ H Q ⟨L,S,k,hL,hS,h,n⟩=>up.go hL hS h fun d S1 v H1 h1 k1 hL1 hS1 i1=>by
    refine⟨L,S1,_,hL1,hS1,h1,fun lo' S2 H2 h2 k2 hS2=>⟨L,S2,_,hL1.kp k2,hS2,h2,fun hi' S3 H3 h3 k3 hS3=>?_⟩⟩
    cases d with
    | tup xs=>
      obtain⟨a,vs,rfl,t,j⟩:=isTup.mp i1
      have j3:=j.kp (k2.trans k3)
      by_cases hw:HT.sIx xs.length 0 lo'=0/\HT.sIx xs.length xs.length hi'=xs.length
      · refine .inr ⟨a,vs,rfl,(k2.trans k3).tup t,by rw [<- j.length]; exact hw,?_⟩
        have h3:k (.tup (cutD xs lo' hi')) S3:=h3
        rw [cut_whole hw] at h3
        exact n _ S3 _ _ h3 (k1.trans (k2.trans k3)) hS3 (isTup.mpr ⟨a,vs,rfl,(k2.trans k3).tup t,j3⟩)
      · refine .inl ⟨a,vs,rfl,(k2.trans k3).tup t,by rw [<- j.length]; exact hw,fun p hp=>?_⟩
        have k4:Kp H3 (upd H3 p (.tup (cutV vs lo' hi'))):=Kp.new hp
        refine n _ S3 _ _ h3 (k1.trans (k2.trans (k3.trans k4))) (hS3.new hp) (isTup.mpr ⟨p,_,rfl,SqT.of upd_same,?_⟩)
        unfold cutD cutV
        rw [j.length]
        exact((j3.drop _).take _).kp k4
    | _=>exact(show False from h3).elim⟩
def GInt (mg:Str->Option Value) (x:Str) (n:Int):Prop:=∃ t,mg x=some (.int n t)
theorem d_gint {X:Cx} {x:Str} {n:Int} {pos:Pos} (g:GInt X.mg x n) (hg:Gl X x) (hd:(x == ("__debug__":Str))=false:=by decide):EJ X (.Name x pos) (dC (.int n)):=by
  obtain⟨t,hm⟩:=g
  exact⟨d_c (pe_glob (v:=.int n) hg hm ⟨t,rfl⟩ hd) fun H=>isInt.mpr rfl⟩
end DL
set_option linter.all false
namespace DT
abbrev Mx:=Nat->Nat->Rat
def sg (n:Nat):Rat:=if n % 2=0 then 1 else -1
def cl (M:Mx) (a:Nat) (u:Nat->Rat):Mx:=fun r c=>if c=a then u r else M r c
end DT
namespace DL
open PySem PySem.Spec PyProof.Rows L2
inductive Kept (K:Fg):List Value->List (List Int)->Prop
  | nil:Kept K [] []
  | cons {p:Addr} {o:Obj} {its:Array Value} {n:Nat} {ns:List Int} {vs:List Value} {nss:List (List Int)} (h1:K.lookup p=some o) (h2:o.cls=.type "tuple") (h3:o.data=.seq its n) (h4:its.size<=sizeLine) (h5:Vals (ns.map V.int) its.toList) (r:Kept K vs nss):Kept K (.ref p::vs) (ns::nss)
def GTup2 (K:Fg) (mg:Str->Option Value) (x:Str) (nss:List (List Int)):Prop:=∃ p o its n,mg x=some (.ref p)/\K.lookup p=some o/\o.cls=.type "tuple"/\o.data=.seq its n/\its.size<=sizeLine/\Kept K its.toList nss
theorem Kept.vals {K:Fg}:∀ {vs:List Value} {nss:List (List Int)},Kept K vs nss->∃ us:List V,Vals us vs/\∀ H,IsDs K H (nss.map fun ns=>.tup (ns.map D.int)) us
  | _,_,.nil=>⟨[],.nil,fun _=>IsDs.nil⟩
  | _,_,.cons (p:=p) h1 h2 h3 h4 h5 r=>by
    obtain⟨us,a,b⟩:=r.vals
    exact⟨.ref p::us,.cons rfl a,fun H=>IsDs.cons (isTup.mpr ⟨p,_,rfl,.inr ⟨_,_,_,h1,h2,h3,h4,h5⟩,isDs_ints _⟩) (b H)⟩
theorem d_gtup2 {X:Cx} {x:Str} {nss:List (List Int)} {pos:Pos} (g:GTup2 X.K X.mg x nss) (hg:Gl X x) (hd:(x == ("__debug__":Str))=false:=by decide):EJ X (.Name x pos) (dC (.tup (nss.map fun ns=>.tup (ns.map D.int)))):=by
  obtain⟨p,o,its,n,hm,h1,h2,h3,h4,h5⟩:=g
  obtain⟨us,a,b⟩:=h5.vals
  exact⟨d_c (pe_glob (v:=.ref p) hg hm rfl hd) fun H=>isTup.mpr ⟨p,us,rfl,.inr ⟨o,its,n,h1,h2,h3,h4,a⟩,b H⟩⟩
def prD (p:Int×Int):D:=.tup [.int p.1,.int p.2]
theorem prD_inj {X:Cx} {pins:List (Addr×Obj)} {σ:L2.St} {H:Hp} {s:Shared} (I:Inv X pins σ H s) {p q:Int×Int} {x:V} (h1:IsD X.K H (prD p) x) (h2:IsD X.K H (prD q) x):p=q:=by
  obtain⟨a,xs,rfl,t1,j1⟩:=isTup.mp h1
  obtain⟨a',ys,e,t2,j2⟩:=isTup.mp h2
  cases e
  have ex:xs=[p.1,p.2].map V.int:=isDs_intsM (ns:=[p.1,p.2]) j1
  have ey:ys=[q.1,q.2].map V.int:=isDs_intsM (ns:=[q.1,q.2]) j2
  subst ex ey
  obtain⟨its,r1,p1,_⟩:=I.tuple t1
  obtain⟨its2,r2,p2,_⟩:=I.tuple t2
  obtain⟨o1,e1,_,n1,f1⟩:=p1
  obtain⟨o2,e2,_,n2,f2⟩:=p2
  have eo:o1=o2:=Option.some.inj (e1.symm.trans e2)
  subst eo
  have ei:its=its2:=by
    have:=f1.symm.trans f2
    injection this with z _
    simpa using z
  subst ei
  cases r1 with
  | cons a1 b1=>
    cases b1 with
    | cons a2 b2=>
      cases r2 with
      | cons c1 d1=>
        cases d1 with
        | cons c2 d2=>
          obtain⟨t,rfl⟩:=a1
          obtain⟨t',rfl⟩:=a2
          obtain⟨u,z1⟩:=c1
          obtain⟨u',z2⟩:=c2
          injection z1 with z1 _
          injection z2 with z2 _
          exact Prod.ext z1 z2
def dInP:D2:=fun d e S k=>∃ (p:Int×Int) (qs:List (Int×Int)),d=prD p/\e=.tup (qs.map prD)/\k (.bl (decide (p∈qs))) S
theorem eq_prD {p q:Int×Int}:eqT 7 (prD q) (prD p)=some (decide (q=p)):=by
  show(match some (q.1 == p.1),(match some (q.2 == p.2),some true with | some a,some b=>some (a && b) | _,_=>none) with | some a,some b=>some (a && b) | _,_=>none)=_
  show some ((q.1 == p.1) && ((q.2 == p.2) && true))=_
  congr 1
  rw [Bool.and_true,Bool.eq_iff_iff]
  simp only [Bool.and_eq_true,beq_iff_eq,decide_eq_true_eq]
  exact⟨fun ⟨a,b⟩=>Prod.ext a b,fun h=>by subst h; exact⟨rfl,rfl⟩⟩
theorem isDs_at {K:Fg} {H:Hp}:∀ {qs:List (Int×Int)} {xs:List V} {us:List Value} {u:Value},IsDs K H (qs.map prD) xs->Vals xs us->u∈us->∃ q x,q∈qs/\IsD K H (prD q) x/\RelV x u
  | [],xs,us,u,h,r,hm=>by
    have e:=isNil.mp h
    subst e
    cases r
    cases hm
  | q::qs,xs,us,u,h,r,hm=>by
    obtain⟨v,vs,rfl,h1,h2⟩:=isCons.mp h
    cases r with
    | cons a b=>
      rcases List.mem_cons.mp hm with e | hm
      · subst e
        exact⟨q,v,List.mem_cons_self,h1,a⟩
      · obtain⟨q',x',m,i,r'⟩:=isDs_at h2 b hm
        exact⟨q',x',List.mem_cons_of_mem _ m,i,r'⟩
theorem isDs_back {K:Fg} {H:Hp}:∀ {qs:List (Int×Int)} {xs:List V} {us:List Value} {q:Int×Int},IsDs K H (qs.map prD) xs->Vals xs us->q∈qs->∃ u x,u∈us/\IsD K H (prD q) x/\RelV x u
  | q0::qs,xs,us,q,h,r,hm=>by
    obtain⟨v,vs,rfl,h1,h2⟩:=isCons.mp h
    cases r with
    | cons a b=>
      rcases List.mem_cons.mp hm with e | hm
      · subst e
        exact⟨_,v,List.mem_cons_self,h1,a⟩
      · obtain⟨u',x',m,i,r'⟩:=isDs_back h2 b hm
        exact⟨u',x',List.mem_cons_of_mem _ m,i,r'⟩
open Classical in
theorem o_inP {X:Cx} {n:Nat} (hr:Room n X.A):OpR X (compareOp .In) (upR X.K dInP):=by
  intro pins s σ H x y v u Q I rx ry h
  obtain⟨d,e,S,k,i1,i2,hS,⟨p,qs,rfl,rfl,r⟩,m⟩:=h
  obtain⟨a,ys,rfl,t2,j2⟩:=isTup.mp i2
  cases ry
  obtain⟨its,rv,pl,hz⟩:=I.tuple t2
  have hu:=hr.units
  have un:X.A.in1.units+7 < cLine:=by
    have:X.A.in1.units<=X.A.units+1:=by first | exact Nat.le_refl _ | (show X.A.units+1<=X.A.units+1; exact Nat.le_refl _) | (unfold Around.in1; simp)
    omega
  obtain⟨ap,xp,rfl,tp,jp⟩:=isTup.mp i1
  cases rx
  refine SeqAt.in_tupleAt (fun w=>decide (∃ x,IsD X.K H (prD p) x/\RelV x w)) pl (fun w hw=>?_) ⟨.bl _,H,I,rfl,?_⟩
  · obtain⟨q,x,hq,hi,hx⟩:=isDs_at j2 rv (by simpa using hw)
    have hh:=(eqT_at I 7 X.A.in1 (prD q) (prD p) x (.ref ap) w (.ref ap) (decide (q=p)) un eq_prD hi i1 hx rfl).1
    have e:decide (∃ x,IsD X.K H (prD p) x/\RelV x w)=decide (q=p):=by
      rw [decide_eq_decide]
      constructor
      · rintro⟨x',h1,h2⟩
        obtain⟨b1,z1,rfl,_,_⟩:=isTup.mp hi
        obtain⟨b2,z2,rfl,_,_⟩:=isTup.mp h1
        cases hx
        cases h2
        exact prD_inj I hi h1
      · rintro rfl
        exact⟨x,hi,hx⟩
    rw [e]
    exact hh
  · have e:its.toArray.any (fun w=>decide (∃ x,IsD X.K H (prD p) x/\RelV x w))=decide (p∈qs):=by
      rw [show its.toArray.any (fun w=>decide (∃ x,IsD X.K H (prD p) x/\RelV x w))=its.any (fun w=>decide (∃ x,IsD X.K H (prD p) x/\RelV x w)) by simp,Bool.eq_iff_iff,List.any_eq_true,decide_eq_true_eq]
      constructor
      · rintro⟨w,hw,h1⟩
        obtain⟨x',h1,h2⟩:=of_decide_eq_true h1
        obtain⟨q,x,hq,hi,hx⟩:=isDs_at j2 rv hw
        obtain⟨b1,z1,rfl,_,_⟩:=isTup.mp hi
        obtain⟨b2,z2,rfl,_,_⟩:=isTup.mp h1
        cases hx
        cases h2
        rw [<- prD_inj I hi h1]
        exact hq
      · intro hq
        obtain⟨w,x,hw,hi,hx⟩:=isDs_back j2 rv hq
        exact⟨w,hw,decide_eq_true ⟨x,hi,hx⟩⟩
    rw [e]
    exact up1 m hS r (isBl.mpr rfl)
end DL
namespace PySem
open Sem (wp)
open Builtin DL
section
variable {prog:Program} {w:World}
section
variable {A:Around} {E:Value->Shared->Prop} {s:Shared} {it d v:Addr} {es:Array DictEntry} {i ep:Nat} {e:DictEntry} {ok ov:Value}
inductive DIt where
  | k | v
def DIt.nm:DIt->String
  | .k=>"dict_keyiterator"
  | .v=>"dict_valueiterator"
def DIt.of (e:DictEntry):DIt->Value
  | .k=>e.key
  | .v=>e.val
end
end
end PySem
namespace DL
open PySem PySem.Spec PyProof.Rows L2
def keyD (k:List Int):D:=.tup (k.map .int)
abbrev DSrc:=Lo->DH->(List D->(DH->Prop)->DH->Prop)->Prop
end DL
namespace PySem
open Builtin DL
abbrev Sx:=Nat×Tok
end PySem
namespace ST
open PySem PySem.SetTable
def adv (mask:Nat) (p:Probe):Probe:=
  if p.more > 0 then {p with j:=p.j+1,more:=p.more - 1} else {p with j:=(leap mask p.i p.perturb).1,more:=runEnd mask (leap mask p.i p.perturb).1 - (leap mask p.i p.perturb).1,i:=(leap mask p.i p.perturb).1,perturb:=(leap mask p.i p.perturb).2}
def at0 (mask i pt:Nat):Probe:={j:=i,more:=runEnd mask i - i,i:=i,perturb:=pt,dummy:=none}
def sq (mask:Nat) (h:Int):Nat->Probe
  | 0=>at0 mask (bits h % (mask+1)) (bits h)
  | n+1=>adv mask (sq mask h n)
def Msk (mask:Nat):Prop:=mask=7\/mask=31\/mask=127
def Ris (xs:Array Nat):Prop:=∀ i j:Nat,i < j->∀ a b:Nat,xs[i]?=some a->xs[j]?=some b->a < b
def On (t:SetTable) (j:Nat):Prop:=∃ i:Nat,t.place[i]?=some j
def Way (t:SetTable) (h:Int) (j:Nat):Prop:=∃ n,(sq t.mask h n).j=j/\∀ m,m < n->On t (sq t.mask h m).j
structure TI (t:SetTable) (hs:List Int):Prop where
  dm:t.dummies=#[]
  ris:Ris t.place
  sz:t.place.size=hs.length
  le:∀ j,On t j->j < t.mask+1
  msk:Msk t.mask
  way:∀ q∈t.place.toList.zip hs,Way t q.2 q.1
def Lax (t:SetTable):Prop:=t.place.size*5 < t.mask*3
end ST
namespace ST
open PySem PySem.SetTable PySem.Spec
section
variable {prog:Program} {w:World} {K:Type} [DecidableEq K] {knd:KeyKind prog w K} {A:Around} {E:Value->Shared->Prop} {s:Shared}
def ent (knd:KeyKind prog w K) (x:List K×Addr):Int×Value:=(tupleKeyHash knd x.1,.ref x.2)
structure SetH (knd:KeyKind prog w K) (h:Heap) (a:Addr) (o:Obj) (es:Array (Int×Value)) (ep:Nat) (t:SetTable) (xs:List (List K×Addr)):Prop where
  get:h.get? a=some o
  ex:o.ExactSet
  data:o.data=.set es ep t
  ent:es.toList=xs.map (ent knd)
  is:∀ x∈xs,IsTupleKey knd h x.1 x.2
  ti:TI t (xs.map fun x=>tupleKeyHash knd x.1)
  lax:Lax t
end
end ST
namespace ST
open PySem PySem.SetTable PySem.Spec PyProof.Rows
def dstep {α:Type} [DecidableEq α] (a:List α) (k:α):List α:=if k∈a then a else a++[k]
def dd {α:Type} [DecidableEq α] (l:List α):List α:=l.foldl dstep []
section
variable {prog:Program} {w:World} {K:Type} [DecidableEq K] {knd:KeyKind prog w K} {A:Around} {R:Result->Shared->Prop} {I:Addr} {fp wr:List Addr} {G:Array GenState->Array GenState->Prop} {n:Nat} {P:Nat->Value->Prop} {St:Nat->Shared->Prop}
def Holds (knd:KeyKind prog w K) (h:Heap) (S:Addr) (V:Addr->Prop) (l:List (List K)):Prop:=∃ o es ep t xs,SetH knd h S o es ep t xs/\xs.length=(dd l).length/\(∀ k,k∈xs.map (·.1)↔k∈dd l)/\∀ x∈xs,V x.2
end
end ST
namespace L2
open PySem PySem.Spec PyProof.Rows ST
section
variable {X:Cx}
theorem vals_ref:∀ {bs:List (List Int×Addr)} {us:List Value},Vals (bs.map fun q=>V.ref q.2) us->us=bs.map fun q=>Value.ref q.2
  | [],us,h=>by cases h; rfl
  | q::bs,us,h=>by
    rw [List.map_cons] at h
    cases h with
    | cons h1 h2=>
      cases h1
      rw [vals_ref h2]
      rfl
theorem itemsAre_ints {P:Program} {w:World}:∀ {ns:List Int} {us:List Value},Vals (ns.map V.int) us->ItemsAre (intKind P w) ns us
  | [],us,h=>by cases h; exact .nil
  | n::ns,us,h=>by
    rw [List.map_cons] at h
    cases h with
    | cons h1 h2=>
      obtain⟨t,rfl⟩:=h1
      exact .cons (intKind_is _ _ _ _) (itemsAre_ints h2)
end
end L2
namespace DL
open PySem PySem.Spec PyProof.Rows L2 ST
theorem isDs_tups {K:Fg} {H:Hp}:∀ {nss:List (List Int)} {vs:List V},IsDs K H (nss.map fun ns=>D.tup (ns.map D.int)) vs->∃ bs:List (List Int×Addr),bs.map (·.1)=nss/\vs=bs.map (fun q=>V.ref q.2)/\∀ q∈bs,SqT K H q.2 (q.1.map V.int)
  | [],vs,h=>⟨[],rfl,isNil.mp h,fun _ z=>by cases z⟩
  | ns::nss,vs,h=>by
    obtain⟨u,r,rfl,h1,h2⟩:=isCons.mp h
    obtain⟨b,xs,rfl,t,j⟩:=isTup.mp h1
    have e:=isDs_intsM j
    subst e
    obtain⟨bs,e1,rfl,e3⟩:=isDs_tups h2
    refine⟨(ns,b)::bs,by rw [List.map_cons,e1],rfl,fun q hq=>?_⟩
    rcases List.mem_cons.mp hq with rfl | hq
    · exact t
    · exact e3 q hq
end DL
namespace L2
open PySem PySem.Spec PyProof.Rows ST
theorem count_list {prog:Program} {w:World} {A:Around} {E:Value->Shared->Prop} {s:Shared} {Q:Value->Shared->Prop} (l:Addr) (items:Array Value) (n:Nat) (x:Value) (e:Value->Bool) (hl:s.heap.get? l=some {cls:=.type "list",dict:=none,data:=.seq items n,slots:=#[]})
    (he:∀ A':Around,A'.units<=A.units+8->∀ y,y∈items->SeqAt.EqAt A' s y x (e y)) (h:Q (.int (items.toList.countP e:Nat) s.toks) {s with toks:=s.toks+1}):
    wpAny (model prog w) A (call (.builtin "list.count") [.ref l,x]) Q E s:=by
  have h1:=SeqAt.list_countAt l items n none #[] x e
  have h2:=@call_meets prog w A E s "list" "count" "list.count" _ (.ref l) [x] _ Q F.slot_list_count ⟨_,hl,rfl⟩ F.entry_list_count (F.args_list_count_2 _ _) h1
  refine h2 ⟨hl,fun y hy=>he _ ?_ y hy,h⟩
  show A.units+_<=A.units+8
  omega
section
variable {X:Cx}
def keyIsT (bs:List (List Int×Addr)) (ns:List Int):Value->Bool
  | .ref c=>(bs.find? fun q=>q.2 == c).any fun q=>decide (q.1=ns)
  | _=>false
def rCount (X:Cx):V->List V->Hp->VK->Prop:=fun x vs H Q=>∃ (l b:Addr) (bs:List (List Int×Addr)) (ns:List Int),x=.ref l/\vs=[.ref b]/\H l=some (.lst (bs.map fun q=>V.ref q.2))/\(∀ q∈bs,SqT X.K H q.2 (q.1.map V.int))/\SqT X.K H b (ns.map V.int)/\Q (.int ((bs.map (·.1)).count ns:Nat)) H
theorem int_inj:∀ {ns ms:List Int},ns.map V.int=ms.map V.int->ns=ms
  | [],[],_=>rfl
  | [],_::_,h=>by cases h
  | _::_,[],h=>by cases h
  | n::ns,m::ms,h=>by
    rw [List.map_cons,List.map_cons] at h
    injection h with h1 h2
    injection h1 with h1
    rw [h1,int_inj h2]
theorem mt_count {m:Nat} (hr:Room m X.A):MtM X "list.count" (rCount X):=by
  intro pins s σ H x vs v us Q I rx rv h
  obtain⟨l,b,bs,ns,rfl,rfl,hH,ht,hb,q⟩:=h
  cases rx
  obtain⟨z,its,n,r,hl,e⟩:=I.lstM hH
  obtain⟨u,rfl,ru⟩:=rv.one
  cases ru
  have ev:=vals_ref r
  subst ev
  have key:∀ {c:Addr} {ms:List Int},SqT X.K H c (ms.map V.int)->∀ (P:Program) (w:World),IsTupleKey (intKind P w) s.heap ms c:=fun {c ms} h P w=>by
    obtain⟨its,r1,⟨o,w1,w2,w3,w4⟩,_⟩:=I.tuple h
    exact⟨o,its.toArray,w3,w1,w2,w4,by simpa using itemsAre_ints r1⟩
  have kv:∀ q∈bs,keyIsT bs ns (.ref q.2)=decide (q.1=ns):=fun q hq=>by
    show(bs.find? fun q'=>q'.2 == q.2).any (fun q=>decide (q.1=ns))=_
    cases hf:bs.find? fun q'=>q'.2 == q.2 with
    | none=>
      have:=List.find?_eq_none.mp hf q hq
      simp at this
    | some q'=>
      have h1:=List.mem_of_find?_eq_some hf
      have h2:q'.2=q.2:=by simpa using List.find?_some hf
      have h3:q'.1=q.1:=int_inj (I.tuple_inj (by rw [<- h2]; exact ht q' h1) (ht q hq))
      show decide (q'.1=ns)=_
      rw [h3]
  have hu:=hr.units
  refine count_list l (bs.map fun q=>Value.ref q.2).toArray n (.ref b) (keyIsT bs ns) e (fun A' hA y hy=>?_) ?_
  · obtain⟨q',hq',rfl⟩:=List.mem_map.mp (by simpa using hy:y∈bs.map fun q=>Value.ref q.2)
    rw [kv q' hq']
    exact fun P w E Q hq=>wpAny_eqBool_tuple (knd:=intKind P w) (by omega) (key (ht q' hq') P w) (key hb P w) hq
  · have ec:(bs.map fun q=>Value.ref q.2).toArray.toList.countP (keyIsT bs ns)=(bs.map (·.1)).count ns:=by
      show(bs.map fun q=>Value.ref q.2).countP (keyIsT bs ns)=(bs.map (·.1)).countP (· == ns)
      rw [List.countP_map,List.countP_map]
      refine List.countP_congr fun q hq=>?_
      show keyIsT bs ns (.ref q.2)=true↔(q.1 == ns)=true
      rw [kv q hq]
      simp
    rw [ec]
    exact⟨.int ((bs.map (·.1)).count ns:Nat),H,I.tok _,⟨s.toks,rfl⟩,q⟩
end
end L2
namespace DL
open PySem PySem.Spec PyProof.Rows L2 ST
def dCnt (go ge:DE):DE:=fun L S k=>go L S fun d S1=>match d with
  | .ref a=>(∃ ds,S1 a=some (.lst ds))/\ge L S1 fun e S2=>∃ (nss:List (List Int)) (ns:List Int),S2 a=some (.lst (nss.map fun ns=>D.tup (ns.map D.int)))/\e=.tup (ns.map D.int)/\k (.int (nss.count ns:Nat)) S2
  | _=>False
section
variable {X:Cx} {o e1:Expr} {go ge:DE} {apos cpos:Pos}
theorem d_cntj {m:Nat} (hr:Room m X.A) (ho:EJ X o go) (he:EJ X e1 ge) (hbase:attributeBase o "count" X.env (eval o X.env)=eval o X.env:=by rfl)
    (hfew:((backTo cpos (starEach [e1] X.env)).all (fun x=>!x.1) && (backToKw cpos (keywordEach [] X.env)).all (fun x=>x.1.isSome) && decide ([e1].length+([]:List Keyword).length+(if ([]:List Keyword).isEmpty then 0 else 1) < 30))=true:=by rfl)
    (hline:(apos.endLine == cpos.line)=true:=by rfl) (hs:starEach [e1] X.env=(false,eval e1 X.env)::starEach [] X.env:=by rfl) (hpl:(backTo cpos (starEach [] X.env)).any (·.1)=false:=by rfl):
    EJ X (.Call (.Attribute o "count" apos) [e1] [] cpos) (dCnt go ge):=
  ⟨PE.imp (pe_bm PySem.F.plainAttrs_list PySem.F.slot_list_count PySem.F.type_list_count (mt_count hr) ho.h (pa_cons he.h pa_nil hs) hbase hfew hline hs hpl) fun σ H Q ⟨L,S,k,hL,hS,h,n⟩=>up.go hL hS h fun d S1 v H1 h1 k1 hL1 hS1 i1=>by
    cases d with
    | ref a=>
      have q1:=isRef.mp i1
      subst q1
      obtain⟨⟨ds1,z1⟩,h1⟩:=h1
      obtain⟨xs1,hl1,_⟩:=hS1.lst z1
      refine⟨.inl ⟨rfl,xs1,SqL.of hl1⟩,up.go hL1 hS1 h1 fun d2 S2 v2 H2 h2 k2 hL2 hS2 i2=>?_⟩
      obtain⟨nss,ns,z,rfl,w⟩:=h2
      obtain⟨b,ys,rfl,t,j2⟩:=isTup.mp i2
      have e:=isDs_intsM j2
      subst e
      obtain⟨xs,hl3,j⟩:=hS2.lst z
      obtain⟨bs,rfl,rfl,ht⟩:=isDs_tups j
      exact⟨a,b,bs,ns,rfl,rfl,hl3,ht,t,n _ _ _ _ w (k1.trans k2) hS2 (isInt.mpr rfl)⟩
    | _=>exact(show False from h1).elim⟩
end
end DL
namespace DL
open PySem PySem.Spec PyProof.Rows L2
theorem bt_range:bootBuiltins "range"=some (.type "range"):=by decide +kernel
end DL
namespace L2
open PySem PySem.Spec PyProof.Rows
section
variable {X:Cx} {pins:List (Addr×Obj)} {σ:St} {H:Hp} {s s':Shared} {E:XK}
theorem caught0 {e:Value} (hex:X.ex=[]) (hst:X.stack=X.env::X.outer) (hf:X.env.frame=some X.env.locals) (I:Inv X pins σ H s) (h:CXE X.prog X.w X.stack H s E e s') {Cn:Str} {cv:Value} {p1 hp:Pos} {b0:Stmt} {suite:List Stmt} {Q:Flow->Shared->Prop}
    (hg:Gl X Cn) (hm:X.mg Cn=some cv) (hdb:(Cn == ("__debug__":Str))=false) (hx:∀ c H',E c none H'->PySem.W.exmOne X.K c cv=some true)
    (k:∀ ea c H' o s6,E c none H'->H' ea=none->o.cls=c->Inv X pins σ (upd H' ea (.frz o (.ext fun _=>True))) s6->
      wpAny (model X.prog X.w) (X.A.mark (some (.ref ea))) (execs (b0::suite) X.env) Q NoE s6):
    wpAny (model X.prog X.w) X.A (noteFrame e X.env) (fun _ s2=>wpAny (model X.prog X.w) X.A (setFlight e none) (fun _ s3=>wpAny (model X.prog X.w) X.A (handleBy e X.env [.ExceptHandler (some (.Name Cn p1)) none (b0::suite) hp]) Q X.xe s3) X.xe s2) X.xe s':=by
  obtain⟨ea,cls,a0,H',B,rfl,os,bare,fl,hok,hB,hB2,un,q⟩:=h
  have fr0:X.A.frames=some (X.env::X.outer):=by rw [<- hst]; exact I.ok.frames
  have fl0:Heap.FlyingW B (X.env::X.outer) ea cls a0 s'.heap:=by rw [<- hst]; exact fl
  refine wpAny_looks_onW fr0 hf fl0 fun h4 held4 up4=>?_
  refine wpAny_landsW held4 fun h5 fl5 up5=>?_
  have up45:=up4.trans up5
  have I5:=I.landed os bare fl (by rw [hst]; exact fl5) up45 hok hB hB2 un
  obtain⟨ob,hob,hobc⟩:=fl5.there
  refine wpAny_handleBy_cons (codeAny_handlers_test (ld_glob (X:=X.marked (.ref ea) NoE) (I5.marked (.ref ea) _) hg hm ?_ hdb)) (by intro z; cases z)
  have LT:PySem.W.Looks (model X.prog X.w) h5 (typeOf (.ref ea)) cls:=by
    subst hobc
    exact(PySem.W.Looks.ld hob).andThen .now
  refine PySem.W.exm_one I5.kIn LT (hx cls H' q) _ _ _ _ (fun _ _ z=>z) ?_
  refine codeAny_handlers_suite ?_
  refine lands_againW fl5 fun h6 fl6 up6=>?_
  have I6:=I.landed os bare fl (by rw [hst]; exact fl6) (up45.trans up6) hok hB hB2 un
  obtain⟨o6,ho6,hc6⟩:=fl6.there
  have nfr:ea∉frs X.stack:=fun z=>by
    obtain⟨_,o2,e2,d2⟩:=fl.2.2.1.mem z
    obtain⟨oe,vs,T,oT,ts,w1,w2,w3,w4⟩:=fl.2.2.2
    rw [w1] at e2
    cases e2
    exact d2 _ w3
  have nB:B.get? ea=none:=fl.2.1
  have nw:∀ b o,s.heap.get? b=some o->b≠ea:=fun b o z y=>by
    subst y
    obtain⟨o',z'⟩:=hB2 b o z nfr
    rw [nB] at z'
    cases z'
  have hn:H' ea=none:=by
    cases y:H' ea with
    | none=>rfl
    | some u=>
      obtain⟨o',z'⟩:=(hok ea u y).there
      rw [nB] at z'
      cases z'
  have h0:X.s₀.heap.get? ea=none:=by
    cases y:X.s₀.heap.get? ea with
    | none=>rfl
    | some u=>
      obtain⟨o',z'⟩:=I.base.there ea u y (by rw [hex]; simp)
      exact absurd rfl (nw ea o' z')
  have I7:=I6.freeze ho6 hn h0 (fun z=>nfr (by rw [hst,z]; unfold frs; rw [List.filterMap_cons,hf]; exact List.mem_cons_self)) (fun x c z=>by
    obtain⟨v,o,z2,_⟩:=I.cell x c z
    exact nw c o z2) (fun p z=>nw p.1 p.2 (I.pin p z).1)
  exact wpAny_mono (k ea cls H' o6 _ q hn hc6 I7) (fun _ _ z=>z) fun _ _ z=>z.elim
end
structure EndsG (cells:List (Addr×Obj)) (P:Program) (w:World) (K:PySem.W.Frag) (mg:Str->Option Value) (base:Heap) (n:Nat) (g:Addr) (H:Hp) (Q:VK) (E:XK):Prop where
  fn:∃ (o:Obj) (u:HO) (fd:FuncData),H g=some (.frz o u)/\o.data=.func fd
  run:∀ (A:Around) (outer:List Env) (s:Shared),Room n A->Env0 P w K mg base A outer s H->Cells cells outer H s.heap->codeAny (model P w) A (.call (.ref g) ⟨[],[]⟩) (CR (CXE P w) outer P w H s Q E) s
section
variable {P:Program} {w:World} {K:PySem.W.Frag} {mg:Str->Option Value} {base:Heap} {N:List Str} {qual:Str} {scope:Scope} {clos:List (Str×Addr)} {g:Addr} {cd:Value} {A:Around} {outer:List Env} {s:Shared} {H:Hp} {cells:List (Addr×Obj)} {σ0:St} {E:XK}
theorem lam_runB {params:Arguments} {body:Expr} {n:Nat} {t:TE} {Q:VK} (hl:IsLam qual params body scope clos g H) (S:LamSc scope clos N) (hbind:∀ pm cv ctv,bindArgs (PySem.W.kla_fn "<lambda>" qual params body scope clos pm cv ctv) ⟨[],[]⟩=pure [])
    (hr:Room (n+1) A) (e0:Env0 P w K mg base A outer s H) (hc:Cells cells outer H s.heap) (hcl:∀ p∈clos,∃ o v,(p.2,o)∈cells/\o.data=.cell v)
    (hcap:∀ (i:Nat) (x:Str) (v:V),N[i]?=some x->σ0[i]?=some (some v)->∃ c o u,clos.lookup x=some c/\(c,o)∈cells/\o.data=.cell (some u)/\RelV v u) (hlen:σ0.length=N.length)
    (ht:∀ cv,PE (cxL P w K mg base N qual scope clos g cv A outer s H E) body t) (hq:t σ0 H Q):
    codeAny (model P w) A (.call (.ref g) ⟨[],[]⟩) (CR (CXE P w) outer P w H s Q E) s:=by
  obtain⟨o,u,cv,pm,ctv,h1,h2,c',oc,uc,vs,tt,rfl,h4,h5,h6⟩:=hl
  have lim:s.heap.NoLimit:=e0.mod.nolimit.keeps fun b o e=>(e0.bs b o e).1
  refine PySem.W.kla_callFunE hr.depth (e0.hok g _ h1).1 h2 S.co S.gen rfl ⟨c',oc,vs,tt,rfl,(e0.hok c' _ h4).1,h5,h6⟩ ?_
  rw [hbind]
  refine wpAny_pure (wpAny_newFunctionEnv S.nocell (fun x hx=>nomatch hx) (fun h1 hns hsb=>⟨?_,?_⟩) S.kind)
  · exact lim.keeps fun b o e=>(hsb.2 b (Nat.ne_of_lt (Heap.lt_size e))).trans (Heap.get?_push_of_some _ e)
  · show codeAny _ _ (.expr body (PySem.W.envX qual scope s.heap.objs.size g (.ref c') clos)) _ _
    have I:=inv_lam (qual:=qual) (g:=g) (cd:=.ref c') (E:=E) (tk:=s.toks+([]:List (Str×Value)).length) S hr.hd e0 hc hcl hcap hlen hns hsb
    refine PySem.W.kla_codeExpr (wpAny_mono (ht (.ref c') [] _ σ0 H _ I hq) (fun v s' hs=>?_) fun e s' h=>h)
    obtain⟨v',H',J,r,q⟩:=hs
    exact⟨v',H',J.os,J.bare,J.base,J.hok,r,q⟩
end
def tTryL (cells:List (Addr×Obj)) (P:Program) (w:World) (K:PySem.W.Frag) (mg:Str->Option Value) (base:Heap) (m:Nat) (cv:Value) (j i:Nat) (t:TS):TS:=fun D σ H=>∃ g Q E,σ[j]?=some (some (.ref g))/\EndsG cells P w K mg base m g H Q E/\(∀ v H',Q v H'->D.nx (σ.set i (some v)) H')/\(∀ c H',E c none H'->PySem.W.exmOne K c cv=some true)/\
  ∀ ea c H' o,E c none H'->DL.Kp H H'->H' ea=none->o.cls=c->t D σ (upd H' ea (.frz o (.ext fun _=>True)))
theorem ps_tryL {X:Cx} {gn x Cn:Str} {cv:Value} {k i j:Nat} {t:TS} {cells:List (Addr×Obj)} {b0:Stmt} {suite:List Stmt} {fp cp xp ap p1 hp pos:Pos}
    (hce:Cells cells X.outer X.H₀ X.s₀.heap) (hr:Room k X.A) (hgx:X.N[j]?=some gn) (hgv:Vis X.env.scope gn)
    (hd:X.calm=true->X.A.handled=none) (hex:X.ex=[]) (hst:X.stack=X.env::X.outer) (hf:X.env.frame=some X.env.locals) (hg:Gl X Cn) (hm:X.mg Cn=some cv) (hN:X.N.Nodup) (hi:X.N[i]?=some x) (hx:Loc X.env.scope x) (hs:∀ v,PSs (X.marked v NoE) (b0::suite) t)
    (hsw:swapsWith (.Call (.Name gn fp) [] [] cp) (some (.Name x xp)) ap.line X.env=pure false:=by rfl) (hfx:X.fn x=true\/X.env.scope.names.lookup x=some .local:=by first | exact .inl rfl | exact .inr rfl | assumption)
    (hdf:(gn == ("__debug__":Str))=false:=by decide) (hcf:(gn == ("__classdict__":Str))=false:=by decide) (hdb:(Cn == ("__debug__":Str))=false:=by decide):
    PS X (.Try [.Assign [.Name x xp] (.Call (.Name gn fp) [] [] cp) ap] [.ExceptHandler (some (.Name Cn p1)) none (b0::suite) hp] [] [] pos) (tTryL cells X.prog X.w X.K X.mg X.base k cv j i t):=by
  intro pins s σ H D I h
  obtain⟨g,Q,E,e,F,hQ,hE,kk⟩:=h
  refine wpAny_Try_except (wpAny_execs_cons (wpAny_Assign_Name ?_ hsw))
  refine wpAny_Call_Name_kw (ld_var I hgx hgv e (fun u r=>?_) hdf hcf)
  cases r
  obtain⟨o,u,fd,e1,e2⟩:=F.fn
  obtain⟨q,_⟩:=(show ObjOk X.prog X.w H s.heap g (.frz o u) from I.hok g _ e1)
  refine callWith_F q e2 (wpAny_call (codeAny_mono (F.run X.A X.stack s hr I.env0 (I.cells hex hce)) fun r s' hq=>?_))
  cases r with
  | ok fl=>
    cases fl with
    | ret u=>
      obtain⟨y,H2,I2,r2,q2⟩:=I.after hq
      exact store_ok I2 hN hi hx r2 (fun s2 I3=>wpAny_execs_nil (wpAny_execs_nil ⟨_,H2,I3,hQ _ _ q2⟩)) hfx
    | next=>exact False.elim hq
    | brk=>exact False.elim hq
    | cont=>exact False.elim hq
  | error e=>
    refine caught0 hex hst hf I (DL.cxe_kp hq) hg hm hdb (fun c H' z=>hE c H' z.1) fun ea c H' o s6 y1 y2 y3 I6=>?_
    refine thn (hs (.ref ea) pins s6 _ _ _ (I6.marked (.ref ea) NoE) (kk ea c H' o y1.1 y1.2 y2 y3)) fun f s7 y=>?_
    cases f with
    | next=>
      obtain⟨σ7,H7,I7,q⟩:=y
      exact⟨σ7,H7,I7.unmarked hd,q⟩
    | brk=>
      obtain⟨σ7,H7,I7,q⟩:=y
      exact⟨σ7,H7,I7.unmarked hd,q⟩
    | cont=>
      obtain⟨σ7,H7,I7,q⟩:=y
      exact⟨σ7,H7,I7.unmarked hd,q⟩
    | ret v=>
      obtain⟨v,σ7,H7,I7,r,q⟩:=y
      exact⟨v,σ7,H7,I7.unmarked hd,r,q⟩
end L2
namespace DL
open PySem PySem.Spec PyProof.Rows L2
def EndsS (cells:List (Addr×Obj)) (P:Program) (w:World) (K:Fg) (mg:Str->Option Value) (base:Heap) (m:Nat) (g:Addr) (H:Hp) (S:DH) (k:DK) (x:Addr->DH->Prop):Prop:=
  Hs K H S->EndsG cells P w K mg base m g H (fun v H'=>Kp H H'/\∃ d S',Hs K H' S'/\IsD K H' d v/\k d S') (exE K x)
def dTryL (cells:List (Addr×Obj)) (P:Program) (w:World) (K:Fg) (mg:Str->Option Value) (base:Heap) (m:Nat) (cv:Value) (j i:Nat) (t:DS):DS:=fun M L S=>∃ g φ k x,L[j]?=some (some (.ref g))/\S g=some (.fn φ)/\(∀ H,φ H->EndsS cells P w K mg base m g H S k x)/\(∀ d S',k d S'->M.nx (L.set i (some d)) S')/\∀ C S',x C S'->PySem.W.exmOne K (.ref C) cv=some true/\t M L S'
theorem dst_tryLj {X:Cx} {gn x Cn:Str} {cv:Value} {n i j:Nat} {t:DS} {cells:List (Addr×Obj)} {b0:Stmt} {suite:List Stmt} {fp cp xp ap p1 hp pos:Pos}
    (hce:Cells cells X.outer X.H₀ X.s₀.heap) (hr:Room n X.A) (hgx:X.N[j]?=some gn) (hgv:Vis X.env.scope gn)
    (hd:X.calm=true->X.A.handled=none) (hex:X.ex=[]) (hst:X.stack=X.env::X.outer) (hf:X.env.frame=some X.env.locals) (hg:Gl X Cn) (hm:X.mg Cn=some cv) (hN:X.N.Nodup) (hi:X.N[i]?=some x) (hx:Loc X.env.scope x) (hs:∀ v,SsJ (X.marked v NoE) (b0::suite) t)
    (hsw:swapsWith (.Call (.Name gn fp) [] [] cp) (some (.Name x xp)) ap.line X.env=pure false:=by rfl) (hfx:X.fn x=true\/X.env.scope.names.lookup x=some .local:=by first | exact .inl rfl | exact .inr rfl | assumption)
    (hdf:(gn == ("__debug__":Str))=false:=by decide) (hcf:(gn == ("__classdict__":Str))=false:=by decide) (hdb:(Cn == ("__debug__":Str))=false:=by decide):
    SJ X (.Try [.Assign [.Name x xp] (.Call (.Name gn fp) [] [] cp) ap] [.ExceptHandler (some (.Name Cn p1)) none (b0::suite) hp] [] [] pos) (dTryL cells X.prog X.w X.K X.mg X.base n cv j i t):=by
  refine⟨PS.imp (ps_tryL (t:=upS X.K t) hce hr hgx hgv hd hex hst hf hg hm hN hi hx (fun v=>(hs v).h) hsw hfx hdf hcf hdb) fun N σ H ⟨L,S,M,hL,hS,h,r⟩=>?_⟩
  obtain⟨g,φ,k,xx,e,z,hφ,hk,hxx⟩:=h
  obtain⟨v,e1,e2⟩:=hL.get e
  have e3:=isRef.mp e2
  subst e3
  obtain⟨_,af⟩:=hS _ _ z
  refine⟨g,_,_,e1,hφ H (af H (Kp.refl H)) hS,?_,?_,?_⟩
  · rintro v H' ⟨kp,d,S',hS',i1,q⟩
    exact r.nx _ S' _ H' (hk d S' q) kp ((hL.kp kp).set i1 i) hS'
  · rintro c H' ⟨C,S',rfl,z,_⟩
    exact(hxx C S' z).1
  · rintro ea c H' o ⟨C,S',rfl,z,zs⟩ kp hn ho
    have k2:Kp H (upd H' ea (.frz o (.ext fun _=>True))):=kp.trans (Kp.new hn)
    exact⟨L,S',M,hL.kp k2,zs.new hn,(hxx C S' z).2,r.kp k2⟩
section
variable {P:Program} {w:World} {K:Fg} {mg:Str->Option Value} {base:Heap} {N:List Str} {qual:Str} {scope:Scope} {clos:List (Str×Addr)} {g:Addr} {cd:Value} {A:Around} {outer:List Env} {s:Shared} {H:Hp} {ex:Addr->DH->Prop}
theorem lamB {cells:List (Addr×Obj)} {params:Arguments} {body:Expr} {n:Nat} {σ0:L2.St} {L0:Lo} {gb:(Addr->DH->Prop)->DE} {S:DH} {k:DK} (hl:IsLam qual params body scope clos g H) (Sc:LamSc scope clos N) (hbind:∀ pm cv ctv,bindArgs (PySem.W.kla_fn "<lambda>" qual params body scope clos pm cv ctv) ⟨[],[]⟩=pure [])
    (hcl:∀ p∈clos,∃ o v,(p.2,o)∈cells/\o.data=.cell v) (hcap:∀ (i:Nat) (x:Str) (v:V),N[i]?=some x->σ0[i]?=some (some v)->∃ c o u,clos.lookup x=some c/\(c,o)∈cells/\o.data=.cell (some u)/\RelV v u) (hlen:σ0.length=N.length) (hL:Lc K H L0 σ0)
    (hb:∀ (ex:Addr->DH->Prop) (A:Around) (outer:List Env) (s:Shared) (cv:Value),Room n (A.deeper (PySem.W.envX qual scope s.heap.objs.size g cv clos))->EJ (cxL P w K mg base N qual scope clos g cv A outer s H (exE K ex)) body (gb ex))
    (hra:gb ex L0 S k):EndsS cells P w K mg base (n+1) g H S k ex:=by
  intro hS
  obtain⟨o,u,cv,pm,ctv,q1,q2,q3⟩:=id hl
  refine⟨⟨o,u,_,q1,q2⟩,fun A outer s hr e0 hc=>?_⟩
  exact lam_runB (E:=exE K ex) (t:=up K (gb ex)) (n:=n) hl Sc hbind hr e0 hc hcl hcap hlen (fun cv=>(hb _ A outer s cv (hr.deeper _)).h) ⟨L0,S,_,hL,hS,hra,fun d S' v H' q kp hs i=>⟨kp,d,S',hs,i,q⟩⟩
end
def Fpl (cC:Addr) (m:Nat) (P:Program) (w:World) (K:Fg) (mg:Str->Option Value) (base:Heap) (cells:List (Addr×Obj)):DSp:=fun ds S k=>
  ∃ g φ,ds=[.ref g]/\S g=some (.fn φ)/\∀ H,φ H->EndsS cells P w K mg base m g H S k fun C S'=>C=cC/\k .non S'
def PlQ (cC:Addr) (qual:Str) (params:Arguments) (body:Expr) (scope:Scope) (clos:List (Str×Addr)) (cap:List (Option Nat)) (gb:(Addr->DH->Prop)->DE) (L:Lo) (k:DK) (d:D) (S1:DH):Prop:=∃ (g:Addr),d=.ref g/\S1 g=some (.fn (IsLam qual params body scope clos g))/\
  ∀ S,(∀ b o,b≠g->S1 b=some o->S b=some o)->gb (fun C S'=>C=cC/\k .non S') (capL cap L) S k
def dPl (cC:Addr) (qual:Str) (params:Arguments) (body:Expr) (scope:Scope) (clos:List (Str×Addr)) (cap:List (Option Nat)) (gb:(Addr->DH->Prop)->DE) (ge:DE):DE:=fun L S k=>ge L S fun d S1=>PlQ cC qual params body scope clos cap gb L k d S1
section
variable {X:Cx} {qual:Str} {params:Arguments} {body:Expr} {scope:Scope} {clos:List (Str×Addr)} {p pos:Pos}
theorem d_plj {x:Str} {n m:Nat} {e:Expr} {ge:DE} {cC:Addr} {N:List Str} {cap:List (Option Nat)} {gb:(Addr->DH->Prop)->DE} (c:OwnR X.prog X.w X.K X.mg X.base x n (Fpl cC (m+1) X.prog X.w X.K X.mg X.base)) (hr:Room n X.A) (hg:Gl X x)
    (Lc0:LamCap X scope clos N cap) (hbind:∀ pm cv ctv,bindArgs (PySem.W.kla_fn "<lambda>" qual params body scope clos pm cv ctv) ⟨[],[]⟩=pure [])
    (hb:∀ (g:Addr) (H:Hp) (ex:Addr->DH->Prop) (A:Around) (outer:List Env) (s:Shared) (cv:Value),Room m (A.deeper (PySem.W.envX qual scope s.heap.objs.size g cv clos))->EJ (cxL X.prog X.w X.K X.mg X.base N qual scope clos g cv A outer s H (exE X.K ex)) body (gb ex))
    (he:EJ X e ge) (hmono:Mono ge) (hdb:(x == ("__debug__":Str))=false:=by decide) (hst:starEach [e] X.env=[(false,eval e X.env)]:=by rfl) (hpl:(backTo pos (starEach [] X.env)).any (·.1)=false:=by rfl):
    EJ X (.Call (.Name x p) [e] [] pos) (dPl cC qual params body scope clos cap gb ge):=by
  obtain⟨f,fd,ps,F1,hm,hk,hbd⟩:=c.ex
  refine⟨fun pins s σ H Q I h=>?_⟩
  obtain⟨L,S,k,hL,hS,h,nn⟩:=h
  have ha:PA X [e] (upA X.K (dCons ge dNil)):=(da_consj he da_nilj hst).h
  have h2:upA X.K (dCons ge dNil) σ H fun vs H1=>∃ d S1,IsDs X.K H1 [d] vs/\Kp H H1/\Lc X.K H1 L σ/\Hs X.K H1 S1/\PlQ cC qual params body scope clos cap gb L k d S1:=by
    refine⟨L,S,fun ds S1=>∃ d,ds=[d]/\PlQ cC qual params body scope clos cap gb L k d S1,hL,hS,?_,?_⟩
    · exact hmono L S _ _ (fun d S1 q=>⟨d,rfl,q⟩) h
    · rintro ds S1 vs H1 ⟨d,rfl,q⟩ k1 hS1 i1
      exact⟨d,S1,i1,k1,hL.kp k1,hS1,q⟩
  refine wpAny_Call_Name_kw (ld_glob I hg hm ?_ hdb)
  refine PySem.W.callWith_K (h₀:=X.base) I.ok.mod.kin hk (thn (ha pos pins s σ H _ I h2) fun us s1 ⟨vs,H1,I1,r,q⟩=>⟨I1.kIn,?_⟩) hst hpl
  obtain⟨d,S1,i1,k1,hL1,hS1,g,rfl,hg1,hra⟩:=q
  obtain⟨⟨og,ug,hog⟩,hφ⟩:=hS1 _ _ hg1
  have LS:=Lc0.sc fun x y c e1 e2=>I1.ok.inj x y c (Lc0.sub _ (PySem.mem_of_lookup e1)) (Lc0.sub _ (PySem.mem_of_lookup e2))
  have cel:∀ p∈clos,∃ o v,s1.heap.get? p.2=some o/\o.data=.cell v:=fun p hp=>by
    obtain⟨v,o,q1,q2⟩:=I1.cell p.1 p.2 (Lc0.sub p hp)
    exact⟨o,v,q1,q2⟩
  let cells:List (Addr×Obj):=clos.filterMap fun p=>(s1.heap.get? p.2).map fun o=>(p.2,o)
  have inC:∀ p∈clos,∀ o,s1.heap.get? p.2=some o->(p.2,o)∈cells:=fun p hp o e=>List.mem_filterMap.mpr ⟨p,hp,by rw [e]; rfl⟩
  have hce:Cells cells X.stack H1 s1.heap:=fun q hq=>by
    obtain⟨p,hp,e⟩:=List.mem_filterMap.mp hq
    obtain⟨o,v,e1,e2⟩:=cel p hp
    rw [e1] at e
    cases e
    refine⟨e1,I1.freeC p.1 p.2 (Lc0.sub p hp),fun z=>?_⟩
    rcases List.mem_cons.mp (I1.stkSub p.2 z) with z | z
    · exact I1.cne p.1 p.2 (Lc0.sub p hp) z
    · obtain⟨_,o2,e3,_⟩:=I1.ok.funs.mem z
      exact absurd (Nat.lt_of_lt_of_le (Heap.lt_size e3) (I1.ok.cab p.1 p.2 (Lc0.fn p hp) (Lc0.sub p hp))) (Nat.lt_irrefl _)
  have hcl:∀ p∈clos,∃ o v,(p.2,o)∈cells/\o.data=.cell v:=fun p hp=>by
    obtain⟨o,v,e1,e2⟩:=cel p hp
    exact⟨o,v,inC p hp o e1,e2⟩
  have hcap:∀ (i:Nat) (x:Str) (v:V),N[i]?=some x->(capSt cap σ)[i]?=some (some v)->∃ c o u,clos.lookup x=some c/\(c,o)∈cells/\o.data=.cell (some u)/\RelV v u:=fun i x v e1 e2=>by
    obtain⟨j,c1,c2⟩:=capSt_get e2
    obtain⟨d1,d2⟩:=Lc0.caps i j x c1 e1
    obtain⟨m0,_,l0⟩:=I1.loc
    obtain⟨u,ru,lk⟩:=l0 j x v d1 c2 (d2.elim (fun z=>.inr (.inl z)) fun z=>.inr (.inr z))
    rcases lk with ⟨z,_⟩ | ⟨_,c,z1,o,z2,z3⟩
    · have z:X.env.scope.names.lookup x=some .local:=z
      rcases d2 with q | q <;> (rw [q] at z; cases z)
    · obtain⟨c',q⟩:=LS.has x (LS.free x (List.mem_of_getElem? e1))
      have q2:=Lc0.sub _ (PySem.mem_of_lookup q)
      have q2:X.env.cells.lookup x=some c':=q2
      rw [z1] at q2
      cases q2
      exact⟨c,o,u,q,inC (x,c) (PySem.mem_of_lookup q) o z2,z3,ru⟩
  have hlen:(capSt cap σ).length=N.length:=by unfold capSt; rw [List.length_map]; exact Lc0.len
  have hL0:Lc X.K H1 (capL cap L) (capSt cap σ):=hL1.cap cap
  let φ':Hp->Prop:=fun H'=>IsLam qual params body scope clos g H'/\Lc X.K H' (capL cap L) (capSt cap σ)
  have hS2:Hs X.K H1 (put S1 g (.fn φ')):=fun a o e=>by
    by_cases y:a=g
    · subst y
      rw [put_same] at e
      cases e
      exact⟨⟨og,ug,hog⟩,fun H2 k2=>⟨(hφ H2 k2),hL0.kp k2⟩⟩
    · rw [put_ne y] at e
      exact hS1 a o e
  have hsp:spU X.K (Fpl cC (m+1) X.prog X.w X.K X.mg X.base cells) vs H1 Q E0:=by
    refine⟨[.ref g],put S1 g (.fn φ'),k,i1,hS2,⟨g,φ',rfl,put_same,fun H2 z=>?_⟩,fun d' S' v H' q k2 hs' i'=>nn _ _ _ _ q (k1.trans k2) hs' i'⟩
    exact lamB z.1 LS hbind hcl hcap hlen z.2 (fun ex A outer s cv hr=>hb g H2 ex A outer s cv hr) (hra _ fun b o y e=>by rw [put_ne y]; exact e)
  have hl:us.length=ps.length:=by rw [<- r.length]; exact(F1 cells).len _ _ _ _ hsp
  have hbs:=hbd s1 us I1.kIn (by rw [List.append_nil]; exact hl)
  rw [List.append_nil] at hbs
  refine wpAny_call (codeAny_mono ((F1 cells).run X.A X.stack s1 H1 ⟨us,[]⟩ us vs Q E0 hr I1.env0 hce hbs r hsp) fun r s' hq=>?_)
  cases r with
  | error e=>exact(pass0 pins σ H1 s1 e s' I1 hq)
  | ok fl=>
    cases fl with
    | ret u=>exact I1.after hq
    | next=>exact False.elim hq
    | brk=>exact False.elim hq
    | cont=>exact False.elim hq
end
theorem d_plLj {X:Cx} {params:Arguments} {body:Expr} {scope:Scope} {clos:List (Str×Addr)} {p pos lpos:Pos} {x:Str} {n m:Nat} {cC:Addr} {N:List Str} {cap:List (Option Nat)} {gb:(Addr->DH->Prop)->DE} {c P:Addr} (hcl:closureFor scope X.env=pure clos) (hdef:defaultsOf params X.env=([],[]))
    (c0:OwnR X.prog X.w X.K X.mg X.base x n (Fpl cC (m+1) X.prog X.w X.K X.mg X.base)) (hr:Room n X.A) (hg:Gl X x) (hC:PySem.W.CodeHd X.base c P) (hbl:BltB X.mg X.base) (hcode:X.env.code=.ref c)
    (Lc0:LamCap X scope clos N cap) (hbind:∀ pm cv ctv,bindArgs (PySem.W.kla_fn "<lambda>" (X.env.qual++"<lambda>") params body scope clos pm cv ctv) ⟨[],[]⟩=pure [])
    (hb:∀ (g:Addr) (H:Hp) (ex:Addr->DH->Prop) (A:Around) (outer:List Env) (s:Shared) (cv:Value),Room m (A.deeper (PySem.W.envX (X.env.qual++"<lambda>") scope s.heap.objs.size g cv clos))->EJ (cxL X.prog X.w X.K X.mg X.base N (X.env.qual++"<lambda>") scope clos g cv A outer s H (exE X.K ex)) body (gb ex))
    (hdb:(x == ("__debug__":Str))=false:=by decide) (hst:starEach [.Lambda params body scope lpos] X.env=[(false,eval (.Lambda params body scope lpos) X.env)]:=by rfl) (hpl:(backTo pos (starEach [] X.env)).any (·.1)=false:=by rfl):
    EJ X (.Call (.Name x p) [.Lambda params body scope lpos] [] pos) (dPl cC (X.env.qual++"<lambda>") params body scope clos cap gb (dLam P (X.env.qual++"<lambda>") params body scope clos)):=
  d_plj c0 hr hg Lc0 hbind hb (d_lamj hC hbl hcode hdef hcl) mono_lam hdb hst hpl
inductive IsFn (K:Fg) (n:Str) (st:Stmt) (f:Addr) (cd:Value):Prop where
  | mk {oc kV doc pm ct:Value} {od an:Option Addr} {osl:Array (Option Value)} (l:K.lookup f=some ⟨oc,od,.func (PySem.W.fnOf n n (defArgs st) (defBody st) (defScope st) .none kV doc pm an cd ct),osl⟩):IsFn K n st f cd
structure DI (K:Fg) (n:Str) (st:Stmt) (f:Addr) (cd:Value):Prop where
  a:PySem.W.nsIn K mainGlobals n=some (some (.ref f))
  x:IsFn K n st f cd
  e:PySem.W.codeIn K cd n=true
  k:PySem.W.keepIn K (.ref f)=true
def Bd (n:Str) (st:Stmt) (ps:List Str):Prop:=∀ (kV doc pm:Value) (an:Option Addr) (cdv ct:Value) (us:List Value),us.length=ps.length->bindArgs (PySem.W.fnOf n n (defArgs st) (defBody st) (defScope st) .none kV doc pm an cdv ct) ⟨us,[]⟩=pure (ps.zip us)
section
variable {P:Program} {w:World} {K:Fg} {mg:Str->Option Value} {base h:Heap} {n:Str} {st:Stmt} {f:Addr} {cd:Value} {ps:List Str} {k:Nat}
theorem DI.own {F:DSp} (d:DI K n st f cd) (X:K.In h) (G:h.Ns mainGlobals mg) (ok:∀ fd,Fun K n n st f fd->fd.code=cd->FnOk P w K mg base CX0 k f fd ps (spU K F))
    (hb:Bd n st ps:=by first | (exact fun _ _ _ _ _ _ us hl=>match us,hl with | [_],_=>rfl) | (exact fun _ _ _ _ _ _ us hl=>match us,hl with | [_,_],_=>rfl) | (exact fun _ _ _ _ _ _ us hl=>match us,hl with | [_,_,_],_=>rfl) | (exact fun _ _ _ _ _ _ us hl=>match us,hl with | [_,_,_,_],_=>rfl) | (exact fun _ _ _ _ _ _ us hl=>match us,hl with | [_,_,_,_,_],_=>rfl) | (exact fun _ _ _ _ _ _ us hl=>match us,hl with | [_,_,_,_,_,_],_=>rfl) | (exact fun _ _ _ _ _ _ us hl=>match us,hl with | [_,_,_,_,_,_,_],_=>rfl)):Own P w K mg base n k F:=by
  obtain⟨lk⟩:=d.x
  have Fn:=fun_mk lk d.e d.k
  exact Own.mk' Fn (ok _ Fn rfl) (PySem.W.mg_of X G d.a) (Fn.binds hb)
theorem DI.fn (d:DI K n st f cd) (hb:∀ (kV doc pm:Value) (an:Option Addr) (ct v:Value),bindArgs (PySem.W.fnOf n n (defArgs st) (defBody st) (defScope st) .none kV doc pm an cd ct) ⟨[v],[]⟩=pure [(("script":Str),v)]:=by exact fun _ _ _ _ _ _=>rfl):∃ fd:FuncData,Fun K n n st f fd/\fd.code=cd/\∀ (s:Shared) (v:Value),BindsTo s fd ⟨[v],[]⟩ [("script",v)]:=by
  obtain⟨lk⟩:=d.x
  exact⟨_,fun_mk lk d.e d.k,rfl,fun s v=>.of_eq (hb _ _ _ _ _ v)⟩
theorem DI.ownX {F:DSpX} (d:DI K n st f cd) (X:K.In h) (G:h.Ns mainGlobals mg) (ok:∀ fd,Fun K n n st f fd->FnOk P w K mg base (CXE P w) k f fd ps (spX K F))
    (hb:Bd n st ps:=by first | (exact fun _ _ _ _ _ _ us hl=>match us,hl with | [_],_=>rfl) | (exact fun _ _ _ _ _ _ us hl=>match us,hl with | [_,_],_=>rfl) | (exact fun _ _ _ _ _ _ us hl=>match us,hl with | [_,_,_],_=>rfl) | (exact fun _ _ _ _ _ _ us hl=>match us,hl with | [_,_,_,_],_=>rfl) | (exact fun _ _ _ _ _ _ us hl=>match us,hl with | [_,_,_,_,_],_=>rfl) | (exact fun _ _ _ _ _ _ us hl=>match us,hl with | [_,_,_,_,_,_],_=>rfl) | (exact fun _ _ _ _ _ _ us hl=>match us,hl with | [_,_,_,_,_,_,_],_=>rfl)):OwnX P w K mg base n k F:=by
  obtain⟨lk⟩:=d.x
  have Fn:=fun_mk lk d.e d.k
  exact OwnX.mk' Fn (ok _ Fn) (PySem.W.mg_of X G d.a) (Fn.binds hb)
theorem DI.ownR {F:List (Addr×Obj)->DSp} (d:DI K n st f cd) (X:K.In h) (G:h.Ns mainGlobals mg) (ok:∀ fd,Fun K n n st f fd->∀ cells,FnOkP cells P w K mg base CX0 k f fd ps (spU K (F cells)))
    (hb:Bd n st ps:=by exact fun _ _ _ _ _ _ us hl=>match us,hl with | [_],_=>rfl):OwnR P w K mg base n k F:=by
  obtain⟨lk⟩:=d.x
  have Fn:=fun_mk lk d.e d.k
  exact OwnR.mk' Fn (ok _ Fn) (PySem.W.mg_of X G d.a) (Fn.binds hb)
end
end DL
namespace My
open PySem PySem.Spec PyProof.Rows L2 DL HM
set_option maxHeartbeats 4000000
def top (i : Nat) : Stmt := PySem.Challenge.pw_hingedraw_k85_whole_cells_stand.main.body.getD i (.Pass ⟨0, 0, 0, 0⟩)
abbrev s_common_divisor:Stmt:=top 11
abbrev s_ratio:Stmt:=top 12
abbrev s_plus:Stmt:=top 13
abbrev s_minus:Stmt:=top 14
abbrev s_times:Stmt:=top 15
abbrev s_over:Stmt:=top 16
abbrev s_negative:Stmt:=top 17
abbrev s_without_sign:Stmt:=top 18
abbrev s_whole_root:Stmt:=top 19
abbrev s_square_root_or_none:Stmt:=top 20
abbrev s_root_in:Stmt:=top 21
abbrev s_is_plain:Stmt:=top 23
abbrev s_with_sign_of:Stmt:=top 24
abbrev s_made:Stmt:=top 25
abbrev s_field_base:Stmt:=top 27
abbrev s_share:Stmt:=top 28
abbrev s_joined:Stmt:=top 29
abbrev s_root_negative:Stmt:=top 30
abbrev s_root_plus:Stmt:=top 31
abbrev s_root_minus:Stmt:=top 32
abbrev s_root_times:Stmt:=top 33
abbrev s_sign_of:Stmt:=top 34
abbrev s_root_sign:Stmt:=top 35
abbrev s_one_field:Stmt:=top 26
abbrev s_ask_one_field:Stmt:=top 39
abbrev s_way_between:Stmt:=top 40
abbrev s_square_of_way:Stmt:=top 41
abbrev s_square_apart:Stmt:=top 42
abbrev s_like_at:Stmt:=top 43
abbrev s_side_of:Stmt:=top 44
abbrev s_plain_point:Stmt:=top 37
abbrev s_place_of:Stmt:=top 38
abbrev s_plain_way:Stmt:=top 45
abbrev s_product_of_ways:Stmt:=top 46
abbrev s_moved:Stmt:=top 47
abbrev s_moved_by_root:Stmt:=top 48
abbrev s_both_moved:Stmt:=top 49
abbrev s_square_of_unlike:Stmt:=top 50
abbrev s_common_multiple:Stmt:=top 53
abbrev s_common_bottom:Stmt:=top 54
abbrev s_surd_times:Stmt:=top 55
abbrev s_surd_plus:Stmt:=top 72
abbrev s_way_times:Stmt:=top 65
abbrev s_way_plus:Stmt:=top 66
abbrev s_way_minus:Stmt:=top 67
abbrev s_way_mirrored:Stmt:=top 68
abbrev s_wholes_over:Stmt:=top 64
abbrev s_turned:Stmt:=top 76
abbrev s_surd_over:Stmt:=top 56
abbrev s_quotient_of:Stmt:=top 69
abbrev s_quotient_moved:Stmt:=top 70
abbrev s_quotient_inverted:Stmt:=top 71
abbrev s_flat:Stmt:=top 77
abbrev s_point_of:Stmt:=top 73
abbrev s_led:Stmt:=top 78
abbrev s__law_cell_at:Stmt:=top 90
abbrev s__law_state:Stmt:=top 91
abbrev s__law_take:Stmt:=top 92
abbrev s__law_divisor:Stmt:=top 93
abbrev s__law_ratio:Stmt:=top 94
abbrev s__law_times:Stmt:=top 97
abbrev s__law_small:Stmt:=top 99
abbrev s__law_plus:Stmt:=top 95
abbrev s__law_minus:Stmt:=top 96
abbrev s_is_whole:Stmt:=top 8
abbrev s_is_fraction:Stmt:=top 9
abbrev s_is_above_nought:Stmt:=top 10
abbrev s_is_joint:Stmt:=top 82
abbrev s_is_rod:Stmt:=top 84
abbrev s_are_fixed:Stmt:=top 83
abbrev s_are_rods:Stmt:=top 85
abbrev s_is_linkage:Stmt:=top 86
abbrev s_circles_meet:Stmt:=top 51
abbrev s_inverting_linkage:Stmt:=top 58
abbrev s_both_ends:Stmt:=top 59
abbrev s_inverting_cell:Stmt:=top 60
abbrev s_growing_linkage:Stmt:=top 61
abbrev s_growing_cell:Stmt:=top 62
abbrev s_first_wrong:Stmt:=top 87
abbrev s_freedom:Stmt:=top 88
abbrev s__law_above:Stmt:=top 100
abbrev s__law_plain:Stmt:=top 101
abbrev s__law_plain_point:Stmt:=top 102
abbrev s__law_placed:Stmt:=top 103
abbrev s__law_inverted:Stmt:=top 104
abbrev s_law:Stmt:=top 105
theorem bt_abs:bootBuiltins "abs"=some (.builtin "abs"):=by decide +kernel
theorem bt_len:bootBuiltins "len"=some (.builtin "len"):=by decide +kernel
theorem bt_isinstance:bootBuiltins "isinstance"=some (.builtin "isinstance"):=by decide +kernel
theorem bt_bool:bootBuiltins "bool"=some (.type "bool"):=by decide +kernel
theorem bt_int:bootBuiltins "int"=some (.type "int"):=by decide +kernel
theorem bt_tuple:bootBuiltins "tuple"=some (.type "tuple"):=by decide +kernel
theorem bt_all:bootBuiltins "all"=some (.builtin "all"):=by decide +kernel
theorem bt_range:bootBuiltins "range"=some (.type "range"):=by decide +kernel
theorem bt_max:bootBuiltins "max"=some (.builtin "max"):=by decide +kernel
theorem bt_min:bootBuiltins "min"=some (.builtin "min"):=by decide +kernel
theorem ite_ne {y:Int} {A B:Prop} (h1:y≠0->A) (h2:y=0->B):if (!decide (y=0))=true then A else B:=by
  by_cases h:y=0
  · rw [if_neg (by simp [h])]; exact h2 h
  · rw [if_pos (by simp [h])]; exact h1 h
theorem ite_dec {p:Prop} [Decidable p] {A B:Prop} (h1:p->A) (h2:¬ p->B):if decide p=true then A else B:=by
  by_cases h:p
  · rw [if_pos (by simp [h])]; exact h1 h
  · rw [if_neg (by simp [h])]; exact h2 h
theorem ite_ndec {p:Prop} [Decidable p] {A B:Prop} (h1:¬ p->A) (h2:p->B):if (!decide p)=true then A else B:=by
  by_cases h:p
  · rw [if_neg (by simp [h])]; exact h2 h
  · rw [if_pos (by simp [h])]; exact h1 h
theorem ite_b {c:Bool} {A B:Prop} (h1:c=true->A) (h2:c=false->B):if c=true then A else B:=by
  cases c
  · exact iteF (h2 rfl)
  · exact iteT (h1 rfl)
theorem ite_nb {c:Bool} {A B:Prop} (h1:c=false->A) (h2:c=true->B):if (!c)=true then A else B:=by
  cases c
  · exact iteT (h1 rfl)
  · exact iteF (h2 rfl)
theorem atI_mem {ds:List D} {i:Int} (h0:0<=i) (h1:i < (ds.length:Int)):∃ d,L2.atI ds i=some d/\d∈ds:=by
  obtain⟨n,rfl⟩:=Int.eq_ofNat_of_zero_le h0
  have hn:n < ds.length:=by omega
  exact⟨ds[n],atI_nat (by simp [hn]),List.getElem_mem hn⟩
theorem loop_all {ok:DH->Prop} {g:DG} {b:DS} {M:DEnds} {P:D->Prop} (Iv:Lo->DH->Prop) (hok:∀ L S,Iv L S->ok S)
    (hs:∀ d L S N,P d->Iv L S->(∀ L' S',Iv L' S'->N L' S')->g d L S fun L1 S1=>b {M with nx:=N,ct:=N,bk:=M.nx} L1 S1) (hd:∀ L S,Iv L S->M.nx L S):∀ r,(∀ d∈r,P d)->∀ L S,Iv L S->dLoop ok g b M r L S
  | [],_,L,S,i=>⟨hok L S i,hd L S i⟩
  | d::r,hp,L,S,i=>⟨hok L S i,hs d L S _ (hp d List.mem_cons_self) i fun L' S' i'=>loop_all Iv hok hs hd r (fun e he=>hp e (List.mem_cons_of_mem _ he)) L' S' i'⟩
instance {n:Nat} {x:Int}:Decidable (Bt n x):=inferInstanceAs (Decidable (x.natAbs < 2 ^ n))
theorem few {ds:List D} (h:Nat.ble ds.length sizeLine=true:=by rfl):ds.length<=sizeLine:=Nat.le_of_ble_eq_true h
def SOK (S:DH) (a:Addr):Prop:=∃ n b,S a=some (.lst [.int n,.bl b])/\(b=false->0<=n/\n < 2147483647)
def Dr (a:Addr) (S S':DH):Prop:=SOK S' a/\∀ b o,b≠a->S b=some o->S' b=some o
theorem Dr.trans {a:Addr} {S S1 S2:DH} (h1:Dr a S S1) (h2:Dr a S1 S2):Dr a S S2:=⟨h2.1,fun b o n e=>h2.2 b o n (h1.2 b o n e)⟩
theorem SOK.ne {a p:Addr} {S:DH} (h:SOK S a) (hp:S p=none):p≠a:=by
  obtain⟨n,b,e,_⟩:=h
  intro z
  subst z
  rw [e] at hp
  cases hp
theorem SOK.new {a p:Addr} {S:DH} {o:DO} (h:SOK S a) (hp:S p=none):SOK (put S p o) a:=by
  have z:=h.ne hp
  obtain⟨n,b,e,q⟩:=h
  exact⟨n,b,by rw [put_ne (Ne.symm z)]; exact e,q⟩
theorem Dr.new {a p:Addr} {S:DH} {o:DO} (h:SOK S a) (hp:S p=none):Dr a S (put S p o):=
  ⟨h.new hp,fun b u n e=>by rw [put_ne (ne_put e hp)]; exact e⟩
theorem bt_of {n:Nat} {x:Int} (h1:-(2 ^ n) < x) (h2:x < 2 ^ n):Bt n x:=by
  unfold Bt
  have e:((2 ^ n:Nat):Int)=(2:Int) ^ n:=by rw [Int.natCast_pow]; rfl
  omega
theorem bt31 {x:Int} (h1:0<=x) (h2:x < 2147483648):Bt 31 x:=by
  unfold Bt
  omega
def N (u a b:Rat):D:=.tup [fr a,fr (ss b*u)]
structure Fd (u:Rat):Prop where
  pos:0 < u
  no:NoSq u
  sz:Sz 2800 u
structure Sm (n:Nat) (a b:Rat):Prop where
  a:Sz n a
  b:Sz n b
theorem Sm.mono {m n:Nat} {a b:Rat} (h:Sm m a b) (hm:m<=n):Sm n a b:=⟨h.a.mono hm,h.b.mono hm⟩
theorem Sm.add {m n:Nat} {a b c d:Rat} (h:Sm m a b) (h':Sm n c d):Sm (m+n+1) (a+c) (b+d):=⟨h.a.add h'.a,h.b.add h'.b⟩
theorem Sm.sub {m n:Nat} {a b c d:Rat} (h:Sm m a b) (h':Sm n c d):Sm (m+n+1) (a - c) (b - d):=⟨h.a.sub h'.a,h.b.sub h'.b⟩
theorem Sm.neg {m:Nat} {a b:Rat} (h:Sm m a b):Sm m (-a) (-b):=⟨h.a.neg,h.b.neg⟩
theorem Sm.mul {m n:Nat} {a b c d u:Rat} (hu:Fd u) (h:Sm m a b) (h':Sm n c d):Sm (2*(m+n)+2810) (a*c+b*d*u) (a*d+b*c):=
  ⟨((h.a.mul h'.a).add ((h.b.mul h'.b).mul hu.sz)).mono (by omega),((h.a.mul h'.b).add (h.b.mul h'.a)).mono (by omega)⟩
theorem fr_neg {q:Rat}:D.tup [.int (-q.num),.int (q.den:Int)]=fr (-q):=by
  show _=D.tup [.int (-q).num,.int ((-q).den:Int)]
  rw [Rat.neg_num,Rat.neg_den]
theorem fr_ab {q:Rat}:D.tup [.int (if q.num < 0 then -q.num else q.num),.int (q.den:Int)]=fr (ab q):=by
  show _=D.tup [.int (ab q).num,.int ((ab q).den:Int)]
  rw [ab_num,ab_den]
theorem gcd_bt {n:Nat} {t b:Int} (h:b≠0) (hb:Bt n b):Bt n ((Int.gcd t b:Nat):Int):=by
  refine hb.le ?_
  have h1:Int.gcd t b ∣ b.natAbs:=by
    have:=Int.gcd_dvd_right t b
    exact(by have:=Int.natAbs_dvd_natAbs.mpr this; simpa using this)
  have:=Nat.le_of_dvd (by omega) h1
  omega
def F_common_divisor:DSp:=fun ds S k=>match ds with
  | [.int a,.int b]=>k (.int ((Int.gcd a b:Nat):Int)) S
  | _=>False
theorem sc_common_divisor:FnScope ["one","other","rest"] ["one","other"] (defScope s_common_divisor):=⟨rfl,rfl,rfl,by decide +kernel,rfl,by decide +kernel,by decide +kernel⟩
theorem ok_common_divisor {P:Program} {w:World} {K:Fg} {mg:Str->Option Value} {base:Heap} {f:Addr} {fd:FuncData} (Fn:Fun K "common_divisor" "common_divisor" s_common_divisor f fd) (z_abs:mg "abs"=none):
    FnOk P w K mg base CX0 1 f fd ["one","other"] (spU K F_common_divisor):=by
  refine Fn.okJ sc_common_divisor (fun ds S k h=>?_) (fun cdv A outer s H E hr=>⟨_,(ds_consj (dst_whilej PassesOwn.never (dt_cmpj o_ne (d_varj 1) d_intj (nomark _)) (ds_consj (dst_setj (i:=2) sc_common_divisor.nd (d_opj o_mod (d_varj 0) (d_varj 1))) (ds_consj (dst_setj (i:=0) sc_common_divisor.nd (d_varj 1)) (ds_onej (dst_setj (i:=1) sc_common_divisor.nd (d_varj 2)))))) (ds_onej (dst_retj (d_callBj b_abs rfl z_abs bt_abs (da_consj (d_varj 0) da_nilj))))),fun ds S k h=>?_⟩)
  · unfold F_common_divisor at h
    split at h
    · rfl
    · exact h.elim
  · unfold F_common_divisor at h
    split at h
    · rename_i a b
      refine⟨fun m L S'=>S'=S/\∃ x y r,L=[some (.int x),some (.int y),r]/\m=y.natAbs/\Int.gcd x y=Int.gcd a b,⟨_,rfl,a,b,_,rfl,rfl,rfl⟩,?_⟩
      rintro m L S' ⟨rfl,x,y,r,rfl,rfl,e⟩
      refine ite_ne (fun hy=>⟨fun L' S''=>∃ m',m' < y.natAbs/\S''=S'/\∃ x y r,L'=[some (.int x),some (.int y),r]/\m'=y.natAbs/\Int.gcd x y=Int.gcd a b,fun _ _ z=>z,hy,?_⟩) (fun hy=>?_)
      · exact⟨_,fmod_lt x y hy,rfl,y,x.fmod y,_,rfl,rfl,(gcd_fmod x y).trans e⟩
      · subst hy
        have e2:=gcd_zero x
        rw [e] at e2
        show k (.int (if x < 0 then -x else x)) S'
        rw [<- e2]
        exact h
    · exact h.elim
def F_ratio:DSp:=fun ds S k=>match ds with
  | [.int t,.int b]=>b≠0/\Bt 60000000 b/\k (fr (Rat.divInt t b)) S
  | _=>False
theorem ratio_go {S:DH} {k:DK} {t b:Int} {q:Rat} (e:Rat.divInt t b=q) (h0:b≠0) (hb:Bt 60000000 b) (h:k (fr q) S):F_ratio [.int t,.int b] S k:=by subst e; exact⟨h0,hb,h⟩
theorem sc_ratio:FnScope ["top","bottom","shared"] ["top","bottom"] (defScope s_ratio):=⟨rfl,rfl,rfl,by decide +kernel,rfl,by decide +kernel,by decide +kernel⟩
theorem ok_ratio {P:Program} {w:World} {K:Fg} {mg:Str->Option Value} {base:Heap} {f:Addr} {fd:FuncData} (Fn:Fun K "ratio" "ratio" s_ratio f fd) (c_common_divisor:Own P w K mg base "common_divisor" 1 F_common_divisor) (hBl:BltB mg base) (hTr:P.given.tree=none):
    FnOk P w K mg base CX0 34 f fd ["top","bottom"] (spU K F_ratio):=by
  refine Fn.okJ sc_ratio (fun ds S k h=>?_) (fun cdv A outer s H E hr=>⟨_,(ds_consj (dst_ifj (dt_cmpj o_eq (d_varj 1) d_intj (nomark _)) (ds_onej dst_neverj) ds_nilj) (ds_consj (dst_setj (i:=2) sc_ratio.nd (d_callj c_common_divisor (hr.mono (by decide)) rfl (da_consj (d_varj 0) (da_consj (d_varj 1) da_nilj)))) (ds_consj (dst_ifj (dt_cmpj o_lt (d_varj 1) d_intj (nomark _)) (ds_onej (dst_setj (i:=2) sc_ratio.nd (d_unj o_neg (d_varj 2)))) ds_nilj) (ds_onej (dst_retj (d_tupj (da_consj (d_opj (o_divR hr hBl hTr rfl rfl rfl (by decide)) (d_varj 0) (d_varj 2)) (da_consj (d_opj (o_divR hr hBl hTr rfl rfl rfl (by decide)) (d_varj 1) (d_varj 2)) da_nilj)))))))),fun ds S k h=>?_⟩)
  · unfold F_ratio at h
    split at h
    · rfl
    · exact h.elim
  · unfold F_ratio at h
    split at h
    · rename_i t b
      obtain⟨h0,hb,q⟩:=h
      have hg:=gcd_bt (t:=t) h0 hb
      have hs:=shr_ne (t:=t) h0
      have e1:=div_num (t:=t) h0
      have e2:=div_den (t:=t) h0
      have qq:k (.tup [.int (t.fdiv (shr t b)),.int (b.fdiv (shr t b))]) S:=by rw [e1,e2]; exact q
      unfold shr at qq hs
      refine ite_dec (fun z=>absurd z h0) (fun _=>ite_dec (fun hl=>?_) (fun hl=>?_))
      · rw [if_pos hl] at qq hs
        exact⟨hs,hs,few,qq⟩
      · rw [if_neg hl] at qq hs
        exact⟨hs,hs,few,qq⟩
    · exact h.elim
def F_plus:DSp:=fun ds S k=>∃ p q:Rat,ds=[fr p,fr q]/\Sz 20000000 p/\Sz 20000000 q/\k (fr (p+q)) S
theorem sc_plus:FnScope ["one","other"] ["one","other"] (defScope s_plus):=⟨rfl,rfl,rfl,by decide +kernel,rfl,by decide +kernel,by decide +kernel⟩
theorem ok_plus {P:Program} {w:World} {K:Fg} {mg:Str->Option Value} {base:Heap} {f:Addr} {fd:FuncData} (Fn:Fun K "plus" "plus" s_plus f fd) (c_ratio:Own P w K mg base "ratio" 34 F_ratio):
    FnOk P w K mg base CX0 35 f fd ["one","other"] (spU K F_plus):=by
  refine Fn.okJ sc_plus (fun ds S k h=>?_) (fun cdv A outer s H E hr=>⟨_,(ds_onej (dst_retj (d_callj c_ratio (hr.mono (by decide)) rfl (da_consj (d_opj o_add (d_opj o_mul (d_ixj x_ixE (d_varj 0) d_intj (fun _ _=>rfl)) (d_ixj x_ixE (d_varj 1) d_intj (fun _ _=>rfl))) (d_opj o_mul (d_ixj x_ixE (d_varj 1) d_intj (fun _ _=>rfl)) (d_ixj x_ixE (d_varj 0) d_intj (fun _ _=>rfl)))) (da_consj (d_opj o_mul (d_ixj x_ixE (d_varj 0) d_intj (fun _ _=>rfl)) (d_ixj x_ixE (d_varj 1) d_intj (fun _ _=>rfl))) da_nilj))))),fun ds S k h=>?_⟩)
  · obtain⟨_,_,rfl,_⟩:=h
    rfl
  · obtain⟨p,q,rfl,hp,hq,w⟩:=h
    exact⟨mok hp.num hq.den,mok hq.num hp.den,mok hp.den hq.den,ratio_go (add_of p q) (den_mul_ne p q) ((hp.den.mul hq.den).mono (by decide)) w⟩
def F_minus:DSp:=fun ds S k=>∃ p q:Rat,ds=[fr p,fr q]/\Sz 20000000 p/\Sz 20000000 q/\k (fr (p - q)) S
theorem sc_minus:FnScope ["one","other"] ["one","other"] (defScope s_minus):=⟨rfl,rfl,rfl,by decide +kernel,rfl,by decide +kernel,by decide +kernel⟩
theorem ok_minus {P:Program} {w:World} {K:Fg} {mg:Str->Option Value} {base:Heap} {f:Addr} {fd:FuncData} (Fn:Fun K "minus" "minus" s_minus f fd) (c_ratio:Own P w K mg base "ratio" 34 F_ratio):
    FnOk P w K mg base CX0 35 f fd ["one","other"] (spU K F_minus):=by
  refine Fn.okJ sc_minus (fun ds S k h=>?_) (fun cdv A outer s H E hr=>⟨_,(ds_onej (dst_retj (d_callj c_ratio (hr.mono (by decide)) rfl (da_consj (d_opj o_sub (d_opj o_mul (d_ixj x_ixE (d_varj 0) d_intj (fun _ _=>rfl)) (d_ixj x_ixE (d_varj 1) d_intj (fun _ _=>rfl))) (d_opj o_mul (d_ixj x_ixE (d_varj 1) d_intj (fun _ _=>rfl)) (d_ixj x_ixE (d_varj 0) d_intj (fun _ _=>rfl)))) (da_consj (d_opj o_mul (d_ixj x_ixE (d_varj 0) d_intj (fun _ _=>rfl)) (d_ixj x_ixE (d_varj 1) d_intj (fun _ _=>rfl))) da_nilj))))),fun ds S k h=>?_⟩)
  · obtain⟨_,_,rfl,_⟩:=h
    rfl
  · obtain⟨p,q,rfl,hp,hq,w⟩:=h
    exact⟨mok hp.num hq.den,mok hq.num hp.den,mok hp.den hq.den,ratio_go (sub_of p q) (den_mul_ne p q) ((hp.den.mul hq.den).mono (by decide)) w⟩
def F_times:DSp:=fun ds S k=>∃ p q:Rat,ds=[fr p,fr q]/\Sz 20000000 p/\Sz 20000000 q/\k (fr (p*q)) S
theorem sc_times:FnScope ["one","other"] ["one","other"] (defScope s_times):=⟨rfl,rfl,rfl,by decide +kernel,rfl,by decide +kernel,by decide +kernel⟩
theorem ok_times {P:Program} {w:World} {K:Fg} {mg:Str->Option Value} {base:Heap} {f:Addr} {fd:FuncData} (Fn:Fun K "times" "times" s_times f fd) (c_ratio:Own P w K mg base "ratio" 34 F_ratio):
    FnOk P w K mg base CX0 35 f fd ["one","other"] (spU K F_times):=by
  refine Fn.okJ sc_times (fun ds S k h=>?_) (fun cdv A outer s H E hr=>⟨_,(ds_onej (dst_retj (d_callj c_ratio (hr.mono (by decide)) rfl (da_consj (d_opj o_mul (d_ixj x_ixE (d_varj 0) d_intj (fun _ _=>rfl)) (d_ixj x_ixE (d_varj 1) d_intj (fun _ _=>rfl))) (da_consj (d_opj o_mul (d_ixj x_ixE (d_varj 0) d_intj (fun _ _=>rfl)) (d_ixj x_ixE (d_varj 1) d_intj (fun _ _=>rfl))) da_nilj))))),fun ds S k h=>?_⟩)
  · obtain⟨_,_,rfl,_⟩:=h
    rfl
  · obtain⟨p,q,rfl,hp,hq,w⟩:=h
    exact⟨mok hp.num hq.num,mok hp.den hq.den,ratio_go (mul_of p q) (den_mul_ne p q) ((hp.den.mul hq.den).mono (by decide)) w⟩
def F_over:DSp:=fun ds S k=>∃ p q:Rat,ds=[fr p,fr q]/\q≠0/\Sz 20000000 p/\Sz 20000000 q/\k (fr (p / q)) S
theorem sc_over:FnScope ["one","other"] ["one","other"] (defScope s_over):=⟨rfl,rfl,rfl,by decide +kernel,rfl,by decide +kernel,by decide +kernel⟩
theorem ok_over {P:Program} {w:World} {K:Fg} {mg:Str->Option Value} {base:Heap} {f:Addr} {fd:FuncData} (Fn:Fun K "over" "over" s_over f fd) (c_ratio:Own P w K mg base "ratio" 34 F_ratio):
    FnOk P w K mg base CX0 35 f fd ["one","other"] (spU K F_over):=by
  refine Fn.okJ sc_over (fun ds S k h=>?_) (fun cdv A outer s H E hr=>⟨_,(ds_onej (dst_retj (d_callj c_ratio (hr.mono (by decide)) rfl (da_consj (d_opj o_mul (d_ixj x_ixE (d_varj 0) d_intj (fun _ _=>rfl)) (d_ixj x_ixE (d_varj 1) d_intj (fun _ _=>rfl))) (da_consj (d_opj o_mul (d_ixj x_ixE (d_varj 0) d_intj (fun _ _=>rfl)) (d_ixj x_ixE (d_varj 1) d_intj (fun _ _=>rfl))) da_nilj))))),fun ds S k h=>?_⟩)
  · obtain⟨_,_,rfl,_⟩:=h
    rfl
  · obtain⟨p,q,rfl,h0,hp,hq,w⟩:=h
    exact⟨mok hp.num hq.den,mok hp.den hq.num,ratio_go (div_of p q) (Int.mul_ne_zero (den_ne p) (num_ne h0)) ((hp.den.mul hq.num).mono (by decide)) w⟩
def F_negative:DSp:=fun ds S k=>∃ q:Rat,ds=[fr q]/\k (fr (-q)) S
theorem sc_negative:FnScope ["one"] ["one"] (defScope s_negative):=⟨rfl,rfl,rfl,by decide +kernel,rfl,by decide +kernel,by decide +kernel⟩
theorem ok_negative {P:Program} {w:World} {K:Fg} {mg:Str->Option Value} {base:Heap} {f:Addr} {fd:FuncData} (Fn:Fun K "negative" "negative" s_negative f fd):
    FnOk P w K mg base CX0 1 f fd ["one"] (spU K F_negative):=by
  refine Fn.okJ sc_negative (fun ds S k h=>?_) (fun cdv A outer s H E hr=>⟨_,(ds_onej (dst_retj (d_tupj (da_consj (d_unj o_neg (d_ixj x_ixE (d_varj 0) d_intj (fun _ _=>rfl))) (da_consj (d_ixj x_ixE (d_varj 0) d_intj (fun _ _=>rfl)) da_nilj))))),fun ds S k h=>?_⟩)
  · obtain⟨_,rfl,_⟩:=h
    rfl
  · obtain⟨q,rfl,w⟩:=h
    rw [<- fr_neg] at w
    exact⟨few,w⟩
def F_without_sign:DSp:=fun ds S k=>∃ q:Rat,ds=[fr q]/\k (fr (ab q)) S
theorem sc_without_sign:FnScope ["one"] ["one"] (defScope s_without_sign):=⟨rfl,rfl,rfl,by decide +kernel,rfl,by decide +kernel,by decide +kernel⟩
theorem ok_without_sign {P:Program} {w:World} {K:Fg} {mg:Str->Option Value} {base:Heap} {f:Addr} {fd:FuncData} (Fn:Fun K "without_sign" "without_sign" s_without_sign f fd) (z_abs:mg "abs"=none):
    FnOk P w K mg base CX0 1 f fd ["one"] (spU K F_without_sign):=by
  refine Fn.okJ sc_without_sign (fun ds S k h=>?_) (fun cdv A outer s H E hr=>⟨_,(ds_onej (dst_retj (d_tupj (da_consj (d_callBj b_abs rfl z_abs bt_abs (da_consj (d_ixj x_ixE (d_varj 0) d_intj (fun _ _=>rfl)) da_nilj)) (da_consj (d_ixj x_ixE (d_varj 0) d_intj (fun _ _=>rfl)) da_nilj))))),fun ds S k h=>?_⟩)
  · obtain⟨_,rfl,_⟩:=h
    rfl
  · obtain⟨q,rfl,w⟩:=h
    rw [<- fr_ab] at w
    exact⟨few,w⟩
set_option maxHeartbeats 4000000
structure Gu (n g:Int):Prop where
  pos:0 < g
  ge:isq n<=g
theorem Gu.next {n g:Int} (h0:1<=n) (h:Gu n g) (hl:(g+n.fdiv g).fdiv 2 < g):Gu n ((g+n.fdiv g).fdiv 2):=by
  have rt:=isq_rt (n:=n) (by omega)
  have r1:1<=isq n:=rt.le_of (by omega)
  rw [fdiv2 _ (by decide),fdiv2 _ h.pos] at hl ⊢
  have h1:=newton_ge h.pos rt.nn rt.le
  exact⟨by omega,h1⟩
theorem Gu.last {n g:Int} (h0:1<=n) (h:Gu n g) (hl:¬ (g+n.fdiv g).fdiv 2 < g):g=isq n:=by
  have rt:=isq_rt (n:=n) (by omega)
  rw [fdiv2 _ (by decide),fdiv2 _ h.pos] at hl
  have h1:=h.ge
  rcases Int.lt_or_le (isq n) g with h2 | h2
  · exact absurd (newton_lt (by omega) rt h2) hl
  · omega
theorem Gu.first {n:Int} {b:Nat} (h0:1<=n) (hn:n.natAbs < 2 ^ b):Gu n ((1:Int)*2 ^ ((((b:Nat):Int)+1).fdiv 2).toNat):=by
  have e:((((b:Nat):Int)+1).fdiv 2).toNat=(b+1) / 2:=by rw [fdiv2 _ (by decide)]; omega
  rw [e,Int.one_mul]
  have hp:(0:Int) < 2 ^ ((b+1) / 2):=Int.pow_pos (by decide)
  have rt:=isq_rt (n:=n) (by omega)
  refine⟨hp,?_⟩
  apply Int.not_lt.mp
  intro hl
  have h1:=sq_mono (Int.le_of_lt hp) (Int.le_of_lt hl)
  have h2:=rt.le
  have h3:(2:Int) ^ ((b+1) / 2)*2 ^ ((b+1) / 2)=2 ^ ((b+1) / 2+(b+1) / 2):=(Int.pow_add _ _ _).symm
  have h4:2 ^ b<=2 ^ ((b+1) / 2+(b+1) / 2):=two_pow_le (by omega)
  have h5:((2 ^ ((b+1) / 2+(b+1) / 2):Nat):Int)=(2:Int) ^ ((b+1) / 2+(b+1) / 2):=by rw [Int.natCast_pow]; rfl
  have h6:((2 ^ b:Nat):Int)<=((2 ^ ((b+1) / 2+(b+1) / 2):Nat):Int):=Int.ofNat_le.mpr h4
  have h7:(n.natAbs:Int) < ((2 ^ b:Nat):Int):=Int.ofNat_lt.mpr hn
  rw [h3] at h1
  rw [h5] at h6
  omega
def F_whole_root:DSp:=fun ds S k=>∃ n:Int,ds=[.int n]/\0<=n/\Bt 1600000 n/\k (.int (isq n)) S
theorem sc_whole_root:FnScope ["number","guess","better"] ["number"] (defScope s_whole_root):=⟨rfl,rfl,rfl,by decide +kernel,rfl,by decide +kernel,by decide +kernel⟩
theorem ok_whole_root {P:Program} {w:World} {K:Fg} {mg:Str->Option Value} {base:Heap} {f:Addr} {fd:FuncData} (Fn:Fun K "whole_root" "whole_root" s_whole_root f fd) (hBl:BltB mg base) (hTr:P.given.tree=none):
    FnOk P w K mg base CX0 34 f fd ["number"] (spU K F_whole_root):=by
  refine Fn.okJ sc_whole_root (fun ds S k h=>?_) (fun cdv A outer s H E hr=>⟨_,(ds_consj (dst_ifj (dt_cmpj o_eq (d_varj 0) d_intj (nomark _)) (ds_onej (dst_retj d_intj)) ds_nilj) (ds_consj (dst_setj (i:=1) sc_whole_root.nd (d_opj o_shl d_intj (d_opj (o_divR hr hBl hTr rfl rfl rfl (by decide)) (d_opj o_add (d_bitsj (d_varj 0)) d_intj) d_intj))) (ds_consj (dst_setj (i:=2) sc_whole_root.nd (d_opj (o_divR hr hBl hTr rfl rfl rfl (by decide)) (d_opj o_add (d_varj 1) (d_opj (o_divR hr hBl hTr rfl rfl rfl (by decide)) (d_varj 0) (d_varj 1))) d_intj)) (ds_consj (dst_whilej PassesOwn.never (dt_cmpj o_lt (d_varj 2) (d_varj 1) (nomark _)) (ds_consj (dst_setj (i:=1) sc_whole_root.nd (d_varj 2)) (ds_onej (dst_setj (i:=2) sc_whole_root.nd (d_opj (o_divR hr hBl hTr rfl rfl rfl (by decide)) (d_opj o_add (d_varj 1) (d_opj (o_divR hr hBl hTr rfl rfl rfl (by decide)) (d_varj 0) (d_varj 1))) d_intj))))) (ds_onej (dst_retj (d_varj 1))))))),fun ds S k h=>?_⟩)
  · obtain⟨_,rfl,_⟩:=h
    rfl
  · obtain⟨n,rfl,h0,hb,q⟩:=h
    refine ite_dec (fun e=>?_) (fun e=>?_)
    · subst e
      rw [isq_zero] at q
      exact q
    · have hbits:Builtin.Int.intBits n<=1600000:=intBits_le_iff.mpr hb
      have h1:1<=n:=by omega
      have hn:n.natAbs < 2 ^ Builtin.Int.intBits n:=intBits_le_iff.mp (Nat.le_refl _)
      have G:=Gu.first h1 hn
      have hc:CPow 1 ((((Builtin.Int.intBits n:Nat):Int)+1).fdiv 2):=by
        have e2:=fdiv2 (((Builtin.Int.intBits n:Nat):Int)+1) (b:=2) (by decide)
        exact⟨by rw [e2]; omega,by rw [e2]; omega,by decide⟩
      have two:(2:Int)≠0:=by decide
      have dv:∀ g:Int,Gu n g->g≠0:=fun g G=>by have:=G.pos; omega
      refine⟨two,hc,dv _ G,two,fun m L S'=>S'=S/\∃ g,L=[some (.int n),some (.int g),some (.int ((g+n.fdiv g).fdiv 2))]/\m=g.toNat/\Gu n g,⟨_,rfl,_,rfl,rfl,G⟩,?_⟩
      rintro m L S' ⟨rfl,g,rfl,rfl,G⟩
      refine ite_dec (fun hl=>⟨fun L' S''=>∃ m',m' < g.toNat/\S''=S'/\∃ g,L'=[some (.int n),some (.int g),some (.int ((g+n.fdiv g).fdiv 2))]/\m'=g.toNat/\Gu n g,fun _ _ z=>z,dv _ (G.next h1 hl),two,?_⟩) (fun hl=>?_)
      · have G2:=G.next h1 hl
        exact⟨_,by have:=G2.pos; have:=G.pos; omega,rfl,_,rfl,rfl,G2⟩
      · rw [<- G.last h1 hl] at q
        exact q
def sqD (n:Int):D:=if isq n*isq n=n then .int (isq n) else .non
def F_square_root_or_none:DSp:=fun ds S k=>∃ n:Int,ds=[.int n]/\0<=n/\Bt 1600000 n/\k (sqD n) S
theorem sc_square_root_or_none:FnScope ["number","root"] ["number"] (defScope s_square_root_or_none):=⟨rfl,rfl,rfl,by decide +kernel,rfl,by decide +kernel,by decide +kernel⟩
theorem ok_square_root_or_none {P:Program} {w:World} {K:Fg} {mg:Str->Option Value} {base:Heap} {f:Addr} {fd:FuncData} (Fn:Fun K "square_root_or_none" "square_root_or_none" s_square_root_or_none f fd) (c_whole_root:Own P w K mg base "whole_root" 34 F_whole_root):
    FnOk P w K mg base CX0 35 f fd ["number"] (spU K F_square_root_or_none):=by
  refine Fn.okJ sc_square_root_or_none (fun ds S k h=>?_) (fun cdv A outer s H E hr=>⟨_,(ds_consj (dst_setj (i:=1) sc_square_root_or_none.nd (d_callj c_whole_root (hr.mono (by decide)) rfl (da_consj (d_varj 0) da_nilj))) (ds_onej (dst_retj (d_ifj (dt_cmpj o_eq (d_opj o_mul (d_varj 1) (d_varj 1)) (d_varj 0) (nomark _)) (d_varj 1) d_nonj)))),fun ds S k h=>?_⟩)
  · obtain⟨_,rfl,_⟩:=h
    rfl
  · obtain⟨n,rfl,h0,hb,q⟩:=h
    have b2:=isq_bt h0 hb
    refine⟨n,rfl,h0,hb,mok b2 b2,ite_dec (fun e=>?_) (fun e=>?_)⟩
    · rw [sqD,if_pos e] at q
      exact q
    · rw [sqD,if_neg e] at q
      exact q
def F_root_in:DSp:=fun ds S k=>∃ q:Rat,ds=[fr q]/\0<=q/\Sz 1600000 q/\(∀ r,0<=r->r*r=q->k (fr r) S)/\(NoSq q->k .non S)
theorem sc_root_in:FnScope ["one","top","bottom"] ["one"] (defScope s_root_in):=⟨rfl,rfl,rfl,by decide +kernel,rfl,by decide +kernel,by decide +kernel⟩
theorem ok_root_in {P:Program} {w:World} {K:Fg} {mg:Str->Option Value} {base:Heap} {f:Addr} {fd:FuncData} (Fn:Fun K "root_in" "root_in" s_root_in f fd) (c_square_root_or_none:Own P w K mg base "square_root_or_none" 35 F_square_root_or_none):
    FnOk P w K mg base CX0 36 f fd ["one"] (spU K F_root_in):=by
  refine Fn.okJ sc_root_in (fun ds S k h=>?_) (fun cdv A outer s H E hr=>⟨_,(ds_consj (dst_setj (i:=1) sc_root_in.nd (d_callj c_square_root_or_none (hr.mono (by decide)) rfl (da_consj (d_ixj x_ixE (d_varj 0) d_intj (fun _ _=>rfl)) da_nilj))) (ds_consj (dst_ifj (dt_cmpj o_is (d_varj 1) d_nonj (nomark _)) (ds_onej (dst_retj d_nonj)) ds_nilj) (ds_consj (dst_setj (i:=2) sc_root_in.nd (d_callj c_square_root_or_none (hr.mono (by decide)) rfl (da_consj (d_ixj x_ixE (d_varj 0) d_intj (fun _ _=>rfl)) da_nilj))) (ds_consj (dst_ifj (dt_cmpj o_is (d_varj 2) d_nonj (nomark _)) (ds_onej (dst_retj d_nonj)) ds_nilj) (ds_onej (dst_retj (d_tupj (da_consj (d_varj 1) (da_consj (d_varj 2) da_nilj))))))))),fun ds S k h=>?_⟩)
  · obtain⟨_,rfl,_⟩:=h
    rfl
  · obtain⟨q,rfl,h0,hs,h1,h2⟩:=h
    have n0:=num_nn h0
    by_cases e:isq q.num*isq q.num=q.num
    · by_cases e2:isq (q.den:Int)*isq (q.den:Int)=(q.den:Int)
      · obtain⟨r,r0,rr⟩:=sq_of_root h0 e e2
        obtain⟨e3,e4⟩:=root_of_sq r0 rr
        have w:=h1 r r0 rr
        refine⟨q.num,rfl,n0,hs.num,?_⟩
        rw [show sqD q.num=.int (isq q.num) from if_pos e]
        refine⟨(q.den:Int),rfl,by omega,hs.den,?_⟩
        rw [show sqD (q.den:Int)=.int (isq (q.den:Int)) from if_pos e2,e3,e4]
        exact⟨few,w⟩
      · refine⟨q.num,rfl,n0,hs.num,?_⟩
        rw [show sqD q.num=.int (isq q.num) from if_pos e]
        refine⟨(q.den:Int),rfl,by omega,hs.den,?_⟩
        rw [show sqD (q.den:Int)=.non from if_neg e2]
        refine h2 fun r rr=>e2 ?_
        have:=congrArg (fun z:Rat=>(z.den:Int)) rr
        simp only [sq_den,Int.natCast_mul] at this
        exact isq_sq this
    · refine⟨q.num,rfl,n0,hs.num,?_⟩
      rw [show sqD q.num=.non from if_neg e]
      refine h2 fun r rr=>e ?_
      have:=congrArg Rat.num rr
      rw [sq_num] at this
      exact isq_sq this
def F_is_plain:DSp:=fun ds S k=>∃ x q,ds=[.tup [x,fr q]]/\k (.bl (decide (q=0))) S
theorem sc_is_plain:FnScope ["one"] ["one"] (defScope s_is_plain):=⟨rfl,rfl,rfl,by decide +kernel,rfl,by decide +kernel,by decide +kernel⟩
theorem ok_is_plain {P:Program} {w:World} {K:Fg} {mg:Str->Option Value} {base:Heap} {f:Addr} {fd:FuncData} (Fn:Fun K "is_plain" "is_plain" s_is_plain f fd):
    FnOk P w K mg base CX0 1 f fd ["one"] (spU K F_is_plain):=by
  refine Fn.okJ sc_is_plain (fun ds S k h=>?_) (fun cdv A outer s H E hr=>⟨_,(ds_onej (dst_retj (d_cmpj o_eq (d_ixj x_ixE (d_ixj x_ixE (d_varj 0) d_intj (fun _ _=>rfl)) d_intj (fun _ _=>rfl)) d_intj (nomark _)))),fun ds S k h=>?_⟩)
  · obtain⟨_,_,rfl,_⟩:=h
    rfl
  · obtain⟨x,q,rfl,w⟩:=h
    have e:decide (q.num=0)=decide (q=0):=by
      by_cases h0:q=0
      · subst h0; rfl
      · rw [decide_eq_false h0,decide_eq_false (num_ne h0)]
    rw [<- e] at w
    exact w
def F_with_sign_of:DSp:=fun ds S k=>∃ p q:Rat,ds=[fr p,fr q]/\k (fr (sg p q)) S
theorem sc_with_sign_of:FnScope ["one","other"] ["one","other"] (defScope s_with_sign_of):=⟨rfl,rfl,rfl,by decide +kernel,rfl,by decide +kernel,by decide +kernel⟩
theorem ok_with_sign_of {P:Program} {w:World} {K:Fg} {mg:Str->Option Value} {base:Heap} {f:Addr} {fd:FuncData} (Fn:Fun K "with_sign_of" "with_sign_of" s_with_sign_of f fd) (c_negative:Own P w K mg base "negative" 1 F_negative):
    FnOk P w K mg base CX0 2 f fd ["one","other"] (spU K F_with_sign_of):=by
  refine Fn.okJ sc_with_sign_of (fun ds S k h=>?_) (fun cdv A outer s H E hr=>⟨_,(ds_onej (dst_retj (d_ifj (dt_cmpj o_lt (d_ixj x_ixE (d_varj 1) d_intj (fun _ _=>rfl)) d_intj (nomark _)) (d_callj c_negative (hr.mono (by decide)) rfl (da_consj (d_varj 0) da_nilj)) (d_varj 0)))),fun ds S k h=>?_⟩)
  · obtain⟨_,_,rfl,_⟩:=h
    rfl
  · obtain⟨p,q,rfl,w⟩:=h
    unfold sg at w
    refine ite_dec (fun hn=>?_) (fun hn=>?_)
    · rw [if_pos ((num_neg_iff q).mp hn)] at w
      exact⟨p,rfl,w⟩
    · rw [if_neg (fun z=>hn ((num_neg_iff q).mpr z))] at w
      exact w
set_option maxHeartbeats 4000000
theorem nat_le_sq (n:Nat):n<=n*n:=by
  rcases Nat.eq_zero_or_pos n with h | h
  · subst h; decide
  · exact Nat.le_mul_of_pos_left n h
theorem _root_.HM.Sz.root {n:Nat} {q r:Rat} (h:Sz n q) (e:r*r=q):Sz n r:=by
  subst e
  refine⟨h.num.le ?_,h.den.le ?_⟩
  · rw [sq_num,Int.natAbs_mul]
    exact nat_le_sq _
  · rw [sq_den]
    have:=nat_le_sq r.den
    omega
open Classical in
noncomputable def mkD (p q:Rat):D:=if h:∃ r,0<=r/\r*r=ab q then .tup [fr (p+sg h.choose q),fr 0] else .tup [fr p,fr q]
theorem root_uniq {r r' q:Rat} (h0:0<=r) (h1:0<=r') (e:r*r=q) (e':r'*r'=q):r=r':=by
  obtain⟨a1,a2⟩:=root_of_sq h0 e
  obtain⟨b1,b2⟩:=root_of_sq h1 e'
  refine Rat.ext (a1.symm.trans b1) ?_
  have:=a2.symm.trans b2
  omega
theorem mkD_root {p q r:Rat} (r0:0<=r) (rr:r*r=ab q):mkD p q=.tup [fr (p+sg r q),fr 0]:=by
  have h:∃ r,0<=r/\r*r=ab q:=⟨r,r0,rr⟩
  unfold mkD
  rw [dif_pos h,root_uniq h.choose_spec.1 r0 h.choose_spec.2 rr]
theorem mkD_no {p q:Rat} (no:NoSq (ab q)):mkD p q=.tup [fr p,fr q]:=by
  unfold mkD
  rw [dif_neg fun⟨r,_,e⟩=>no r e]
theorem mkD_zero {p:Rat}:mkD p 0=.tup [fr p,fr 0]:=by
  rw [mkD_root (r:=0) (by decide) (by unfold ab; grind),show p+sg 0 0=p by unfold sg; grind]
def F_made:DSp:=fun ds S k=>∃ p q:Rat,ds=[fr p,fr q]/\Sz 400000 p/\Sz 400000 q/\k (mkD p q) S
theorem sc_made:FnScope ["part","under","root"] ["part","under"] (defScope s_made):=⟨rfl,rfl,rfl,by decide +kernel,rfl,by decide +kernel,by decide +kernel⟩
theorem ok_made {P:Program} {w:World} {K:Fg} {mg:Str->Option Value} {base:Heap} {f:Addr} {fd:FuncData} (Fn:Fun K "made" "made" s_made f fd) (c_root_in:Own P w K mg base "root_in" 36 F_root_in) (c_without_sign:Own P w K mg base "without_sign" 1 F_without_sign) (c_plus:Own P w K mg base "plus" 35 F_plus) (c_with_sign_of:Own P w K mg base "with_sign_of" 2 F_with_sign_of) (g_NOUGHT:GTup K mg "NOUGHT" [0,1]):
    FnOk P w K mg base CX0 37 f fd ["part","under"] (spU K F_made):=by
  refine Fn.okJ sc_made (fun ds S k h=>?_) (fun cdv A outer s H E hr=>⟨_,(ds_consj (dst_setj (i:=2) sc_made.nd (d_callj c_root_in (hr.mono (by decide)) rfl (da_consj (d_callj c_without_sign (hr.mono (by decide)) rfl (da_consj (d_varj 1) da_nilj)) da_nilj))) (ds_consj (dst_ifj (dt_cmpj o_is (d_varj 2) d_nonj (nomark _)) (ds_onej (dst_retj (d_tupj (da_consj (d_varj 0) (da_consj (d_varj 1) da_nilj))))) ds_nilj) (ds_onej (dst_retj (d_tupj (da_consj (d_callj c_plus (hr.mono (by decide)) rfl (da_consj (d_varj 0) (da_consj (d_callj c_with_sign_of (hr.mono (by decide)) rfl (da_consj (d_varj 2) (da_consj (d_varj 1) da_nilj))) da_nilj))) (da_consj (d_gtup g_NOUGHT rfl) da_nilj))))))),fun ds S k h=>?_⟩)
  · obtain⟨_,_,rfl,_⟩:=h
    rfl
  · obtain⟨p,q,rfl,hp,hq,w⟩:=h
    refine⟨q,rfl,ab q,rfl,ab_nn q,hq.ab.mono (by decide),fun r r0 rr=>?_,fun no=>⟨few,?_⟩⟩
    · rw [mkD_root r0 rr] at w
      exact⟨r,q,rfl,p,sg r q,rfl,hp.mono (by decide),((hq.ab.root rr).sg).mono (by decide),few,w⟩
    · rw [mkD_no no] at w
      exact w
def F_field_base:DSp:=fun ds S k=>∃ u a b c d:Rat,ds=[N u a b,N u c d]/\0 < u/\k (fr (pick b d*pick b d*u)) S
theorem sc_field_base:FnScope ["one","other"] ["one","other"] (defScope s_field_base):=⟨rfl,rfl,rfl,by decide +kernel,rfl,by decide +kernel,by decide +kernel⟩
theorem ok_field_base {P:Program} {w:World} {K:Fg} {mg:Str->Option Value} {base:Heap} {f:Addr} {fd:FuncData} (Fn:Fun K "field_base" "field_base" s_field_base f fd) (c_without_sign:Own P w K mg base "without_sign" 1 F_without_sign) (c_is_plain:Own P w K mg base "is_plain" 1 F_is_plain):
    FnOk P w K mg base CX0 2 f fd ["one","other"] (spU K F_field_base):=by
  refine Fn.okJ sc_field_base (fun ds S k h=>?_) (fun cdv A outer s H E hr=>⟨_,(ds_onej (dst_retj (d_callj c_without_sign (hr.mono (by decide)) rfl (da_consj (d_ifj (dt_valj (d_callj c_is_plain (hr.mono (by decide)) rfl (da_consj (d_varj 0) da_nilj))) (d_ixj x_ixE (d_varj 1) d_intj (fun _ _=>rfl)) (d_ixj x_ixE (d_varj 0) d_intj (fun _ _=>rfl))) da_nilj)))),fun ds S k h=>?_⟩)
  · obtain⟨_,_,_,_,_,rfl,_⟩:=h
    rfl
  · obtain⟨u,a,b,c,d,rfl,u0,w⟩:=h
    refine⟨fr a,ss b*u,rfl,ite_dec (fun e=>⟨_,rfl,?_⟩) (fun e=>⟨_,rfl,?_⟩)⟩
    · have e2:b=0:=(ss_zero u0).mp e
      rw [show pick b d=d from if_pos e2] at w
      rw [ab_ss u0]
      exact w
    · have e2:¬ b=0:=fun z=>e ((ss_zero u0).mpr z)
      rw [show pick b d=b from if_neg e2] at w
      rw [ab_ss u0]
      exact w
def F_share:DSp:=fun ds S k=>∃ u a b e:Rat,ds=[N u a b,fr (e*e*u)]/\0 < u/\(b=0\/e≠0)/\Sm 120000 b e/\Sz 2800 u/\k (fr (b / ab e)) S
theorem sc_share:FnScope ["one","base","root"] ["one","base"] (defScope s_share):=⟨rfl,rfl,rfl,by decide +kernel,rfl,by decide +kernel,by decide +kernel⟩
theorem ok_share {P:Program} {w:World} {K:Fg} {mg:Str->Option Value} {base:Heap} {f:Addr} {fd:FuncData} (Fn:Fun K "share" "share" s_share f fd) (c_is_plain:Own P w K mg base "is_plain" 1 F_is_plain) (c_root_in:Own P w K mg base "root_in" 36 F_root_in) (c_over:Own P w K mg base "over" 35 F_over) (c_without_sign:Own P w K mg base "without_sign" 1 F_without_sign) (c_with_sign_of:Own P w K mg base "with_sign_of" 2 F_with_sign_of) (g_NOUGHT:GTup K mg "NOUGHT" [0,1]):
    FnOk P w K mg base CX0 37 f fd ["one","base"] (spU K F_share):=by
  refine Fn.okJ sc_share (fun ds S k h=>?_) (fun cdv A outer s H E hr=>⟨_,(ds_consj (dst_ifj (dt_valj (d_callj c_is_plain (hr.mono (by decide)) rfl (da_consj (d_varj 0) da_nilj))) (ds_onej (dst_retj (d_gtup g_NOUGHT rfl))) ds_nilj) (ds_consj (dst_setj (i:=2) sc_share.nd (d_callj c_root_in (hr.mono (by decide)) rfl (da_consj (d_callj c_over (hr.mono (by decide)) rfl (da_consj (d_callj c_without_sign (hr.mono (by decide)) rfl (da_consj (d_ixj x_ixE (d_varj 0) d_intj (fun _ _=>rfl)) da_nilj)) (da_consj (d_varj 1) da_nilj))) da_nilj))) (ds_consj (dst_ifj (dt_cmpj o_is (d_varj 2) d_nonj (nomark _)) (ds_onej dst_neverj) ds_nilj) (ds_onej (dst_retj (d_callj c_with_sign_of (hr.mono (by decide)) rfl (da_consj (d_varj 2) (da_consj (d_ixj x_ixE (d_varj 0) d_intj (fun _ _=>rfl)) da_nilj)))))))),fun ds S k h=>?_⟩)
  · obtain⟨_,_,_,_,rfl,_⟩:=h
    rfl
  · obtain⟨u,a,b,e,rfl,u0,hbe,hs,hu,w⟩:=h
    refine⟨fr a,ss b*u,rfl,ite_dec (fun z=>?_) (fun z=>?_)⟩
    · have e2:b=0:=(ss_zero u0).mp z
      subst e2
      rw [show (0:Rat) / ab e=0 by grind] at w
      exact w
    · have e2:¬ b=0:=fun q=>z ((ss_zero u0).mpr q)
      have e0:e≠0:=hbe.resolve_left e2
      have ne:e*e*u≠0:=by grind
      have ea:ab (ss b*u)=b*b*u:=ab_ss u0
      have s1:Sz 242800 (ab (ss b*u)):=(hs.a.ss.mul hu).ab
      have s2:Sz 242800 (e*e*u):=(hs.b.mul hs.b).mul hu
      have nn:0<=ab (ss b*u) / (e*e*u):=div_nn (ab_nn _) (Rat.mul_nonneg (rat_sq_nonneg e) (Rat.le_of_lt u0))
      refine⟨_,rfl,ab (ss b*u),e*e*u,rfl,ne,s1.mono (by decide),s2.mono (by decide),_,rfl,nn,(s1.div s2 ne).mono (by decide),fun r r0 rr=>?_,fun no=>?_⟩
      · rw [ea] at rr
        have er:=share_root u0 e0 r0 rr
        subst er
        refine⟨_,ss b*u,rfl,?_⟩
        rw [share_sg u0]
        exact w
      · rw [ea] at no
        exact absurd (share_sq u0 e0) (no _)
def F_joined:DSp:=fun ds S k=>∃ a p c:Rat,ds=[fr a,fr p,fr c]/\Sz 760000 p/\Sz 400000 c/\k (.tup [fr a,fr (ss p*c)]) S
theorem sc_joined:FnScope ["part","portion","base","under"] ["part","portion","base"] (defScope s_joined):=⟨rfl,rfl,rfl,by decide +kernel,rfl,by decide +kernel,by decide +kernel⟩
theorem ok_joined {P:Program} {w:World} {K:Fg} {mg:Str->Option Value} {base:Heap} {f:Addr} {fd:FuncData} (Fn:Fun K "joined" "joined" s_joined f fd) (c_times:Own P w K mg base "times" 35 F_times) (c_with_sign_of:Own P w K mg base "with_sign_of" 2 F_with_sign_of):
    FnOk P w K mg base CX0 36 f fd ["part","portion","base"] (spU K F_joined):=by
  refine Fn.okJ sc_joined (fun ds S k h=>?_) (fun cdv A outer s H E hr=>⟨_,(ds_consj (dst_setj (i:=3) sc_joined.nd (d_callj c_times (hr.mono (by decide)) rfl (da_consj (d_callj c_times (hr.mono (by decide)) rfl (da_consj (d_varj 1) (da_consj (d_varj 1) da_nilj))) (da_consj (d_varj 2) da_nilj)))) (ds_onej (dst_retj (d_tupj (da_consj (d_varj 0) (da_consj (d_callj c_with_sign_of (hr.mono (by decide)) rfl (da_consj (d_varj 3) (da_consj (d_varj 1) da_nilj))) da_nilj)))))),fun ds S k h=>?_⟩)
  · obtain⟨_,_,_,rfl,_⟩:=h
    rfl
  · obtain⟨a,p,c,rfl,hp,hc,w⟩:=h
    refine⟨p,p,rfl,hp.mono (by decide),hp.mono (by decide),p*p,c,rfl,(hp.mul hp).mono (by decide),hc.mono (by decide),p*p*c,p,rfl,few,?_⟩
    rw [sg_ss]
    exact w
def F_root_negative:DSp:=fun ds S k=>∃ u a b:Rat,ds=[N u a b]/\k (N u (-a) (-b)) S
theorem sc_root_negative:FnScope ["one"] ["one"] (defScope s_root_negative):=⟨rfl,rfl,rfl,by decide +kernel,rfl,by decide +kernel,by decide +kernel⟩
theorem ok_root_negative {P:Program} {w:World} {K:Fg} {mg:Str->Option Value} {base:Heap} {f:Addr} {fd:FuncData} (Fn:Fun K "root_negative" "root_negative" s_root_negative f fd) (c_negative:Own P w K mg base "negative" 1 F_negative):
    FnOk P w K mg base CX0 2 f fd ["one"] (spU K F_root_negative):=by
  refine Fn.okJ sc_root_negative (fun ds S k h=>?_) (fun cdv A outer s H E hr=>⟨_,(ds_onej (dst_retj (d_tupj (da_consj (d_callj c_negative (hr.mono (by decide)) rfl (da_consj (d_ixj x_ixE (d_varj 0) d_intj (fun _ _=>rfl)) da_nilj)) (da_consj (d_callj c_negative (hr.mono (by decide)) rfl (da_consj (d_ixj x_ixE (d_varj 0) d_intj (fun _ _=>rfl)) da_nilj)) da_nilj))))),fun ds S k h=>?_⟩)
  · obtain⟨_,_,_,rfl,_⟩:=h
    rfl
  · obtain⟨u,a,b,rfl,w⟩:=h
    refine⟨a,rfl,ss b*u,rfl,few,?_⟩
    unfold N at w
    rw [ss_negate,show -ss b*u=-(ss b*u) by grind] at w
    exact w
def bs (u b d:Rat):Rat:=pick b d*pick b d*u
theorem bs_sz {u b d:Rat} (hu:Fd u) (hb:Sz 120000 b) (hd:Sz 120000 d):Sz 242800 (bs u b d):=((hb.pick hd).mul (hb.pick hd)).mul hu.sz
theorem sh_sz {b d e:Rat} (hb:Sz 120000 b) (he:Sz 120000 e):Sz 240400 (b / ab e):=(hb.div' he.ab).mono (by decide)
def F_root_plus:DSp:=fun ds S k=>∃ u a b c d:Rat,ds=[N u a b,N u c d]/\Fd u/\Sm 120000 a b/\Sm 120000 c d/\k (N u (a+c) (b+d)) S
theorem sc_root_plus:FnScope ["one","other","base","portion"] ["one","other"] (defScope s_root_plus):=⟨rfl,rfl,rfl,by decide +kernel,rfl,by decide +kernel,by decide +kernel⟩
theorem ok_root_plus {P:Program} {w:World} {K:Fg} {mg:Str->Option Value} {base:Heap} {f:Addr} {fd:FuncData} (Fn:Fun K "root_plus" "root_plus" s_root_plus f fd) (c_field_base:Own P w K mg base "field_base" 2 F_field_base) (c_plus:Own P w K mg base "plus" 35 F_plus) (c_share:Own P w K mg base "share" 37 F_share) (c_joined:Own P w K mg base "joined" 36 F_joined):
    FnOk P w K mg base CX0 38 f fd ["one","other"] (spU K F_root_plus):=by
  refine Fn.okJ sc_root_plus (fun ds S k h=>?_) (fun cdv A outer s H E hr=>⟨_,(ds_consj (dst_setj (i:=2) sc_root_plus.nd (d_callj c_field_base (hr.mono (by decide)) rfl (da_consj (d_varj 0) (da_consj (d_varj 1) da_nilj)))) (ds_consj (dst_setj (i:=3) sc_root_plus.nd (d_callj c_plus (hr.mono (by decide)) rfl (da_consj (d_callj c_share (hr.mono (by decide)) rfl (da_consj (d_varj 0) (da_consj (d_varj 2) da_nilj))) (da_consj (d_callj c_share (hr.mono (by decide)) rfl (da_consj (d_varj 1) (da_consj (d_varj 2) da_nilj))) da_nilj)))) (ds_onej (dst_retj (d_callj c_joined (hr.mono (by decide)) rfl (da_consj (d_callj c_plus (hr.mono (by decide)) rfl (da_consj (d_ixj x_ixE (d_varj 0) d_intj (fun _ _=>rfl)) (da_consj (d_ixj x_ixE (d_varj 1) d_intj (fun _ _=>rfl)) da_nilj))) (da_consj (d_varj 3) (da_consj (d_varj 2) da_nilj)))))))),fun ds S k h=>?_⟩)
  · obtain⟨_,_,_,_,_,rfl,_⟩:=h
    rfl
  · obtain⟨u,a,b,c,d,rfl,hu,h1,h2,w⟩:=h
    have hp:=h1.b.pick h2.b
    have s1:=sh_sz (d:=d) h1.b hp
    have s2:=sh_sz (d:=d) h2.b hp
    refine⟨u,a,b,c,d,rfl,hu.pos,u,a,b,pick b d,rfl,hu.pos,pick_b,⟨h1.b,hp⟩,hu.sz,u,c,d,pick b d,rfl,hu.pos,pick_d,⟨h2.b,hp⟩,hu.sz,_,_,rfl,s1.mono (by decide),s2.mono (by decide),?_⟩
    refine⟨a,c,rfl,h1.a.mono (by decide),h2.a.mono (by decide),_,_,_,rfl,(s1.add s2).mono (by decide),(bs_sz hu h1.b h2.b).mono (by decide),?_⟩
    rw [plus_join]
    exact w
def F_root_minus:DSp:=fun ds S k=>∃ u a b c d:Rat,ds=[N u a b,N u c d]/\Fd u/\Sm 120000 a b/\Sm 120000 c d/\k (N u (a - c) (b - d)) S
theorem sc_root_minus:FnScope ["one","other"] ["one","other"] (defScope s_root_minus):=⟨rfl,rfl,rfl,by decide +kernel,rfl,by decide +kernel,by decide +kernel⟩
theorem ok_root_minus {P:Program} {w:World} {K:Fg} {mg:Str->Option Value} {base:Heap} {f:Addr} {fd:FuncData} (Fn:Fun K "root_minus" "root_minus" s_root_minus f fd) (c_root_plus:Own P w K mg base "root_plus" 38 F_root_plus) (c_root_negative:Own P w K mg base "root_negative" 2 F_root_negative):
    FnOk P w K mg base CX0 39 f fd ["one","other"] (spU K F_root_minus):=by
  refine Fn.okJ sc_root_minus (fun ds S k h=>?_) (fun cdv A outer s H E hr=>⟨_,(ds_onej (dst_retj (d_callj c_root_plus (hr.mono (by decide)) rfl (da_consj (d_varj 0) (da_consj (d_callj c_root_negative (hr.mono (by decide)) rfl (da_consj (d_varj 1) da_nilj)) da_nilj))))),fun ds S k h=>?_⟩)
  · obtain⟨_,_,_,_,_,rfl,_⟩:=h
    rfl
  · obtain⟨u,a,b,c,d,rfl,hu,h1,h2,w⟩:=h
    refine⟨u,c,d,rfl,u,a,b,-c,-d,rfl,hu,h1,h2.neg,?_⟩
    rw [show a - c=a+-c by grind,show b - d=b+-d by grind] at w
    exact w
def F_root_times:DSp:=fun ds S k=>∃ u a b c d:Rat,ds=[N u a b,N u c d]/\Fd u/\Sm 120000 a b/\Sm 120000 c d/\k (N u (a*c+b*d*u) (a*d+b*c)) S
theorem sc_root_times:FnScope ["one","other","base","mine","theirs","part","portion"] ["one","other"] (defScope s_root_times):=⟨rfl,rfl,rfl,by decide +kernel,rfl,by decide +kernel,by decide +kernel⟩
theorem ok_root_times {P:Program} {w:World} {K:Fg} {mg:Str->Option Value} {base:Heap} {f:Addr} {fd:FuncData} (Fn:Fun K "root_times" "root_times" s_root_times f fd) (c_field_base:Own P w K mg base "field_base" 2 F_field_base) (c_share:Own P w K mg base "share" 37 F_share) (c_plus:Own P w K mg base "plus" 35 F_plus) (c_times:Own P w K mg base "times" 35 F_times) (c_joined:Own P w K mg base "joined" 36 F_joined):
    FnOk P w K mg base CX0 38 f fd ["one","other"] (spU K F_root_times):=by
  refine Fn.okJ sc_root_times (fun ds S k h=>?_) (fun cdv A outer s H E hr=>⟨_,(ds_consj (dst_setj (i:=2) sc_root_times.nd (d_callj c_field_base (hr.mono (by decide)) rfl (da_consj (d_varj 0) (da_consj (d_varj 1) da_nilj)))) (ds_consj (dst_setj (i:=3) sc_root_times.nd (d_callj c_share (hr.mono (by decide)) rfl (da_consj (d_varj 0) (da_consj (d_varj 2) da_nilj)))) (ds_consj (dst_setj (i:=4) sc_root_times.nd (d_callj c_share (hr.mono (by decide)) rfl (da_consj (d_varj 1) (da_consj (d_varj 2) da_nilj)))) (ds_consj (dst_setj (i:=5) sc_root_times.nd (d_callj c_plus (hr.mono (by decide)) rfl (da_consj (d_callj c_times (hr.mono (by decide)) rfl (da_consj (d_ixj x_ixE (d_varj 0) d_intj (fun _ _=>rfl)) (da_consj (d_ixj x_ixE (d_varj 1) d_intj (fun _ _=>rfl)) da_nilj))) (da_consj (d_callj c_times (hr.mono (by decide)) rfl (da_consj (d_callj c_times (hr.mono (by decide)) rfl (da_consj (d_varj 3) (da_consj (d_varj 4) da_nilj))) (da_consj (d_varj 2) da_nilj))) da_nilj)))) (ds_consj (dst_setj (i:=6) sc_root_times.nd (d_callj c_plus (hr.mono (by decide)) rfl (da_consj (d_callj c_times (hr.mono (by decide)) rfl (da_consj (d_ixj x_ixE (d_varj 0) d_intj (fun _ _=>rfl)) (da_consj (d_varj 4) da_nilj))) (da_consj (d_callj c_times (hr.mono (by decide)) rfl (da_consj (d_ixj x_ixE (d_varj 1) d_intj (fun _ _=>rfl)) (da_consj (d_varj 3) da_nilj))) da_nilj)))) (ds_onej (dst_retj (d_callj c_joined (hr.mono (by decide)) rfl (da_consj (d_varj 5) (da_consj (d_varj 6) (da_consj (d_varj 2) da_nilj))))))))))),fun ds S k h=>?_⟩)
  · obtain⟨_,_,_,_,_,rfl,_⟩:=h
    rfl
  · obtain⟨u,a,b,c,d,rfl,hu,h1,h2,w⟩:=h
    have hp:=h1.b.pick h2.b
    have s1:=sh_sz (d:=d) h1.b hp
    have s2:=sh_sz (d:=d) h2.b hp
    have s3:=bs_sz hu h1.b h2.b
    refine⟨u,a,b,c,d,rfl,hu.pos,u,a,b,pick b d,rfl,hu.pos,pick_b,⟨h1.b,hp⟩,hu.sz,u,c,d,pick b d,rfl,hu.pos,pick_d,⟨h2.b,hp⟩,hu.sz,?_⟩
    refine⟨a,c,rfl,h1.a.mono (by decide),h2.a.mono (by decide),_,_,rfl,s1.mono (by decide),s2.mono (by decide),_,_,rfl,(s1.mul s2).mono (by decide),s3.mono (by decide),_,_,rfl,(h1.a.mul h2.a).mono (by decide),((s1.mul s2).mul s3).mono (by decide),?_⟩
    refine⟨a,_,rfl,h1.a.mono (by decide),s2.mono (by decide),c,_,rfl,h2.a.mono (by decide),s1.mono (by decide),_,_,rfl,(h1.a.mul s2).mono (by decide),(h2.a.mul s1).mono (by decide),?_⟩
    refine⟨_,_,_,rfl,((h1.a.mul s2).add (h2.a.mul s1)).mono (by decide),s3.mono (by decide),?_⟩
    rw [times_join,times_part]
    exact w
set_option maxHeartbeats 4000000
def F_sign_of:DSp:=fun ds S k=>match ds with
  | [.int i]=>k (.int (if i=0 then 0 else if i > 0 then 1 else -1)) S
  | _=>False
theorem sc_sign_of:FnScope ["number"] ["number"] (defScope s_sign_of):=⟨rfl,rfl,rfl,by decide +kernel,rfl,by decide +kernel,by decide +kernel⟩
theorem ok_sign_of {P:Program} {w:World} {K:Fg} {mg:Str->Option Value} {base:Heap} {f:Addr} {fd:FuncData} (Fn:Fun K "sign_of" "sign_of" s_sign_of f fd):
    FnOk P w K mg base CX0 1 f fd ["number"] (spU K F_sign_of):=by
  refine Fn.okJ sc_sign_of (fun ds S k h=>?_) (fun cdv A outer s H E hr=>⟨_,(ds_consj (dst_ifj (dt_cmpj o_eq (d_varj 0) d_intj (nomark _)) (ds_onej (dst_retj d_intj)) ds_nilj) (ds_onej (dst_retj (d_ifj (dt_cmpj o_gt (d_varj 0) d_intj (nomark _)) d_intj (d_unj o_neg d_intj))))),fun ds S k h=>?_⟩)
  · unfold F_sign_of at h
    split at h
    · rfl
    · exact h.elim
  · unfold F_sign_of at h
    split at h
    · rename_i i
      refine ite_dec (fun e=>?_) (fun e=>ite_dec (fun e2=>?_) (fun e2=>?_))
      · rw [if_pos e] at h; exact h
      · rw [if_neg e,if_pos e2] at h; exact h
      · rw [if_neg e,if_neg e2] at h; exact h
    · exact h.elim
def F_root_sign:DSp:=fun ds S k=>∃ u a b:Rat,ds=[N u a b]/\Fd u/\Sm 360000 a b/\k (.int (sq2 a b u)) S
theorem sc_root_sign:FnScope ["one","apart"] ["one"] (defScope s_root_sign):=⟨rfl,rfl,rfl,by decide +kernel,rfl,by decide +kernel,by decide +kernel⟩
theorem ok_root_sign {P:Program} {w:World} {K:Fg} {mg:Str->Option Value} {base:Heap} {f:Addr} {fd:FuncData} (Fn:Fun K "root_sign" "root_sign" s_root_sign f fd) (c_minus:Own P w K mg base "minus" 35 F_minus) (c_without_sign:Own P w K mg base "without_sign" 1 F_without_sign) (c_times:Own P w K mg base "times" 35 F_times) (c_sign_of:Own P w K mg base "sign_of" 1 F_sign_of):
    FnOk P w K mg base CX0 36 f fd ["one"] (spU K F_root_sign):=by
  refine Fn.okJ sc_root_sign (fun ds S k h=>?_) (fun cdv A outer s H E hr=>⟨_,(ds_consj (dst_setj (i:=1) sc_root_sign.nd (d_callj c_minus (hr.mono (by decide)) rfl (da_consj (d_callj c_times (hr.mono (by decide)) rfl (da_consj (d_ixj x_ixE (d_varj 0) d_intj (fun _ _=>rfl)) (da_consj (d_ixj x_ixE (d_varj 0) d_intj (fun _ _=>rfl)) da_nilj))) (da_consj (d_callj c_without_sign (hr.mono (by decide)) rfl (da_consj (d_ixj x_ixE (d_varj 0) d_intj (fun _ _=>rfl)) da_nilj)) da_nilj)))) (ds_onej (dst_retj (d_ifj (dt_cmpj o_gt (d_ixj x_ixE (d_varj 1) d_intj (fun _ _=>rfl)) d_intj (nomark _)) (d_callj c_sign_of (hr.mono (by decide)) rfl (da_consj (d_ixj x_ixE (d_ixj x_ixE (d_varj 0) d_intj (fun _ _=>rfl)) d_intj (fun _ _=>rfl)) da_nilj)) (d_callj c_sign_of (hr.mono (by decide)) rfl (da_consj (d_ixj x_ixE (d_ixj x_ixE (d_varj 0) d_intj (fun _ _=>rfl)) d_intj (fun _ _=>rfl)) da_nilj)))))),fun ds S k h=>?_⟩)
  · obtain⟨_,_,_,rfl,_⟩:=h
    rfl
  · obtain⟨u,a,b,rfl,hu,h1,w⟩:=h
    have ed:ab (ss b*u)=b*b*u:=ab_ss hu.pos
    have sa:Sz 722800 (ab (ss b*u)):=(h1.b.ss.mul hu.sz).ab
    refine⟨a,a,rfl,h1.a.mono (by decide),h1.a.mono (by decide),_,rfl,_,_,rfl,(h1.a.mul h1.a).mono (by decide),sa.mono (by decide),ite_dec (fun e=>?_) (fun e=>?_)⟩
    · rw [ed] at e
      rw [sq2_p ((num_pos_iff _).mp e),<- sgI_num] at w
      exact w
    · rw [ed] at e
      have e':¬ 0 < a*a - b*b*u:=fun z=>e ((num_pos_iff _).mpr z)
      rw [show sq2 a b u=sgR b from if_neg e',<- sgR_ss (b:=b) hu.pos,<- sgI_num] at w
      exact w
set_option maxHeartbeats 4000000
def Ext (S S':DH):Prop:=∀ b o,S b=some o->S' b=some o
theorem Ext.refl (S:DH):Ext S S:=fun _ _ h=>h
theorem Ext.trans {S S1 S2:DH} (a:Ext S S1) (b:Ext S1 S2):Ext S S2:=fun c o h=>b c o (a c o h)
theorem Ext.new {S:DH} {p:Addr} {o:DO} (h:S p=none):Ext S (put S p o):=fun b u e=>by
  unfold put
  split
  · rename_i z; subst z; rw [h] at e; cases e
  · exact e
theorem Ext.put {S S1:DH} {p:Addr} {o:DO} (e:Ext S S1) (h:S p=none):Ext S (put S1 p o):=fun b u z=>by
  unfold DL.put
  split
  · rename_i y; subst y; rw [h] at z; cases z
  · exact e b u z
theorem Ext.none {S S1:DH} {p:Addr} (e:Ext S S1) (h:S1 p=none):S p=none:=by
  cases q:S p with
  | none=>rfl
  | some o=>rw [e p o q] at h; cases h
theorem plain_as {u r:Rat}:D.tup [fr r,fr 0]=N u r 0:=by
  unfold N
  rw [show ss 0*u=0 by unfold ss; grind]
abbrev Q:=Rat×Rat
def qa (x y:Q):Q:=(x.1+y.1,x.2+y.2)
def qs (x y:Q):Q:=(x.1 - y.1,x.2 - y.2)
def qm (u:Rat) (x y:Q):Q:=(x.1*y.1+x.2*y.2*u,x.1*y.2+x.2*y.1)
abbrev Sq (n:Nat) (x:Q):Prop:=Sm n x.1 x.2
theorem sqa {m n:Nat} {x y:Q} (h:Sq m x) (h':Sq n y):Sq (m+n+1) (qa x y):=h.add h'
theorem sqs {m n:Nat} {x y:Q} (h:Sq m x) (h':Sq n y):Sq (m+n+1) (qs x y):=h.sub h'
theorem sqm {m n:Nat} {x y:Q} {u:Rat} (hu:Fd u) (h:Sq m x) (h':Sq n y):Sq (2*(m+n)+2810) (qm u x y):=h.mul hu h'
def Pq (u:Rat) (x y:Q):D:=.tup [N u x.1 x.2,N u y.1 y.2]
def qo (p:Rat):Q:=(p,0)
theorem qo_sq {n:Nat} {p:Rat} (h:Sz n p) (hn:1<=n):Sq n (qo p):=⟨h,Sz.zero.mono hn⟩
def squareQ (u:Rat) (x y:Q):Q:=qa (qm u x x) (qm u y y)
def likeX (u:Rat) (x y z w p q:Q):Q:=qa x (qs (qm u p (qs z x)) (qm u q (qs w y)))
def likeY (u:Rat) (x y z w p q:Q):Q:=qa y (qa (qm u p (qs w y)) (qm u q (qs z x)))
def sideQ (u:Rat) (x y z w a b:Q):Q:=qs (qm u (qs z x) (qs b y)) (qm u (qs w y) (qs a x))
def F_one_field:DSp:=fun ds S k=>∃ u a b c d:Rat,ds=[N u a b,N u c d]/\0 < u/\Sz 2800 u/\Sz 120000 b/\Sz 120000 d/\k (.bl true) S
theorem sc_one_field:FnScope ["one","other"] ["one","other"] (defScope s_one_field):=⟨rfl,rfl,rfl,by decide +kernel,rfl,by decide +kernel,by decide +kernel⟩
theorem ok_one_field {P:Program} {w:World} {K:Fg} {mg:Str->Option Value} {base:Heap} {f:Addr} {fd:FuncData} (Fn:Fun K "one_field" "one_field" s_one_field f fd) (c_is_plain:Own P w K mg base "is_plain" 1 F_is_plain) (c_root_in:Own P w K mg base "root_in" 36 F_root_in) (c_over:Own P w K mg base "over" 35 F_over) (c_without_sign:Own P w K mg base "without_sign" 1 F_without_sign):
    FnOk P w K mg base CX0 37 f fd ["one","other"] (spU K F_one_field):=by
  refine Fn.okJ sc_one_field (fun ds S k h=>?_) (fun cdv A outer s H E hr=>⟨_,(ds_consj (dst_ifj (WJ.pt (dw_orj (dt_valj (d_callj c_is_plain (hr.mono (by decide)) rfl (da_consj (d_varj 0) da_nilj))) (dw_or1j (dt_valj (d_callj c_is_plain (hr.mono (by decide)) rfl (da_consj (d_varj 1) da_nilj)))))) (ds_onej (dst_retj d_blj)) ds_nilj) (ds_onej (dst_retj (d_cmpj o_isNot (d_callj c_root_in (hr.mono (by decide)) rfl (da_consj (d_callj c_over (hr.mono (by decide)) rfl (da_consj (d_callj c_without_sign (hr.mono (by decide)) rfl (da_consj (d_ixj x_ixE (d_varj 0) d_intj (fun _ _=>rfl)) da_nilj)) (da_consj (d_callj c_without_sign (hr.mono (by decide)) rfl (da_consj (d_ixj x_ixE (d_varj 1) d_intj (fun _ _=>rfl)) da_nilj)) da_nilj))) da_nilj)) d_nonj (nomark _))))),fun ds S k h=>?_⟩)
  · obtain⟨_,_,_,_,_,rfl,_⟩:=h
    rfl
  · obtain⟨u,a,b,c,d,rfl,u0,hu,hb,hd,w⟩:=h
    refine⟨fr a,ss b*u,rfl,ite_dec (fun _=>w) (fun e=>⟨fr c,ss d*u,rfl,ite_dec (fun _=>w) (fun e2=>?_)⟩)⟩
    have d0:d≠0:=fun z=>e2 ((ss_zero u0).mpr z)
    have eb:ab (ss b*u)=b*b*u:=ab_ss u0
    have ed:ab (ss d*u)=d*d*u:=ab_ss u0
    have s1:Sz 242800 (ab (ss b*u)):=(hb.ss.mul hu).ab
    have s2:Sz 242800 (ab (ss d*u)):=(hd.ss.mul hu).ab
    have ne:ab (ss d*u)≠0:=by rw [ed]; grind
    refine⟨_,rfl,_,rfl,_,_,rfl,ne,s1.mono (by decide),s2.mono (by decide),_,rfl,div_nn (ab_nn _) (ab_nn _),(s1.div s2 ne).mono (by decide),fun r r0 rr=>w,fun no=>?_⟩
    rw [eb,ed] at no
    exact absurd (share_sq u0 d0) (no _)
def PtU (u:Rat) (p:D):Prop:=∃ a b c d:Rat,p=.tup [N u a b,N u c d]/\Sm 120000 a b/\Sm 120000 c d
def RtU (u:Rat) (x:D):Prop:=∃ a b:Rat,x=N u a b/\b≠0/\Sm 120000 a b
theorem PtU.of {u:Rat} {n:Nat} {x y:Q} (hx:Sq n x) (hy:Sq n y) (h:n<=120000):PtU u (Pq u x y):=⟨_,_,_,_,rfl,hx.mono h,hy.mono h⟩
def F_ask_one_field:DSp:=fun ds S k=>∃ (u:Rat) (pts:List D),ds=[.tup pts]/\Fd u/\(∀ p∈pts,PtU u p)/\pts.length<=100/\∀ S',Ext S S'->k .non S'
theorem sc_ask_one_field:FnScope ["points","rooted","point","number"] ["points"] (defScope s_ask_one_field):=⟨rfl,rfl,rfl,by decide +kernel,rfl,by decide +kernel,by decide +kernel⟩
theorem ok_ask_one_field {P:Program} {w:World} {K:Fg} {mg:Str->Option Value} {base:Heap} {f:Addr} {fd:FuncData} (Fn:Fun K "ask_one_field" "ask_one_field" s_ask_one_field f fd) (c_is_plain:Own P w K mg base "is_plain" 1 F_is_plain) (c_one_field:Own P w K mg base "one_field" 37 F_one_field):
    FnOk P w K mg base CX0 38 f fd ["points"] (spU K F_ask_one_field):=by
  refine Fn.okJ sc_ask_one_field (fun ds S k h=>?_) (fun cdv A outer s H E hr=>⟨_,(ds_consj (dst_setj (i:=1) sc_ask_one_field.nd (d_lstj da_nilj)) (ds_consj (dst_forEj PassesOwn.never rfl (d_varj 0) (dg_namej (i:=2) sc_ask_one_field.nd) (ds_onej (dst_exprj (d_extj (d_varj 1) (d_compEIfj rfl (compSc (N:=["number"]) (cap:=[none]) rfl rfl rfl rfl trivial rfl rfl trivial) (d_varj 2) (fun _ _ _ _=>(dg_namej (i:=0) (show List.Nodup (["number"]:List Str) from by decide +kernel))) (fun _ _ _ _=>(dt_notj (dt_valj (d_callj c_is_plain (hr.mono (by decide)) rfl (da_consj (d_varj 0) da_nilj))))) (fun _ _ _ _=>(d_varj 0))))))) (ds_onej (dst_forEj PassesOwn.never rfl (d_cutEj (d_varj 1) (do_somej d_intj) do_nonej) (dg_namej (i:=3) sc_ask_one_field.nd) (ds_onej (dst_ifj (dt_notj (dt_valj (d_callj c_one_field (hr.mono (by decide)) rfl (da_consj (d_ixj x_ixE (d_varj 1) d_intj (fun _ _=>rfl)) (da_consj (d_varj 3) da_nilj))))) (ds_onej dst_neverj) ds_nilj)))))),fun ds S k h=>?_⟩)
  · obtain⟨_,_,rfl,_⟩:=h
    rfl
  · obtain⟨u,pts,rfl,hu,hp,hl,w⟩:=h
    refine⟨few,fun q hq=>?_⟩
    refine⟨(pts,none),rfl,?_⟩
    have big:∀ n:Nat,n<=300->n<=sizeLine:=fun n h=>Nat.le_trans h (Nat.le_of_ble_eq_true (rfl:Nat.ble 300 sizeLine=true))
    have big':∀ n:Nat,n < 300->n < sizeLine:=fun n h=>Nat.lt_of_lt_of_le h (Nat.le_of_ble_eq_true (rfl:Nat.ble 300 sizeLine=true))
    refine loop_ix (fun r L S'=>∃ xs l2 l3,L=[some (.tup pts),some (.ref q),l2,l3]/\Ext S S'/\S' q=some (.lst xs)/\(∀ x∈xs,RtU u x)/\xs.length+2*r.length<=200/\(∀ p∈r,PtU u p)) (fun _ _ _ _=>trivial) ?_ ?_ pts _ _ ⟨[],none,none,rfl,Ext.new hq,put_same,(fun _ z=>by cases z),(by show 0+2*pts.length<=200; omega),hp⟩
    · rintro d r L S1 Nx ⟨xs,l2,l3,rfl,e,hS1,hx,hl1,hp1⟩ hN
      obtain⟨a,b,c,d,rfl,s1,s2⟩:=hp1 _ List.mem_cons_self
      have hl1:xs.length+2*(r.length+1)<=200:=hl1
      refine⟨⟨xs,hS1⟩,([N u a b,N u c d],none),rfl,fun p hp2=>?_⟩
      have qp:q≠p:=fun z=>by subst z; rw [hS1] at hp2; cases hp2
      have sp:S p=none:=e.none hp2
      have fin:∀ (es:List D) (S2:DH),Ext S S2->S2 q=some (.lst xs)->S2 p=some (.lst es)->es.length<=2->(∀ x∈es,RtU u x)->∃ ds es',S2 q=some (.lst ds)/\S2 p=some (.lst es')/\ds.length+es'.length<=sizeLine/\Nx [some (.tup pts),some (.ref q),some (.tup [N u a b,N u c d]),l3] (put S2 q (.lst (ds++es'))):=fun es S2 e2 h1 h2 h3 h4=>
        ⟨xs,es,h1,h2,big _ (by omega),hN _ _ ⟨xs++es,_,_,rfl,e2.put hq,put_same,fun x hx2=>(List.mem_append.mp hx2).elim (hx x) (h4 x),by rw [List.length_append]; omega,fun p hp3=>hp1 p (List.mem_cons_of_mem _ hp3)⟩⟩
      have r1:b≠0->RtU u (N u a b):=fun h=>⟨a,b,rfl,h,s1⟩
      have r2:d≠0->RtU u (N u c d):=fun h=>⟨c,d,rfl,h,s2⟩
      have nz:∀ {b:Rat},¬ ss b*u=0->b≠0:=fun h z=>h ((ss_zero hu.pos).mpr z)
      have e0:Ext S (put S1 p (.lst [])):=e.put sp
      have q0:put S1 p (.lst []) q=some (.lst xs):=by rw [put_ne qp]; exact hS1
      refine⟨trivial,_,_,rfl,ite_ndec (fun h1=>⟨put_same,big' 0 (by decide),trivial,_,_,rfl,ite_ndec (fun h2=>⟨put_same,big' 1 (by decide),trivial,?_⟩) (fun h2=>⟨trivial,?_⟩)⟩) (fun h1=>⟨trivial,_,_,rfl,ite_ndec (fun h2=>⟨put_same,big' 0 (by decide),trivial,?_⟩) (fun h2=>⟨trivial,?_⟩)⟩)⟩
      · exact fin [N u a b,N u c d] _ ((e0.put sp).put sp) (by rw [put_ne qp,put_ne qp]; exact q0) put_same (by show 2<=2; decide) (fun x hx2=>by
          simp only [List.mem_cons,List.not_mem_nil,or_false] at hx2
          rcases hx2 with rfl | rfl
          · exact r1 (nz h1)
          · exact r2 (nz h2))
      · exact fin [N u a b] _ (e0.put sp) (by rw [put_ne qp]; exact q0) put_same (by show 1<=2; decide) (fun x hx2=>by
          simp only [List.mem_cons,List.not_mem_nil,or_false] at hx2
          subst hx2
          exact r1 (nz h1))
      · exact fin [N u c d] _ (e0.put sp) (by rw [put_ne qp]; exact q0) put_same (by show 1<=2; decide) (fun x hx2=>by
          simp only [List.mem_cons,List.not_mem_nil,or_false] at hx2
          subst hx2
          exact r2 (nz h2))
      · exact fin [] _ e0 q0 put_same (by show 0<=2; decide) (fun x hx2=>by cases hx2)
    · rintro L S1 ⟨xs,l2,l3,rfl,e,hS1,hx,_,_⟩
      refine⟨xs,hS1,fun p hp2=>⟨(cutD xs (some 1) none,some p),by simp only [dItems,put_same],?_⟩⟩
      have qp:q≠p:=fun z=>by subst z; rw [hS1] at hp2; cases hp2
      refine loop_ix (fun r L S2=>∃ l2 l3,L=[some (.tup pts),some (.ref q),l2,l3]/\Ext S S2/\S2 q=some (.lst xs)/\S2 p=some (.lst (cutD xs (some 1) none))/\(xs=[]->r=[])/\∀ x∈r,RtU u x) (fun r L S2 ⟨_,_,_,_,_,z,_⟩=>z) ?_ (fun L S2 ⟨_,_,_,e2,_⟩=>w S2 e2) _ _ _ ⟨l2,l3,rfl,e.put (e.none hp2),(put_ne qp).trans hS1,put_same,(fun z=>by subst z; rfl),fun x hx2=>hx x (mem_cutD hx2)⟩
      rintro d r L S2 Nx ⟨l2,l3,rfl,e2,h1,h2,h3,hr⟩ hN
      obtain⟨a,b,rfl,b0,sb⟩:=hr _ List.mem_cons_self
      cases xs with
      | nil=>cases h3 rfl
      | cons x0 xr=>
        obtain⟨a',b',rfl,b0',sb'⟩:=hx _ List.mem_cons_self
        exact⟨_,_,h1,atI0,u,a',b',a,b,rfl,hu.pos,hu.sz,sb'.b,sb.b,ite_nb (fun z=>by cases z) (fun _=>hN _ _ ⟨_,_,rfl,e2,h1,h2,(fun z=>by cases z),fun x hx2=>hr x (List.mem_cons_of_mem _ hx2)⟩)⟩
def F_way_between:DSp:=fun ds S k=>∃ (u:Rat) (x y z v:Q),ds=[Pq u x y,Pq u z v]/\Fd u/\Sq 120000 x/\Sq 120000 y/\Sq 120000 z/\Sq 120000 v/\k (Pq u (qs z x) (qs v y)) S
theorem sc_way_between:FnScope ["one","other"] ["one","other"] (defScope s_way_between):=⟨rfl,rfl,rfl,by decide +kernel,rfl,by decide +kernel,by decide +kernel⟩
theorem ok_way_between {P:Program} {w:World} {K:Fg} {mg:Str->Option Value} {base:Heap} {f:Addr} {fd:FuncData} (Fn:Fun K "way_between" "way_between" s_way_between f fd) (c_root_minus:Own P w K mg base "root_minus" 39 F_root_minus):
    FnOk P w K mg base CX0 40 f fd ["one","other"] (spU K F_way_between):=by
  refine Fn.okJ sc_way_between (fun ds S k h=>?_) (fun cdv A outer s H E hr=>⟨_,(ds_onej (dst_retj (d_tupj (da_consj (d_callj c_root_minus (hr.mono (by decide)) rfl (da_consj (d_ixj x_ixE (d_varj 1) d_intj (fun _ _=>rfl)) (da_consj (d_ixj x_ixE (d_varj 0) d_intj (fun _ _=>rfl)) da_nilj))) (da_consj (d_callj c_root_minus (hr.mono (by decide)) rfl (da_consj (d_ixj x_ixE (d_varj 1) d_intj (fun _ _=>rfl)) (da_consj (d_ixj x_ixE (d_varj 0) d_intj (fun _ _=>rfl)) da_nilj))) da_nilj))))),fun ds S k h=>?_⟩)
  · obtain⟨_,_,_,_,_,rfl,_⟩:=h
    rfl
  · obtain⟨u,x,y,z,v,rfl,hu,hx,hy,hz,hv,w⟩:=h
    exact⟨u,_,_,_,_,rfl,hu,hz,hx,u,_,_,_,_,rfl,hu,hv,hy,few,w⟩
def F_square_of_way:DSp:=fun ds S k=>∃ (u:Rat) (x y:Q),ds=[Pq u x y]/\Fd u/\Sq 29200 x/\Sq 29200 y/\k (N u (squareQ u x y).1 (squareQ u x y).2) S
theorem sc_square_of_way:FnScope ["way"] ["way"] (defScope s_square_of_way):=⟨rfl,rfl,rfl,by decide +kernel,rfl,by decide +kernel,by decide +kernel⟩
theorem ok_square_of_way {P:Program} {w:World} {K:Fg} {mg:Str->Option Value} {base:Heap} {f:Addr} {fd:FuncData} (Fn:Fun K "square_of_way" "square_of_way" s_square_of_way f fd) (c_root_plus:Own P w K mg base "root_plus" 38 F_root_plus) (c_root_times:Own P w K mg base "root_times" 38 F_root_times):
    FnOk P w K mg base CX0 39 f fd ["way"] (spU K F_square_of_way):=by
  refine Fn.okJ sc_square_of_way (fun ds S k h=>?_) (fun cdv A outer s H E hr=>⟨_,(ds_onej (dst_retj (d_callj c_root_plus (hr.mono (by decide)) rfl (da_consj (d_callj c_root_times (hr.mono (by decide)) rfl (da_consj (d_ixj x_ixE (d_varj 0) d_intj (fun _ _=>rfl)) (da_consj (d_ixj x_ixE (d_varj 0) d_intj (fun _ _=>rfl)) da_nilj))) (da_consj (d_callj c_root_times (hr.mono (by decide)) rfl (da_consj (d_ixj x_ixE (d_varj 0) d_intj (fun _ _=>rfl)) (da_consj (d_ixj x_ixE (d_varj 0) d_intj (fun _ _=>rfl)) da_nilj))) da_nilj))))),fun ds S k h=>?_⟩)
  · obtain⟨_,_,_,rfl,_⟩:=h
    rfl
  · obtain⟨u,x,y,rfl,hu,hx,hy,w⟩:=h
    have hx':Sq 120000 x:=hx.mono (by decide)
    have hy':Sq 120000 y:=hy.mono (by decide)
    exact⟨u,_,_,_,_,rfl,hu,hx',hx',u,_,_,_,_,rfl,hu,hy',hy',u,_,_,_,_,rfl,hu,(sqm hu hx hx).mono (by decide),(sqm hu hy hy).mono (by decide),w⟩
def F_square_apart:DSp:=fun ds S k=>∃ (u:Rat) (x y z v:Q),ds=[Pq u x y,Pq u z v]/\Fd u/\Sq 14400 x/\Sq 14400 y/\Sq 14400 z/\Sq 14400 v/\∀ S',Ext S S'->k (N u (squareQ u (qs z x) (qs v y)).1 (squareQ u (qs z x) (qs v y)).2) S'
theorem sc_square_apart:FnScope ["one","other"] ["one","other"] (defScope s_square_apart):=⟨rfl,rfl,rfl,by decide +kernel,rfl,by decide +kernel,by decide +kernel⟩
theorem ok_square_apart {P:Program} {w:World} {K:Fg} {mg:Str->Option Value} {base:Heap} {f:Addr} {fd:FuncData} (Fn:Fun K "square_apart" "square_apart" s_square_apart f fd) (c_ask_one_field:Own P w K mg base "ask_one_field" 38 F_ask_one_field) (c_square_of_way:Own P w K mg base "square_of_way" 39 F_square_of_way) (c_way_between:Own P w K mg base "way_between" 40 F_way_between):
    FnOk P w K mg base CX0 41 f fd ["one","other"] (spU K F_square_apart):=by
  refine Fn.okJ sc_square_apart (fun ds S k h=>?_) (fun cdv A outer s H E hr=>⟨_,(ds_consj (dst_exprj (d_callj c_ask_one_field (hr.mono (by decide)) rfl (da_consj (d_tupj (da_consj (d_varj 0) (da_consj (d_varj 1) da_nilj))) da_nilj))) (ds_onej (dst_retj (d_callj c_square_of_way (hr.mono (by decide)) rfl (da_consj (d_callj c_way_between (hr.mono (by decide)) rfl (da_consj (d_varj 0) (da_consj (d_varj 1) da_nilj))) da_nilj))))),fun ds S k h=>?_⟩)
  · obtain⟨_,_,_,_,_,rfl,_⟩:=h
    rfl
  · obtain⟨u,x,y,z,v,rfl,hu,hx,hy,hz,hv,w⟩:=h
    refine⟨few,u,[Pq u x y,Pq u z v],rfl,hu,?_,(by show 2<=100; decide),fun S' e=>?_⟩
    · intro p hp
      simp only [List.mem_cons,List.not_mem_nil,or_false] at hp
      rcases hp with rfl | rfl
      · exact PtU.of hx hy (by decide)
      · exact PtU.of hz hv (by decide)
    · exact⟨u,x,y,z,v,rfl,hu,hx.mono (by decide),hy.mono (by decide),hz.mono (by decide),hv.mono (by decide),u,_,_,rfl,hu,(sqs hz hx).mono (by decide),(sqs hv hy).mono (by decide),w S' e⟩
def F_like_at:DSp:=fun ds S k=>∃ (u:Rat) (x y z v:Q) (p q:Rat),ds=[Pq u x y,Pq u z v,fr p,fr q]/\Fd u/\Sq 4000 x/\Sq 4000 y/\Sq 4000 z/\Sq 4000 v/\Sz 4000 p/\Sz 4000 q/\∀ S',Ext S S'->k (Pq u (likeX u x y z v (qo p) (qo q)) (likeY u x y z v (qo p) (qo q))) S'
theorem sc_like_at:FnScope ["one","other","along","left","way","ahead","aside","x","y"] ["one","other","along","left"] (defScope s_like_at):=⟨rfl,rfl,rfl,by decide +kernel,rfl,by decide +kernel,by decide +kernel⟩
theorem ok_like_at {P:Program} {w:World} {K:Fg} {mg:Str->Option Value} {base:Heap} {f:Addr} {fd:FuncData} (Fn:Fun K "like_at" "like_at" s_like_at f fd) (c_ask_one_field:Own P w K mg base "ask_one_field" 38 F_ask_one_field) (c_way_between:Own P w K mg base "way_between" 40 F_way_between) (c_root_minus:Own P w K mg base "root_minus" 39 F_root_minus) (c_root_times:Own P w K mg base "root_times" 38 F_root_times) (c_root_plus:Own P w K mg base "root_plus" 38 F_root_plus) (g_NOUGHT:GTup K mg "NOUGHT" [0,1]):
    FnOk P w K mg base CX0 41 f fd ["one","other","along","left"] (spU K F_like_at):=by
  refine Fn.okJ sc_like_at (fun ds S k h=>?_) (fun cdv A outer s H E hr=>⟨_,(ds_consj (dst_exprj (d_callj c_ask_one_field (hr.mono (by decide)) rfl (da_consj (d_tupj (da_consj (d_varj 0) (da_consj (d_varj 1) da_nilj))) da_nilj))) (ds_consj (dst_setj (i:=4) sc_like_at.nd (d_callj c_way_between (hr.mono (by decide)) rfl (da_consj (d_varj 0) (da_consj (d_varj 1) da_nilj)))) (ds_consj (dst_setj (i:=5) sc_like_at.nd (d_tupj (da_consj (d_varj 2) (da_consj (d_gtup g_NOUGHT rfl) da_nilj)))) (ds_consj (dst_setj (i:=6) sc_like_at.nd (d_tupj (da_consj (d_varj 3) (da_consj (d_gtup g_NOUGHT rfl) da_nilj)))) (ds_consj (dst_setj (i:=7) sc_like_at.nd (d_callj c_root_minus (hr.mono (by decide)) rfl (da_consj (d_callj c_root_times (hr.mono (by decide)) rfl (da_consj (d_varj 5) (da_consj (d_ixj x_ixE (d_varj 4) d_intj (fun _ _=>rfl)) da_nilj))) (da_consj (d_callj c_root_times (hr.mono (by decide)) rfl (da_consj (d_varj 6) (da_consj (d_ixj x_ixE (d_varj 4) d_intj (fun _ _=>rfl)) da_nilj))) da_nilj)))) (ds_consj (dst_setj (i:=8) sc_like_at.nd (d_callj c_root_plus (hr.mono (by decide)) rfl (da_consj (d_callj c_root_times (hr.mono (by decide)) rfl (da_consj (d_varj 5) (da_consj (d_ixj x_ixE (d_varj 4) d_intj (fun _ _=>rfl)) da_nilj))) (da_consj (d_callj c_root_times (hr.mono (by decide)) rfl (da_consj (d_varj 6) (da_consj (d_ixj x_ixE (d_varj 4) d_intj (fun _ _=>rfl)) da_nilj))) da_nilj)))) (ds_onej (dst_retj (d_tupj (da_consj (d_callj c_root_plus (hr.mono (by decide)) rfl (da_consj (d_ixj x_ixE (d_varj 0) d_intj (fun _ _=>rfl)) (da_consj (d_varj 7) da_nilj))) (da_consj (d_callj c_root_plus (hr.mono (by decide)) rfl (da_consj (d_ixj x_ixE (d_varj 0) d_intj (fun _ _=>rfl)) (da_consj (d_varj 8) da_nilj))) da_nilj))))))))))),fun ds S k h=>?_⟩)
  · obtain⟨_,_,_,_,_,_,_,rfl,_⟩:=h
    rfl
  · obtain⟨u,x,y,z,v,p,q,rfl,hu,hx,hy,hz,hv,hp,hq,w⟩:=h
    refine⟨few,u,[Pq u x y,Pq u z v],rfl,hu,?_,(by show 2<=100; decide),fun S' e=>?_⟩
    · intro p hp
      simp only [List.mem_cons,List.not_mem_nil,or_false] at hp
      rcases hp with rfl | rfl
      · exact PtU.of hx hy (by decide)
      · exact PtU.of hz hv (by decide)
    · have sp:Sq 4000 (qo p):=qo_sq hp (by decide)
      have sq:Sq 4000 (qo q):=qo_sq hq (by decide)
      have s1:Sq 8400 (qs z x):=(sqs hz hx).mono (by decide)
      have s2:Sq 8400 (qs v y):=(sqs hv hy).mono (by decide)
      have m1:=sqm hu sp s1
      have m2:=sqm hu sq s2
      have m3:=sqm hu sp s2
      have m4:=sqm hu sq s1
      refine⟨u,x,y,z,v,rfl,hu,hx.mono (by decide),hy.mono (by decide),hz.mono (by decide),hv.mono (by decide),few,few,?_⟩
      refine⟨u,_,_,_,_,congrArg (fun t=>[t,_]) (plain_as (u:=u)),hu,sp.mono (by decide),s1.mono (by decide),?_⟩
      refine⟨u,_,_,_,_,congrArg (fun t=>[t,_]) (plain_as (u:=u)),hu,sq.mono (by decide),s2.mono (by decide),?_⟩
      refine⟨u,_,_,_,_,rfl,hu,m1.mono (by decide),m2.mono (by decide),?_⟩
      refine⟨u,_,_,_,_,congrArg (fun t=>[t,_]) (plain_as (u:=u)),hu,sp.mono (by decide),s2.mono (by decide),?_⟩
      refine⟨u,_,_,_,_,congrArg (fun t=>[t,_]) (plain_as (u:=u)),hu,sq.mono (by decide),s1.mono (by decide),?_⟩
      refine⟨u,_,_,_,_,rfl,hu,m3.mono (by decide),m4.mono (by decide),?_⟩
      exact⟨u,_,_,_,_,rfl,hu,hx.mono (by decide),(sqs m1 m2).mono (by decide),u,_,_,_,_,rfl,hu,hy.mono (by decide),(sqa m3 m4).mono (by decide),few,w S' e⟩
def F_side_of:DSp:=fun ds S k=>∃ (u:Rat) (x y z v a b:Q),ds=[Pq u x y,Pq u z v,Pq u a b]/\Fd u/\Sq 1600 x/\Sq 1600 y/\Sq 1600 z/\Sq 1600 v/\Sq 52000 a/\Sq 52000 b/\∀ S',Ext S S'->k (.int (sq2 (sideQ u x y z v a b).1 (sideQ u x y z v a b).2 u)) S'
theorem sc_side_of:FnScope ["one","other","third","way","beside"] ["one","other","third"] (defScope s_side_of):=⟨rfl,rfl,rfl,by decide +kernel,rfl,by decide +kernel,by decide +kernel⟩
theorem ok_side_of {P:Program} {w:World} {K:Fg} {mg:Str->Option Value} {base:Heap} {f:Addr} {fd:FuncData} (Fn:Fun K "side_of" "side_of" s_side_of f fd) (c_ask_one_field:Own P w K mg base "ask_one_field" 38 F_ask_one_field) (c_way_between:Own P w K mg base "way_between" 40 F_way_between) (c_root_sign:Own P w K mg base "root_sign" 36 F_root_sign) (c_root_minus:Own P w K mg base "root_minus" 39 F_root_minus) (c_root_times:Own P w K mg base "root_times" 38 F_root_times):
    FnOk P w K mg base CX0 41 f fd ["one","other","third"] (spU K F_side_of):=by
  refine Fn.okJ sc_side_of (fun ds S k h=>?_) (fun cdv A outer s H E hr=>⟨_,(ds_consj (dst_exprj (d_callj c_ask_one_field (hr.mono (by decide)) rfl (da_consj (d_tupj (da_consj (d_varj 0) (da_consj (d_varj 1) (da_consj (d_varj 2) da_nilj)))) da_nilj))) (ds_consj (dst_setj (i:=3) sc_side_of.nd (d_callj c_way_between (hr.mono (by decide)) rfl (da_consj (d_varj 0) (da_consj (d_varj 1) da_nilj)))) (ds_consj (dst_setj (i:=4) sc_side_of.nd (d_callj c_way_between (hr.mono (by decide)) rfl (da_consj (d_varj 0) (da_consj (d_varj 2) da_nilj)))) (ds_onej (dst_retj (d_callj c_root_sign (hr.mono (by decide)) rfl (da_consj (d_callj c_root_minus (hr.mono (by decide)) rfl (da_consj (d_callj c_root_times (hr.mono (by decide)) rfl (da_consj (d_ixj x_ixE (d_varj 3) d_intj (fun _ _=>rfl)) (da_consj (d_ixj x_ixE (d_varj 4) d_intj (fun _ _=>rfl)) da_nilj))) (da_consj (d_callj c_root_times (hr.mono (by decide)) rfl (da_consj (d_ixj x_ixE (d_varj 3) d_intj (fun _ _=>rfl)) (da_consj (d_ixj x_ixE (d_varj 4) d_intj (fun _ _=>rfl)) da_nilj))) da_nilj))) da_nilj))))))),fun ds S k h=>?_⟩)
  · obtain⟨_,_,_,_,_,_,_,rfl,_⟩:=h
    rfl
  · obtain⟨u,x,y,z,v,a,b,rfl,hu,hx,hy,hz,hv,ha,hb,w⟩:=h
    refine⟨few,u,[Pq u x y,Pq u z v,Pq u a b],rfl,hu,?_,(by show 3<=100; decide),fun S' e=>?_⟩
    · intro p hp
      simp only [List.mem_cons,List.not_mem_nil,or_false] at hp
      rcases hp with rfl | rfl | rfl
      · exact PtU.of hx hy (by decide)
      · exact PtU.of hz hv (by decide)
      · exact PtU.of ha hb (by decide)
    · have s1:Sq 3600 (qs z x):=(sqs hz hx).mono (by decide)
      have s2:Sq 3600 (qs v y):=(sqs hv hy).mono (by decide)
      have s3:Sq 54000 (qs a x):=(sqs ha hx).mono (by decide)
      have s4:Sq 54000 (qs b y):=(sqs hb hy).mono (by decide)
      have m1:=sqm hu s1 s4
      have m2:=sqm hu s2 s3
      refine⟨u,x,y,z,v,rfl,hu,hx.mono (by decide),hy.mono (by decide),hz.mono (by decide),hv.mono (by decide),?_⟩
      refine⟨u,x,y,a,b,rfl,hu,hx.mono (by decide),hy.mono (by decide),ha.mono (by decide),hb.mono (by decide),?_⟩
      refine⟨u,_,_,_,_,rfl,hu,s1.mono (by decide),s4.mono (by decide),?_⟩
      refine⟨u,_,_,_,_,rfl,hu,s2.mono (by decide),s3.mono (by decide),?_⟩
      refine⟨u,_,_,_,_,rfl,hu,m1.mono (by decide),m2.mono (by decide),?_⟩
      exact⟨u,_,_,rfl,hu,(sqs m1 m2).mono (by decide),w S' e⟩
def W (x y:Rat):D:=.tup [fr x,fr y]
def PP (x y:Rat):D:=.tup [.tup [fr x,fr 0],.tup [fr y,fr 0]]
noncomputable def MP (x y a b s:Rat):D:=.tup [mkD x (ss a*s),mkD y (ss b*s)]
noncomputable def bothL (x y a b s:Rat):List D:=if s < 0 then [] else if s=0 then [PP x y] else [MP x y a b s,MP x y (-a) (-b) s]
def F_plain_point:DSp:=fun ds S k=>∃ x y:Rat,ds=[W x y]/\k (PP x y) S
theorem sc_plain_point:FnScope ["place"] ["place"] (defScope s_plain_point):=⟨rfl,rfl,rfl,by decide +kernel,rfl,by decide +kernel,by decide +kernel⟩
theorem ok_plain_point {P:Program} {w:World} {K:Fg} {mg:Str->Option Value} {base:Heap} {f:Addr} {fd:FuncData} (Fn:Fun K "plain_point" "plain_point" s_plain_point f fd) (g_NOUGHT:GTup K mg "NOUGHT" [0,1]):
    FnOk P w K mg base CX0 1 f fd ["place"] (spU K F_plain_point):=by
  refine Fn.okJ sc_plain_point (fun ds S k h=>?_) (fun cdv A outer s H E hr=>⟨_,(ds_onej (dst_retj (d_tupj (da_consj (d_tupj (da_consj (d_ixj x_ixE (d_varj 0) d_intj (fun _ _=>rfl)) (da_consj (d_gtup g_NOUGHT rfl) da_nilj))) (da_consj (d_tupj (da_consj (d_ixj x_ixE (d_varj 0) d_intj (fun _ _=>rfl)) (da_consj (d_gtup g_NOUGHT rfl) da_nilj))) da_nilj))))),fun ds S k h=>?_⟩)
  · obtain⟨_,_,rfl,_⟩:=h
    rfl
  · obtain⟨x,y,rfl,w⟩:=h
    exact⟨few,few,few,w⟩
def F_place_of:DSp:=fun ds S k=>∃ x y:Rat,ds=[PP x y]/\k (W x y) S
theorem sc_place_of:FnScope ["point"] ["point"] (defScope s_place_of):=⟨rfl,rfl,rfl,by decide +kernel,rfl,by decide +kernel,by decide +kernel⟩
theorem ok_place_of {P:Program} {w:World} {K:Fg} {mg:Str->Option Value} {base:Heap} {f:Addr} {fd:FuncData} (Fn:Fun K "place_of" "place_of" s_place_of f fd):
    FnOk P w K mg base CX0 1 f fd ["point"] (spU K F_place_of):=by
  refine Fn.okJ sc_place_of (fun ds S k h=>?_) (fun cdv A outer s H E hr=>⟨_,(ds_onej (dst_retj (d_tupj (da_consj (d_ixj x_ixE (d_ixj x_ixE (d_varj 0) d_intj (fun _ _=>rfl)) d_intj (fun _ _=>rfl)) (da_consj (d_ixj x_ixE (d_ixj x_ixE (d_varj 0) d_intj (fun _ _=>rfl)) d_intj (fun _ _=>rfl)) da_nilj))))),fun ds S k h=>?_⟩)
  · obtain⟨_,_,rfl,_⟩:=h
    rfl
  · obtain⟨x,y,rfl,w⟩:=h
    exact⟨few,w⟩
def F_plain_way:DSp:=fun ds S k=>∃ x y z v:Rat,ds=[W x y,W z v]/\Sz 20000000 x/\Sz 20000000 y/\Sz 20000000 z/\Sz 20000000 v/\k (W (z - x) (v - y)) S
theorem sc_plain_way:FnScope ["one","other"] ["one","other"] (defScope s_plain_way):=⟨rfl,rfl,rfl,by decide +kernel,rfl,by decide +kernel,by decide +kernel⟩
theorem ok_plain_way {P:Program} {w:World} {K:Fg} {mg:Str->Option Value} {base:Heap} {f:Addr} {fd:FuncData} (Fn:Fun K "plain_way" "plain_way" s_plain_way f fd) (c_minus:Own P w K mg base "minus" 35 F_minus):
    FnOk P w K mg base CX0 36 f fd ["one","other"] (spU K F_plain_way):=by
  refine Fn.okJ sc_plain_way (fun ds S k h=>?_) (fun cdv A outer s H E hr=>⟨_,(ds_onej (dst_retj (d_tupj (da_consj (d_callj c_minus (hr.mono (by decide)) rfl (da_consj (d_ixj x_ixE (d_varj 1) d_intj (fun _ _=>rfl)) (da_consj (d_ixj x_ixE (d_varj 0) d_intj (fun _ _=>rfl)) da_nilj))) (da_consj (d_callj c_minus (hr.mono (by decide)) rfl (da_consj (d_ixj x_ixE (d_varj 1) d_intj (fun _ _=>rfl)) (da_consj (d_ixj x_ixE (d_varj 0) d_intj (fun _ _=>rfl)) da_nilj))) da_nilj))))),fun ds S k h=>?_⟩)
  · obtain⟨_,_,_,_,rfl,_⟩:=h
    rfl
  · obtain⟨x,y,z,v,rfl,hx,hy,hz,hv,w⟩:=h
    exact⟨z,x,rfl,hz,hx,v,y,rfl,hv,hy,few,w⟩
def F_product_of_ways:DSp:=fun ds S k=>∃ x y z v:Rat,ds=[W x y,W z v]/\Sz 360000 x/\Sz 360000 y/\Sz 360000 z/\Sz 360000 v/\k (fr (x*z+y*v)) S
theorem sc_product_of_ways:FnScope ["one","other"] ["one","other"] (defScope s_product_of_ways):=⟨rfl,rfl,rfl,by decide +kernel,rfl,by decide +kernel,by decide +kernel⟩
theorem ok_product_of_ways {P:Program} {w:World} {K:Fg} {mg:Str->Option Value} {base:Heap} {f:Addr} {fd:FuncData} (Fn:Fun K "product_of_ways" "product_of_ways" s_product_of_ways f fd) (c_plus:Own P w K mg base "plus" 35 F_plus) (c_times:Own P w K mg base "times" 35 F_times):
    FnOk P w K mg base CX0 36 f fd ["one","other"] (spU K F_product_of_ways):=by
  refine Fn.okJ sc_product_of_ways (fun ds S k h=>?_) (fun cdv A outer s H E hr=>⟨_,(ds_onej (dst_retj (d_callj c_plus (hr.mono (by decide)) rfl (da_consj (d_callj c_times (hr.mono (by decide)) rfl (da_consj (d_ixj x_ixE (d_varj 0) d_intj (fun _ _=>rfl)) (da_consj (d_ixj x_ixE (d_varj 1) d_intj (fun _ _=>rfl)) da_nilj))) (da_consj (d_callj c_times (hr.mono (by decide)) rfl (da_consj (d_ixj x_ixE (d_varj 0) d_intj (fun _ _=>rfl)) (da_consj (d_ixj x_ixE (d_varj 1) d_intj (fun _ _=>rfl)) da_nilj))) da_nilj))))),fun ds S k h=>?_⟩)
  · obtain⟨_,_,_,_,rfl,_⟩:=h
    rfl
  · obtain⟨x,y,z,v,rfl,hx,hy,hz,hv,w⟩:=h
    exact⟨x,z,rfl,hx.mono (by decide),hz.mono (by decide),y,v,rfl,hy.mono (by decide),hv.mono (by decide),_,_,rfl,(hx.mul hz).mono (by decide),(hy.mul hv).mono (by decide),w⟩
def F_moved:DSp:=fun ds S k=>∃ x y a b t:Rat,ds=[W x y,W a b,fr t]/\Sz 360000 x/\Sz 360000 y/\Sz 360000 a/\Sz 360000 b/\Sz 360000 t/\k (W (x+a*t) (y+b*t)) S
theorem sc_moved:FnScope ["place","way","by"] ["place","way","by"] (defScope s_moved):=⟨rfl,rfl,rfl,by decide +kernel,rfl,by decide +kernel,by decide +kernel⟩
theorem ok_moved {P:Program} {w:World} {K:Fg} {mg:Str->Option Value} {base:Heap} {f:Addr} {fd:FuncData} (Fn:Fun K "moved" "moved" s_moved f fd) (c_plus:Own P w K mg base "plus" 35 F_plus) (c_times:Own P w K mg base "times" 35 F_times):
    FnOk P w K mg base CX0 36 f fd ["place","way","by"] (spU K F_moved):=by
  refine Fn.okJ sc_moved (fun ds S k h=>?_) (fun cdv A outer s H E hr=>⟨_,(ds_onej (dst_retj (d_tupj (da_consj (d_callj c_plus (hr.mono (by decide)) rfl (da_consj (d_ixj x_ixE (d_varj 0) d_intj (fun _ _=>rfl)) (da_consj (d_callj c_times (hr.mono (by decide)) rfl (da_consj (d_ixj x_ixE (d_varj 1) d_intj (fun _ _=>rfl)) (da_consj (d_varj 2) da_nilj))) da_nilj))) (da_consj (d_callj c_plus (hr.mono (by decide)) rfl (da_consj (d_ixj x_ixE (d_varj 0) d_intj (fun _ _=>rfl)) (da_consj (d_callj c_times (hr.mono (by decide)) rfl (da_consj (d_ixj x_ixE (d_varj 1) d_intj (fun _ _=>rfl)) (da_consj (d_varj 2) da_nilj))) da_nilj))) da_nilj))))),fun ds S k h=>?_⟩)
  · obtain⟨_,_,_,_,_,rfl,_⟩:=h
    rfl
  · obtain⟨x,y,a,b,t,rfl,hx,hy,ha,hb,ht,w⟩:=h
    exact⟨a,t,rfl,ha.mono (by decide),ht.mono (by decide),_,_,rfl,hx.mono (by decide),(ha.mul ht).mono (by decide),b,t,rfl,hb.mono (by decide),ht.mono (by decide),_,_,rfl,hy.mono (by decide),(hb.mul ht).mono (by decide),few,w⟩
def F_moved_by_root:DSp:=fun ds S k=>∃ x y a b s:Rat,ds=[W x y,W a b,fr s]/\Sz 160000 x/\Sz 160000 y/\Sz 8000 a/\Sz 8000 b/\Sz 240000 s/\∀ S',Ext S S'->k (MP x y a b s) S'
theorem sc_moved_by_root:FnScope ["place","way","square","numbers","part","portion","under"] ["place","way","square"] (defScope s_moved_by_root):=⟨rfl,rfl,rfl,by decide +kernel,rfl,by decide +kernel,by decide +kernel⟩
theorem ok_moved_by_root {P:Program} {w:World} {K:Fg} {mg:Str->Option Value} {base:Heap} {f:Addr} {fd:FuncData} (Fn:Fun K "moved_by_root" "moved_by_root" s_moved_by_root f fd) (c_times:Own P w K mg base "times" 35 F_times) (c_made:Own P w K mg base "made" 37 F_made) (c_with_sign_of:Own P w K mg base "with_sign_of" 2 F_with_sign_of) (z_zip:mg "zip"=none):
    FnOk P w K mg base CX0 38 f fd ["place","way","square"] (spU K F_moved_by_root):=by
  refine Fn.okJ sc_moved_by_root (fun ds S k h=>?_) (fun cdv A outer s H E hr=>⟨_,(ds_consj (dst_setj (i:=3) sc_moved_by_root.nd (d_lstj da_nilj)) (ds_consj (dst_forZj PassesOwn.never rfl rfl z_zip (da_consj (d_varj 0) (da_consj (d_varj 1) da_nilj)) (dg_seqE (n:=2) rfl (dgs_consj (dg_namej (i:=4) sc_moved_by_root.nd) (dgs_consj (dg_namej (i:=5) sc_moved_by_root.nd) dgs_nilj))) (ds_consj (dst_setj (i:=6) sc_moved_by_root.nd (d_callj c_times (hr.mono (by decide)) rfl (da_consj (d_callj c_times (hr.mono (by decide)) rfl (da_consj (d_varj 5) (da_consj (d_varj 5) da_nilj))) (da_consj (d_varj 2) da_nilj)))) (ds_onej (dst_exprj (d_appj (d_varj 3) (d_callj c_made (hr.mono (by decide)) rfl (da_consj (d_varj 4) (da_consj (d_callj c_with_sign_of (hr.mono (by decide)) rfl (da_consj (d_varj 6) (da_consj (d_varj 5) da_nilj))) da_nilj)))))))) (ds_onej (dst_retj (d_tupj (da_consj (d_ixj x_ixE (d_varj 3) d_intj (fun _ _=>rfl)) (da_consj (d_ixj x_ixE (d_varj 3) d_intj (fun _ _=>rfl)) da_nilj))))))),fun ds S k h=>?_⟩)
  · obtain⟨_,_,_,_,_,rfl,_⟩:=h
    rfl
  · obtain⟨x,y,a,b,s,rfl,hx,hy,ha,hb,hs,w⟩:=h
    have big':∀ n:Nat,n < 300->n < sizeLine:=fun n h=>Nat.lt_of_lt_of_le h (Nat.le_of_ble_eq_true (rfl:Nat.ble 300 sizeLine=true))
    refine⟨few,fun q hq=>⟨([fr x,fr y],none),([fr a,fr b],none),rfl,rfl,?_⟩⟩
    have m1:=(ha.mul ha).mul hs
    have m2:=(hb.mul hb).mul hs
    have s1:Sz 400000 (sg (a*a*s) a):=m1.sg.mono (by decide)
    have s2:Sz 400000 (sg (b*b*s) b):=m2.sg.mono (by decide)
    refine⟨⟨trivial,trivial⟩,([fr x,fr a],none),rfl,rfl,rfl,a,a,rfl,ha.mono (by decide),ha.mono (by decide),_,s,rfl,(ha.mul ha).mono (by decide),hs.mono (by decide),?_⟩
    refine⟨⟨_,put_same⟩,_,a,rfl,x,_,rfl,hx.mono (by decide),s1,[],put_same,big' 0 (by decide),?_⟩
    refine⟨⟨trivial,trivial⟩,([fr y,fr b],none),rfl,rfl,rfl,b,b,rfl,hb.mono (by decide),hb.mono (by decide),_,s,rfl,(hb.mul hb).mono (by decide),hs.mono (by decide),?_⟩
    refine⟨⟨_,put_same⟩,_,b,rfl,y,_,rfl,hy.mono (by decide),s2,_,put_same,big' 1 (by decide),?_⟩
    refine⟨⟨trivial,trivial⟩,_,_,put_same,atI0,_,_,put_same,atI1,few,?_⟩
    rw [sg_ss,sg_ss]
    exact w _ (((Ext.new hq).put hq).put hq)
def F_both_moved:DSp:=fun ds S k=>∃ x y a b s:Rat,ds=[W x y,W a b,fr s]/\Sz 160000 x/\Sz 160000 y/\Sz 8000 a/\Sz 8000 b/\Sz 240000 s/\∀ S' p,Ext S S'->S' p=none->k (.ref p) (put S' p (.lst (bothL x y a b s)))
theorem sc_both_moved:FnScope ["place","way","square","against"] ["place","way","square"] (defScope s_both_moved):=⟨rfl,rfl,rfl,by decide +kernel,rfl,by decide +kernel,by decide +kernel⟩
theorem ok_both_moved {P:Program} {w:World} {K:Fg} {mg:Str->Option Value} {base:Heap} {f:Addr} {fd:FuncData} (Fn:Fun K "both_moved" "both_moved" s_both_moved f fd) (c_plain_point:Own P w K mg base "plain_point" 1 F_plain_point) (c_negative:Own P w K mg base "negative" 1 F_negative) (c_moved_by_root:Own P w K mg base "moved_by_root" 38 F_moved_by_root):
    FnOk P w K mg base CX0 39 f fd ["place","way","square"] (spU K F_both_moved):=by
  refine Fn.okJ sc_both_moved (fun ds S k h=>?_) (fun cdv A outer s H E hr=>⟨_,(ds_consj (dst_ifj (dt_cmpj o_lt (d_ixj x_ixE (d_varj 2) d_intj (fun _ _=>rfl)) d_intj (nomark _)) (ds_onej (dst_retj (d_lstj da_nilj))) ds_nilj) (ds_consj (dst_ifj (dt_cmpj o_eq (d_ixj x_ixE (d_varj 2) d_intj (fun _ _=>rfl)) d_intj (nomark _)) (ds_onej (dst_retj (d_lstj (da_consj (d_callj c_plain_point (hr.mono (by decide)) rfl (da_consj (d_varj 0) da_nilj)) da_nilj)))) ds_nilj) (ds_consj (dst_setj (i:=3) sc_both_moved.nd (d_tupj (da_consj (d_callj c_negative (hr.mono (by decide)) rfl (da_consj (d_ixj x_ixE (d_varj 1) d_intj (fun _ _=>rfl)) da_nilj)) (da_consj (d_callj c_negative (hr.mono (by decide)) rfl (da_consj (d_ixj x_ixE (d_varj 1) d_intj (fun _ _=>rfl)) da_nilj)) da_nilj)))) (ds_onej (dst_retj (d_lstj (da_consj (d_callj c_moved_by_root (hr.mono (by decide)) rfl (da_consj (d_varj 0) (da_consj (d_varj 1) (da_consj (d_varj 2) da_nilj)))) (da_consj (d_callj c_moved_by_root (hr.mono (by decide)) rfl (da_consj (d_varj 0) (da_consj (d_varj 3) (da_consj (d_varj 2) da_nilj)))) da_nilj)))))))),fun ds S k h=>?_⟩)
  · obtain⟨_,_,_,_,_,rfl,_⟩:=h
    rfl
  · obtain⟨x,y,a,b,s,rfl,hx,hy,ha,hb,hs,w⟩:=h
    refine ite_dec (fun n=>?_) (fun n=>ite_dec (fun z=>?_) (fun z=>?_))
    · have w':=fun p hp=>w S p (Ext.refl S) hp
      rw [show bothL x y a b s=[] from if_pos ((num_neg_iff s).mp n)] at w'
      exact⟨few,w'⟩
    · have z:s=0:=Rat.num_eq_zero.mp z
      have w':=fun p hp=>w S p (Ext.refl S) hp
      rw [show bothL x y a b s=[PP x y] by unfold bothL; rw [if_neg (by rw [z]; decide),if_pos z]] at w'
      exact⟨x,y,rfl,few,w'⟩
    · have z:s≠0:=fun q=>z (by rw [q]; rfl)
      refine⟨a,rfl,b,rfl,few,x,y,a,b,s,rfl,hx,hy,ha,hb,hs,fun S1 e1=>⟨x,y,-a,-b,s,rfl,hx,hy,ha.neg,hb.neg,hs,fun S2 e2=>⟨few,fun p hp=>?_⟩⟩⟩
      have w':=w S2 p (e1.trans e2) hp
      rw [show bothL x y a b s=[MP x y a b s,MP x y (-a) (-b) s] by unfold bothL; rw [if_neg (fun q=>n ((num_neg_iff s).mpr q)),if_neg z]] at w'
      exact w'
def F_square_of_unlike:DSp:=fun ds S k=>∃ a b:Rat,ds=[W a b]/\Sz 360000 a/\Sz 360000 b/\a*a+b*b≠0/\k (fr (a*a+b*b)) S
theorem sc_square_of_unlike:FnScope ["way","square"] ["way"] (defScope s_square_of_unlike):=⟨rfl,rfl,rfl,by decide +kernel,rfl,by decide +kernel,by decide +kernel⟩
theorem ok_square_of_unlike {P:Program} {w:World} {K:Fg} {mg:Str->Option Value} {base:Heap} {f:Addr} {fd:FuncData} (Fn:Fun K "square_of_unlike" "square_of_unlike" s_square_of_unlike f fd) (c_product_of_ways:Own P w K mg base "product_of_ways" 36 F_product_of_ways):
    FnOk P w K mg base CX0 37 f fd ["way"] (spU K F_square_of_unlike):=by
  refine Fn.okJ sc_square_of_unlike (fun ds S k h=>?_) (fun cdv A outer s H E hr=>⟨_,(ds_consj (dst_setj (i:=1) sc_square_of_unlike.nd (d_callj c_product_of_ways (hr.mono (by decide)) rfl (da_consj (d_varj 0) (da_consj (d_varj 0) da_nilj)))) (ds_consj (dst_ifj (dt_cmpj o_eq (d_ixj x_ixE (d_varj 1) d_intj (fun _ _=>rfl)) d_intj (nomark _)) (ds_onej dst_neverj) ds_nilj) (ds_onej (dst_retj (d_varj 1))))),fun ds S k h=>?_⟩)
  · obtain⟨_,_,rfl,_⟩:=h
    rfl
  · obtain⟨a,b,rfl,ha,hb,h0,w⟩:=h
    exact⟨a,b,a,b,rfl,ha,hb,ha,hb,ite_dec (fun z=>absurd (Rat.num_eq_zero.mp z) h0) (fun _=>w)⟩
set_option maxHeartbeats 4000000
structure V4 where
  a:Rat
  b:Rat
  c:Rat
  d:Rat
structure Rp (u h x1 x2 y1 y2:Rat) (t b:V4):Prop where
  e1:t.a=x1*b.a+x2*(b.b*h)*u - (y1*b.c+y2*(b.d*h)*u)
  e2:t.b*h=x1*(b.b*h)+x2*b.a - (y1*(b.d*h)+y2*b.c)
  e3:t.c=x1*b.c+x2*(b.d*h)*u+(y1*b.a+y2*(b.b*h)*u)
  e4:t.d*h=x1*(b.d*h)+x2*b.c+(y1*(b.b*h)+y2*b.a)
def vT (v:V4) (p q:Rat):V4:=⟨p*v.a - q*v.c,p*v.b - q*v.d,q*v.a+p*v.c,q*v.b+p*v.d⟩
def vP (v w:V4):V4:=⟨v.a+w.a,v.b+w.b,v.c+w.c,v.d+w.d⟩
def vM (v w:V4):V4:=⟨v.a - w.a,v.b - w.b,v.c - w.c,v.d - w.d⟩
def vC (v:V4):V4:=⟨v.a,v.b,-v.c,-v.d⟩
def Nz (h:Rat) (v:V4):Prop:=¬ (v.a=0/\v.b*h=0/\v.c=0/\v.d*h=0)
theorem Rp.conj {u h x1 x2 y1 y2:Rat} {t b:V4} (r:Rp u h x1 x2 y1 y2 t b):Rp u h x1 x2 (-y1) (-y2) (vC t) (vC b):=by
  obtain⟨e1,e2,e3,e4⟩:=r
  exact⟨by simp only [vC]; grind,by simp only [vC]; grind,by simp only [vC]; grind,by simp only [vC]; grind⟩
theorem Rp.move {u h x1 x2 y1 y2 p q r s m:Rat} {t b:V4} (R:Rp u h x1 x2 y1 y2 t b):Rp u h (p*x1 - q*y1+r) (p*x2 - q*y2) (q*x1+p*y1+s) (q*x2+p*y2) (vP (vT t (p*m) (q*m)) (vT b (r*m) (s*m))) (vT b m 0):=by
  obtain⟨e1,e2,e3,e4⟩:=R
  refine⟨?_,?_,?_,?_⟩
  · simp only [vP,vT]; rw [e1,e3]; grind
  · simp only [vP,vT]; grind
  · simp only [vP,vT]; rw [e1,e3]; grind
  · simp only [vP,vT]; grind
theorem Rp.from {u h x1 x2 y1 y2 p q m:Rat} {t b:V4} (R:Rp u h x1 x2 y1 y2 t b):Rp u h (m*(x1 - p)) (m*x2) (m*(y1 - q)) (m*y2) (vM (vT t m 0) (vT b (p*m) (q*m))) b:=by
  obtain⟨e1,e2,e3,e4⟩:=R
  refine⟨?_,?_,?_,?_⟩
  · simp only [vM,vT]; rw [e1]; grind
  · simp only [vM,vT]; grind
  · simp only [vM,vT]; rw [e3]; grind
  · simp only [vM,vT]; grind
def sq0 (w:Rat) (b:V4):Rat:=(b.a*b.a+b.b*b.b*w)+(b.c*b.c+b.d*b.d*w)
def sq1 (b:V4):Rat:=(b.a*b.b+b.b*b.a)+(b.c*b.d+b.d*b.c)
def nrm (w:Rat) (b:V4):Rat:=sq0 w b*sq0 w b - sq1 b*sq1 b*w
def px0 (w:Rat) (t b:V4):Rat:=(t.a*b.a+t.b*b.b*w)+(t.c*b.c+t.d*b.d*w)
def px1 (t b:V4):Rat:=(t.a*b.b+t.b*b.a)+(t.c*b.d+t.d*b.c)
def py0 (w:Rat) (t b:V4):Rat:=(t.a*-b.c+t.b*-b.d*w)+(t.c*b.a+t.d*b.b*w)
def py1 (t b:V4):Rat:=(t.a*-b.d+t.b*-b.c)+(t.c*b.b+t.d*b.a)
theorem Rp.px {u h x1 x2 y1 y2:Rat} {t b:V4} (R:Rp u h x1 x2 y1 y2 t b):px0 (h*h*u) t b=x1*sq0 (h*h*u) b+x2*(sq1 b*h)*u/\px1 t b*h=x1*(sq1 b*h)+x2*sq0 (h*h*u) b:=by
  obtain⟨e1,e2,e3,e4⟩:=R
  refine⟨?_,?_⟩
  · rw [show px0 (h*h*u) t b=(t.a*b.a+(t.b*h)*(b.b*h)*u)+(t.c*b.c+(t.d*h)*(b.d*h)*u) by unfold px0; grind,e1,e2,e3,e4]
    unfold sq0 sq1; grind
  · rw [show px1 t b*h=(t.a*(b.b*h)+(t.b*h)*b.a)+(t.c*(b.d*h)+(t.d*h)*b.c) by unfold px1; grind,e1,e2,e3,e4]
    unfold sq0 sq1; grind
theorem Rp.py {u h x1 x2 y1 y2:Rat} {t b:V4} (R:Rp u h x1 x2 y1 y2 t b):py0 (h*h*u) t b=y1*sq0 (h*h*u) b+y2*(sq1 b*h)*u/\py1 t b*h=y1*(sq1 b*h)+y2*sq0 (h*h*u) b:=by
  obtain⟨e1,e2,e3,e4⟩:=R
  refine⟨?_,?_⟩
  · rw [show py0 (h*h*u) t b=(t.a*-b.c+(t.b*h)*-(b.d*h)*u)+(t.c*b.a+(t.d*h)*(b.b*h)*u) by unfold py0; grind,e1,e2,e3,e4]
    unfold sq0 sq1; grind
  · rw [show py1 t b*h=(t.a*-(b.d*h)+(t.b*h)*-b.c)+(t.c*(b.b*h)+(t.d*h)*b.a) by unfold py1; grind,e1,e2,e3,e4]
    unfold sq0 sq1; grind
theorem solve {u h x1 x2 p0 p1 s0 s1:Rat} (e0:p0=x1*s0+x2*(s1*h)*u) (e1:p1*h=x1*(s1*h)+x2*s0):
    p0*s0+p1*-s1*(h*h*u)=x1*(s0*s0 - s1*s1*(h*h*u))/\(p0*-s1+p1*s0)*h=x2*(s0*s0 - s1*s1*(h*h*u)):=by
  refine⟨?_,?_⟩
  · rw [show p0*s0+p1*-s1*(h*h*u)=p0*s0 - (p1*h)*(s1*h)*u by grind,e1,e0]; grind
  · rw [show (p0*-s1+p1*s0)*h=(p1*h)*s0 - p0*(s1*h) by grind,e1,e0]; grind
theorem sq_z {x:Rat} (h:x*x=0):x=0:=by
  rcases Rat.mul_eq_zero.mp h with z | z <;> exact z
theorem nrm_ne {u h:Rat} {b:V4} (u0:0 < u) (hu:NoSq u) (n:Nz h b):nrm (h*h*u) b≠0:=by
  have e:nrm (h*h*u) b=sq0 (h*h*u) b*sq0 (h*h*u) b - (sq1 b*h)*(sq1 b*h)*u:=by unfold nrm; grind
  rw [e]
  refine norm_ne hu fun⟨z,_⟩=>n ?_
  have z:b.a*b.a+(b.b*h)*(b.b*h)*u+(b.c*b.c+(b.d*h)*(b.d*h)*u)=0:=by rw [<- z]; unfold sq0; grind
  have n1:=rat_sq_nonneg b.a
  have n2:=Rat.mul_nonneg (rat_sq_nonneg (b.b*h)) (Rat.le_of_lt u0)
  have n3:=rat_sq_nonneg b.c
  have n4:=Rat.mul_nonneg (rat_sq_nonneg (b.d*h)) (Rat.le_of_lt u0)
  have z1:b.a*b.a=0:=by grind
  have z2:(b.b*h)*(b.b*h)*u=0:=by grind
  have z3:b.c*b.c=0:=by grind
  have z4:(b.d*h)*(b.d*h)*u=0:=by grind
  have un:u≠0:=by grind
  exact⟨sq_z z1,sq_z ((Rat.mul_eq_zero.mp z2).resolve_right un),sq_z z3,sq_z ((Rat.mul_eq_zero.mp z4).resolve_right un)⟩
theorem Rp.zero {u h x1 x2 y1 y2:Rat} {t b:V4} (R:Rp u h x1 x2 y1 y2 t b) (u0:0 < u) (hu:NoSq u) (n:Nz h b) (z:¬ Nz h t):x1=0/\x2=0/\y1=0/\y2=0:=by
  have z:t.a=0/\t.b*h=0/\t.c=0/\t.d*h=0:=Classical.not_not.mp z
  obtain⟨z1,z2,z3,z4⟩:=z
  have ne:=nrm_ne u0 hu n
  have e1:px0 (h*h*u) t b=0:=by rw [show px0 (h*h*u) t b=(t.a*b.a+(t.b*h)*(b.b*h)*u)+(t.c*b.c+(t.d*h)*(b.d*h)*u) by unfold px0; grind,z1,z2,z3,z4]; grind
  have e2:px1 t b*h=0:=by rw [show px1 t b*h=(t.a*(b.b*h)+(t.b*h)*b.a)+(t.c*(b.d*h)+(t.d*h)*b.c) by unfold px1; grind,z1,z2,z3,z4]; grind
  have e3:py0 (h*h*u) t b=0:=by rw [show py0 (h*h*u) t b=(t.a*-b.c+(t.b*h)*-(b.d*h)*u)+(t.c*b.a+(t.d*h)*(b.b*h)*u) by unfold py0; grind,z1,z2,z3,z4]; grind
  have e4:py1 t b*h=0:=by rw [show py1 t b*h=(t.a*-(b.d*h)+(t.b*h)*-b.c)+(t.c*(b.b*h)+(t.d*h)*b.a) by unfold py1; grind,z1,z2,z3,z4]; grind
  obtain⟨a1,a2⟩:=solve R.px.1 R.px.2
  obtain⟨a3,a4⟩:=solve R.py.1 R.py.2
  have f:∀ {x N:Rat},N≠0->0=x*N->x=0:=fun hN e=>(Rat.mul_eq_zero.mp e.symm).resolve_right hN
  refine⟨f ne ?_,f ne ?_,f ne ?_,f ne ?_⟩
  · unfold nrm; rw [<- a1,e1]; grind
  · unfold nrm; rw [<- a2,e1]; grind
  · unfold nrm; rw [<- a3,e3]; grind
  · unfold nrm; rw [<- a4,e3]; grind
theorem Rp.inv {u h g1 g2 k1 k2 d1 d2 f1 f2 m:Rat} {W b:V4} (R:Rp u h (m*d1) (m*d2) (m*f1) (m*f2) W b) (G1:g1*d1+g2*d2*u+(k1*f1+k2*f2*u)=1) (G2:g1*d2+g2*d1+(k1*f2+k2*f1)=0)
    (G3:k1*d1+k2*d2*u=g1*f1+g2*f2*u) (G4:k1*d2+k2*d1=g1*f2+g2*f1):Rp u h g1 g2 k1 k2 (vT (vC b) m 0) (vC W):=by
  obtain⟨e1,e2,e3,e4⟩:=R
  refine⟨?_,?_,?_,?_⟩
  · simp only [vT,vC]
    rw [show g1*W.a+g2*(W.b*h)*u - (k1*-W.c+k2*(-W.d*h)*u)=g1*W.a+g2*(W.b*h)*u+(k1*W.c+k2*(W.d*h)*u) by grind,e1,e2,e3,e4]
    grind
  · simp only [vT,vC]
    rw [show g1*(W.b*h)+g2*W.a - (k1*(-W.d*h)+k2*-W.c)=g1*(W.b*h)+g2*W.a+(k1*(W.d*h)+k2*W.c) by grind,e1,e2,e3,e4]
    grind
  · simp only [vT,vC]
    rw [show g1*-W.c+g2*(-W.d*h)*u+(k1*W.a+k2*(W.b*h)*u)=-(g1*W.c+g2*(W.d*h)*u)+(k1*W.a+k2*(W.b*h)*u) by grind,e1,e2,e3,e4]
    grind
  · simp only [vT,vC]
    rw [show g1*(-W.d*h)+g2*-W.c+(k1*(W.b*h)+k2*W.a)=-(g1*(W.d*h)+g2*W.c)+(k1*(W.b*h)+k2*W.a) by grind,e1,e2,e3,e4]
    grind
inductive Ld where
  | shift (x y:Rat)
  | grow (x y b:Rat)
  | turn (x y p q:Rat)
  | mirror (a b c:Rat)
  | invert (x y p:Rat)
abbrev Z4:=Q×Q
def qN (u:Rat) (x:Q):Rat:=x.1*x.1 - u*(x.2*x.2)
def qI (u:Rat) (x:Q):Q:=(x.1*(1 / qN u x),x.2*-1*(1 / qN u x))
def wayS (z:Z4) (x y:Rat):Z4:=(qs z.1 (qo x),qs z.2 (qo y))
def sumS (u:Rat) (w:Z4):Q:=qa (qm u w.1 w.1) (qm u w.2 w.2)
noncomputable def ldS (u:Rat):Ld->Z4->Option Z4
  | .shift x y,z=>some (qa z.1 (qo x),qa z.2 (qo y))
  | .mirror a b c,z=>
    let v:=qa (qa (qm u (qo a) z.1) (qm u (qo b) z.2)) (qo c)
    let t:=qm u v (qo (-2 / (a*a+b*b)))
    some (qa z.1 (qm u t (qo a)),qa z.2 (qm u t (qo b)))
  | .grow x y b,z=>some (qa (qo x) (qm u (wayS z x y).1 (qo b)),qa (qo y) (qm u (wayS z x y).2 (qo b)))
  | .turn x y p q,z=>some (qa (qo x) (qs (qm u (wayS z x y).1 (qo p)) (qm u (wayS z x y).2 (qo q))),qa (qo y) (qa (qm u (wayS z x y).2 (qo p)) (qm u (wayS z x y).1 (qo q))))
  | .invert x y p,z=>if qN u (sumS u (wayS z x y))=0 then none else
    let t:=qm u (qo p) (qI u (sumS u (wayS z x y)))
    some (qa (qo x) (qm u (wayS z x y).1 t),qa (qo y) (qm u (wayS z x y).2 t))
structure Fl where
  p:Rat
  q:Rat
  r:Rat
  s:Rat
  m:Bool
noncomputable def flS:Ld->Fl
  | .shift x y=>⟨1,0,x,y,false⟩
  | .mirror a b c=>⟨0+(a*a - b*b)*(-1 / (a*a+b*b)),0+(b*a+a*b)*(-1 / (a*a+b*b)),0+a*(-2*c / (a*a+b*b)),0+b*(-2*c / (a*a+b*b)),true⟩
  | .grow x y b=>⟨b,0,x - (b*x - 0*y),y - (0*x+b*y),false⟩
  | .turn x y p q=>⟨p,q,x - (p*x - q*y),y - (q*x+p*y),false⟩
  | .invert _ _ _=>⟨0,0,0,0,false⟩
def isInv:Ld->Bool
  | .invert _ _ _=>true
  | _=>false
def LdOk:Ld->Prop
  | .turn _ _ p q=>p*p+q*q=1
  | .mirror a b _=>a*a+b*b≠0
  | .grow _ _ b=>b≠0
  | .invert _ _ p=>p≠0
  | _=>True
abbrev Rz (u h:Rat) (z:Z4) (t b:V4):Prop:=Rp u h z.1.1 z.1.2 z.2.1 z.2.2 t b
def cjZ (z:Z4) (m:Bool):Z4:=if m then(z.1,(-z.2.1,-z.2.2)) else z
def mvZ (f:Fl) (z:Z4):Z4:=((f.p*(cjZ z f.m).1.1 - f.q*(cjZ z f.m).2.1+f.r,f.p*(cjZ z f.m).1.2 - f.q*(cjZ z f.m).2.2),(f.q*(cjZ z f.m).1.1+f.p*(cjZ z f.m).2.1+f.s,f.q*(cjZ z f.m).1.2+f.p*(cjZ z f.m).2.2))
theorem ldS_flat {u:Rat} {l:Ld} {z:Z4} (ok:LdOk l) (hl:isInv l=false):ldS u l z=some (mvZ (flS l) z):=by
  obtain⟨⟨x1,x2⟩,⟨y1,y2⟩⟩:=z
  cases l with
  | shift x y=>
    simp only [ldS,mvZ,flS,cjZ,qa,qo,Bool.false_eq_true,if_false]
    congr 2 <;> (congr 1 <;> grind)
  | grow x y b=>
    simp only [ldS,mvZ,flS,cjZ,qa,qs,qm,qo,wayS,Bool.false_eq_true,if_false]
    congr 2 <;> (congr 1 <;> grind)
  | turn x y p q=>
    simp only [ldS,mvZ,flS,cjZ,qa,qs,qm,qo,wayS,Bool.false_eq_true,if_false]
    congr 2 <;> (congr 1 <;> grind)
  | mirror a b c=>
    have n:a*a+b*b≠0:=ok
    simp only [ldS,mvZ,flS,cjZ,qa,qs,qm,qo,wayS,if_true]
    generalize hk:a*a+b*b=k at n
    have ka:a*a=k - b*b:=by grind
    congr 2 <;> (congr 1)
    · have:x1+((a*x1+0*x2*u+(b*y1+0*y2*u)+c)*(-2 / k)+(a*x2+0*x1+(b*y2+0*y1)+0)*0*u)*a+((a*x1+0*x2*u+(b*y1+0*y2*u)+c)*0+(a*x2+0*x1+(b*y2+0*y1)+0)*(-2 / k))*0*u=(x1*k - 2*(a*x1+b*y1+c)*a) / k:=by grind
      grind
    · grind
    · grind
    · grind
  | invert x y p=>cases hl
def cjV (v:V4) (m:Bool):V4:=if m then vC v else v
theorem Rz.cj {u h:Rat} {z:Z4} {t b:V4} (R:Rz u h z t b) (m:Bool):Rz u h (cjZ z m) (cjV t m) (cjV b m):=by
  cases m with
  | false=>exact R
  | true=>exact R.conj
theorem Rz.move {u h k:Rat} {z:Z4} {t b:V4} {f:Fl} (R:Rz u h z t b):Rz u h (mvZ f z) (vP (vT (cjV t f.m) (f.p*k) (f.q*k)) (vT (cjV b f.m) (f.r*k) (f.s*k))) (vT (cjV b f.m) k 0):=Rp.move (Rz.cj R f.m)
theorem Nz.cj {h:Rat} {b:V4} (n:Nz h b) (m:Bool):Nz h (cjV b m):=by
  cases m with
  | false=>exact n
  | true=>
    rintro⟨z1,z2,z3,z4⟩
    simp only [cjV,vC,if_true] at z1 z2 z3 z4
    exact n ⟨z1,z2,by grind,by grind⟩
theorem Nz.times {h k:Rat} {b:V4} (n:Nz h b) (hk:k≠0):Nz h (vT b k 0):=by
  rintro⟨z1,z2,z3,z4⟩
  simp only [vT] at z1 z2 z3 z4
  have f:∀ {x:Rat},k*x=0->x=0:=fun e=>(Rat.mul_eq_zero.mp e).resolve_left hk
  exact n ⟨f (by grind),f (by grind),f (by grind),f (by grind)⟩
theorem sum_zero {u:Rat} {w:Z4} (u0:0 < u) (hu:NoSq u):qN u (sumS u w)=0↔w.1.1=0/\w.1.2=0/\w.2.1=0/\w.2.2=0:=by
  obtain⟨⟨a,b⟩,⟨c,d⟩⟩:=w
  constructor
  · intro e
    have n:=nrm_ne (h:=1) (b:=⟨a,b,c,d⟩) u0 hu
    have q:nrm (1*1*u) ⟨a,b,c,d⟩=qN u (sumS u ((a,b),(c,d))):=by
      simp only [nrm,sq0,sq1,qN,sumS,qa,qm]; grind
    rw [q,e] at n
    have:=Classical.not_not.mp fun z=>n z rfl
    simp only at this ⊢
    exact⟨this.1,by grind,this.2.2.1,by grind⟩
  · rintro⟨rfl,rfl,rfl,rfl⟩
    simp only [qN,sumS,qa,qm]; grind
theorem way_zero {u h m x y:Rat} {z:Z4} {t b:V4} (R:Rz u h z t b) (u0:0 < u) (hu:NoSq u) (n:Nz h b) (hm:m≠0):Nz h (vM (vT t m 0) (vT b (x*m) (y*m)))↔qN u (sumS u (wayS z x y))≠0:=by
  have R':=Rp.from (p:=x) (q:=y) (m:=m) R
  obtain⟨⟨x1,x2⟩,⟨y1,y2⟩⟩:=z
  constructor
  · intro nz e
    obtain⟨a,b,c,d⟩:=(sum_zero u0 hu).mp e
    simp only [wayS,qs,qo] at a b c d
    refine nz ?_
    obtain⟨e1,e2,e3,e4⟩:=R'
    simp only at e1 e2 e3 e4
    have b':x2=0:=by grind
    have d':y2=0:=by grind
    rw [e1,e2,e3,e4,a,c,b',d']
    refine⟨?_,?_,?_,?_⟩ <;> grind
  · intro ne z
    refine ne ((sum_zero u0 hu).mpr ?_)
    obtain⟨a,b,c,d⟩:=R'.zero u0 hu n (fun q=>q z)
    have f:∀ {x:Rat},m*x=0->x=0:=fun e=>(Rat.mul_eq_zero.mp e).resolve_left hm
    simp only [wayS,qs,qo] at a b c d ⊢
    have b':=f b
    have d':=f d
    exact⟨f a,by grind,f c,by grind⟩
theorem inv_one {u:Rat} {s:Q} (h:qN u s≠0):s.1*(qI u s).1+s.2*(qI u s).2*u=1/\s.1*(qI u s).2+s.2*(qI u s).1=0:=by
  simp only [qI]
  have e:s.1*s.1=qN u s+u*(s.2*s.2):=by unfold qN; grind
  generalize qN u s=n at h e ⊢
  refine⟨?_,?_⟩
  · rw [show s.1*(s.1*(1 / n))=(s.1*s.1)*(1 / n) by grind,e]; grind
  · grind
theorem Rz.invert {u h m x y p p0 p1:Rat} {z z':Z4} {t b:V4} (R:Rz u h z t b) (ne:qN u (sumS u (wayS z x y))≠0) (hp:p0=p*p1) (hz:ldS u (.invert x y p) z=some z'):
    Rz u h z' (vP (vT (vC (vM (vT t m 0) (vT b (x*m) (y*m)))) (p1*(x*m)) (p1*(y*m))) (vT (vC b) (p0*m*m) 0)) (vT (vC (vM (vT t m 0) (vT b (x*m) (y*m)))) (p1*m) 0):=by
  have R':=Rp.from (p:=x) (q:=y) (m:=m) R
  obtain⟨⟨x1,x2⟩,⟨y1,y2⟩⟩:=z
  simp only [ldS] at hz
  rw [if_neg ne] at hz
  obtain⟨i1,i2⟩:=inv_one ne
  simp only at R'
  generalize vM (vT t m 0) (vT b (x*m) (y*m))=W at R' ⊢
  generalize qI u (sumS u (wayS ((x1,x2),(y1,y2)) x y))=i at i1 i2 hz
  have e:=Option.some.inj hz
  subst e
  simp only [sumS,wayS,qa,qm,qs,qo] at i1 i2
  have key:=Rp.inv (g1:=(x1 - x)*i.1+x2*i.2*u) (g2:=(x1 - x)*i.2+x2*i.1) (k1:=(y1 - y)*i.1+y2*i.2*u) (k2:=(y1 - y)*i.2+y2*i.1) R' (by grind) (by grind) (by grind) (by grind)
  have mv:=Rp.move (p:=p) (q:=0) (r:=x) (s:=y) (m:=p1*m) key
  have c1:vP (vT (vT (vC b) m 0) (p*(p1*m)) (0*(p1*m))) (vT (vC W) (x*(p1*m)) (y*(p1*m)))=vP (vT (vC W) (p1*(x*m)) (p1*(y*m))) (vT (vC b) (p0*m*m) 0):=by
    subst hp
    simp only [vP,vT,vC]
    congr 1 <;> grind
  rw [c1] at mv
  simp only [Rz,wayS,qa,qm,qs,qo]
  have f:∀ {a1 a2 a3 a4 b1 b2 b3 b4:Rat} {T B:V4},Rp u h a1 a2 a3 a4 T B->a1=b1->a2=b2->a3=b3->a4=b4->Rp u h b1 b2 b3 b4 T B:=fun r h1 h2 h3 h4=>by subst h1; subst h2; subst h3; subst h4; exact r
  refine f mv ?_ ?_ ?_ ?_ <;> grind
structure I4 where
  a:Int
  b:Int
  c:Int
  d:Int
def I4.v (i:I4):V4:=⟨i.a,i.b,i.c,i.d⟩
def iT (v:I4) (p q:Int):I4:=⟨p*v.a - q*v.c,p*v.b - q*v.d,q*v.a+p*v.c,q*v.b+p*v.d⟩
def iP (v w:I4):I4:=⟨v.a+w.a,v.b+w.b,v.c+w.c,v.d+w.d⟩
def iM (v w:I4):I4:=⟨v.a - w.a,v.b - w.b,v.c - w.c,v.d - w.d⟩
def iC (v:I4):I4:=⟨v.a,v.b,-v.c,-v.d⟩
def cjI (v:I4) (m:Bool):I4:=if m then iC v else v
theorem iT_v {v:I4} {p q:Int}:(iT v p q).v=vT v.v p q:=by
  simp only [I4.v,iT,vT,Rat.intCast_sub,Rat.intCast_mul,Rat.intCast_add]
theorem iP_v {v w:I4}:(iP v w).v=vP v.v w.v:=by simp only [I4.v,iP,vP,Rat.intCast_add]
theorem iM_v {v w:I4}:(iM v w).v=vM v.v w.v:=by simp only [I4.v,iM,vM,Rat.intCast_sub]
theorem iC_v {v:I4}:(iC v).v=vC v.v:=by simp only [I4.v,iC,vC,Rat.intCast_neg]
theorem cjI_v {v:I4} {m:Bool}:(cjI v m).v=cjV v.v m:=by
  cases m with
  | false=>rfl
  | true=>exact iC_v
structure B4 (n:Nat) (i:I4):Prop where
  a:Bt n i.a
  b:Bt n i.b
  c:Bt n i.c
  d:Bt n i.d
theorem B4.mono {m n:Nat} {i:I4} (h:B4 m i) (hm:m<=n):B4 n i:=⟨h.a.mono hm,h.b.mono hm,h.c.mono hm,h.d.mono hm⟩
theorem B4.times {m n:Nat} {i:I4} {p q:Int} (h:B4 n i) (hp:Bt m p) (hq:Bt m q):B4 (n+m+1) (iT i p q):=
  ⟨((hp.mul h.a).sub (hq.mul h.c)).mono (by omega),((hp.mul h.b).sub (hq.mul h.d)).mono (by omega),((hq.mul h.a).add (hp.mul h.c)).mono (by omega),((hq.mul h.b).add (hp.mul h.d)).mono (by omega)⟩
theorem B4.plus {n:Nat} {i j:I4} (h:B4 n i) (h':B4 n j):B4 (n+1) (iP i j):=⟨(h.a.add h'.a).mono (by omega),(h.b.add h'.b).mono (by omega),(h.c.add h'.c).mono (by omega),(h.d.add h'.d).mono (by omega)⟩
theorem B4.minus {n:Nat} {i j:I4} (h:B4 n i) (h':B4 n j):B4 (n+1) (iM i j):=⟨(h.a.sub h'.a).mono (by omega),(h.b.sub h'.b).mono (by omega),(h.c.sub h'.c).mono (by omega),(h.d.sub h'.d).mono (by omega)⟩
theorem B4.conj {n:Nat} {i:I4} (h:B4 n i):B4 n (iC i):=⟨h.a,h.b,h.c.neg,h.d.neg⟩
theorem B4.cj {n:Nat} {i:I4} (h:B4 n i) (m:Bool):B4 n (cjI i m):=by
  cases m with
  | false=>exact h
  | true=>exact h.conj
def Pln (h:Rat) (i:I4):Prop:=h=0->i.b=0/\i.d=0
theorem Pln.times {h:Rat} {i:I4} {p q:Int} (e:Pln h i):Pln h (iT i p q):=fun z=>by
  obtain⟨e1,e2⟩:=e z
  simp only [iT]; rw [e1,e2]; simp
theorem Pln.plus {h:Rat} {i j:I4} (e:Pln h i) (f:Pln h j):Pln h (iP i j):=fun z=>by
  obtain⟨e1,e2⟩:=e z; obtain⟨f1,f2⟩:=f z
  simp only [iP]; rw [e1,e2,f1,f2]; simp
theorem Pln.minus {h:Rat} {i j:I4} (e:Pln h i) (f:Pln h j):Pln h (iM i j):=fun z=>by
  obtain⟨e1,e2⟩:=e z; obtain⟨f1,f2⟩:=f z
  simp only [iM]; rw [e1,e2,f1,f2]; simp
theorem Pln.conj {h:Rat} {i:I4} (e:Pln h i):Pln h (iC i):=fun z=>by
  obtain⟨e1,e2⟩:=e z
  simp only [iC]; rw [e1,e2]; simp
theorem Pln.cj {h:Rat} {i:I4} (e:Pln h i) (m:Bool):Pln h (cjI i m):=by
  cases m with
  | false=>exact e
  | true=>exact e.conj
theorem nz_iff {h:Rat} {i:I4} (e:Pln h i):Nz h i.v↔¬ (i.a=0/\i.b=0/\i.c=0/\i.d=0):=by
  have c:∀ {n:Int},(n:Rat)=0↔n=0:=fun {n}=>by
    constructor
    · intro z; exact_mod_cast z
    · intro z; rw [z]; rfl
  unfold Nz
  refine not_congr ⟨?_,?_⟩
  · rintro⟨z1,z2,z3,z4⟩
    simp only [I4.v] at z1 z2 z3 z4
    refine⟨c.mp z1,?_,c.mp z3,?_⟩
    · rcases Rat.mul_eq_zero.mp z2 with q | q
      · exact c.mp q
      · exact(e q).1
    · rcases Rat.mul_eq_zero.mp z4 with q | q
      · exact c.mp q
      · exact(e q).2
  · rintro⟨z1,z2,z3,z4⟩
    simp only [I4.v]
    rw [z1,z2,z3,z4]
    exact⟨rfl,Rat.zero_mul _,rfl,Rat.zero_mul _⟩
theorem lcm_of {a b:Int} (ha:0 < a) (hb:0 < b):a.fdiv ((Int.gcd a b:Nat):Int)*b=((Int.lcm a b:Nat):Int):=by
  have g0:0 < ((Int.gcd a b:Nat):Int):=by
    have:=Int.gcd_pos_of_ne_zero_left (a:=a) b (by omega)
    omega
  rw [fdiv2 _ g0]
  have h1:((Int.gcd a b:Nat):Int)*((Int.lcm a b:Nat):Int)=a*b:=by
    have:=Int.gcd_mul_lcm a b
    have e:((Int.gcd a b*Int.lcm a b:Nat):Int)=(((a*b).natAbs:Nat):Int):=by rw [this,Int.natAbs_mul]
    rw [Int.natCast_mul] at e
    rw [e]
    have:=Int.mul_pos ha hb
    omega
  have h2:((Int.gcd a b:Nat):Int) ∣ a:=Int.gcd_dvd_left ..
  have h3:((Int.gcd a b:Nat):Int)*(a / ((Int.gcd a b:Nat):Int))=a:=Int.mul_ediv_cancel' h2
  have h4:((Int.gcd a b:Nat):Int)*(a / ((Int.gcd a b:Nat):Int)*b)=((Int.gcd a b:Nat):Int)*((Int.lcm a b:Nat):Int):=by
    rw [h1,<- Int.mul_assoc,h3]
  exact Int.eq_of_mul_eq_mul_left (by omega) h4
theorem lcm_pos {a b:Int} (ha:0 < a) (hb:0 < b):0 < ((Int.lcm a b:Nat):Int):=by
  have:=Int.lcm_pos (m:=a) (n:=b) (by omega) (by omega)
  omega
theorem lcm_bt {m n:Nat} {a b:Int} (ha:Bt m a) (hb:Bt n b) (pa:0 < a) (pb:0 < b):Bt (m+n) ((Int.lcm a b:Nat):Int):=by
  rw [<- lcm_of pa pb]
  exact Bt.mul (ha.le (HM.natAbs_fdiv_le _ _)) hb
def lcmL (m:Int):List Rat->Int
  | []=>m
  | q::qs=>lcmL ((Int.lcm m (q.den:Int):Nat):Int) qs
theorem den_pos' (q:Rat):0 < (q.den:Int):=by have:=q.den_pos; omega
theorem lcmL_pos:∀ {qs:List Rat} {m:Int},0 < m->0 < lcmL m qs
  | [],_,h=>h
  | q::qs,_,h=>lcmL_pos (qs:=qs) (lcm_pos h (den_pos' q))
theorem lcmL_dvd:∀ {qs:List Rat} {m:Int},m ∣ lcmL m qs/\∀ q∈qs,(q.den:Int) ∣ lcmL m qs
  | [],m=>⟨Int.dvd_refl _,fun _ h=>nomatch h⟩
  | p::qs,m=>by
    obtain⟨h1,h2⟩:=lcmL_dvd (qs:=qs) (m:=((Int.lcm m (p.den:Int):Nat):Int))
    refine⟨Int.dvd_trans (Int.dvd_lcm_left ..) h1,fun q hq=>?_⟩
    rcases List.mem_cons.mp hq with rfl | hq
    · exact Int.dvd_trans (Int.dvd_lcm_right ..) h1
    · exact h2 q hq
theorem lcmL_least:∀ {qs:List Rat} {m k:Int},m ∣ k->(∀ q∈qs,(q.den:Int) ∣ k)->lcmL m qs ∣ k
  | [],_,_,h,_=>h
  | p::qs,m,k,h,hq=>lcmL_least (qs:=qs) (Int.coe_lcm_dvd h (hq p List.mem_cons_self)) fun q h=>hq q (List.mem_cons_of_mem _ h)
theorem den_dvd {q:Rat} {k P:Int} (e:q*k=P):(q.den:Int) ∣ k:=by
  have h1:(q.num:Rat)=q*(q.den:Rat):=rat_num_den q
  have h2:((q.num*k:Int):Rat)=((P*(q.den:Int):Int):Rat):=by
    rw [Rat.intCast_mul,Rat.intCast_mul,h1,<- e]
    show q*(q.den:Rat)*(k:Rat)=q*(k:Rat)*((q.den:Int):Rat)
    rw [show (((q.den:Nat):Int):Rat)=(q.den:Rat) from rfl]
    grind
  have h3:q.num*k=P*(q.den:Int):=by exact_mod_cast h2
  have h4:(q.den:Int) ∣ q.num*k:=⟨P,by rw [h3,Int.mul_comm]⟩
  have h5:q.den ∣ q.num.natAbs*k.natAbs:=by
    rw [<- Int.natAbs_mul]
    exact Int.ofNat_dvd_left.mp h4
  exact Int.ofNat_dvd_left.mpr (Nat.Coprime.dvd_of_dvd_mul_left q.reduced.symm h5)
def whl (q:Rat) (m:Int):Int:=q.num*m.fdiv (q.den:Int)
theorem whl_eq {q:Rat} {m:Int} (h:(q.den:Int) ∣ m):(whl q m:Rat)=q*(m:Rat):=by
  obtain⟨j,rfl⟩:=h
  unfold whl
  rw [fdiv2 _ (den_pos' q),Int.mul_ediv_cancel_left _ (den_ne q),Rat.intCast_mul,Rat.intCast_mul,rat_num_den q]
  show q*(q.den:Rat)*(j:Rat)=q*((((q.den:Nat):Int):Rat)*(j:Rat))
  rw [show (((q.den:Nat):Int):Rat)=(q.den:Rat) from rfl]
  grind
theorem whl_bt {n:Nat} {q:Rat} {m k P:Int} (e:q*k=P) (h:(q.den:Int) ∣ m) (hm:m ∣ k) (k0:k≠0) (hP:Bt n P):Bt n (whl q m):=by
  refine hP.le ?_
  have e1:=whl_eq h
  have e2:whl q m*k=P*m:=by
    have:((whl q m*k:Int):Rat)=((P*m:Int):Rat):=by
      rw [Rat.intCast_mul,Rat.intCast_mul,e1,<- e]; grind
    exact_mod_cast this
  have e3:(whl q m).natAbs*k.natAbs=P.natAbs*m.natAbs:=by rw [<- Int.natAbs_mul,<- Int.natAbs_mul,e2]
  have h4:m.natAbs<=k.natAbs:=Nat.le_of_dvd (by omega) (Int.natAbs_dvd_natAbs.mpr hm)
  have h5:=Nat.mul_le_mul_left P.natAbs h4
  rw [<- e3] at h5
  exact Nat.le_of_mul_le_mul_right h5 (by omega)
theorem dvd_bt {n:Nat} {m k:Int} (hm:m ∣ k) (k0:k≠0) (hk:Bt n k):Bt n m:=hk.le (Nat.le_of_dvd (by omega) (Int.natAbs_dvd_natAbs.mpr hm))
theorem nd (q:Rat):((q.num:Int):Rat)=q*(((q.den:Nat):Int):Rat):=rat_num_den q
theorem dn (q:Rat):(((q.den:Nat):Int):Rat)≠0:=rat_den_ne q
def LdSz:Ld->Prop
  | .shift x y=>Sz 24 x/\Sz 24 y
  | .grow x y b=>Sz 24 x/\Sz 24 y/\Sz 24 b
  | .turn x y p q=>Sz 24 x/\Sz 24 y/\∃ P Q E:Int,E≠0/\Bt 40 P/\Bt 40 Q/\Bt 40 E/\p*E=P/\q*E=Q
  | .mirror a b c=>Sz 24 a/\Sz 24 b/\Sz 24 c
  | .invert x y p=>Sz 24 x/\Sz 24 y/\Sz 24 p
structure FRep (f:Fl) (k P Q R S:Int):Prop where
  k0:k≠0
  bk:Bt 136 k
  bP:Bt 136 P
  bQ:Bt 136 Q
  bR:Bt 136 R
  bS:Bt 136 S
  p:f.p*k=P
  q:f.q*k=Q
  r:f.r*k=R
  s:f.s*k=S
theorem turn_rep {x y p q:Rat} {P Q E:Int} (hx:Sz 24 x) (hy:Sz 24 y) (e0:E≠0) (bP:Bt 40 P) (bQ:Bt 40 Q) (bE:Bt 40 E) (hp:p*E=P) (hq:q*E=Q):
    FRep ⟨p,q,x - (p*x - q*y),y - (q*x+p*y),false⟩ (E*((x.den:Int)*(y.den:Int))) (P*((x.den:Int)*(y.den:Int))) (Q*((x.den:Int)*(y.den:Int)))
      (x.num*E*(y.den:Int) - (P*x.num*(y.den:Int) - Q*y.num*(x.den:Int))) (y.num*E*(x.den:Int) - (Q*x.num*(y.den:Int)+P*y.num*(x.den:Int))) where
  k0:=Int.mul_ne_zero e0 (den_mul_ne x y)
  bk:=(bE.mul (hx.den.mul hy.den)).mono (by decide)
  bP:=(bP.mul (hx.den.mul hy.den)).mono (by decide)
  bQ:=(bQ.mul (hx.den.mul hy.den)).mono (by decide)
  bR:=(((hx.num.mul bE).mul hy.den).sub (((bP.mul hx.num).mul hy.den).sub ((bQ.mul hy.num).mul hx.den))).mono (by decide)
  bS:=(((hy.num.mul bE).mul hx.den).sub (((bQ.mul hx.num).mul hy.den).add ((bP.mul hy.num).mul hx.den))).mono (by decide)
  p:=by simp only [Rat.intCast_mul,Rat.intCast_sub,Rat.intCast_add]; rw [<- hp]; grind
  q:=by simp only [Rat.intCast_mul,Rat.intCast_sub,Rat.intCast_add]; rw [<- hq]; grind
  r:=by simp only [Rat.intCast_mul,Rat.intCast_sub,Rat.intCast_add]; rw [<- hp,<- hq,nd x,nd y]; grind
  s:=by simp only [Rat.intCast_mul,Rat.intCast_sub,Rat.intCast_add]; rw [<- hp,<- hq,nd x,nd y]; grind
theorem mirror_rep {a b c:Rat} (ha:Sz 24 a) (hb:Sz 24 b) (hc:Sz 24 c) (n:a*a+b*b≠0):∃ k P Q R S,FRep (flS (.mirror a b c)) k P Q R S:=by
  have dA:=dn a
  have dB:=dn b
  have dC:=dn c
  have bA:Bt 48 (a.num*(b.den:Int)):=ha.num.mul hb.den
  have bB:Bt 48 (b.num*(a.den:Int)):=hb.num.mul ha.den
  have eA:((a.num*(b.den:Int):Int):Rat)=a*(((a.den:Int):Rat)*((b.den:Int):Rat)):=by rw [Rat.intCast_mul,nd a]; grind
  have eB:((b.num*(a.den:Int):Int):Rat)=b*(((a.den:Int):Rat)*((b.den:Int):Rat)):=by rw [Rat.intCast_mul,nd b]; grind
  generalize a.num*(b.den:Int)=A at bA eA
  generalize b.num*(a.den:Int)=B at bB eB
  have eC:=nd c
  have dd:(((a.den:Int)*(b.den:Int):Int):Rat)=((a.den:Int):Rat)*((b.den:Int):Rat):=by rw [Rat.intCast_mul]
  have bd:Bt 48 ((a.den:Int)*(b.den:Int)):=ha.den.mul hb.den
  have dne:((a.den:Int):Rat)*((b.den:Int):Rat)≠0:=fun z=>by rcases Rat.mul_eq_zero.mp z with q | q; exact dA q; exact dB q
  rw [<- dd] at eA eB dne
  generalize (a.den:Int)*(b.den:Int)=d at bd eA eB dne
  have es:((A*A+B*B:Int):Rat)=(a*a+b*b)*((d:Rat)*(d:Rat)):=by
    rw [Rat.intCast_add,Rat.intCast_mul,Rat.intCast_mul,eA,eB]; grind
  have sne:((A*A+B*B:Int):Rat)≠0:=fun z=>by
    rw [es] at z
    rcases Rat.mul_eq_zero.mp z with q | q
    · exact n q
    · rcases Rat.mul_eq_zero.mp q with q | q <;> exact dne q
  have s0:A*A+B*B≠0:=fun z=>sne (by rw [z]; rfl)
  refine⟨(A*A+B*B)*(c.den:Int),-(A*A - B*B)*(c.den:Int),-(B*A+A*B)*(c.den:Int),-(A*d*c.num+A*d*c.num),-(B*d*c.num+B*d*c.num),⟨Int.mul_ne_zero s0 (den_ne c),?_,?_,?_,?_,?_,?_,?_,?_,?_⟩⟩
  · exact(((bA.mul bA).add (bB.mul bB)).mul hc.den).mono (by decide)
  · exact(((bA.mul bA).sub (bB.mul bB)).neg.mul hc.den).mono (by decide)
  · exact(((bB.mul bA).add (bA.mul bB)).neg.mul hc.den).mono (by decide)
  · exact((((bA.mul bd).mul hc.num).add ((bA.mul bd).mul hc.num)).neg).mono (by decide)
  · exact((((bB.mul bd).mul hc.num).add ((bB.mul bd).mul hc.num)).neg).mono (by decide)
  all_goals
    simp only [flS]
    rw [Rat.intCast_mul] <;> rw [es]
    simp only [Rat.intCast_mul,Rat.intCast_sub,Rat.intCast_add,Rat.intCast_neg]
    try rw [eA]
    try rw [eB]
    try rw [eC]
    generalize a*a+b*b=k at n
    grind
theorem b_0:Bt 1 0:=by show(0:Int).natAbs < 2 ^ 1; decide
theorem b_1:Bt 1 1:=by show(1:Int).natAbs < 2 ^ 1; decide
theorem fl_rep {l:Ld} (ok:LdOk l) (sz:LdSz l) (hl:isInv l=false):∃ k P Q R S,FRep (flS l) k P Q R S:=by
  cases l with
  | shift x y=>
    have h:=turn_rep (p:=1) (q:=0) (P:=1) (Q:=0) (E:=1) sz.1 sz.2 (by decide) (b_1.mono (by decide)) (b_0.mono (by decide)) (b_1.mono (by decide)) (by show(1:Rat)*1=1; grind) (by show(0:Rat)*1=0; grind)
    obtain⟨k0,bk,bP,bQ,_,_,p,q,_,_⟩:=h
    simp only at p q
    refine⟨_,_,_,x.num*(y.den:Int),y.num*(x.den:Int),⟨k0,bk,bP,bQ,(sz.1.num.mul sz.2.den).mono (by decide),(sz.2.num.mul sz.1.den).mono (by decide),p,q,?_,?_⟩⟩
    · simp only [flS,Rat.intCast_mul]; rw [nd x]; show x*(1*_)=_; grind
    · simp only [flS,Rat.intCast_mul]; rw [nd y]; show y*(1*_)=_; grind
  | grow x y b=>exact⟨_,_,_,_,_,turn_rep (p:=b) (q:=0) (P:=b.num) (Q:=0) (E:=(b.den:Int)) sz.1 sz.2.1 (den_ne b) (sz.2.2.num.mono (by decide)) (b_0.mono (by decide)) (sz.2.2.den.mono (by decide)) (nd b).symm (by show(0:Rat)*_=0; grind)⟩
  | turn x y p q=>
    obtain⟨hx,hy,P,Q,E,e0,bP,bQ,bE,hp,hq⟩:=sz
    exact⟨_,_,_,_,_,turn_rep hx hy e0 bP bQ bE hp hq⟩
  | mirror a b c=>exact mirror_rep sz.1 sz.2.1 sz.2.2 ok
  | invert x y p=>cases hl
theorem step_move {u h:Rat} {n:Nat} {z:Z4} {f:Fl} {t b:I4} {k P Q R' S:Int} (F:FRep f k P Q R' S) (bt:B4 n t) (bb:B4 n b) (nz:Nz h b.v) (R:Rz u h z t.v b.v):
    B4 (n+160) (iP (iT (cjI t f.m) P Q) (iT (cjI b f.m) R' S))/\B4 (n+160) (iT (cjI b f.m) k 0)/\Nz h (iT (cjI b f.m) k 0).v/\Rz u h (mvZ f z) (iP (iT (cjI t f.m) P Q) (iT (cjI b f.m) R' S)).v (iT (cjI b f.m) k 0).v:=by
  have k0:(k:Rat)≠0:=fun e=>F.k0 (by exact_mod_cast e)
  refine⟨(((bt.cj f.m).times F.bP F.bQ).plus ((bb.cj f.m).times F.bR F.bS)).mono (by omega),((bb.cj f.m).times F.bk (b_0.mono (by decide))).mono (by omega),?_,?_⟩
  · rw [iT_v,cjI_v]
    exact(nz.cj f.m).times k0
  · have:=Rz.move (f:=f) (k:=(k:Rat)) R
    rw [iP_v,iT_v,iT_v,iT_v,cjI_v,cjI_v,<- F.p,<- F.q,<- F.r,<- F.s]
    exact this
def invW (t b:I4) (m X Y:Int):I4:=iM (iT t m 0) (iT b X Y)
theorem step_inv {u h x y p:Rat} {n:Nat} {z z':Z4} {t b:I4} {m X Y p0 p1:Int} (u0:0 < u) (hu:NoSq u) (bt:B4 n t) (bb:B4 n b) (nz:Nz h b.v) (R:Rz u h z t.v b.v) (m0:m≠0) (bm:Bt 48 m) (bX:Bt 48 X) (bY:Bt 48 Y) (b0:Bt 24 p0) (b1:Bt 24 p1)
    (eX:x*m=X) (eY:y*m=Y) (p10:p1≠0) (ep:(p0:Rat)=p*p1) (ne:qN u (sumS u (wayS z x y))≠0) (hz:ldS u (.invert x y p) z=some z'):
    B4 (n+160) (iP (iT (iC (invW t b m X Y)) (p1*X) (p1*Y)) (iT (iC b) (p0*m*m) 0))/\B4 (n+160) (iT (iC (invW t b m X Y)) (p1*m) 0)/\Nz h (iT (iC (invW t b m X Y)) (p1*m) 0).v/\Rz u h z' (iP (iT (iC (invW t b m X Y)) (p1*X) (p1*Y)) (iT (iC b) (p0*m*m) 0)).v (iT (iC (invW t b m X Y)) (p1*m) 0).v:=by
  have mr:(m:Rat)≠0:=fun e=>m0 (by exact_mod_cast e)
  have pr:(p1:Rat)≠0:=fun e=>p10 (by exact_mod_cast e)
  have z0:∀ {j:Nat},1<=j->Bt j 0:=fun hj=>b_0.mono hj
  have bW:B4 (n+64) (invW t b m X Y):=((bt.times bm (z0 (by decide))).minus (bb.times bX bY)).mono (by omega)
  have eW:(invW t b m X Y).v=vM (vT t.v m 0) (vT b.v (x*m) (y*m)):=by unfold invW; rw [iM_v,iT_v,iT_v,<- eX,<- eY]; rfl
  refine⟨(((bW.conj.times (m:=72) (b1.mul bX) (b1.mul bY)).mono (n:=n+159) (by omega)).plus ((bb.conj.times (m:=120) ((b0.mul bm).mul bm) (z0 (by decide))).mono (n:=n+159) (by omega))).mono (by omega),(bW.conj.times (m:=72) (b1.mul bm) (z0 (by decide))).mono (by omega),?_,?_⟩
  · have nW:Nz h (invW t b m X Y).v:=by rw [eW]; exact(way_zero R u0 hu nz mr).mpr ne
    rw [iT_v,iC_v]
    refine Nz.times (nW.cj true) ?_
    rw [Rat.intCast_mul]
    intro e
    rcases Rat.mul_eq_zero.mp e with q | q
    · exact pr q
    · exact mr q
  · have:=Rz.invert (m:=(m:Rat)) R ne ep hz
    rw [iP_v,iT_v,iT_v,iT_v,iC_v,iC_v,eW,Rat.intCast_mul,Rat.intCast_mul,Rat.intCast_mul,Rat.intCast_mul,Rat.intCast_mul,<- eX,<- eY]
    exact this
def jq0 (w:Int) (b:I4):Int:=(b.a*b.a+b.b*b.b*w)+(b.c*b.c+b.d*b.d*w)
def jq1 (b:I4):Int:=(b.a*b.b+b.b*b.a)+(b.c*b.d+b.d*b.c)
def jn (w:Int) (b:I4):Int:=jq0 w b*jq0 w b - jq1 b*jq1 b*w
def jx0 (w:Int) (t b:I4):Int:=(t.a*b.a+t.b*b.b*w)+(t.c*b.c+t.d*b.d*w)
def jx1 (t b:I4):Int:=(t.a*b.b+t.b*b.a)+(t.c*b.d+t.d*b.c)
def jy0 (w:Int) (t b:I4):Int:=(t.a*-b.c+t.b*-b.d*w)+(t.c*b.a+t.d*b.b*w)
def jy1 (t b:I4):Int:=(t.a*-b.d+t.b*-b.c)+(t.c*b.b+t.d*b.a)
theorem jq0_v {w:Int} {b:I4}:(jq0 w b:Rat)=sq0 w b.v:=by unfold jq0 sq0; simp only [Rat.intCast_mul,Rat.intCast_sub,Rat.intCast_add,Rat.intCast_neg,I4.v]
theorem jq1_v {b:I4}:(jq1 b:Rat)=sq1 b.v:=by unfold jq1 sq1; simp only [Rat.intCast_mul,Rat.intCast_sub,Rat.intCast_add,Rat.intCast_neg,I4.v]
theorem jn_v {w:Int} {b:I4}:(jn w b:Rat)=nrm w b.v:=by unfold jn nrm; rw [<- jq0_v,<- jq1_v]; simp only [Rat.intCast_mul,Rat.intCast_sub,Rat.intCast_add,Rat.intCast_neg,I4.v]
theorem jx0_v {w:Int} {t b:I4}:(jx0 w t b:Rat)=px0 w t.v b.v:=by unfold jx0 px0; simp only [Rat.intCast_mul,Rat.intCast_sub,Rat.intCast_add,Rat.intCast_neg,I4.v]
theorem jx1_v {t b:I4}:(jx1 t b:Rat)=px1 t.v b.v:=by unfold jx1 px1; simp only [Rat.intCast_mul,Rat.intCast_sub,Rat.intCast_add,Rat.intCast_neg,I4.v]
theorem jy0_v {w:Int} {t b:I4}:(jy0 w t b:Rat)=py0 w t.v b.v:=by unfold jy0 py0; simp only [Rat.intCast_mul,Rat.intCast_sub,Rat.intCast_add,Rat.intCast_neg,I4.v]
theorem jy1_v {t b:I4}:(jy1 t b:Rat)=py1 t.v b.v:=by unfold jy1 py1; simp only [Rat.intCast_mul,Rat.intCast_sub,Rat.intCast_add,Rat.intCast_neg,I4.v]
theorem bq0 {n v:Nat} {w:Int} {b:I4} (h:B4 n b) (hw:Bt v w):Bt (2*n+v+2) (jq0 w b):=(((h.a.mul h.a).add ((h.b.mul h.b).mul hw)).add ((h.c.mul h.c).add ((h.d.mul h.d).mul hw))).mono (by omega)
theorem bq1 {n:Nat} {b:I4} (h:B4 n b):Bt (2*n+2) (jq1 b):=(((h.a.mul h.b).add (h.b.mul h.a)).add ((h.c.mul h.d).add (h.d.mul h.c))).mono (by omega)
theorem bn {n v:Nat} {w:Int} {b:I4} (h:B4 n b) (hw:Bt v w):Bt (4*n+2*v+5) (jn w b):=(((bq0 h hw).mul (bq0 h hw)).sub (((bq1 h).mul (bq1 h)).mul hw)).mono (by omega)
theorem bx0 {n v:Nat} {w:Int} {t b:I4} (g:B4 n t) (h:B4 n b) (hw:Bt v w):Bt (2*n+v+2) (jx0 w t b):=(((g.a.mul h.a).add ((g.b.mul h.b).mul hw)).add ((g.c.mul h.c).add ((g.d.mul h.d).mul hw))).mono (by omega)
theorem bx1 {n:Nat} {t b:I4} (g:B4 n t) (h:B4 n b):Bt (2*n+2) (jx1 t b):=(((g.a.mul h.b).add (g.b.mul h.a)).add ((g.c.mul h.d).add (g.d.mul h.c))).mono (by omega)
theorem by0 {n v:Nat} {w:Int} {t b:I4} (g:B4 n t) (h:B4 n b) (hw:Bt v w):Bt (2*n+v+2) (jy0 w t b):=(((g.a.mul h.c.neg).add ((g.b.mul h.d.neg).mul hw)).add ((g.c.mul h.a).add ((g.d.mul h.b).mul hw))).mono (by omega)
theorem by1 {n:Nat} {t b:I4} (g:B4 n t) (h:B4 n b):Bt (2*n+2) (jy1 t b):=(((g.a.mul h.d.neg).add (g.b.mul h.c.neg)).add ((g.c.mul h.b).add (g.d.mul h.a))).mono (by omega)
def sd0 (w p0 p1 s0 s1:Int):Int:=p0*s0+p1*-s1*w
def sd1 (p0 p1 s0 s1:Int):Int:=p0*-s1+p1*s0
theorem bs0 {n v:Nat} {w p0 p1 s0 s1:Int} (h0:Bt (2*n+v+2) p0) (h1:Bt (2*n+2) p1) (g0:Bt (2*n+v+2) s0) (g1:Bt (2*n+2) s1) (hw:Bt v w):Bt (4*n+2*v+5) (sd0 w p0 p1 s0 s1):=((h0.mul g0).add ((h1.mul g1.neg).mul hw)).mono (by omega)
theorem bs1 {n v:Nat} {p0 p1 s0 s1:Int} (h0:Bt (2*n+v+2) p0) (h1:Bt (2*n+2) p1) (g0:Bt (2*n+v+2) s0) (g1:Bt (2*n+2) s1):Bt (4*n+v+5) (sd1 p0 p1 s0 s1):=((h0.mul g1.neg).add (h1.mul g0)).mono (by omega)
structure Out (h:Rat) (z:Z4) (w:Int) (t b:I4):Prop where
  n0:jn w b≠0
  x1:z.1.1*(jn w b:Rat)=sd0 w (jx0 w t b) (jx1 t b) (jq0 w b) (jq1 b)
  x2:z.1.2*(jn w b:Rat)=sd1 (jx0 w t b) (jx1 t b) (jq0 w b) (jq1 b)*h
  y1:z.2.1*(jn w b:Rat)=sd0 w (jy0 w t b) (jy1 t b) (jq0 w b) (jq1 b)
  y2:z.2.2*(jn w b:Rat)=sd1 (jy0 w t b) (jy1 t b) (jq0 w b) (jq1 b)*h
theorem Rz.out {u h:Rat} {z:Z4} {w:Int} {t b:I4} (u0:0 < u) (hu:NoSq u) (hw:(w:Rat)=h*h*u) (nz:Nz h b.v) (R:Rz u h z t.v b.v):Out h z w t b:=by
  have ne:=nrm_ne u0 hu nz
  obtain⟨a1,a2⟩:=solve (Rp.px R).1 (Rp.px R).2
  obtain⟨a3,a4⟩:=solve (Rp.py R).1 (Rp.py R).2
  rw [<- hw] at ne a1 a2 a3 a4
  have en:(jn w b:Rat)=sq0 w b.v*sq0 w b.v - sq1 b.v*sq1 b.v*w:=jn_v
  refine⟨fun z=>ne (by rw [<- jn_v,z]; rfl),?_,?_,?_,?_⟩
  · rw [en,<- a1]; unfold sd0; simp only [Rat.intCast_mul,Rat.intCast_add,Rat.intCast_neg]; rw [jx0_v,jx1_v,jq0_v,jq1_v]
  · rw [en,<- a2]; unfold sd1; simp only [Rat.intCast_mul,Rat.intCast_add,Rat.intCast_neg]; rw [jx0_v,jx1_v,jq0_v,jq1_v]
  · rw [en,<- a3]; unfold sd0; simp only [Rat.intCast_mul,Rat.intCast_add,Rat.intCast_neg]; rw [jy0_v,jy1_v,jq0_v,jq1_v]
  · rw [en,<- a4]; unfold sd1; simp only [Rat.intCast_mul,Rat.intCast_add,Rat.intCast_neg]; rw [jy0_v,jy1_v,jq0_v,jq1_v]
theorem ov {n:Nat} {x:Rat} {D k:Int} (d0:D≠0) (bd:Bt n D) (e:x*D=k) (bk:Bt n k):Sz n x:=by
  have h:x=Rat.divInt k D:=by
    have dr:(D:Rat)≠0:=fun z=>d0 (by exact_mod_cast z)
    rw [Rat.divInt_eq_div,<- e]; grind
  rw [h]; exact Sz.divInt bk bd d0
noncomputable def ldA (u:Rat):List Ld->Z4->Option Z4
  | [],z=>some z
  | l::ls,z=>match ldS u l z with
    | none=>none
    | some z'=>ldA u ls z'
def flM (f:Fl):Int:=lcmL 1 [f.p,f.q,f.r,f.s]
def mvT (f:Fl) (t b:I4):I4:=iP (iT (cjI t f.m) (whl f.p (flM f)) (whl f.q (flM f))) (iT (cjI b f.m) (whl f.r (flM f)) (whl f.s (flM f)))
def mvB (f:Fl) (b:I4):I4:=iT (cjI b f.m) (flM f) 0
def vwW (x y:Rat) (t b:I4):I4:=invW t b (lcmL 1 [x,y]) (whl x (lcmL 1 [x,y])) (whl y (lcmL 1 [x,y]))
def vwT (x y p:Rat) (t b:I4):I4:=iP (iT (iC (vwW x y t b)) ((p.den:Int)*whl x (lcmL 1 [x,y])) ((p.den:Int)*whl y (lcmL 1 [x,y]))) (iT (iC b) (p.num*lcmL 1 [x,y]*lcmL 1 [x,y]) 0)
def vwB (x y p:Rat) (t b:I4):I4:=iT (iC (vwW x y t b)) ((p.den:Int)*lcmL 1 [x,y]) 0
def isO (i:I4):Bool:=(i.a == 0) && ((i.b == 0) && ((i.c == 0) && ((i.d == 0) && true)))
structure Inv (u h:Rat) (n:Nat) (z:Z4) (t b:I4):Prop where
  bt:B4 n t
  bb:B4 n b
  pt:Pln h t
  pb:Pln h b
  nz:Nz h b.v
  r:Rz u h z t.v b.v
theorem fl_rep' {f:Fl} {k P Q R S:Int} (F:FRep f k P Q R S):FRep f (flM f) (whl f.p (flM f)) (whl f.q (flM f)) (whl f.r (flM f)) (whl f.s (flM f)):=by
  have hd:flM f ∣ k:=lcmL_least (Int.one_dvd k) fun q h=>by
    simp only [List.mem_cons,List.not_mem_nil,or_false] at h
    rcases h with rfl | rfl | rfl | rfl
    · exact den_dvd F.p
    · exact den_dvd F.q
    · exact den_dvd F.r
    · exact den_dvd F.s
  have hq:=(lcmL_dvd (qs:=[f.p,f.q,f.r,f.s]) (m:=1)).2
  have h0:0 < flM f:=lcmL_pos (by decide)
  have d1:(f.p.den:Int) ∣ flM f:=hq f.p (by simp)
  have d2:(f.q.den:Int) ∣ flM f:=hq f.q (by simp)
  have d3:(f.r.den:Int) ∣ flM f:=hq f.r (by simp)
  have d4:(f.s.den:Int) ∣ flM f:=hq f.s (by simp)
  exact⟨by omega,dvd_bt hd F.k0 F.bk,whl_bt F.p d1 hd F.k0 F.bP,whl_bt F.q d2 hd F.k0 F.bQ,whl_bt F.r d3 hd F.k0 F.bR,whl_bt F.s d4 hd F.k0 F.bS,(whl_eq d1).symm,(whl_eq d2).symm,(whl_eq d3).symm,(whl_eq d4).symm⟩
theorem fl_sz {l:Ld} (ok:LdOk l) (sz:LdSz l) (hl:isInv l=false):Sz 160 (flS l).p/\Sz 160 (flS l).q/\Sz 160 (flS l).r/\Sz 160 (flS l).s:=by
  obtain⟨k,P,Q,R,S,F⟩:=fl_rep ok sz hl
  exact⟨(ov F.k0 F.bk F.p F.bP).mono (by decide),(ov F.k0 F.bk F.q F.bQ).mono (by decide),(ov F.k0 F.bk F.r F.bR).mono (by decide),(ov F.k0 F.bk F.s F.bS).mono (by decide)⟩
theorem Inv.move {u h:Rat} {n:Nat} {z:Z4} {t b:I4} {l:Ld} (I:Inv u h n z t b) (ok:LdOk l) (sz:LdSz l) (hl:isInv l=false):Inv u h (n+160) (mvZ (flS l) z) (mvT (flS l) t b) (mvB (flS l) b):=by
  obtain⟨k,P,Q,R,S,F⟩:=fl_rep ok sz hl
  obtain⟨h1,h2,h3,h4⟩:=step_move (fl_rep' F) I.bt I.bb I.nz I.r
  exact⟨h1,h2,((I.pt.cj _).times).plus ((I.pb.cj _).times),(I.pb.cj _).times,h3,h4⟩
theorem isO_iff {i:I4}:isO i=true↔i.a=0/\i.b=0/\i.c=0/\i.d=0:=by
  unfold isO
  simp only [Bool.and_eq_true,beq_iff_eq,and_true]
theorem inv_nums {x y:Rat} (hx:Sz 24 x) (hy:Sz 24 y):0 < lcmL 1 [x,y]/\Bt 48 (lcmL 1 [x,y])/\Bt 48 (whl x (lcmL 1 [x,y]))/\Bt 48 (whl y (lcmL 1 [x,y]))/\x*(lcmL 1 [x,y]:Rat)=whl x (lcmL 1 [x,y])/\y*(lcmL 1 [x,y]:Rat)=whl y (lcmL 1 [x,y]):=by
  have ex:x*(((x.den:Int)*(y.den:Int):Int):Rat)=((x.num*(y.den:Int):Int):Rat):=by rw [Rat.intCast_mul,Rat.intCast_mul,nd x]; grind
  have ey:y*(((x.den:Int)*(y.den:Int):Int):Rat)=((y.num*(x.den:Int):Int):Rat):=by rw [Rat.intCast_mul,Rat.intCast_mul,nd y]; grind
  have hd:lcmL 1 [x,y] ∣ (x.den:Int)*(y.den:Int):=lcmL_least (Int.one_dvd _) fun q h=>by
    simp only [List.mem_cons,List.not_mem_nil,or_false] at h
    rcases h with rfl | rfl
    · exact den_dvd ex
    · exact den_dvd ey
  have hq:=(lcmL_dvd (qs:=[x,y]) (m:=1)).2
  have d1:(x.den:Int) ∣ lcmL 1 [x,y]:=hq x (by simp)
  have d2:(y.den:Int) ∣ lcmL 1 [x,y]:=hq y (by simp)
  exact⟨lcmL_pos (by decide),dvd_bt hd (den_mul_ne x y) (hx.den.mul hy.den),whl_bt ex d1 hd (den_mul_ne x y) (hx.num.mul hy.den),whl_bt ey d2 hd (den_mul_ne x y) (hy.num.mul hx.den),(whl_eq d1).symm,(whl_eq d2).symm⟩
theorem Inv.way {u h x y p:Rat} {n:Nat} {z:Z4} {t b:I4} (I:Inv u h n z t b) (u0:0 < u) (hu:NoSq u) (sz:LdSz (.invert x y p)):isO (vwW x y t b)=false↔qN u (sumS u (wayS z x y))≠0:=by
  obtain⟨m0,bm,bX,bY,eX,eY⟩:=inv_nums sz.1 sz.2.1
  have mr:((lcmL 1 [x,y]:Int):Rat)≠0:=fun e=>by
    have e0:lcmL 1 [x,y]=0:=by exact_mod_cast e
    omega
  have eW:(vwW x y t b).v=vM (vT t.v (lcmL 1 [x,y]:Int) 0) (vT b.v (x*(lcmL 1 [x,y]:Int)) (y*(lcmL 1 [x,y]:Int))):=by unfold vwW invW; rw [iM_v,iT_v,iT_v,eX,eY]; rfl
  have pW:Pln h (vwW x y t b):=(I.pt.times).minus (I.pb.times)
  rw [<- way_zero I.r u0 hu I.nz mr,<- eW,nz_iff pW,<- isO_iff]
  cases isO (vwW x y t b) <;> simp
theorem Inv.inv {u h x y p:Rat} {n:Nat} {z z':Z4} {t b:I4} (I:Inv u h n z t b) (u0:0 < u) (hu:NoSq u) (sz:LdSz (.invert x y p)) (e:ldS u (.invert x y p) z=some z'):isO (vwW x y t b)=false/\Inv u h (n+160) z' (vwT x y p t b) (vwB x y p t b):=by
  have ne:qN u (sumS u (wayS z x y))≠0:=fun q=>by
    simp only [ldS] at e
    rw [if_pos q] at e
    cases e
  obtain⟨m0,bm,bX,bY,eX,eY⟩:=inv_nums sz.1 sz.2.1
  obtain⟨h1,h2,h3,h4⟩:=step_inv (p0:=p.num) (p1:=(p.den:Int)) u0 hu I.bt I.bb I.nz I.r (by omega) bm bX bY sz.2.2.num sz.2.2.den eX eY (den_ne p) (nd p) ne e
  have pW:Pln h (vwW x y t b):=(I.pt.times).minus (I.pb.times)
  exact⟨(I.way u0 hu sz).mpr ne,h1,h2,(pW.conj.times).plus (I.pb.conj.times),pW.conj.times,h3,h4⟩
set_option maxHeartbeats 4000000
theorem big1 {n:Nat} (h:n < 300):n < sizeLine:=Nat.lt_of_lt_of_le h (Nat.le_of_ble_eq_true (rfl:Nat.ble 300 sizeLine=true))
abbrev wD (i:I4):D:=.tup [.int i.a,.int i.b,.int i.c,.int i.d]
abbrev qD (t b:I4):D:=.tup [wD t,wD b]
abbrev flD (f:Fl):D:=.tup [W f.p f.q,W f.r f.s,.bl f.m]
def ldD:Ld->D
  | .shift x y=>.tup [.str "shift",fr x,fr y]
  | .grow x y b=>.tup [.str "grow",fr x,fr y,fr b]
  | .turn x y p q=>.tup [.str "turn",fr x,fr y,fr p,fr q]
  | .mirror a b c=>.tup [.str "mirror",fr a,fr b,fr c]
  | .invert x y p=>.tup [.str "invert",fr x,fr y,fr p]
def IsP (S:DH) (y:D) (p q:Int):Prop:=y=.tup [.int p,.int q]\/∃ a,y=.ref a/\S a=some (.lst [.int p,.int q])
theorem gcd_ne {a b:Int} (h:0 < a):((Int.gcd a b:Nat):Int)≠0:=by
  have:=Int.gcd_pos_of_ne_zero_left (a:=a) b (by omega)
  omega
def F_common_multiple:DSp:=fun ds S k=>∃ a b:Int,ds=[.int a,.int b]/\0 < a/\0 < b/\Bt 20000 a/\Bt 20000 b/\k (.int ((Int.lcm a b:Nat):Int)) S
theorem sc_common_multiple:FnScope ["one","other"] ["one","other"] (defScope s_common_multiple):=⟨rfl,rfl,rfl,by decide +kernel,rfl,by decide +kernel,by decide +kernel⟩
theorem ok_common_multiple {P:Program} {w:World} {K:Fg} {mg:Str->Option Value} {base:Heap} {f:Addr} {fd:FuncData} (Fn:Fun K "common_multiple" "common_multiple" s_common_multiple f fd) (c_common_divisor:Own P w K mg base "common_divisor" 1 F_common_divisor) (hBl:BltB mg base) (hTr:P.given.tree=none):
    FnOk P w K mg base CX0 34 f fd ["one","other"] (spU K F_common_multiple):=by
  refine Fn.okJ sc_common_multiple (fun ds S k h=>?_) (fun cdv A outer s H E hr=>⟨_,(ds_onej (dst_retj (d_opj o_mul (d_opj (o_divR hr hBl hTr rfl rfl rfl (by decide)) (d_varj 0) (d_callj c_common_divisor (hr.mono (by decide)) rfl (da_consj (d_varj 0) (da_consj (d_varj 1) da_nilj)))) (d_varj 1)))),fun ds S k h=>?_⟩)
  · obtain⟨_,_,rfl,_⟩:=h
    rfl
  · obtain⟨a,b,rfl,ha,hb,ba,bb,w⟩:=h
    rw [<- lcm_of ha hb] at w
    exact⟨gcd_ne ha,mok (ba.le (HM.natAbs_fdiv_le _ _)) bb,w⟩
theorem lcmL_bt:∀ {qs:List Rat} {m:Int} {n:Nat},0 < m->Bt n m->(∀ q∈qs,Sz 480 q)->Bt (n+480*qs.length) (lcmL m qs)
  | [],_,_,_,h,_=>h
  | q::qs,m,n,h0,h,hq=>(lcmL_bt (qs:=qs) (lcm_pos h0 (den_pos' q)) (lcm_bt h (hq q List.mem_cons_self).den h0 (den_pos' q)) fun p hp=>hq p (List.mem_cons_of_mem _ hp)).mono (by rw [List.length_cons]; omega)
def F_common_bottom:DSp:=fun ds S k=>∃ qs:List Rat,ds=[.tup (qs.map fr)]/\(∀ q∈qs,Sz 480 q)/\qs.length<=4/\k (.int (lcmL 1 qs)) S
theorem sc_common_bottom:FnScope ["fractions","bottom","fraction"] ["fractions"] (defScope s_common_bottom):=⟨rfl,rfl,rfl,by decide +kernel,rfl,by decide +kernel,by decide +kernel⟩
theorem ok_common_bottom {P:Program} {w:World} {K:Fg} {mg:Str->Option Value} {base:Heap} {f:Addr} {fd:FuncData} (Fn:Fun K "common_bottom" "common_bottom" s_common_bottom f fd) (c_common_multiple:Own P w K mg base "common_multiple" 34 F_common_multiple):
    FnOk P w K mg base CX0 35 f fd ["fractions"] (spU K F_common_bottom):=by
  refine Fn.okJ sc_common_bottom (fun ds S k h=>?_) (fun cdv A outer s H E hr=>⟨_,(ds_consj (dst_setj (i:=1) sc_common_bottom.nd d_intj) (ds_consj (dst_forEj PassesOwn.never rfl (d_varj 0) (dg_namej (i:=2) sc_common_bottom.nd) (ds_onej (dst_setj (i:=1) sc_common_bottom.nd (d_callj c_common_multiple (hr.mono (by decide)) rfl (da_consj (d_varj 1) (da_consj (d_ixj x_ixE (d_varj 2) d_intj (fun _ _=>rfl)) da_nilj)))))) (ds_onej (dst_retj (d_varj 1))))),fun ds S k h=>?_⟩)
  · obtain⟨_,rfl,_⟩:=h
    rfl
  · obtain⟨qs,rfl,hq,hl,w⟩:=h
    refine⟨(qs.map fr,none),rfl,?_⟩
    refine loop_ix (fun r L S'=>S'=S/\∃ (rs:List Rat) (m:Int) (n:Nat) (l2:Option D),L=[some (.tup (qs.map fr)),some (.int m),l2]/\r=rs.map fr/\lcmL 1 qs=lcmL m rs/\0 < m/\Bt n m/\n+480*rs.length<=2400/\∀ q∈rs,Sz 480 q) (fun _ _ _ _=>trivial) ?_ ?_ _ _ _ ⟨rfl,qs,1,1,none,rfl,rfl,rfl,by decide,b_1,by omega,hq⟩
    · rintro d r L S1 N1 ⟨rfl,rs,m,n,l2,rfl,er,hm,m0,bm,hn,hr⟩ hN
      cases rs with
      | nil=>cases er
      | cons q rs=>
        cases er
        have hn:n+480*(rs.length+1)<=2400:=hn
        have hq:=hr q List.mem_cons_self
        exact⟨m,(q.den:Int),rfl,m0,den_pos' q,bm.mono (by omega),hq.den.mono (by decide),hN _ _ ⟨rfl,rs,_,n+480,_,rfl,rfl,hm,lcm_pos m0 (den_pos' q),lcm_bt bm hq.den m0 (den_pos' q),by omega,fun p hp=>hr p (List.mem_cons_of_mem _ hp)⟩⟩
    · rintro L S1 ⟨rfl,rs,m,n,l2,rfl,er,hm,_⟩
      cases rs with
      | nil=>rw [hm] at w; exact w
      | cons _ _=>cases er
def F_surd_times:DSp:=fun ds S k=>∃ a b c d w p q:Int,ds=[.tup [.int a,.int b],.tup [.int c,.int d],.int w]/\Bt 200000 a/\Bt 200000 b/\Bt 200000 c/\Bt 200000 d/\Bt 200000 w/\a*c+b*d*w=p/\a*d+b*c=q/\k (.tup [.int p,.int q]) S
theorem sc_surd_times:FnScope ["one","other","base"] ["one","other","base"] (defScope s_surd_times):=⟨rfl,rfl,rfl,by decide +kernel,rfl,by decide +kernel,by decide +kernel⟩
theorem ok_surd_times {P:Program} {w:World} {K:Fg} {mg:Str->Option Value} {base:Heap} {f:Addr} {fd:FuncData} (Fn:Fun K "surd_times" "surd_times" s_surd_times f fd):
    FnOk P w K mg base CX0 1 f fd ["one","other","base"] (spU K F_surd_times):=by
  refine Fn.okJ sc_surd_times (fun ds S k h=>?_) (fun cdv A outer s H E hr=>⟨_,(ds_onej (dst_retj (d_tupj (da_consj (d_opj o_add (d_opj o_mul (d_ixj x_ixE (d_varj 0) d_intj (fun _ _=>rfl)) (d_ixj x_ixE (d_varj 1) d_intj (fun _ _=>rfl))) (d_opj o_mul (d_opj o_mul (d_ixj x_ixE (d_varj 0) d_intj (fun _ _=>rfl)) (d_ixj x_ixE (d_varj 1) d_intj (fun _ _=>rfl))) (d_varj 2))) (da_consj (d_opj o_add (d_opj o_mul (d_ixj x_ixE (d_varj 0) d_intj (fun _ _=>rfl)) (d_ixj x_ixE (d_varj 1) d_intj (fun _ _=>rfl))) (d_opj o_mul (d_ixj x_ixE (d_varj 0) d_intj (fun _ _=>rfl)) (d_ixj x_ixE (d_varj 1) d_intj (fun _ _=>rfl)))) da_nilj))))),fun ds S k h=>?_⟩)
  · obtain⟨_,_,_,_,_,_,_,rfl,_⟩:=h
    rfl
  · obtain⟨a,b,c,d,w,_,_,rfl,ha,hb,hc,hd,hw,rfl,rfl,q⟩:=h
    exact⟨mok ha hc,mok hb hd,mok (hb.mul hd) hw,mok ha hd,mok hb hc,few,q⟩
def F_surd_plus:DSp:=fun ds S k=>∃ a b c d p q:Int,ds=[.tup [.int a,.int b],.tup [.int c,.int d]]/\a+c=p/\b+d=q/\k (.tup [.int p,.int q]) S
theorem sc_surd_plus:FnScope ["one","other"] ["one","other"] (defScope s_surd_plus):=⟨rfl,rfl,rfl,by decide +kernel,rfl,by decide +kernel,by decide +kernel⟩
theorem ok_surd_plus {P:Program} {w:World} {K:Fg} {mg:Str->Option Value} {base:Heap} {f:Addr} {fd:FuncData} (Fn:Fun K "surd_plus" "surd_plus" s_surd_plus f fd):
    FnOk P w K mg base CX0 1 f fd ["one","other"] (spU K F_surd_plus):=by
  refine Fn.okJ sc_surd_plus (fun ds S k h=>?_) (fun cdv A outer s H E hr=>⟨_,(ds_onej (dst_retj (d_tupj (da_consj (d_opj o_add (d_ixj x_ixE (d_varj 0) d_intj (fun _ _=>rfl)) (d_ixj x_ixE (d_varj 1) d_intj (fun _ _=>rfl))) (da_consj (d_opj o_add (d_ixj x_ixE (d_varj 0) d_intj (fun _ _=>rfl)) (d_ixj x_ixE (d_varj 1) d_intj (fun _ _=>rfl))) da_nilj))))),fun ds S k h=>?_⟩)
  · obtain⟨_,_,_,_,_,_,rfl,_⟩:=h
    rfl
  · obtain⟨a,b,c,d,_,_,rfl,rfl,rfl,q⟩:=h
    exact⟨few,q⟩
def F_way_times:DSp:=fun ds S k=>∃ (i:I4) (y:D) (p q:Int),ds=[wD i,y]/\IsP S y p q/\B4 200000 i/\Bt 200000 p/\Bt 200000 q/\k (wD (iT i p q)) S
theorem sc_way_times:FnScope ["way","by"] ["way","by"] (defScope s_way_times):=⟨rfl,rfl,rfl,by decide +kernel,rfl,by decide +kernel,by decide +kernel⟩
theorem ok_way_times {P:Program} {w:World} {K:Fg} {mg:Str->Option Value} {base:Heap} {f:Addr} {fd:FuncData} (Fn:Fun K "way_times" "way_times" s_way_times f fd):
    FnOk P w K mg base CX0 1 f fd ["way","by"] (spU K F_way_times):=by
  refine Fn.okJ sc_way_times (fun ds S k h=>?_) (fun cdv A outer s H E hr=>⟨_,(ds_onej (dst_retj (d_tupj (da_consj (d_opj o_sub (d_opj o_mul (d_ixj x_ixE (d_varj 1) d_intj (fun _ _=>rfl)) (d_ixj x_ixE (d_varj 0) d_intj (fun _ _=>rfl))) (d_opj o_mul (d_ixj x_ixE (d_varj 1) d_intj (fun _ _=>rfl)) (d_ixj x_ixE (d_varj 0) d_intj (fun _ _=>rfl)))) (da_consj (d_opj o_sub (d_opj o_mul (d_ixj x_ixE (d_varj 1) d_intj (fun _ _=>rfl)) (d_ixj x_ixE (d_varj 0) d_intj (fun _ _=>rfl))) (d_opj o_mul (d_ixj x_ixE (d_varj 1) d_intj (fun _ _=>rfl)) (d_ixj x_ixE (d_varj 0) d_intj (fun _ _=>rfl)))) (da_consj (d_opj o_add (d_opj o_mul (d_ixj x_ixE (d_varj 1) d_intj (fun _ _=>rfl)) (d_ixj x_ixE (d_varj 0) d_intj (fun _ _=>rfl))) (d_opj o_mul (d_ixj x_ixE (d_varj 1) d_intj (fun _ _=>rfl)) (d_ixj x_ixE (d_varj 0) d_intj (fun _ _=>rfl)))) (da_consj (d_opj o_add (d_opj o_mul (d_ixj x_ixE (d_varj 1) d_intj (fun _ _=>rfl)) (d_ixj x_ixE (d_varj 0) d_intj (fun _ _=>rfl))) (d_opj o_mul (d_ixj x_ixE (d_varj 1) d_intj (fun _ _=>rfl)) (d_ixj x_ixE (d_varj 0) d_intj (fun _ _=>rfl)))) da_nilj))))))),fun ds S k h=>?_⟩)
  · obtain⟨_,_,_,_,rfl,_⟩:=h
    rfl
  · obtain⟨i,y,p,q,rfl,hy,hi,hp,hq,w⟩:=h
    rcases hy with rfl | ⟨a,rfl,e⟩
    · exact⟨mok hp hi.a,mok hq hi.c,mok hp hi.b,mok hq hi.d,mok hq hi.a,mok hp hi.c,mok hq hi.b,mok hp hi.d,few,w⟩
    · exact⟨_,_,e,rfl,mok hp hi.a,_,_,e,rfl,mok hq hi.c,_,_,e,rfl,mok hp hi.b,_,_,e,rfl,mok hq hi.d,_,_,e,rfl,mok hq hi.a,_,_,e,rfl,mok hp hi.c,_,_,e,rfl,mok hq hi.b,_,_,e,rfl,mok hp hi.d,few,w⟩
def F_way_plus:DSp:=fun ds S k=>∃ i j:I4,ds=[wD i,wD j]/\k (wD (iP i j)) S
theorem sc_way_plus:FnScope ["one","other"] ["one","other"] (defScope s_way_plus):=⟨rfl,rfl,rfl,by decide +kernel,rfl,by decide +kernel,by decide +kernel⟩
theorem ok_way_plus {P:Program} {w:World} {K:Fg} {mg:Str->Option Value} {base:Heap} {f:Addr} {fd:FuncData} (Fn:Fun K "way_plus" "way_plus" s_way_plus f fd):
    FnOk P w K mg base CX0 1 f fd ["one","other"] (spU K F_way_plus):=by
  refine Fn.okJ sc_way_plus (fun ds S k h=>?_) (fun cdv A outer s H E hr=>⟨_,(ds_onej (dst_retj (d_tupj (da_consj (d_opj o_add (d_ixj x_ixE (d_varj 0) d_intj (fun _ _=>rfl)) (d_ixj x_ixE (d_varj 1) d_intj (fun _ _=>rfl))) (da_consj (d_opj o_add (d_ixj x_ixE (d_varj 0) d_intj (fun _ _=>rfl)) (d_ixj x_ixE (d_varj 1) d_intj (fun _ _=>rfl))) (da_consj (d_opj o_add (d_ixj x_ixE (d_varj 0) d_intj (fun _ _=>rfl)) (d_ixj x_ixE (d_varj 1) d_intj (fun _ _=>rfl))) (da_consj (d_opj o_add (d_ixj x_ixE (d_varj 0) d_intj (fun _ _=>rfl)) (d_ixj x_ixE (d_varj 1) d_intj (fun _ _=>rfl))) da_nilj))))))),fun ds S k h=>?_⟩)
  · obtain⟨_,_,rfl,_⟩:=h
    rfl
  · obtain⟨i,j,rfl,w⟩:=h
    exact⟨few,w⟩
def F_way_minus:DSp:=fun ds S k=>∃ i j:I4,ds=[wD i,wD j]/\k (wD (iM i j)) S
theorem sc_way_minus:FnScope ["one","other"] ["one","other"] (defScope s_way_minus):=⟨rfl,rfl,rfl,by decide +kernel,rfl,by decide +kernel,by decide +kernel⟩
theorem ok_way_minus {P:Program} {w:World} {K:Fg} {mg:Str->Option Value} {base:Heap} {f:Addr} {fd:FuncData} (Fn:Fun K "way_minus" "way_minus" s_way_minus f fd):
    FnOk P w K mg base CX0 1 f fd ["one","other"] (spU K F_way_minus):=by
  refine Fn.okJ sc_way_minus (fun ds S k h=>?_) (fun cdv A outer s H E hr=>⟨_,(ds_onej (dst_retj (d_tupj (da_consj (d_opj o_sub (d_ixj x_ixE (d_varj 0) d_intj (fun _ _=>rfl)) (d_ixj x_ixE (d_varj 1) d_intj (fun _ _=>rfl))) (da_consj (d_opj o_sub (d_ixj x_ixE (d_varj 0) d_intj (fun _ _=>rfl)) (d_ixj x_ixE (d_varj 1) d_intj (fun _ _=>rfl))) (da_consj (d_opj o_sub (d_ixj x_ixE (d_varj 0) d_intj (fun _ _=>rfl)) (d_ixj x_ixE (d_varj 1) d_intj (fun _ _=>rfl))) (da_consj (d_opj o_sub (d_ixj x_ixE (d_varj 0) d_intj (fun _ _=>rfl)) (d_ixj x_ixE (d_varj 1) d_intj (fun _ _=>rfl))) da_nilj))))))),fun ds S k h=>?_⟩)
  · obtain⟨_,_,rfl,_⟩:=h
    rfl
  · obtain⟨i,j,rfl,w⟩:=h
    exact⟨few,w⟩
def F_way_mirrored:DSp:=fun ds S k=>∃ i:I4,ds=[wD i]/\k (wD (iC i)) S
theorem sc_way_mirrored:FnScope ["way"] ["way"] (defScope s_way_mirrored):=⟨rfl,rfl,rfl,by decide +kernel,rfl,by decide +kernel,by decide +kernel⟩
theorem ok_way_mirrored {P:Program} {w:World} {K:Fg} {mg:Str->Option Value} {base:Heap} {f:Addr} {fd:FuncData} (Fn:Fun K "way_mirrored" "way_mirrored" s_way_mirrored f fd):
    FnOk P w K mg base CX0 1 f fd ["way"] (spU K F_way_mirrored):=by
  refine Fn.okJ sc_way_mirrored (fun ds S k h=>?_) (fun cdv A outer s H E hr=>⟨_,(ds_onej (dst_retj (d_tupj (da_consj (d_ixj x_ixE (d_varj 0) d_intj (fun _ _=>rfl)) (da_consj (d_ixj x_ixE (d_varj 0) d_intj (fun _ _=>rfl)) (da_consj (d_unj o_neg (d_ixj x_ixE (d_varj 0) d_intj (fun _ _=>rfl))) (da_consj (d_unj o_neg (d_ixj x_ixE (d_varj 0) d_intj (fun _ _=>rfl))) da_nilj))))))),fun ds S k h=>?_⟩)
  · obtain⟨_,rfl,_⟩:=h
    rfl
  · obtain⟨i,rfl,w⟩:=h
    exact⟨few,w⟩
def F_wholes_over:DSp:=fun ds S k=>∃ (x y:Rat) (m:Int),ds=[W x y,.int m]/\Sz 480 x/\Sz 480 y/\Bt 8000 m/\∀ S' p,Ext S S'->S' p=some (.lst [.int (whl x m),.int (whl y m)])->k (.ref p) S'
theorem sc_wholes_over:FnScope ["fractions","bottom"] ["fractions","bottom"] (defScope s_wholes_over):=⟨rfl,rfl,rfl,by decide +kernel,rfl,by decide +kernel,by decide +kernel⟩
theorem ok_wholes_over {P:Program} {w:World} {K:Fg} {mg:Str->Option Value} {base:Heap} {f:Addr} {fd:FuncData} (Fn:Fun K "wholes_over" "wholes_over" s_wholes_over f fd):
    FnOk P w K mg base CX0 1 f fd ["fractions","bottom"] (spU K F_wholes_over):=by
  refine Fn.okJ sc_wholes_over (fun ds S k h=>?_) (fun cdv A outer s H E hr=>⟨_,(ds_onej (dst_retj (d_compEj rfl (compSc (N:=["fraction","bottom"]) (cap:=[none,some 1]) rfl rfl rfl rfl ⟨rfl,trivial⟩ rfl rfl ⟨⟨rfl,.inl rfl,.inl rfl⟩,trivial⟩) (d_varj 0) (fun _ _ _ _=>(dg_namej (i:=0) (show List.Nodup (["fraction","bottom"]:List Str) from by decide +kernel))) (fun _ _ _ _=>(d_opj o_mul (d_ixj x_ixE (d_varj 0) d_intj (fun _ _=>rfl)) (d_opj o_div (d_varj 1) (d_ixj x_ixE (d_varj 0) d_intj (fun _ _=>rfl)))))))),fun ds S k h=>?_⟩)
  · obtain⟨_,_,_,rfl,_⟩:=h
    rfl
  · obtain⟨x,y,m,rfl,hx,hy,hm,w⟩:=h
    refine⟨([fr x,fr y],none),rfl,fun p hp=>?_⟩
    refine⟨trivial,dok (den_ne x) hx.den,mok hx.num (hm.le (HM.natAbs_fdiv_le _ _)),put_same,big1 (by show 0 < 300; decide),?_⟩
    refine⟨trivial,dok (den_ne y) hy.den,mok hy.num (hm.le (HM.natAbs_fdiv_le _ _)),put_same,big1 (by show 1 < 300; decide),?_⟩
    exact⟨trivial,w _ p (((Ext.new hp).put hp).put hp) put_same⟩
def F_turned:DSp:=fun ds S k=>∃ x y p q:Rat,ds=[W x y,W p q]/\Sz 800 x/\Sz 800 y/\Sz 800 p/\Sz 800 q/\k (W (p*x - q*y) (q*x+p*y)) S
theorem sc_turned:FnScope ["way","by"] ["way","by"] (defScope s_turned):=⟨rfl,rfl,rfl,by decide +kernel,rfl,by decide +kernel,by decide +kernel⟩
theorem ok_turned {P:Program} {w:World} {K:Fg} {mg:Str->Option Value} {base:Heap} {f:Addr} {fd:FuncData} (Fn:Fun K "turned" "turned" s_turned f fd) (c_plus:Own P w K mg base "plus" 35 F_plus) (c_times:Own P w K mg base "times" 35 F_times) (c_minus:Own P w K mg base "minus" 35 F_minus):
    FnOk P w K mg base CX0 36 f fd ["way","by"] (spU K F_turned):=by
  refine Fn.okJ sc_turned (fun ds S k h=>?_) (fun cdv A outer s H E hr=>⟨_,(ds_onej (dst_retj (d_tupj (da_consj (d_callj c_minus (hr.mono (by decide)) rfl (da_consj (d_callj c_times (hr.mono (by decide)) rfl (da_consj (d_ixj x_ixE (d_varj 1) d_intj (fun _ _=>rfl)) (da_consj (d_ixj x_ixE (d_varj 0) d_intj (fun _ _=>rfl)) da_nilj))) (da_consj (d_callj c_times (hr.mono (by decide)) rfl (da_consj (d_ixj x_ixE (d_varj 1) d_intj (fun _ _=>rfl)) (da_consj (d_ixj x_ixE (d_varj 0) d_intj (fun _ _=>rfl)) da_nilj))) da_nilj))) (da_consj (d_callj c_plus (hr.mono (by decide)) rfl (da_consj (d_callj c_times (hr.mono (by decide)) rfl (da_consj (d_ixj x_ixE (d_varj 1) d_intj (fun _ _=>rfl)) (da_consj (d_ixj x_ixE (d_varj 0) d_intj (fun _ _=>rfl)) da_nilj))) (da_consj (d_callj c_times (hr.mono (by decide)) rfl (da_consj (d_ixj x_ixE (d_varj 1) d_intj (fun _ _=>rfl)) (da_consj (d_ixj x_ixE (d_varj 0) d_intj (fun _ _=>rfl)) da_nilj))) da_nilj))) da_nilj))))),fun ds S k h=>?_⟩)
  · obtain⟨_,_,_,_,rfl,_⟩:=h
    rfl
  · obtain⟨x,y,p,q,rfl,hx,hy,hp,hq,w⟩:=h
    exact⟨p,x,rfl,hp.mono (by decide),hx.mono (by decide),q,y,rfl,hq.mono (by decide),hy.mono (by decide),_,_,rfl,(hp.mul hx).mono (by decide),(hq.mul hy).mono (by decide),q,x,rfl,hq.mono (by decide),hx.mono (by decide),p,y,rfl,hp.mono (by decide),hy.mono (by decide),_,_,rfl,(hq.mul hx).mono (by decide),(hp.mul hy).mono (by decide),few,w⟩
def F_surd_over:DSp:=fun ds S k=>∃ u a b e:Rat,ds=[N u a b,fr (e*e*u)]/\0 < u/\(b=0\/e≠0)/\Sz 1000 a/\Sz 1000 b/\Sz 1000 e/\Sz 4 u/\∀ m:Int,0 < m->(a.den:Int) ∣ m->((b / ab e / (((e*e*u).den:Int):Rat)).den:Int) ∣ m->Bt 6000 m->k (.tup [.tup [.int (whl a m),.int (whl (b / ab e / (((e*e*u).den:Int):Rat)) m)],.int m]) S
theorem sc_surd_over:FnScope ["number","base","portion","bottom","surd"] ["number","base"] (defScope s_surd_over):=⟨rfl,rfl,rfl,by decide +kernel,rfl,by decide +kernel,by decide +kernel⟩
theorem ok_surd_over {P:Program} {w:World} {K:Fg} {mg:Str->Option Value} {base:Heap} {f:Addr} {fd:FuncData} (Fn:Fun K "surd_over" "surd_over" s_surd_over f fd) (c_over:Own P w K mg base "over" 35 F_over) (c_share:Own P w K mg base "share" 37 F_share) (c_common_multiple:Own P w K mg base "common_multiple" 34 F_common_multiple):
    FnOk P w K mg base CX0 38 f fd ["number","base"] (spU K F_surd_over):=by
  refine Fn.okJ sc_surd_over (fun ds S k h=>?_) (fun cdv A outer s H E hr=>⟨_,(ds_consj (dst_setj (i:=2) sc_surd_over.nd (d_callj c_over (hr.mono (by decide)) rfl (da_consj (d_callj c_share (hr.mono (by decide)) rfl (da_consj (d_varj 0) (da_consj (d_varj 1) da_nilj))) (da_consj (d_tupj (da_consj (d_ixj x_ixE (d_varj 1) d_intj (fun _ _=>rfl)) (da_consj d_intj da_nilj))) da_nilj)))) (ds_consj (dst_setj (i:=3) sc_surd_over.nd (d_callj c_common_multiple (hr.mono (by decide)) rfl (da_consj (d_ixj x_ixE (d_ixj x_ixE (d_varj 0) d_intj (fun _ _=>rfl)) d_intj (fun _ _=>rfl)) (da_consj (d_ixj x_ixE (d_varj 2) d_intj (fun _ _=>rfl)) da_nilj)))) (ds_consj (dst_setj (i:=4) sc_surd_over.nd (d_tupj (da_consj (d_opj o_mul (d_ixj x_ixE (d_ixj x_ixE (d_varj 0) d_intj (fun _ _=>rfl)) d_intj (fun _ _=>rfl)) (d_opj o_div (d_varj 3) (d_ixj x_ixE (d_ixj x_ixE (d_varj 0) d_intj (fun _ _=>rfl)) d_intj (fun _ _=>rfl)))) (da_consj (d_opj o_mul (d_ixj x_ixE (d_varj 2) d_intj (fun _ _=>rfl)) (d_opj o_div (d_varj 3) (d_ixj x_ixE (d_varj 2) d_intj (fun _ _=>rfl)))) da_nilj)))) (ds_onej (dst_retj (d_tupj (da_consj (d_varj 4) (da_consj (d_varj 3) da_nilj)))))))),fun ds S k h=>?_⟩)
  · obtain⟨_,_,_,_,rfl,_⟩:=h
    rfl
  · obtain⟨u,a,b,e,rfl,u0,hbe,ha,hb,he,hu,w⟩:=h
    have hd:=den_ne (e*e*u)
    have hB:Sz 2004 (e*e*u):=(he.mul he).mul hu
    have hdr:((((e*e*u).den:Nat):Int):Rat)≠0:=dn (e*e*u)
    have hds:Sz 2004 ((((e*e*u).den:Nat):Int):Rat):=⟨hB.den,by show Bt 2004 1; decide⟩
    have hs:Sz 2001 (b / ab e):=hb.div' he.ab
    have hP:=hs.div hds hdr
    refine⟨u,a,b,e,rfl,u0,hbe,⟨hb.mono (by decide),he.mono (by decide)⟩,hu.mono (by decide),few,_,_,rfl,hdr,hs.mono (by decide),hds.mono (by decide),?_⟩
    generalize b / ab e / ((((e*e*u).den:Nat):Int):Rat)=P at hP w ⊢
    have m0:=lcm_pos (den_pos' a) (den_pos' P)
    have bm:=lcm_bt ha.den hP.den (den_pos' a) (den_pos' P)
    refine⟨_,_,rfl,den_pos' a,den_pos' P,ha.den.mono (by decide),hP.den.mono (by decide),?_⟩
    have w:=w _ m0 (Int.dvd_lcm_left ..) (Int.dvd_lcm_right ..) (bm.mono (by decide))
    generalize ((Int.lcm (a.den:Int) (P.den:Int):Nat):Int)=m at m0 bm w ⊢
    exact⟨dok (den_ne a) ha.den,mok ha.num (bm.le (HM.natAbs_fdiv_le _ _)),dok (den_ne P) hP.den,mok hP.num (bm.le (HM.natAbs_fdiv_le _ _)),few,few,w⟩
set_option maxHeartbeats 4000000
theorem seq_if {c:DT} {t e b2:DS} {M:DEnds} {L:Lo} {S:DH} (P:Lo->DH->Prop) (h2:∀ L S,P L S->b2 M L S) (h1:(∀ L S,P L S->b2 M L S)->dIfS c t e {M with nx:=b2 M} L S):dSeq (dIfS c t e) b2 M L S:=h1 h2
structure Bs (u e h:Rat) (w:Int):Prop where
  hn:0<=h
  hw:(w:Rat)=h*h*u
  eh:ab e*(((e*e*u).den:Int):Rat)=h
  wd:(e*e*u).num*((e*e*u).den:Int)=w
theorem bs_mk {u e:Rat}:Bs u e (ab e*(((e*e*u).den:Int):Rat)) ((e*e*u).num*((e*e*u).den:Int)):=by
  have hd:=den_pos' (e*e*u)
  have hd':(0:Rat)<=(((e*e*u).den:Int):Rat):=by exact_mod_cast Int.le_of_lt hd
  refine⟨Rat.mul_nonneg (ab_nn e) hd',?_,rfl,rfl⟩
  rw [Rat.intCast_mul,nd (e*e*u)]
  have:=ab_sq e
  generalize (((e*e*u).den:Int):Rat)=d
  grind
theorem prt {b e d h:Rat} (hb:b=0\/e≠0) (d0:d≠0) (eh:ab e*d=h):b / ab e / d*h=b:=by
  rcases hb with rfl | he
  · grind
  · have:=ab_ne he
    rw [<- eh]
    generalize ab e=f at this
    grind
theorem whl_sz {n v:Nat} {q:Rat} {m:Int} (hq:Sz n q) (hm:Bt v m):Bt (n+v) (whl q m):=hq.num.mul (hm.le (HM.natAbs_fdiv_le _ _))
theorem sc_of {q:Rat} {m M:Int} (h:(q.den:Int) ∣ m) (hm:m ∣ M) (m0:0 < m):((whl q m*M.fdiv m:Int):Rat)=q*(M:Rat):=by
  obtain⟨j,rfl⟩:=hm
  rw [fdiv2 _ m0,Int.mul_ediv_cancel_left _ (by omega),Rat.intCast_mul,Rat.intCast_mul,whl_eq h]
  grind
def F_quotient_of:DSp:=fun ds S k=>∃ (u:Rat) (z:Z4),ds=[Pq u z.1 z.2,fr (pick z.1.2 z.2.2*pick z.1.2 z.2.2*u)]/\0 < u/\Sz 4 u/\Sz 1000 z.1.1/\Sz 1000 z.1.2/\Sz 1000 z.2.1/\Sz 1000 z.2.2/\∀ (h:Rat) (w:Int) (t b:I4),Bs u (pick z.1.2 z.2.2) h w->Bt 4100 w->Inv u h 23000 z t b->k (qD t b) S
theorem sc_quotient_of:FnScope ["point","base","x","y","bottom","x_times","y_times","top"] ["point","base"] (defScope s_quotient_of):=⟨rfl,rfl,rfl,by decide +kernel,rfl,by decide +kernel,by decide +kernel⟩
theorem ok_quotient_of {P:Program} {w:World} {K:Fg} {mg:Str->Option Value} {base:Heap} {f:Addr} {fd:FuncData} (Fn:Fun K "quotient_of" "quotient_of" s_quotient_of f fd) (c_surd_over:Own P w K mg base "surd_over" 38 F_surd_over) (c_common_multiple:Own P w K mg base "common_multiple" 34 F_common_multiple):
    FnOk P w K mg base CX0 39 f fd ["point","base"] (spU K F_quotient_of):=by
  refine Fn.okJ sc_quotient_of (fun ds S k h=>?_) (fun cdv A outer s H E hr=>⟨_,(ds_consj (dst_setj (i:=2) sc_quotient_of.nd (d_callj c_surd_over (hr.mono (by decide)) rfl (da_consj (d_ixj x_ixE (d_varj 0) d_intj (fun _ _=>rfl)) (da_consj (d_varj 1) da_nilj)))) (ds_consj (dst_setj (i:=3) sc_quotient_of.nd (d_callj c_surd_over (hr.mono (by decide)) rfl (da_consj (d_ixj x_ixE (d_varj 0) d_intj (fun _ _=>rfl)) (da_consj (d_varj 1) da_nilj)))) (ds_consj (dst_setj (i:=4) sc_quotient_of.nd (d_callj c_common_multiple (hr.mono (by decide)) rfl (da_consj (d_ixj x_ixE (d_varj 2) d_intj (fun _ _=>rfl)) (da_consj (d_ixj x_ixE (d_varj 3) d_intj (fun _ _=>rfl)) da_nilj)))) (ds_consj (dst_setj (i:=5) sc_quotient_of.nd (d_opj o_div (d_varj 4) (d_ixj x_ixE (d_varj 2) d_intj (fun _ _=>rfl)))) (ds_consj (dst_setj (i:=6) sc_quotient_of.nd (d_opj o_div (d_varj 4) (d_ixj x_ixE (d_varj 3) d_intj (fun _ _=>rfl)))) (ds_consj (dst_setj (i:=7) sc_quotient_of.nd (d_tupj (da_consj (d_opj o_mul (d_ixj x_ixE (d_ixj x_ixE (d_varj 2) d_intj (fun _ _=>rfl)) d_intj (fun _ _=>rfl)) (d_varj 5)) (da_consj (d_opj o_mul (d_ixj x_ixE (d_ixj x_ixE (d_varj 2) d_intj (fun _ _=>rfl)) d_intj (fun _ _=>rfl)) (d_varj 5)) (da_consj (d_opj o_mul (d_ixj x_ixE (d_ixj x_ixE (d_varj 3) d_intj (fun _ _=>rfl)) d_intj (fun _ _=>rfl)) (d_varj 6)) (da_consj (d_opj o_mul (d_ixj x_ixE (d_ixj x_ixE (d_varj 3) d_intj (fun _ _=>rfl)) d_intj (fun _ _=>rfl)) (d_varj 6)) da_nilj)))))) (ds_onej (dst_retj (d_tupj (da_consj (d_varj 7) (da_consj (d_tupj (da_consj (d_varj 4) (da_consj d_intj (da_consj d_intj (da_consj d_intj da_nilj))))) da_nilj))))))))))),fun ds S k h=>?_⟩)
  · obtain⟨_,_,rfl,_⟩:=h
    rfl
  · obtain⟨u,z,rfl,u0,hu,h1,h2,h3,h4,w⟩:=h
    obtain⟨⟨x1,x2⟩,⟨y1,y2⟩⟩:=z
    simp only at h1 h2 h3 h4 w
    have he:Sz 1000 (pick x2 y2):=h2.pick h4
    have pb:=pick_b (b:=x2) (d:=y2)
    have pd:=pick_d (b:=x2) (d:=y2)
    refine⟨u,x1,x2,pick x2 y2,rfl,u0,pb,h1,h2,he,hu,fun m1 p1 d1 c1 b1=>⟨u,y1,y2,pick x2 y2,rfl,u0,pd,h3,h4,he,hu,fun m2 p2 d2 c2 b2=>?_⟩⟩
    have hB:=bs_mk (u:=u) (e:=pick x2 y2)
    have bw:Bt 4100 ((pick x2 y2*pick x2 y2*u).num*((pick x2 y2*pick x2 y2*u).den:Int)):=by
      have:=(he.mul he).mul hu
      exact(this.num.mul this.den).mono (by decide)
    have w:=fun t b=>w _ _ t b hB bw
    have hdr:=dn (pick x2 y2*pick x2 y2*u)
    have e1:=prt pb hdr hB.eh
    have e2:=prt pd hdr hB.eh
    have hds:Sz 2004 ((((pick x2 y2*pick x2 y2*u).den:Nat):Int):Rat):=⟨((he.mul he).mul hu).den,by show Bt 2004 1; decide⟩
    have s1:Sz 4005 (x2 / ab (pick x2 y2) / ((((pick x2 y2*pick x2 y2*u).den:Nat):Int):Rat)):=(h2.div' he.ab).div hds hdr
    have s2:Sz 4005 (y2 / ab (pick x2 y2) / ((((pick x2 y2*pick x2 y2*u).den:Nat):Int):Rat)):=(h4.div' he.ab).div hds hdr
    have hz:ab (pick x2 y2)*((((pick x2 y2*pick x2 y2*u).den:Nat):Int):Rat)=0->x2 / ab (pick x2 y2) / ((((pick x2 y2*pick x2 y2*u).den:Nat):Int):Rat)=0/\y2 / ab (pick x2 y2) / ((((pick x2 y2*pick x2 y2*u).den:Nat):Int):Rat)=0:=fun q=>by
      have q2:=(Rat.mul_eq_zero.mp q).resolve_right hdr
      obtain⟨a1,a2⟩:=pick_zero (Classical.byContradiction fun n=>ab_ne n q2)
      rw [q2]
      subst a1 a2
      refine⟨?_,?_⟩ <;> rw [Rat.div_def,Rat.div_def,Rat.zero_mul,Rat.zero_mul]
    generalize x2 / ab (pick x2 y2) / ((((pick x2 y2*pick x2 y2*u).den:Nat):Int):Rat)=P at e1 s1 c1 w hz ⊢
    generalize y2 / ab (pick x2 y2) / ((((pick x2 y2*pick x2 y2*u).den:Nat):Int):Rat)=R at e2 s2 c2 w hz ⊢
    refine⟨m1,m2,rfl,p1,p2,b1.mono (by decide),b2.mono (by decide),?_⟩
    have M0:=lcm_pos p1 p2
    have bM:=lcm_bt b1 b2 p1 p2
    have dM1:m1 ∣ ((Int.lcm m1 m2:Nat):Int):=Int.dvd_lcm_left ..
    have dM2:m2 ∣ ((Int.lcm m1 m2:Nat):Int):=Int.dvd_lcm_right ..
    generalize ((Int.lcm m1 m2:Nat):Int)=M at M0 bM dM1 dM2 ⊢
    have f1:Bt 12000 (M.fdiv m1):=bM.le (HM.natAbs_fdiv_le _ _)
    have f2:Bt 12000 (M.fdiv m2):=bM.le (HM.natAbs_fdiv_le _ _)
    have g1:=whl_sz h1 b1
    have g2:=whl_sz s1 b1
    have g3:=whl_sz h3 b2
    have g4:=whl_sz s2 b2
    refine⟨dok (by omega) b1,dok (by omega) b2,mok g1 f1,mok g2 f1,mok g3 f2,mok g4 f2,few,few,few,w ⟨_,_,_,_⟩ ⟨M,0,0,0⟩ ?_⟩
    refine⟨⟨(g1.mul f1).mono (by decide),(g2.mul f1).mono (by decide),(g3.mul f2).mono (by decide),(g4.mul f2).mono (by decide)⟩,⟨bM.mono (by decide),b_0.mono (by decide),b_0.mono (by decide),b_0.mono (by decide)⟩,fun q=>?_,fun _=>⟨rfl,rfl⟩,fun q=>?_,?_⟩
    · obtain⟨a1,a2⟩:=hz q
      subst a1 a2
      refine⟨?_,?_⟩ <;> (show (0:Rat).num*_*_=0; rw [show (0:Rat).num=0 from rfl,Int.zero_mul,Int.zero_mul])
    · have q0:(M:Rat)=0:=q.1
      have q1:M=0:=by exact_mod_cast q0
      omega
    · have k1:=sc_of d1 dM1 p1
      have k2:=sc_of c1 dM1 p1
      have k3:=sc_of d2 dM2 p2
      have k4:=sc_of c2 dM2 p2
      refine⟨?_,?_,?_,?_⟩ <;> simp only [I4.v,k1,k2,k3,k4,show((0:Int):Rat)=0 from rfl]
      · grind
      · rw [<- e1]; grind
      · grind
      · rw [<- e2]; grind
theorem flM_bt {f:Fl} (hp:Sz 160 f.p) (hq:Sz 160 f.q) (hr:Sz 160 f.r) (hs:Sz 160 f.s):Bt 1921 (flM f):=
  lcmL_bt (n:=1) (by decide) b_1 fun q h=>by
    simp only [List.mem_cons,List.not_mem_nil,or_false] at h
    rcases h with rfl | rfl | rfl | rfl
    · exact hp.mono (by decide)
    · exact hq.mono (by decide)
    · exact hr.mono (by decide)
    · exact hs.mono (by decide)
def F_quotient_moved:DSp:=fun ds S k=>∃ (t b:I4) (f:Fl),ds=[qD t b,flD f]/\B4 30000 t/\B4 30000 b/\Sz 160 f.p/\Sz 160 f.q/\Sz 160 f.r/\Sz 160 f.s/\∀ S',Ext S S'->k (qD (mvT f t b) (mvB f b)) S'
theorem sc_quotient_moved:FnScope ["quotient","move","bottom","grown","shifted"] ["quotient","move"] (defScope s_quotient_moved):=⟨rfl,rfl,rfl,by decide +kernel,rfl,by decide +kernel,by decide +kernel⟩
theorem ok_quotient_moved {P:Program} {w:World} {K:Fg} {mg:Str->Option Value} {base:Heap} {f:Addr} {fd:FuncData} (Fn:Fun K "quotient_moved" "quotient_moved" s_quotient_moved f fd) (c_way_mirrored:Own P w K mg base "way_mirrored" 1 F_way_mirrored) (c_common_bottom:Own P w K mg base "common_bottom" 35 F_common_bottom) (c_way_times:Own P w K mg base "way_times" 1 F_way_times) (c_wholes_over:Own P w K mg base "wholes_over" 1 F_wholes_over) (c_way_plus:Own P w K mg base "way_plus" 1 F_way_plus):
    FnOk P w K mg base CX0 36 f fd ["quotient","move"] (spU K F_quotient_moved):=by
  refine Fn.okJ sc_quotient_moved (fun ds S k h=>?_) (fun cdv A outer s H E hr=>⟨_,(ds_consj (dst_ifj (dt_valj (d_ixj x_ixE (d_varj 1) d_intj (fun _ _=>rfl))) (ds_onej (dst_setj (i:=0) sc_quotient_moved.nd (d_tupj (da_consj (d_callj c_way_mirrored (hr.mono (by decide)) rfl (da_consj (d_ixj x_ixE (d_varj 0) d_intj (fun _ _=>rfl)) da_nilj)) (da_consj (d_callj c_way_mirrored (hr.mono (by decide)) rfl (da_consj (d_ixj x_ixE (d_varj 0) d_intj (fun _ _=>rfl)) da_nilj)) da_nilj))))) ds_nilj) (ds_consj (dst_setj (i:=2) sc_quotient_moved.nd (d_callj c_common_bottom (hr.mono (by decide)) rfl (da_consj (d_opj o_add (d_ixj x_ixE (d_varj 1) d_intj (fun _ _=>rfl)) (d_ixj x_ixE (d_varj 1) d_intj (fun _ _=>rfl))) da_nilj))) (ds_consj (dst_setj (i:=3) sc_quotient_moved.nd (d_callj c_way_times (hr.mono (by decide)) rfl (da_consj (d_ixj x_ixE (d_varj 0) d_intj (fun _ _=>rfl)) (da_consj (d_callj c_wholes_over (hr.mono (by decide)) rfl (da_consj (d_ixj x_ixE (d_varj 1) d_intj (fun _ _=>rfl)) (da_consj (d_varj 2) da_nilj))) da_nilj)))) (ds_consj (dst_setj (i:=4) sc_quotient_moved.nd (d_callj c_way_times (hr.mono (by decide)) rfl (da_consj (d_ixj x_ixE (d_varj 0) d_intj (fun _ _=>rfl)) (da_consj (d_callj c_wholes_over (hr.mono (by decide)) rfl (da_consj (d_ixj x_ixE (d_varj 1) d_intj (fun _ _=>rfl)) (da_consj (d_varj 2) da_nilj))) da_nilj)))) (ds_onej (dst_retj (d_tupj (da_consj (d_callj c_way_plus (hr.mono (by decide)) rfl (da_consj (d_varj 3) (da_consj (d_varj 4) da_nilj))) (da_consj (d_callj c_way_times (hr.mono (by decide)) rfl (da_consj (d_ixj x_ixE (d_varj 0) d_intj (fun _ _=>rfl)) (da_consj (d_tupj (da_consj (d_varj 2) (da_consj d_intj da_nilj))) da_nilj))) da_nilj))))))))),fun ds S k h=>?_⟩)
  · obtain⟨_,_,_,rfl,_⟩:=h
    rfl
  · obtain⟨t,b,f,rfl,ht,hb,hp,hq,hr,hs,w⟩:=h
    have bM:=flM_bt hp hq hr hs
    refine seq_if (fun L S'=>S'=S/\L=[some (qD (cjI t f.m) (cjI b f.m)),some (flD f),none,none,none]) ?_ (fun go=>?_)
    · rintro L S' ⟨rfl,rfl⟩
      refine⟨by simp,by simp,Nat.le_of_ble_eq_true rfl,[f.p,f.q,f.r,f.s],rfl,fun q h=>?_,by show 4<=4; decide,?_⟩
      · simp only [List.mem_cons,List.not_mem_nil,or_false] at h
        rcases h with rfl | rfl | rfl | rfl
        · exact hp.mono (by decide)
        · exact hq.mono (by decide)
        · exact hr.mono (by decide)
        · exact hs.mono (by decide)
      · have ct:=(ht.cj f.m).mono (n:=200000) (by decide)
        have cb:=(hb.cj f.m).mono (n:=200000) (by decide)
        refine⟨f.p,f.q,flM f,rfl,hp.mono (by decide),hq.mono (by decide),bM.mono (by decide),fun S1 p1 e1 h1=>⟨_,_,_,_,rfl,.inr ⟨p1,rfl,h1⟩,ct,(whl_sz hp bM).mono (by decide),(whl_sz hq bM).mono (by decide),?_⟩⟩
        refine⟨f.r,f.s,flM f,rfl,hr.mono (by decide),hs.mono (by decide),bM.mono (by decide),fun S2 p2 e2 h2=>⟨_,_,_,_,rfl,.inr ⟨p2,rfl,h2⟩,cb,(whl_sz hr bM).mono (by decide),(whl_sz hs bM).mono (by decide),?_⟩⟩
        exact⟨_,_,rfl,few,_,_,_,0,rfl,.inl rfl,cb,bM.mono (by decide),b_0.mono (by decide),few,w _ (e1.trans e2)⟩
    · obtain⟨p,q,r,s,m⟩:=f
      cases m with
      | false=>exact go _ _ ⟨rfl,rfl⟩
      | true=>exact⟨t,rfl,b,rfl,few,go _ _ ⟨rfl,rfl⟩⟩
theorem eq_int0 {n:Nat} {i j:Int}:eqT n (.int i) (.int j)=some (i == j):=by cases n <;> rfl
theorem eq_wO {i:I4}:eqT 8 (wD i) (.tup [.int 0,.int 0,.int 0,.int 0])=some (isO i):=by
  show eqTs (eqT 7) [.int i.a,.int i.b,.int i.c,.int i.d] [.int 0,.int 0,.int 0,.int 0]=_
  simp only [eqTs,eq_int0]
  rfl
def F_quotient_inverted:DSp:=fun ds S k=>∃ (t b:I4) (x y p:Rat),ds=[qD t b,W x y,fr p]/\B4 30000 t/\B4 30000 b/\Sz 160 x/\Sz 160 y/\Sz 160 p/\isO (vwW x y t b)=false/\∀ S',Ext S S'->k (qD (vwT x y p t b) (vwB x y p t b)) S'
theorem sc_quotient_inverted:FnScope ["quotient","middle","power","bottom","wholes","way","swapped","from_middle"] ["quotient","middle","power"] (defScope s_quotient_inverted):=⟨rfl,rfl,rfl,by decide +kernel,rfl,by decide +kernel,by decide +kernel⟩
theorem ok_quotient_inverted {P:Program} {w:World} {K:Fg} {mg:Str->Option Value} {base:Heap} {f:Addr} {fd:FuncData} (Fn:Fun K "quotient_inverted" "quotient_inverted" s_quotient_inverted f fd) (c_common_bottom:Own P w K mg base "common_bottom" 35 F_common_bottom) (c_wholes_over:Own P w K mg base "wholes_over" 1 F_wholes_over) (c_way_minus:Own P w K mg base "way_minus" 1 F_way_minus) (c_way_times:Own P w K mg base "way_times" 1 F_way_times) (c_way_mirrored:Own P w K mg base "way_mirrored" 1 F_way_mirrored) (c_way_plus:Own P w K mg base "way_plus" 1 F_way_plus):
    FnOk P w K mg base CX0 36 f fd ["quotient","middle","power"] (spU K F_quotient_inverted):=by
  refine Fn.okJ sc_quotient_inverted (fun ds S k h=>?_) (fun cdv A outer s H E hr=>⟨_,(ds_consj (dst_setj (i:=3) sc_quotient_inverted.nd (d_callj c_common_bottom (hr.mono (by decide)) rfl (da_consj (d_varj 1) da_nilj))) (ds_consj (dst_setj (i:=4) sc_quotient_inverted.nd (d_callj c_wholes_over (hr.mono (by decide)) rfl (da_consj (d_varj 1) (da_consj (d_varj 3) da_nilj)))) (ds_consj (dst_setj (i:=5) sc_quotient_inverted.nd (d_callj c_way_minus (hr.mono (by decide)) rfl (da_consj (d_callj c_way_times (hr.mono (by decide)) rfl (da_consj (d_ixj x_ixE (d_varj 0) d_intj (fun _ _=>rfl)) (da_consj (d_tupj (da_consj (d_varj 3) (da_consj d_intj da_nilj))) da_nilj))) (da_consj (d_callj c_way_times (hr.mono (by decide)) rfl (da_consj (d_ixj x_ixE (d_varj 0) d_intj (fun _ _=>rfl)) (da_consj (d_varj 4) da_nilj))) da_nilj)))) (ds_consj (dst_ifj (dt_cmpj (o_eqX hr) (d_varj 5) (d_tupj (da_consj d_intj (da_consj d_intj (da_consj d_intj (da_consj d_intj da_nilj))))) (nomark _)) (ds_onej dst_neverj) ds_nilj) (ds_consj (dst_setj (i:=5) sc_quotient_inverted.nd (d_callj c_way_mirrored (hr.mono (by decide)) rfl (da_consj (d_varj 5) da_nilj))) (ds_consj (dst_setj (i:=6) sc_quotient_inverted.nd (d_callj c_way_times (hr.mono (by decide)) rfl (da_consj (d_callj c_way_mirrored (hr.mono (by decide)) rfl (da_consj (d_ixj x_ixE (d_varj 0) d_intj (fun _ _=>rfl)) da_nilj)) (da_consj (d_tupj (da_consj (d_opj o_mul (d_opj o_mul (d_ixj x_ixE (d_varj 2) d_intj (fun _ _=>rfl)) (d_varj 3)) (d_varj 3)) (da_consj d_intj da_nilj))) da_nilj)))) (ds_consj (dst_setj (i:=7) sc_quotient_inverted.nd (d_callj c_way_times (hr.mono (by decide)) rfl (da_consj (d_varj 5) (da_consj (d_tupj (da_consj (d_opj o_mul (d_ixj x_ixE (d_varj 2) d_intj (fun _ _=>rfl)) (d_ixj x_ixE (d_varj 4) d_intj (fun _ _=>rfl))) (da_consj (d_opj o_mul (d_ixj x_ixE (d_varj 2) d_intj (fun _ _=>rfl)) (d_ixj x_ixE (d_varj 4) d_intj (fun _ _=>rfl))) da_nilj))) da_nilj)))) (ds_onej (dst_retj (d_tupj (da_consj (d_callj c_way_plus (hr.mono (by decide)) rfl (da_consj (d_varj 7) (da_consj (d_varj 6) da_nilj))) (da_consj (d_callj c_way_times (hr.mono (by decide)) rfl (da_consj (d_varj 5) (da_consj (d_tupj (da_consj (d_opj o_mul (d_ixj x_ixE (d_varj 2) d_intj (fun _ _=>rfl)) (d_varj 3)) (da_consj d_intj da_nilj))) da_nilj))) da_nilj)))))))))))),fun ds S k h=>?_⟩)
  · obtain⟨_,_,_,_,_,rfl,_⟩:=h
    rfl
  · obtain⟨t,b,x,y,p,rfl,ht,hb,hx,hy,hp,h0,w⟩:=h
    have bm:Bt 961 (lcmL 1 [x,y]):=lcmL_bt (n:=1) (by decide) b_1 fun q h=>by
      simp only [List.mem_cons,List.not_mem_nil,or_false] at h
      rcases h with rfl | rfl
      · exact hx.mono (by decide)
      · exact hy.mono (by decide)
    have hxy:∀ q∈[x,y],Sz 480 q:=fun q h=>by
      simp only [List.mem_cons,List.not_mem_nil,or_false] at h
      rcases h with rfl | rfl
      · exact hx.mono (by decide)
      · exact hy.mono (by decide)
    have bX:=whl_sz hx bm
    have bY:=whl_sz hy bm
    have bW:B4 31500 (vwW x y t b):=((ht.times (bm.mono (n:=1200) (by decide)) (b_0.mono (by decide))).minus (hb.times (bX.mono (n:=1200) (by decide)) (bY.mono (n:=1200) (by decide)))).mono (by decide)
    refine⟨[x,y],rfl,hxy,by show 2<=4; decide,x,y,_,rfl,hx.mono (by decide),hy.mono (by decide),bm.mono (by decide),fun S1 p1 e1 h1=>?_⟩
    refine⟨few,t,_,_,0,rfl,.inl rfl,ht.mono (by decide),bm.mono (by decide),b_0.mono (by decide),b,_,_,_,rfl,.inr ⟨p1,rfl,h1⟩,hb.mono (by decide),bX.mono (by decide),bY.mono (by decide),_,_,rfl,few,_,eq_wO,ite_b (fun z=>?_) (fun z=>?_)⟩
    · exact absurd (z.symm.trans h0) (by decide)
    · refine⟨_,rfl,_,rfl,mok hp.num bm,mok (hp.num.mul bm) bm,few,_,_,_,0,rfl,.inl rfl,hb.conj.mono (by decide),((hp.num.mul bm).mul bm).mono (by decide),b_0.mono (by decide),?_⟩
      refine⟨_,_,h1,rfl,mok hp.den bX,_,_,h1,rfl,mok hp.den bY,few,_,_,_,_,rfl,.inl rfl,bW.conj.mono (by decide),(hp.den.mul bX).mono (by decide),(hp.den.mul bY).mono (by decide),?_⟩
      exact⟨_,_,rfl,mok hp.den bm,few,_,_,_,0,rfl,.inl rfl,bW.conj.mono (by decide),(hp.den.mul bm).mono (by decide),b_0.mono (by decide),few,w _ e1⟩
def FX_quotient_inverted (cNoQuotient:Addr):DSpX:=fun ds S k e=>∃ (t b:I4) (x y p:Rat),ds=[qD t b,W x y,fr p]/\B4 30000 t/\B4 30000 b/\Sz 160 x/\Sz 160 y/\Sz 160 p/\(isO (vwW x y t b)=true->∀ S',Ext S S'->e cNoQuotient S')/\(isO (vwW x y t b)=false->∀ S',Ext S S'->k (qD (vwT x y p t b) (vwB x y p t b)) S')
theorem okx_quotient_inverted {P:Program} {w:World} {K:Fg} {mg:Str->Option Value} {base:Heap} {f:Addr} {fd:FuncData} {cNoQuotient:Addr} (Fn:Fun K "quotient_inverted" "quotient_inverted" s_quotient_inverted f fd) (c_way_times:Own P w K mg base "way_times" 1 F_way_times) (c_way_plus:Own P w K mg base "way_plus" 1 F_way_plus) (c_way_mirrored:Own P w K mg base "way_mirrored" 1 F_way_mirrored) (c_way_minus:Own P w K mg base "way_minus" 1 F_way_minus) (c_wholes_over:Own P w K mg base "wholes_over" 1 F_wholes_over) (c_common_bottom:Own P w K mg base "common_bottom" 35 F_common_bottom) (m_NoQuotient:mg "NoQuotient"=some (.ref cNoQuotient)) (q_NoQuotient:PySem.W.excIn K cNoQuotient [.type "ValueError",.type "Exception",.type "BaseException",.type "object"] "ValueError.__new__"=true):
    FnOk P w K mg base (CXE P w) 36 f fd ["quotient","middle","power"] (spX K (FX_quotient_inverted cNoQuotient)):=by
  refine Fn.okX sc_quotient_inverted (fun ds S k x h=>?_) (fun cdv A outer s H E ex hr hE=>⟨_,(ds_consj (dst_setj (i:=3) sc_quotient_inverted.nd (d_callj c_common_bottom (hr.mono (by decide)) rfl (da_consj (d_varj 1) da_nilj))) (ds_consj (dst_setj (i:=4) sc_quotient_inverted.nd (d_callj c_wholes_over (hr.mono (by decide)) rfl (da_consj (d_varj 1) (da_consj (d_varj 3) da_nilj)))) (ds_consj (dst_setj (i:=5) sc_quotient_inverted.nd (d_callj c_way_minus (hr.mono (by decide)) rfl (da_consj (d_callj c_way_times (hr.mono (by decide)) rfl (da_consj (d_ixj x_ixE (d_varj 0) d_intj (fun _ _=>rfl)) (da_consj (d_tupj (da_consj (d_varj 3) (da_consj d_intj da_nilj))) da_nilj))) (da_consj (d_callj c_way_times (hr.mono (by decide)) rfl (da_consj (d_ixj x_ixE (d_varj 0) d_intj (fun _ _=>rfl)) (da_consj (d_varj 4) da_nilj))) da_nilj)))) (ds_consj (dst_ifj (dt_cmpj (o_eqX hr) (d_varj 5) (d_tupj (da_consj d_intj (da_consj d_intj (da_consj d_intj (da_consj d_intj da_nilj))))) (nomark _)) (ds_onej (dst_raisej hE PySem.F.excBase_ValueError q_NoQuotient m_NoQuotient rfl)) ds_nilj) (ds_consj (dst_setj (i:=5) sc_quotient_inverted.nd (d_callj c_way_mirrored (hr.mono (by decide)) rfl (da_consj (d_varj 5) da_nilj))) (ds_consj (dst_setj (i:=6) sc_quotient_inverted.nd (d_callj c_way_times (hr.mono (by decide)) rfl (da_consj (d_callj c_way_mirrored (hr.mono (by decide)) rfl (da_consj (d_ixj x_ixE (d_varj 0) d_intj (fun _ _=>rfl)) da_nilj)) (da_consj (d_tupj (da_consj (d_opj o_mul (d_opj o_mul (d_ixj x_ixE (d_varj 2) d_intj (fun _ _=>rfl)) (d_varj 3)) (d_varj 3)) (da_consj d_intj da_nilj))) da_nilj)))) (ds_consj (dst_setj (i:=7) sc_quotient_inverted.nd (d_callj c_way_times (hr.mono (by decide)) rfl (da_consj (d_varj 5) (da_consj (d_tupj (da_consj (d_opj o_mul (d_ixj x_ixE (d_varj 2) d_intj (fun _ _=>rfl)) (d_ixj x_ixE (d_varj 4) d_intj (fun _ _=>rfl))) (da_consj (d_opj o_mul (d_ixj x_ixE (d_varj 2) d_intj (fun _ _=>rfl)) (d_ixj x_ixE (d_varj 4) d_intj (fun _ _=>rfl))) da_nilj))) da_nilj)))) (ds_onej (dst_retj (d_tupj (da_consj (d_callj c_way_plus (hr.mono (by decide)) rfl (da_consj (d_varj 7) (da_consj (d_varj 6) da_nilj))) (da_consj (d_callj c_way_times (hr.mono (by decide)) rfl (da_consj (d_varj 5) (da_consj (d_tupj (da_consj (d_opj o_mul (d_ixj x_ixE (d_varj 2) d_intj (fun _ _=>rfl)) (d_varj 3)) (da_consj d_intj da_nilj))) da_nilj))) da_nilj)))))))))))),fun ds S k h=>?_⟩)
  · obtain⟨_,_,_,_,_,rfl,_⟩:=h
    rfl
  · obtain⟨t,b,x,y,p,rfl,ht,hb,hx,hy,hp,w0,w⟩:=h
    have bm:Bt 961 (lcmL 1 [x,y]):=lcmL_bt (n:=1) (by decide) b_1 fun q h=>by
      simp only [List.mem_cons,List.not_mem_nil,or_false] at h
      rcases h with rfl | rfl
      · exact hx.mono (by decide)
      · exact hy.mono (by decide)
    have hxy:∀ q∈[x,y],Sz 480 q:=fun q h=>by
      simp only [List.mem_cons,List.not_mem_nil,or_false] at h
      rcases h with rfl | rfl
      · exact hx.mono (by decide)
      · exact hy.mono (by decide)
    have bX:=whl_sz hx bm
    have bY:=whl_sz hy bm
    have bW:B4 31500 (vwW x y t b):=((ht.times (bm.mono (n:=1200) (by decide)) (b_0.mono (by decide))).minus (hb.times (bX.mono (n:=1200) (by decide)) (bY.mono (n:=1200) (by decide)))).mono (by decide)
    refine⟨[x,y],rfl,hxy,by show 2<=4; decide,x,y,_,rfl,hx.mono (by decide),hy.mono (by decide),bm.mono (by decide),fun S1 p1 e1 h1=>?_⟩
    refine⟨few,t,_,_,0,rfl,.inl rfl,ht.mono (by decide),bm.mono (by decide),b_0.mono (by decide),b,_,_,_,rfl,.inr ⟨p1,rfl,h1⟩,hb.mono (by decide),bX.mono (by decide),bY.mono (by decide),_,_,rfl,few,_,eq_wO,ite_b (fun z=>?_) (fun z=>?_)⟩
    · exact w0 z _ e1
    · refine⟨_,rfl,_,rfl,mok hp.num bm,mok (hp.num.mul bm) bm,few,_,_,_,0,rfl,.inl rfl,hb.conj.mono (by decide),((hp.num.mul bm).mul bm).mono (by decide),b_0.mono (by decide),?_⟩
      refine⟨_,_,h1,rfl,mok hp.den bX,_,_,h1,rfl,mok hp.den bY,few,_,_,_,_,rfl,.inl rfl,bW.conj.mono (by decide),(hp.den.mul bX).mono (by decide),(hp.den.mul bY).mono (by decide),?_⟩
      exact⟨_,_,rfl,mok hp.den bm,few,_,_,_,0,rfl,.inl rfl,bW.conj.mono (by decide),(hp.den.mul bm).mono (by decide),b_0.mono (by decide),few,w z _ e1⟩
def F_flat:DSp:=fun ds S k=>∃ l:Ld,ds=[ldD l]/\isInv l=false/\LdOk l/\LdSz l/\k (flD (flS l)) S
theorem sc_flat:FnScope ["lead","by","across","square"] ["lead"] (defScope s_flat):=⟨rfl,rfl,rfl,by decide +kernel,rfl,by decide +kernel,by decide +kernel⟩
theorem ok_flat {P:Program} {w:World} {K:Fg} {mg:Str->Option Value} {base:Heap} {f:Addr} {fd:FuncData} (Fn:Fun K "flat" "flat" s_flat f fd) (c_product_of_ways:Own P w K mg base "product_of_ways" 36 F_product_of_ways) (c_moved:Own P w K mg base "moved" 36 F_moved) (c_over:Own P w K mg base "over" 35 F_over) (c_turned:Own P w K mg base "turned" 36 F_turned) (c_times:Own P w K mg base "times" 35 F_times) (c_plain_way:Own P w K mg base "plain_way" 36 F_plain_way) (g_ORIGIN:GTup2 K mg "ORIGIN" [[0,1],[0,1]]) (g_NOUGHT:GTup K mg "NOUGHT" [0,1]) (g_ONE:GTup K mg "ONE" [1,1]):
    FnOk P w K mg base CX0 37 f fd ["lead"] (spU K F_flat):=by
  refine Fn.okJ sc_flat (fun ds S k h=>?_) (fun cdv A outer s H E hr=>⟨_,(ds_consj (dst_ifj (dt_cmpj o_eq (d_ixj x_ixE (d_varj 0) d_intj (fun _ _=>rfl)) d_strj (nomark _)) (ds_onej (dst_retj (d_tupj (da_consj (d_tupj (da_consj (d_gtup g_ONE rfl) (da_consj (d_gtup g_NOUGHT rfl) da_nilj))) (da_consj (d_cutEj (d_varj 0) (do_somej d_intj) do_nonej) (da_consj d_blj da_nilj)))))) ds_nilj) (ds_consj (dst_ifj (dt_cmpj o_eq (d_ixj x_ixE (d_varj 0) d_intj (fun _ _=>rfl)) d_strj (nomark _)) (ds_consj (dst_setj (i:=2) sc_flat.nd (d_cutEj (d_varj 0) (do_somej d_intj) (do_somej d_intj))) (ds_consj (dst_setj (i:=3) sc_flat.nd (d_callj c_product_of_ways (hr.mono (by decide)) rfl (da_consj (d_varj 2) (da_consj (d_varj 2) da_nilj)))) (ds_consj (dst_setj (i:=1) sc_flat.nd (d_callj c_moved (hr.mono (by decide)) rfl (da_consj (d_gtup2 g_ORIGIN rfl) (da_consj (d_callj c_turned (hr.mono (by decide)) rfl (da_consj (d_varj 2) (da_consj (d_varj 2) da_nilj))) (da_consj (d_callj c_over (hr.mono (by decide)) rfl (da_consj (d_tupj (da_consj (d_unj o_neg d_intj) (da_consj d_intj da_nilj))) (da_consj (d_varj 3) da_nilj))) da_nilj))))) (ds_onej (dst_retj (d_tupj (da_consj (d_varj 1) (da_consj (d_callj c_moved (hr.mono (by decide)) rfl (da_consj (d_gtup2 g_ORIGIN rfl) (da_consj (d_varj 2) (da_consj (d_callj c_over (hr.mono (by decide)) rfl (da_consj (d_callj c_times (hr.mono (by decide)) rfl (da_consj (d_tupj (da_consj (d_unj o_neg d_intj) (da_consj d_intj da_nilj))) (da_consj (d_ixj x_ixE (d_varj 0) d_intj (fun _ _=>rfl)) da_nilj))) (da_consj (d_varj 3) da_nilj))) da_nilj)))) (da_consj d_blj da_nilj))))))))) ds_nilj) (ds_consj (dst_setj (i:=1) sc_flat.nd (d_ifj (dt_cmpj o_eq (d_ixj x_ixE (d_varj 0) d_intj (fun _ _=>rfl)) d_strj (nomark _)) (d_tupj (da_consj (d_ixj x_ixE (d_varj 0) d_intj (fun _ _=>rfl)) (da_consj (d_gtup g_NOUGHT rfl) da_nilj))) (d_cutEj (d_varj 0) (do_somej d_intj) do_nonej))) (ds_onej (dst_retj (d_tupj (da_consj (d_varj 1) (da_consj (d_callj c_plain_way (hr.mono (by decide)) rfl (da_consj (d_callj c_turned (hr.mono (by decide)) rfl (da_consj (d_cutEj (d_varj 0) (do_somej d_intj) (do_somej d_intj)) (da_consj (d_varj 1) da_nilj))) (da_consj (d_cutEj (d_varj 0) (do_somej d_intj) (do_somej d_intj)) da_nilj))) (da_consj d_blj da_nilj))))))))),fun ds S k h=>?_⟩)
  · obtain⟨_,rfl,_⟩:=h
    rfl
  · obtain⟨l,rfl,hl,ok,sz,w⟩:=h
    have c31:¬ (HT.sIx 3 0 (some 1)=0/\HT.sIx 3 3 none=3):=by decide
    have c4:¬ (HT.sIx 4 0 (some 1)=0/\HT.sIx 4 4 (some 3)=4):=by decide
    have c5:¬ (HT.sIx 5 0 (some 1)=0/\HT.sIx 5 5 (some 3)=5):=by decide
    have c53:¬ (HT.sIx 5 0 (some 3)=0/\HT.sIx 5 5 none=5):=by decide
    have s1:Sz 2 (-1:Rat):=⟨by decide,by decide⟩
    have s2:Sz 2 (-2:Rat):=⟨by decide,by decide⟩
    cases l with
    | shift x y=>exact⟨few,c31,few,w⟩
    | mirror a b c=>
      obtain⟨ha,hb,hc⟩:=sz
      have n:a*a+b*b≠0:=ok
      have sA:=(ha.mul ha).add (hb.mul hb)
      have t1:=(ha.mul ha).sub (hb.mul hb)
      have t2:=(hb.mul ha).add (ha.mul hb)
      have v1:=s1.div sA n
      have v2:=(s2.mul hc).div sA n
      exact⟨c4,a,b,a,b,rfl,ha.mono (by decide),hb.mono (by decide),ha.mono (by decide),hb.mono (by decide),a,b,a,b,rfl,ha.mono (by decide),hb.mono (by decide),ha.mono (by decide),hb.mono (by decide),few,-1,_,rfl,n,s1.mono (by decide),sA.mono (by decide),0,0,_,_,_,rfl,Sz.zero.mono (by decide),Sz.zero.mono (by decide),t1.mono (by decide),t2.mono (by decide),v1.mono (by decide),few,-2,c,rfl,s2.mono (by decide),hc.mono (by decide),_,_,rfl,n,(s2.mul hc).mono (by decide),sA.mono (by decide),0,0,a,b,_,rfl,Sz.zero.mono (by decide),Sz.zero.mono (by decide),ha.mono (by decide),hb.mono (by decide),v2.mono (by decide),few,w⟩
    | grow x y b=>
      obtain⟨hx,hy,hb⟩:=sz
      have z0:Sz 24 (0:Rat):=Sz.zero.mono (by decide)
      exact⟨few,c4,x,y,b,0,rfl,hx.mono (by decide),hy.mono (by decide),hb.mono (by decide),z0.mono (by decide),c4,_,_,x,y,rfl,((hb.mul hx).sub (z0.mul hy)).mono (by decide),((z0.mul hx).add (hb.mul hy)).mono (by decide),hx.mono (by decide),hy.mono (by decide),few,w⟩
    | turn x y p q=>
      obtain⟨hx,hy,P,Q,E,e0,bP,bQ,bE,ep,eq⟩:=sz
      have hp:Sz 40 p:=ov e0 bE ep bP
      have hq:Sz 40 q:=ov e0 bE eq bQ
      exact⟨c53,c5,x,y,p,q,rfl,hx.mono (by decide),hy.mono (by decide),hp.mono (by decide),hq.mono (by decide),c5,_,_,x,y,rfl,((hp.mul hx).sub (hq.mul hy)).mono (by decide),((hq.mul hx).add (hp.mul hy)).mono (by decide),hx.mono (by decide),hy.mono (by decide),few,w⟩
    | invert x y p=>cases hl
set_option maxHeartbeats 4000000
theorem out_N {u e h x1 x2:Rat} {w n K L:Int} (hB:Bs u e h w) (n0:n≠0) (e1:x1*(n:Rat)=K) (e2:x2*(n:Rat)=L*h):N u x1 x2=.tup [fr (Rat.divInt K n),fr (ss (Rat.divInt L n)*(w:Rat))]:=by
  have nr:(n:Rat)≠0:=fun z=>n0 (by exact_mod_cast z)
  have a1:x1=Rat.divInt K n:=by rw [Rat.divInt_eq_div,<- e1]; grind
  have a2:x2=Rat.divInt L n*h:=by
    rw [Rat.divInt_eq_div]
    have:x2=(L*h) / (n:Rat):=by rw [<- e2]; grind
    rw [this]; grind
  unfold N
  rw [a2,ss_mul,ss_nonneg hB.hn,hB.hw,a1]
  congr 3
  grind
def F_point_of:DSp:=fun ds S k=>∃ (u e h:Rat) (z:Z4) (w:Int) (t b:I4),ds=[qD t b,fr (e*e*u)]/\Bs u e h w/\Sz 2100 (e*e*u)/\Bt 4100 w/\B4 30000 t/\B4 30000 b/\Out h z w t b/\∀ S',Ext S S'->k (Pq u z.1 z.2) S'
theorem sc_point_of:FnScope ["quotient","base","under","top","bottom","across","square","norm","told","by","product","surd"] ["quotient","base"] (defScope s_point_of):=⟨rfl,rfl,rfl,by decide +kernel,rfl,by decide +kernel,by decide +kernel⟩
theorem ok_point_of {P:Program} {w:World} {K:Fg} {mg:Str->Option Value} {base:Heap} {f:Addr} {fd:FuncData} (Fn:Fun K "point_of" "point_of" s_point_of f fd) (c_surd_plus:Own P w K mg base "surd_plus" 1 F_surd_plus) (c_surd_times:Own P w K mg base "surd_times" 1 F_surd_times) (c_joined:Own P w K mg base "joined" 36 F_joined) (c_ratio:Own P w K mg base "ratio" 34 F_ratio):
    FnOk P w K mg base CX0 37 f fd ["quotient","base"] (spU K F_point_of):=by
  refine Fn.okJ sc_point_of (fun ds S k h=>?_) (fun cdv A outer s H E hr=>⟨_,(ds_consj (dst_setj (i:=2) sc_point_of.nd (d_opj o_mul (d_ixj x_ixE (d_varj 1) d_intj (fun _ _=>rfl)) (d_ixj x_ixE (d_varj 1) d_intj (fun _ _=>rfl)))) (ds_consj (dst_setj (i:=3) sc_point_of.nd (d_tupj (da_consj (d_cutEj (d_ixj x_ixE (d_varj 0) d_intj (fun _ _=>rfl)) do_nonej (do_somej d_intj)) (da_consj (d_cutEj (d_ixj x_ixE (d_varj 0) d_intj (fun _ _=>rfl)) (do_somej d_intj) do_nonej) da_nilj)))) (ds_consj (dst_setj (i:=4) sc_point_of.nd (d_tupj (da_consj (d_cutEj (d_ixj x_ixE (d_varj 0) d_intj (fun _ _=>rfl)) do_nonej (do_somej d_intj)) (da_consj (d_cutEj (d_ixj x_ixE (d_varj 0) d_intj (fun _ _=>rfl)) (do_somej d_intj) do_nonej) da_nilj)))) (ds_consj (dst_setj (i:=5) sc_point_of.nd (d_tupj (da_consj (d_unj o_neg (d_ixj x_ixE (d_ixj x_ixE (d_varj 4) d_intj (fun _ _=>rfl)) d_intj (fun _ _=>rfl))) (da_consj (d_unj o_neg (d_ixj x_ixE (d_ixj x_ixE (d_varj 4) d_intj (fun _ _=>rfl)) d_intj (fun _ _=>rfl))) da_nilj)))) (ds_consj (dst_setj (i:=6) sc_point_of.nd (d_callj c_surd_plus (hr.mono (by decide)) rfl (da_consj (d_callj c_surd_times (hr.mono (by decide)) rfl (da_consj (d_ixj x_ixE (d_varj 4) d_intj (fun _ _=>rfl)) (da_consj (d_ixj x_ixE (d_varj 4) d_intj (fun _ _=>rfl)) (da_consj (d_varj 2) da_nilj)))) (da_consj (d_callj c_surd_times (hr.mono (by decide)) rfl (da_consj (d_ixj x_ixE (d_varj 4) d_intj (fun _ _=>rfl)) (da_consj (d_ixj x_ixE (d_varj 4) d_intj (fun _ _=>rfl)) (da_consj (d_varj 2) da_nilj)))) da_nilj)))) (ds_consj (dst_setj (i:=7) sc_point_of.nd (d_opj o_sub (d_opj o_mul (d_ixj x_ixE (d_varj 6) d_intj (fun _ _=>rfl)) (d_ixj x_ixE (d_varj 6) d_intj (fun _ _=>rfl))) (d_opj o_mul (d_opj o_mul (d_ixj x_ixE (d_varj 6) d_intj (fun _ _=>rfl)) (d_ixj x_ixE (d_varj 6) d_intj (fun _ _=>rfl))) (d_varj 2)))) (ds_consj (dst_setj (i:=8) sc_point_of.nd (d_lstj da_nilj)) (ds_consj (dst_forEj PassesOwn.never rfl (d_tupj (da_consj (d_varj 4) (da_consj (d_tupj (da_consj (d_varj 5) (da_consj (d_ixj x_ixE (d_varj 4) d_intj (fun _ _=>rfl)) da_nilj))) da_nilj))) (dg_namej (i:=9) sc_point_of.nd) (ds_consj (dst_setj (i:=10) sc_point_of.nd (d_callj c_surd_plus (hr.mono (by decide)) rfl (da_consj (d_callj c_surd_times (hr.mono (by decide)) rfl (da_consj (d_ixj x_ixE (d_varj 3) d_intj (fun _ _=>rfl)) (da_consj (d_ixj x_ixE (d_varj 9) d_intj (fun _ _=>rfl)) (da_consj (d_varj 2) da_nilj)))) (da_consj (d_callj c_surd_times (hr.mono (by decide)) rfl (da_consj (d_ixj x_ixE (d_varj 3) d_intj (fun _ _=>rfl)) (da_consj (d_ixj x_ixE (d_varj 9) d_intj (fun _ _=>rfl)) (da_consj (d_varj 2) da_nilj)))) da_nilj)))) (ds_consj (dst_setj (i:=11) sc_point_of.nd (d_callj c_surd_times (hr.mono (by decide)) rfl (da_consj (d_varj 10) (da_consj (d_tupj (da_consj (d_ixj x_ixE (d_varj 6) d_intj (fun _ _=>rfl)) (da_consj (d_unj o_neg (d_ixj x_ixE (d_varj 6) d_intj (fun _ _=>rfl))) da_nilj))) (da_consj (d_varj 2) da_nilj))))) (ds_onej (dst_exprj (d_appj (d_varj 8) (d_callj c_joined (hr.mono (by decide)) rfl (da_consj (d_callj c_ratio (hr.mono (by decide)) rfl (da_consj (d_ixj x_ixE (d_varj 11) d_intj (fun _ _=>rfl)) (da_consj (d_varj 7) da_nilj))) (da_consj (d_callj c_ratio (hr.mono (by decide)) rfl (da_consj (d_ixj x_ixE (d_varj 11) d_intj (fun _ _=>rfl)) (da_consj (d_varj 7) da_nilj))) (da_consj (d_tupj (da_consj (d_varj 2) (da_consj d_intj da_nilj))) da_nilj)))))))))) (ds_onej (dst_retj (d_tupj (da_consj (d_ixj x_ixE (d_varj 8) d_intj (fun _ _=>rfl)) (da_consj (d_ixj x_ixE (d_varj 8) d_intj (fun _ _=>rfl)) da_nilj))))))))))))),fun ds S k h=>?_⟩)
  · obtain⟨_,_,_,_,_,_,_,rfl,_⟩:=h
    rfl
  · obtain⟨u,e,h,z,w,t,b,rfl,hB,he,bw,bt,bb,o,q⟩:=h
    have wd:=hB.wd
    have s0:=bq0 bb bw
    have s1:=bq1 bb
    have nn:=bn bb bw
    have x0:=bx0 bt bb bw
    have x1:=bx1 bt bb
    have y0:=by0 bt bb bw
    have y1:=by1 bt bb
    have X0:=bs0 x0 x1 s0 s1 bw
    have X1:=bs1 x0 x1 s0 s1
    have Y0:=bs0 y0 y1 s0 s1 bw
    have Y1:=bs1 y0 y1 s0 s1
    have fin:N u z.1.1 z.1.2=.tup [fr (Rat.divInt (sd0 w (jx0 w t b) (jx1 t b) (jq0 w b) (jq1 b)) (jn w b)),fr (ss (Rat.divInt (sd1 (jx0 w t b) (jx1 t b) (jq0 w b) (jq1 b)) (jn w b))*(w:Rat))]/\N u z.2.1 z.2.2=.tup [fr (Rat.divInt (sd0 w (jy0 w t b) (jy1 t b) (jq0 w b) (jq1 b)) (jn w b)),fr (ss (Rat.divInt (sd1 (jy0 w t b) (jy1 t b) (jq0 w b) (jq1 b)) (jn w b))*(w:Rat))]:=
      ⟨out_N hB o.n0 o.x1 o.x2,out_N hB o.n0 o.y1 o.y2⟩
    unfold Pq at q
    rw [fin.1,fin.2] at q
    have hwz:Sz 5000 (w:Rat):=⟨bw.mono (by decide),by show Bt 5000 1; decide⟩
    have c1:¬ (HT.sIx 4 0 none=0/\HT.sIx 4 4 (some 2)=4):=by decide
    have c2:¬ (HT.sIx 4 0 (some 2)=0/\HT.sIx 4 4 none=4):=by decide
    have m4:∀ {n:Nat} {x:Int},Bt n x->n<=200000->Bt 200000 x:=fun h hn=>h.mono hn
    refine⟨mok he.num he.den,c1,c2,few,c1,c2,few,few,?_⟩
    dsimp only
    rw [wd]
    have ba:=m4 bb.a (by decide)
    have bb':=m4 bb.b (by decide)
    have bc:=m4 bb.c (by decide)
    have bd:=m4 bb.d (by decide)
    have ta:=m4 bt.a (by decide)
    have tb:=m4 bt.b (by decide)
    have tc:=m4 bt.c (by decide)
    have td:=m4 bt.d (by decide)
    have bW:=m4 bw (by decide)
    refine⟨_,_,_,_,_,_,_,rfl,ba,bb',ba,bb',bW,rfl,rfl,_,_,_,_,_,_,_,rfl,bc,bd,bc,bd,bW,rfl,rfl,_,_,_,_,jq0 w b,jq1 b,rfl,rfl,rfl,?_⟩
    refine⟨mok s0 s0,mok s1 s1,mok (s1.mul s1) bw,few,fun p hp=>⟨few,few,_,rfl,?_⟩⟩
    have hn:jq0 w b*jq0 w b - jq1 b*jq1 b*w=jn w b:=rfl
    generalize hR1:D.tup [fr (Rat.divInt (sd0 w (jx0 w t b) (jx1 t b) (jq0 w b) (jq1 b)) (jn w b)),fr (ss (Rat.divInt (sd1 (jx0 w t b) (jx1 t b) (jq0 w b) (jq1 b)) (jn w b))*(w:Rat))]=R1 at q
    generalize hR2:D.tup [fr (Rat.divInt (sd0 w (jy0 w t b) (jy1 t b) (jq0 w b) (jq1 b)) (jn w b)),fr (ss (Rat.divInt (sd1 (jy0 w t b) (jy1 t b) (jq0 w b) (jq1 b)) (jn w b))*(w:Rat))]=R2 at q
    refine loop_ix (fun r L S'=>Ext S S'/\∃ l9 l10 l11,L=[some (qD t b),some (fr (e*e*u)),some (.int w),some (.tup [.tup [.int t.a,.int t.b],.tup [.int t.c,.int t.d]]),some (.tup [.tup [.int b.a,.int b.b],.tup [.int b.c,.int b.d]]),some (.tup [.int (-b.c),.int (-b.d)]),some (.tup [.int (jq0 w b),.int (jq1 b)]),some (.int (jn w b)),some (.ref p),l9,l10,l11]/\
      ((r=[.tup [.tup [.int b.a,.int b.b],.tup [.int b.c,.int b.d]],.tup [.tup [.int (-b.c),.int (-b.d)],.tup [.int b.a,.int b.b]]]/\S' p=some (.lst []))\/(r=[.tup [.tup [.int (-b.c),.int (-b.d)],.tup [.int b.a,.int b.b]]]/\S' p=some (.lst [R1]))\/(r=[]/\S' p=some (.lst [R1,R2])))) (fun _ _ _ _=>trivial) ?_ ?_ _ _ _ ⟨Ext.new hp,_,_,_,rfl,.inl ⟨rfl,put_same⟩⟩
    · rintro d r L S1 N1 ⟨e1,l9,l10,l11,rfl,hr⟩ hN
      rcases hr with ⟨er,h1⟩ | ⟨er,h1⟩ | ⟨er,h1⟩
      · cases er
        refine⟨_,_,_,_,_,_,_,rfl,ta,tb,ba,bb',bW,rfl,rfl,_,_,_,_,_,_,_,rfl,tc,td,bc,bd,bW,rfl,rfl,_,_,_,_,jx0 w t b,jx1 t b,rfl,rfl,rfl,?_⟩
        refine⟨few,_,_,_,_,_,sd0 w (jx0 w t b) (jx1 t b) (jq0 w b) (jq1 b),sd1 (jx0 w t b) (jx1 t b) (jq0 w b) (jq1 b),rfl,m4 x0 (by decide),m4 x1 (by decide),m4 s0 (by decide),m4 s1.neg (by decide),bW,rfl,rfl,⟨_,h1⟩,?_⟩
        refine⟨o.n0,nn.mono (by decide),o.n0,nn.mono (by decide),few,_,_,(w:Rat),rfl,Sz.divInt (X1.mono (by decide)) (nn.mono (by decide)) o.n0,hwz.mono (by decide),[],h1,big1 (by decide),?_⟩
        rw [hR1]
        exact hN _ _ ⟨e1.put hp,_,_,_,rfl,.inr (.inl ⟨rfl,put_same⟩)⟩
      · cases er
        refine⟨_,_,_,_,_,_,_,rfl,ta,tb,bc.neg,bd.neg,bW,rfl,rfl,_,_,_,_,_,_,_,rfl,tc,td,ba,bb',bW,rfl,rfl,_,_,_,_,jy0 w t b,jy1 t b,rfl,rfl,rfl,?_⟩
        refine⟨few,_,_,_,_,_,sd0 w (jy0 w t b) (jy1 t b) (jq0 w b) (jq1 b),sd1 (jy0 w t b) (jy1 t b) (jq0 w b) (jq1 b),rfl,m4 y0 (by decide),m4 y1 (by decide),m4 s0 (by decide),m4 s1.neg (by decide),bW,rfl,rfl,⟨_,h1⟩,?_⟩
        refine⟨o.n0,nn.mono (by decide),o.n0,nn.mono (by decide),few,_,_,(w:Rat),rfl,Sz.divInt (Y1.mono (by decide)) (nn.mono (by decide)) o.n0,hwz.mono (by decide),_,h1,big1 (by show 1 < 300; decide),?_⟩
        rw [hR2]
        exact hN _ _ ⟨e1.put hp,_,_,_,rfl,.inr (.inr ⟨rfl,put_same⟩)⟩
      · cases er
    · rintro L S1 ⟨e1,l9,l10,l11,rfl,hr⟩
      rcases hr with ⟨er,h1⟩ | ⟨er,h1⟩ | ⟨er,h1⟩
      · cases er
      · cases er
      · exact⟨_,_,h1,rfl,_,_,h1,rfl,few,q _ e1⟩
set_option maxHeartbeats 4000000
def IsL (S:DH) (y:D) (ds:List D):Prop:=y=.tup ds\/∃ a,y=.ref a/\S a=some (.lst ds)
theorem isl_items {S:DH} {y:D} {ds:List D} (h:IsL S y ds):∃ o,dItems S y=some (ds,o)/\∀ S',Ext S S'->okFor (ds,o) S':=by
  rcases h with rfl | ⟨a,rfl,e⟩
  · exact⟨none,rfl,fun _ _=>trivial⟩
  · exact⟨some a,by simp only [dItems,e],fun S' x=>x _ _ e⟩
theorem ldA_cons {u:Rat} {l:Ld} {ls:List Ld} {z z':Z4} (h:ldA u (l::ls) z=some z'):∃ z1,ldS u l z=some z1/\ldA u ls z1=some z':=by
  unfold ldA at h
  cases e:ldS u l z with
  | none=>rw [e] at h; cases h
  | some z1=>rw [e] at h; exact⟨z1,rfl,h⟩
def F_led:DSp:=fun ds S k=>∃ (u:Rat) (z z':Z4) (y:D) (ls:List Ld),ds=[y,Pq u z.1 z.2]/\IsL S y (ls.map ldD)/\Fd u/\Sz 4 u/\Sz 1000 z.1.1/\Sz 1000 z.1.2/\Sz 1000 z.2.1/\Sz 1000 z.2.2/\ls.length<=6/\(∀ l∈ls,LdOk l/\LdSz l)/\ldA u ls z=some z'/\∀ S',Ext S S'->k (Pq u z'.1 z'.2) S'
theorem sc_led:FnScope ["leads","point","base","quotient","lead"] ["leads","point"] (defScope s_led):=⟨rfl,rfl,rfl,by decide +kernel,rfl,by decide +kernel,by decide +kernel⟩
theorem ok_led {P:Program} {w:World} {K:Fg} {mg:Str->Option Value} {base:Heap} {f:Addr} {fd:FuncData} (Fn:Fun K "led" "led" s_led f fd) (c_field_base:Own P w K mg base "field_base" 2 F_field_base) (c_quotient_of:Own P w K mg base "quotient_of" 39 F_quotient_of) (c_quotient_inverted:Own P w K mg base "quotient_inverted" 36 F_quotient_inverted) (c_quotient_moved:Own P w K mg base "quotient_moved" 36 F_quotient_moved) (c_flat:Own P w K mg base "flat" 37 F_flat) (c_point_of:Own P w K mg base "point_of" 37 F_point_of):
    FnOk P w K mg base CX0 40 f fd ["leads","point"] (spU K F_led):=by
  refine Fn.okJ sc_led (fun ds S k h=>?_) (fun cdv A outer s H E hr=>⟨_,(ds_consj (dst_setj (i:=2) sc_led.nd (d_callj c_field_base (hr.mono (by decide)) rfl (da_consj (d_ixj x_ixE (d_varj 1) d_intj (fun _ _=>rfl)) (da_consj (d_ixj x_ixE (d_varj 1) d_intj (fun _ _=>rfl)) da_nilj)))) (ds_consj (dst_setj (i:=3) sc_led.nd (d_callj c_quotient_of (hr.mono (by decide)) rfl (da_consj (d_varj 1) (da_consj (d_varj 2) da_nilj)))) (ds_consj (dst_forEj PassesOwn.never rfl (d_varj 0) (dg_namej (i:=4) sc_led.nd) (ds_onej (dst_ifj (dt_cmpj o_eq (d_ixj x_ixE (d_varj 4) d_intj (fun _ _=>rfl)) d_strj (nomark _)) (ds_onej (dst_setj (i:=3) sc_led.nd (d_callj c_quotient_inverted (hr.mono (by decide)) rfl (da_consj (d_varj 3) (da_consj (d_cutEj (d_varj 4) (do_somej d_intj) (do_somej d_intj)) (da_consj (d_ixj x_ixE (d_varj 4) d_intj (fun _ _=>rfl)) da_nilj)))))) (ds_onej (dst_setj (i:=3) sc_led.nd (d_callj c_quotient_moved (hr.mono (by decide)) rfl (da_consj (d_varj 3) (da_consj (d_callj c_flat (hr.mono (by decide)) rfl (da_consj (d_varj 4) da_nilj)) da_nilj)))))))) (ds_onej (dst_retj (d_callj c_point_of (hr.mono (by decide)) rfl (da_consj (d_varj 3) (da_consj (d_varj 2) da_nilj)))))))),fun ds S k h=>?_⟩)
  · obtain⟨_,_,_,_,_,rfl,_⟩:=h
    rfl
  · obtain⟨u,z,z',y,ls,rfl,hy,fd,hu,h1,h2,h3,h4,hl,hok,e,w⟩:=h
    have u0:=fd.pos
    refine⟨u,_,_,_,_,rfl,u0,u,z,rfl,u0,hu,h1,h2,h3,h4,fun hh ww t b hB bw I=>?_⟩
    obtain⟨o,hi,ho⟩:=isl_items hy
    refine⟨_,hi,?_⟩
    refine loop_ix (fun r L S'=>Ext S S'/\∃ (rs:List Ld) (zc:Z4) (t b:I4) (n:Nat) (l4:Option D),L=[some y,some (Pq u z.1 z.2),some (fr (pick z.1.2 z.2.2*pick z.1.2 z.2.2*u)),some (qD t b),l4]/\r=rs.map ldD/\ldA u rs zc=some z'/\Inv u hh n zc t b/\n+160*rs.length<=24000/\∀ l∈rs,LdOk l/\LdSz l) (fun r L S' h=>ho S' h.1) ?_ ?_ _ _ _ ⟨Ext.refl _,ls,z,t,b,23000,none,rfl,rfl,e,I,by omega,hok⟩
    · rintro d r L S1 N1 ⟨e1,rs,zc,t,b,n,l4,rfl,er,ea,I,hn,hr⟩ hN
      cases rs with
      | nil=>cases er
      | cons l rs=>
        cases er
        have hn:n+160*(rs.length+1)<=24000:=hn
        have lo:=(hr l List.mem_cons_self).1
        have lz:=(hr l List.mem_cons_self).2
        have tl:∀ l∈rs,LdOk l/\LdSz l:=fun m hm=>hr m (List.mem_cons_of_mem _ hm)
        obtain⟨z1,es,ea2⟩:=ldA_cons ea
        have mv:isInv l=false->Inv u hh (n+160) z1 (mvT (flS l) t b) (mvB (flS l) b):=fun hi=>by
          rw [ldS_flat lo hi] at es
          cases es
          exact I.move lo lz hi
        cases l with
        | invert x y p=>
          obtain⟨h0,I2⟩:=I.inv u0 fd.no lz es
          exact⟨(by decide:¬ (HT.sIx 4 0 (some 1)=0/\HT.sIx 4 4 (some 3)=4)),t,b,x,y,p,rfl,I.bt.mono (by omega),I.bb.mono (by omega),lz.1.mono (by decide),lz.2.1.mono (by decide),lz.2.2.mono (by decide),h0,fun S2 e2=>hN _ _ ⟨e1.trans e2,rs,z1,_,_,n+160,_,rfl,rfl,ea2,I2,by omega,tl⟩⟩
        | _=>
          obtain⟨f1,f2,f3,f4⟩:=fl_sz lo lz rfl
          exact⟨_,rfl,rfl,lo,lz,t,b,_,rfl,I.bt.mono (by omega),I.bb.mono (by omega),f1,f2,f3,f4,fun S2 e2=>hN _ _ ⟨e1.trans e2,rs,z1,_,_,n+160,_,rfl,rfl,ea2,mv rfl,by omega,tl⟩⟩
    · rintro L S1 ⟨e1,rs,zc,t,b,n,l4,rfl,er,ea,I,hn,_⟩
      cases rs with
      | cons _ _=>cases er
      | nil=>
        cases ea
        exact⟨u,_,hh,_,ww,t,b,rfl,hB,((((h2.pick h4).mul (h2.pick h4)).mul hu).mono (by decide)),bw,I.bt.mono (by omega),I.bb.mono (by omega),Rz.out u0 fd.no hB.hw I.nz I.r,fun S2 e2=>w _ (e1.trans e2)⟩
def FX_led (cNoQuotient:Addr):DSpX:=fun ds S k e=>∃ (u:Rat) (z:Z4) (y:D) (ls:List Ld),ds=[y,Pq u z.1 z.2]/\IsL S y (ls.map ldD)/\Fd u/\Sz 4 u/\Sz 1000 z.1.1/\Sz 1000 z.1.2/\Sz 1000 z.2.1/\Sz 1000 z.2.2/\ls.length<=6/\(∀ l∈ls,LdOk l/\LdSz l)/\(ldA u ls z=none->∀ S',Ext S S'->e cNoQuotient S')/\(∀ z',ldA u ls z=some z'->∀ S',Ext S S'->k (Pq u z'.1 z'.2) S')
theorem okx_led {P:Program} {w:World} {K:Fg} {mg:Str->Option Value} {base:Heap} {f:Addr} {fd:FuncData} {cNoQuotient:Addr} (Fn:Fun K "led" "led" s_led f fd) (c_point_of:Own P w K mg base "point_of" 37 F_point_of) (c_quotient_moved:Own P w K mg base "quotient_moved" 36 F_quotient_moved) (c_flat:Own P w K mg base "flat" 37 F_flat) (c_quotient_of:Own P w K mg base "quotient_of" 39 F_quotient_of) (c_field_base:Own P w K mg base "field_base" 2 F_field_base) (cx_quotient_inverted:OwnX P w K mg base "quotient_inverted" 36 (FX_quotient_inverted cNoQuotient)):
    FnOk P w K mg base (CXE P w) 40 f fd ["leads","point"] (spX K (FX_led cNoQuotient)):=by
  refine Fn.okX sc_led (fun ds S k x h=>?_) (fun cdv A outer s H E ex hr hE=>⟨_,(ds_consj (dst_setj (i:=2) sc_led.nd (d_callj c_field_base (hr.mono (by decide)) rfl (da_consj (d_ixj x_ixE (d_varj 1) d_intj (fun _ _=>rfl)) (da_consj (d_ixj x_ixE (d_varj 1) d_intj (fun _ _=>rfl)) da_nilj)))) (ds_consj (dst_setj (i:=3) sc_led.nd (d_callj c_quotient_of (hr.mono (by decide)) rfl (da_consj (d_varj 1) (da_consj (d_varj 2) da_nilj)))) (ds_consj (dst_forEj PassesOwn.leaving rfl (d_varj 0) (dg_namej (i:=4) sc_led.nd) (ds_onej (dst_ifj (dt_cmpj o_eq (d_ixj x_ixE (d_varj 4) d_intj (fun _ _=>rfl)) d_strj (nomark _)) (ds_onej (dst_setj (i:=3) sc_led.nd (d_callXj hE cx_quotient_inverted (hr.mono (by decide)) rfl (da_consj (d_varj 3) (da_consj (d_cutEj (d_varj 4) (do_somej d_intj) (do_somej d_intj)) (da_consj (d_ixj x_ixE (d_varj 4) d_intj (fun _ _=>rfl)) da_nilj)))))) (ds_onej (dst_setj (i:=3) sc_led.nd (d_callj c_quotient_moved (hr.mono (by decide)) rfl (da_consj (d_varj 3) (da_consj (d_callj c_flat (hr.mono (by decide)) rfl (da_consj (d_varj 4) da_nilj)) da_nilj)))))))) (ds_onej (dst_retj (d_callj c_point_of (hr.mono (by decide)) rfl (da_consj (d_varj 3) (da_consj (d_varj 2) da_nilj)))))))),fun ds S k h=>?_⟩)
  · obtain⟨_,_,_,_,rfl,_⟩:=h
    rfl
  · obtain⟨u,z,y,ls,rfl,hy,fd,hu,h1,h2,h3,h4,hl,hok,w0,w⟩:=h
    have u0:=fd.pos
    refine⟨u,_,_,_,_,rfl,u0,u,z,rfl,u0,hu,h1,h2,h3,h4,fun hh ww t b hB bw I=>?_⟩
    obtain⟨o,hi,ho⟩:=isl_items hy
    refine⟨_,hi,?_⟩
    refine loop_ix (fun r L S'=>Ext S S'/\∃ (rs:List Ld) (zc:Z4) (t b:I4) (n:Nat) (l4:Option D),L=[some y,some (Pq u z.1 z.2),some (fr (pick z.1.2 z.2.2*pick z.1.2 z.2.2*u)),some (qD t b),l4]/\r=rs.map ldD/\ldA u ls z=ldA u rs zc/\Inv u hh n zc t b/\n+160*rs.length<=24000/\∀ l∈rs,LdOk l/\LdSz l) (fun r L S' h=>ho S' h.1) ?_ ?_ _ _ _ ⟨Ext.refl _,ls,z,t,b,23000,none,rfl,rfl,rfl,I,by omega,hok⟩
    · rintro d r L S1 N1 ⟨e1,rs,zc,t,b,n,l4,rfl,er,ea,I,hn,hr⟩ hN
      cases rs with
      | nil=>cases er
      | cons l rs=>
        cases er
        have hn:n+160*(rs.length+1)<=24000:=hn
        have lo:=(hr l List.mem_cons_self).1
        have lz:=(hr l List.mem_cons_self).2
        have tl:∀ l∈rs,LdOk l/\LdSz l:=fun m hm=>hr m (List.mem_cons_of_mem _ hm)
        have next:∀ z1,ldS u l zc=some z1->ldA u ls z=ldA u rs z1:=fun z1 es=>by
          rw [ea]
          conv=>lhs; unfold ldA
          rw [es]
        cases l with
        | invert x y p=>
          refine⟨(by decide:¬ (HT.sIx 4 0 (some 1)=0/\HT.sIx 4 4 (some 3)=4)),t,b,x,y,p,rfl,I.bt.mono (by omega),I.bb.mono (by omega),lz.1.mono (by decide),lz.2.1.mono (by decide),lz.2.2.mono (by decide),fun h0 S2 e2=>w0 ?_ _ (e1.trans e2),fun h0 S2 e2=>?_⟩
          · have hq:qN u (sumS u (wayS zc x y))=0:=Classical.byContradiction fun ne=>by
              rw [(I.way u0 fd.no lz).mpr ne] at h0
              cases h0
            have e0:ldS u (.invert x y p) zc=none:=if_pos hq
            rw [ea]
            unfold ldA
            rw [e0]
          · have hq:=(I.way u0 fd.no lz).mp h0
            obtain⟨z1,es⟩:∃ z1,ldS u (.invert x y p) zc=some z1:=by
              exact⟨_,if_neg hq⟩
            exact hN _ _ ⟨e1.trans e2,rs,z1,_,_,n+160,_,rfl,rfl,next z1 es,(I.inv u0 fd.no lz es).2,by omega,tl⟩
        | _=>
          obtain⟨f1,f2,f3,f4⟩:=fl_sz lo lz rfl
          exact⟨_,rfl,rfl,lo,lz,t,b,_,rfl,I.bt.mono (by omega),I.bb.mono (by omega),f1,f2,f3,f4,fun S2 e2=>hN _ _ ⟨e1.trans e2,rs,_,_,_,n+160,_,rfl,rfl,next _ (ldS_flat lo rfl),I.move lo lz rfl,by omega,tl⟩⟩
    · rintro L S1 ⟨e1,rs,zc,t,b,n,l4,rfl,er,ea,I,hn,_⟩
      cases rs with
      | cons _ _=>cases er
      | nil=>exact⟨u,_,hh,_,ww,t,b,rfl,hB,((((h2.pick h4).mul (h2.pick h4)).mul hu).mono (by decide)),bw,I.bt.mono (by omega),I.bb.mono (by omega),Rz.out u0 fd.no hB.hw I.nz I.r,fun S2 e2=>w zc ea _ (e1.trans e2)⟩
set_option maxHeartbeats 4000000
def F__law_cell_at:DSp:=fun ds S k=>∃ (ns:List Int) (i:Int),ds=[.rl (List.map D.int ns),.int i]/\0<=i/\∀ c:Int,k (.int c) S
theorem sc__law_cell_at:FnScope ["script","k"] ["script","k"] (defScope s__law_cell_at):=⟨rfl,rfl,rfl,by decide +kernel,rfl,by decide +kernel,by decide +kernel⟩
theorem ok__law_cell_at {P:Program} {w:World} {K:Fg} {mg:Str->Option Value} {base:Heap} {f:Addr} {fd:FuncData} (Fn:Fun K "_law_cell_at" "_law_cell_at" s__law_cell_at f fd) (z_len:mg "len"=none):
    FnOk P w K mg base CX0 1 f fd ["script","k"] (spU K F__law_cell_at):=by
  refine Fn.okJ sc__law_cell_at (fun ds S k h=>?_) (fun cdv A outer s H E hr=>⟨_,(ds_consj (dst_ifj (dt_cmpj o_lt (d_varj 1) (d_callBj b_lenE rfl z_len bt_len (da_consj (d_varj 0) da_nilj)) (nomark _)) (ds_onej (dst_retj (d_ixj x_ixE (d_varj 0) (d_varj 1) (fun _ _=>rfl)))) ds_nilj) (ds_onej (dst_retj d_intj))),fun ds S k h=>?_⟩)
  · obtain⟨_,_,rfl,_⟩:=h
    rfl
  · obtain⟨ns,i,rfl,h0,q⟩:=h
    refine ite_dec (fun hl=>?_) (fun _=>q 0)
    obtain⟨n,rfl⟩:=Int.eq_ofNat_of_zero_le h0
    have hn:n < ns.length:=by rw [List.length_map] at hl; omega
    have e:L2.atI (List.map D.int ns) (n:Int)=some (.int ns[n]):=atI_nat (by rw [List.getElem?_map,List.getElem?_eq_getElem hn] <;> rfl)
    exact⟨_,e,q _⟩
def F__law_state:DSp:=fun ds S k=>∃ ns i,ds=[.rl (List.map D.int ns),.int i]/\0<=i/\∀ (p:Addr) (n:Int) (b:Bool),S p=none->(b=false->0<=n/\n < 2147483647)->k (.ref p) (put S p (.lst [.int n,.bl b]))
theorem sc__law_state:FnScope ["script","k","cell"] ["script","k"] (defScope s__law_state):=⟨rfl,rfl,rfl,by decide +kernel,rfl,by decide +kernel,by decide +kernel⟩
theorem ok__law_state {P:Program} {w:World} {K:Fg} {mg:Str->Option Value} {base:Heap} {f:Addr} {fd:FuncData} (Fn:Fun K "_law_state" "_law_state" s__law_state f fd) (c__law_cell_at:Own P w K mg base "_law_cell_at" 1 F__law_cell_at):
    FnOk P w K mg base CX0 2 f fd ["script","k"] (spU K F__law_state):=by
  refine Fn.okJ sc__law_state (fun ds S k h=>?_) (fun cdv A outer s H E hr=>⟨_,(ds_consj (dst_setj (i:=2) sc__law_state.nd (d_callj c__law_cell_at (hr.mono (by decide)) rfl (da_consj (d_varj 0) (da_consj (d_varj 1) da_nilj)))) (ds_consj (dst_ifj (dt_cmpj o_ge (d_varj 2) (d_opj o_pow d_intj d_intj) (nomark _)) (ds_onej (dst_retj (d_lstj (da_consj (d_opj o_sub (d_varj 2) (d_opj o_pow d_intj d_intj)) (da_consj d_blj da_nilj))))) ds_nilj) (ds_onej (dst_retj (d_lstj (da_consj (d_opj o_mod (d_varj 2) d_intj) (da_consj d_blj da_nilj))))))),fun ds S k h=>?_⟩)
  · obtain⟨_,_,rfl,_⟩:=h
    rfl
  · obtain⟨ns,i,rfl,h0,q⟩:=h
    have hp:CPow 10 18:=⟨by decide,by decide,by decide⟩
    refine⟨ns,i,rfl,h0,fun c=>⟨hp,ite_dec (fun hl=>⟨hp,few,fun p hn=>?_⟩) (fun hl=>⟨(by show(2147483647:Int)≠0; decide),few,fun p hn=>?_⟩)⟩⟩
    · exact q p _ _ hn (fun z=>by cases z)
    · exact q p _ _ hn (fun _=>⟨Int.fmod_nonneg_of_pos _ (by decide),Int.fmod_lt_of_pos _ (by decide)⟩)
def F__law_take:DSp:=fun ds S k=>∃ a m,ds=[.ref a,.int m]/\0 < m/\Bt 200 m/\SOK S a/\∀ r S',0<=r->r < m->Dr a S S'->k (.int r) S'
theorem sc__law_take:FnScope ["state","many","mixed","found"] ["state","many"] (defScope s__law_take):=⟨rfl,rfl,rfl,by decide +kernel,rfl,by decide +kernel,by decide +kernel⟩
theorem ok__law_take {P:Program} {w:World} {K:Fg} {mg:Str->Option Value} {base:Heap} {f:Addr} {fd:FuncData} (Fn:Fun K "_law_take" "_law_take" s__law_take f fd):
    FnOk P w K mg base CX0 1 f fd ["state","many"] (spU K F__law_take):=by
  refine Fn.okJ sc__law_take (fun ds S k h=>?_) (fun cdv A outer s H E hr=>⟨_,(ds_consj (dst_ifj (dt_valj (d_ixj x_ixE (d_varj 0) d_intj (fun _ _=>rfl))) (ds_consj (dst_setj (i:=3) sc__law_take.nd (d_opj o_mod (d_ixj x_ixE (d_varj 0) d_intj (fun _ _=>rfl)) (d_varj 1))) (ds_consj (dst_asgj (d_opj o_div (d_ixj x_ixE (d_varj 0) d_intj (fun _ _=>rfl)) (d_varj 1)) (dg_subE (d_varj 0) d_intj)) (ds_onej (dst_retj (d_varj 3))))) ds_nilj) (ds_consj (dst_asgj (d_opj o_mod (d_opj o_add (d_opj o_mul (d_ixj x_ixE (d_varj 0) d_intj (fun _ _=>rfl)) d_intj) d_intj) d_intj) (dg_subE (d_varj 0) d_intj)) (ds_consj (dst_setj (i:=2) sc__law_take.nd (d_opj o_mod (d_opj o_add (d_opj o_add (d_opj o_mul (d_ixj x_ixE (d_varj 0) d_intj (fun _ _=>rfl)) (d_ixj x_ixE (d_varj 0) d_intj (fun _ _=>rfl))) (d_opj o_mul d_intj (d_ixj x_ixE (d_varj 0) d_intj (fun _ _=>rfl)))) d_intj) d_intj)) (ds_consj (dst_setj (i:=2) sc__law_take.nd (d_opj o_mod (d_opj o_add (d_opj o_mul (d_varj 2) (d_varj 2)) (d_opj o_mul d_intj (d_varj 2))) d_intj)) (ds_onej (dst_retj (d_opj o_mod (d_opj o_div (d_varj 2) d_intj) (d_varj 1)))))))),fun ds S k h=>?_⟩)
  · obtain⟨_,_,rfl,_⟩:=h
    rfl
  · obtain⟨a,m,rfl,hm,hb,⟨n,b,hS,hn⟩,q⟩:=h
    have put_dr:∀ (n':Int) (b':Bool),(b'=false->0<=n'/\n' < 2147483647)->Dr a S (put S a (.lst [.int n',.bl b'])):=fun n' b' h'=>
      ⟨⟨n',b',put_same,h'⟩,fun c o z e=>by rw [put_ne z]; exact e⟩
    refine⟨_,_,hS,atI1,?_⟩
    cases b with
    | true=>
      refine⟨_,_,hS,atI0,(show m≠0 by omega),_,_,hS,atI0,dok (by omega) hb,_,_,hS,ixN0,?_⟩
      exact q _ _ (Int.fmod_nonneg_of_pos _ hm) (Int.fmod_lt_of_pos _ hm) (put_dr _ _ fun z=>by cases z)
    | false=>
      obtain⟨n0,n1⟩:=hn rfl
      have b31:=bt31 n0 (by omega)
      refine⟨_,_,hS,atI0,mok (n:=31) b31 (bt31 (by decide) (by decide)),(show (2147483647:Int)≠0 by decide),_,_,hS,ixN0,?_⟩
      have c0:0<=(n*48271+29).fmod 2147483647:=Int.fmod_nonneg_of_pos _ (by decide)
      have c1:(n*48271+29).fmod 2147483647 < 2147483647:=Int.fmod_lt_of_pos _ (by decide)
      have bx:=bt31 c0 (by omega)
      refine⟨_,_,put_same,atI0,_,_,put_same,atI0,mok bx bx,_,_,put_same,atI0,mok (m:=31) (bt31 (by decide) (by decide)) bx,(show (2147483629:Int)≠0 by decide),?_⟩
      have d0:0<=((n*48271+29).fmod 2147483647*(n*48271+29).fmod 2147483647+39373*(n*48271+29).fmod 2147483647+7).fmod 2147483629:=Int.fmod_nonneg_of_pos _ (by decide)
      have d1:((n*48271+29).fmod 2147483647*(n*48271+29).fmod 2147483647+39373*(n*48271+29).fmod 2147483647+7).fmod 2147483629 < 2147483629:=Int.fmod_lt_of_pos _ (by decide)
      have by':=bt31 d0 (by omega)
      refine⟨mok by' by',mok (m:=31) (bt31 (by decide) (by decide)) by',(show (2147483587:Int)≠0 by decide),⟨by decide,by decide +kernel⟩,(show m≠0 by omega),?_⟩
      exact q _ _ (Int.fmod_nonneg_of_pos _ hm) (Int.fmod_lt_of_pos _ hm) (put_dr _ _ fun _=>⟨c0,c1⟩)
theorem gcd_abs (a b:Int):Int.gcd (absI a) (absI b)=Int.gcd a b:=by
  have e:∀ x:Int,(absI x).natAbs=x.natAbs:=fun x=>by unfold absI; split <;> omega
  unfold Int.gcd
  rw [e,e]
def F__law_divisor:DSp:=fun ds S k=>∃ a b,ds=[.int a,.int b]/\k (.int ((Int.gcd a b:Nat):Int)) S
theorem sc__law_divisor:FnScope ["one","other"] ["one","other"] (defScope s__law_divisor):=⟨rfl,rfl,rfl,by decide +kernel,rfl,by decide +kernel,by decide +kernel⟩
theorem ok__law_divisor {P:Program} {w:World} {K:Fg} {mg:Str->Option Value} {base:Heap} {f:Addr} {fd:FuncData} (Fn:Fun K "_law_divisor" "_law_divisor" s__law_divisor f fd) (z_abs:mg "abs"=none):
    FnOk P w K mg base CX0 1 f fd ["one","other"] (spU K F__law_divisor):=by
  refine Fn.okJ sc__law_divisor (fun ds S k h=>?_) (fun cdv A outer s H E hr=>⟨_,(ds_consj (dst_setj (i:=0) sc__law_divisor.nd (d_callBj b_abs rfl z_abs bt_abs (da_consj (d_varj 0) da_nilj))) (ds_consj (dst_setj (i:=1) sc__law_divisor.nd (d_callBj b_abs rfl z_abs bt_abs (da_consj (d_varj 1) da_nilj))) (ds_consj (dst_whilej PassesOwn.never (dt_cmpj o_gt (d_varj 1) d_intj (nomark _)) (ds_onej (dst_parj (i:=0) (j:=1) rfl sc__law_divisor.nd (by decide) (da_consj (d_varj 1) (da_consj (d_opj o_mod (d_varj 0) (d_varj 1)) da_nilj))))) (ds_onej (dst_retj (d_varj 0)))))),fun ds S k h=>?_⟩)
  · obtain⟨_,_,rfl,_⟩:=h
    rfl
  · obtain⟨a,b,rfl,q⟩:=h
    refine⟨fun m L S'=>S'=S/\∃ x y,L=[some (.int x),some (.int y)]/\m=y.natAbs/\0<=x/\0<=y/\Int.gcd x y=Int.gcd a b,⟨_,rfl,absI a,absI b,rfl,rfl,absI_nn a,absI_nn b,gcd_abs a b⟩,?_⟩
    rintro m L S' ⟨rfl,x,y,rfl,rfl,hx,hy,e⟩
    refine ite_dec (fun hl=>⟨fun L' S''=>∃ m',m' < y.natAbs/\S''=S'/\∃ x y,L'=[some (.int x),some (.int y)]/\m'=y.natAbs/\0<=x/\0<=y/\Int.gcd x y=Int.gcd a b,fun _ _ z=>z,by omega,?_⟩) (fun hl=>?_)
    · exact⟨_,fmod_lt x y (by omega),rfl,y,x.fmod y,rfl,rfl,hy,Int.fmod_nonneg_of_pos _ hl,(gcd_fmod x y).trans e⟩
    · have z:y=0:=by omega
      subst z
      have e2:=gcd_zero x
      rw [e,if_neg (by omega)] at e2
      rw [e2] at q
      exact q
def F__law_ratio:DSp:=fun ds S k=>∃ t b,ds=[.int t,.int b]/\b≠0/\Bt 8000 b/\k (fr (Rat.divInt t b)) S
theorem sc__law_ratio:FnScope ["top","bottom","by"] ["top","bottom"] (defScope s__law_ratio):=⟨rfl,rfl,rfl,by decide +kernel,rfl,by decide +kernel,by decide +kernel⟩
theorem ok__law_ratio {P:Program} {w:World} {K:Fg} {mg:Str->Option Value} {base:Heap} {f:Addr} {fd:FuncData} (Fn:Fun K "_law_ratio" "_law_ratio" s__law_ratio f fd) (c__law_divisor:Own P w K mg base "_law_divisor" 1 F__law_divisor):
    FnOk P w K mg base CX0 2 f fd ["top","bottom"] (spU K F__law_ratio):=by
  refine Fn.okJ sc__law_ratio (fun ds S k h=>?_) (fun cdv A outer s H E hr=>⟨_,(ds_consj (dst_setj (i:=2) sc__law_ratio.nd (d_callj c__law_divisor (hr.mono (by decide)) rfl (da_consj (d_varj 0) (da_consj (d_varj 1) da_nilj)))) (ds_consj (dst_ifj (dt_cmpj o_lt (d_varj 1) d_intj (nomark _)) (ds_onej (dst_setj (i:=2) sc__law_ratio.nd (d_opj o_sub d_intj (d_varj 2)))) ds_nilj) (ds_onej (dst_retj (d_tupj (da_consj (d_opj o_div (d_varj 0) (d_varj 2)) (da_consj (d_opj o_div (d_varj 1) (d_varj 2)) da_nilj))))))),fun ds S k h=>?_⟩)
  · obtain⟨_,_,rfl,_⟩:=h
    rfl
  · obtain⟨t,b,rfl,h0,hb,q⟩:=h
    have hg:=gcd_bt (t:=t) h0 hb
    have hs:=shr_ne (t:=t) h0
    have e1:=div_num (t:=t) h0
    have e2:=div_den (t:=t) h0
    have qq:k (.tup [.int (t.fdiv (shr t b)),.int (b.fdiv (shr t b))]) S:=by rw [e1,e2]; exact q
    unfold shr at qq hs
    refine⟨t,b,rfl,ite_dec (fun hl=>?_) (fun hl=>?_)⟩
    · rw [if_pos hl] at qq hs
      rw [<- Int.zero_sub] at qq hs
      have hd:∀ x:Int,CDivB x (0 - ((Int.gcd t b:Nat):Int)):=fun x=>dok hs (by rw [Int.zero_sub]; exact hg.neg)
      exact⟨hd _,hd _,few,qq⟩
    · rw [if_neg hl] at qq hs
      exact⟨dok hs hg,dok hs hg,few,qq⟩
def F__law_times:DSp:=fun ds S k=>∃ (a b c d:Int) (q:Rat),ds=[pr a b,pr c d]/\b*d≠0/\Bt 4000 a/\Bt 4000 b/\Bt 4000 c/\Bt 4000 d/\Rat.divInt (a*c) (b*d)=q/\k (fr q) S
theorem sc__law_times:FnScope ["one","other"] ["one","other"] (defScope s__law_times):=⟨rfl,rfl,rfl,by decide +kernel,rfl,by decide +kernel,by decide +kernel⟩
theorem ok__law_times {P:Program} {w:World} {K:Fg} {mg:Str->Option Value} {base:Heap} {f:Addr} {fd:FuncData} (Fn:Fun K "_law_times" "_law_times" s__law_times f fd) (c__law_ratio:Own P w K mg base "_law_ratio" 2 F__law_ratio):
    FnOk P w K mg base CX0 3 f fd ["one","other"] (spU K F__law_times):=by
  refine Fn.okJ sc__law_times (fun ds S k h=>?_) (fun cdv A outer s H E hr=>⟨_,(ds_onej (dst_retj (d_callj c__law_ratio (hr.mono (by decide)) rfl (da_consj (d_opj o_mul (d_ixj x_ixE (d_varj 0) d_intj (fun _ _=>rfl)) (d_ixj x_ixE (d_varj 1) d_intj (fun _ _=>rfl))) (da_consj (d_opj o_mul (d_ixj x_ixE (d_varj 0) d_intj (fun _ _=>rfl)) (d_ixj x_ixE (d_varj 1) d_intj (fun _ _=>rfl))) da_nilj))))),fun ds S k h=>?_⟩)
  · obtain⟨_,_,_,_,_,rfl,_⟩:=h
    rfl
  · obtain⟨a,b,c,d,_,rfl,h0,h1,h2,h3,h4,rfl,q⟩:=h
    exact⟨mok h1 h3,mok h2 h4,_,_,rfl,h0,(h2.mul h4).mono (by decide),q⟩
def F__law_small:DSp:=fun ds S k=>∃ a,ds=[.ref a]/\SOK S a/\∀ q S',Sz 4 q->Dr a S S'->k (fr q) S'
theorem sc__law_small:FnScope ["state"] ["state"] (defScope s__law_small):=⟨rfl,rfl,rfl,by decide +kernel,rfl,by decide +kernel,by decide +kernel⟩
theorem ok__law_small {P:Program} {w:World} {K:Fg} {mg:Str->Option Value} {base:Heap} {f:Addr} {fd:FuncData} (Fn:Fun K "_law_small" "_law_small" s__law_small f fd) (c__law_ratio:Own P w K mg base "_law_ratio" 2 F__law_ratio) (c__law_take:Own P w K mg base "_law_take" 1 F__law_take):
    FnOk P w K mg base CX0 3 f fd ["state"] (spU K F__law_small):=by
  refine Fn.okJ sc__law_small (fun ds S k h=>?_) (fun cdv A outer s H E hr=>⟨_,(ds_onej (dst_retj (d_callj c__law_ratio (hr.mono (by decide)) rfl (da_consj (d_opj o_sub (d_callj c__law_take (hr.mono (by decide)) rfl (da_consj (d_varj 0) (da_consj d_intj da_nilj))) d_intj) (da_consj (d_opj o_add d_intj (d_ixj x_ixE (d_lstj (da_consj d_intj (da_consj d_intj (da_consj (d_callj c__law_take (hr.mono (by decide)) rfl (da_consj (d_varj 0) (da_consj d_intj da_nilj))) da_nilj)))) (d_callj c__law_take (hr.mono (by decide)) rfl (da_consj (d_varj 0) (da_consj d_intj da_nilj))) (fun _ _=>rfl))) da_nilj))))),fun ds S k h=>?_⟩)
  · obtain⟨_,rfl,_⟩:=h
    rfl
  · obtain⟨a,rfl,hS,q⟩:=h
    refine⟨a,19,rfl,by decide,by decide,hS,fun r1 S1 h1 h1' d1=>⟨a,6,rfl,by decide,by decide,d1.1,fun r2 S2 h2 h2' d2=>⟨few,fun p hp=>⟨a,3,rfl,by decide,by decide,d2.1.new hp,fun r3 S3 h3 h3' d3=>?_⟩⟩⟩⟩
    have hp3:=d3.2 p _ (d2.1.ne hp) put_same
    obtain⟨c,hc,hm⟩:=atI_mem (ds:=[.int 0,.int 0,.int r2]) h3 h3'
    have hc2:∃ s:Int,c=.int s/\0<=s/\s < 6:=by
      simp only [List.mem_cons,List.not_mem_nil,or_false] at hm
      rcases hm with rfl | rfl | rfl
      · exact⟨0,rfl,by decide,by decide⟩
      · exact⟨0,rfl,by decide,by decide⟩
      · exact⟨r2,rfl,h2,h2'⟩
    obtain⟨s,rfl,s0,s1⟩:=hc2
    have b1:Bt 4 (r1 - 9):=by unfold Bt; omega
    have b2:Bt 4 (1+s):=by unfold Bt; omega
    exact⟨_,_,hp3,hc,_,_,rfl,by omega,b2.mono (by decide),q _ _ (Sz.divInt b1 b2 (by omega)) (d1.trans (d2.trans ((Dr.new d2.1 hp).trans d3)))⟩
theorem unders_fd {u:Int} (h:u∈Unders):Fd (u:Rat):=by
  obtain⟨h1,h2,h3⟩:=unders_no h
  refine⟨by exact_mod_cast h2,h1,?_,?_⟩
  · rw [Rat.num_intCast]; unfold Bt; omega
  · rw [Rat.den_intCast]; decide
def B (x:Q):D:=.tup [fr x.1,fr x.2]
theorem lratio_go {S:DH} {k:DK} {t b:Int} {q:Rat} (e:Rat.divInt t b=q) (h0:b≠0) (hb:Bt 8000 b) (h:k (fr q) S):F__law_ratio [.int t,.int b] S k:=by subst e; exact⟨_,_,rfl,h0,hb,h⟩
set_option maxHeartbeats 4000000
def F__law_plus:DSp:=fun ds S k=>∃ (a b c d:Int) (q:Rat),ds=[pr a b,pr c d]/\b*d≠0/\Bt 4000 a/\Bt 4000 b/\Bt 4000 c/\Bt 4000 d/\Rat.divInt (a*d+c*b) (b*d)=q/\k (fr q) S
theorem sc__law_plus:FnScope ["one","other"] ["one","other"] (defScope s__law_plus):=⟨rfl,rfl,rfl,by decide +kernel,rfl,by decide +kernel,by decide +kernel⟩
theorem ok__law_plus {P:Program} {w:World} {K:Fg} {mg:Str->Option Value} {base:Heap} {f:Addr} {fd:FuncData} (Fn:Fun K "_law_plus" "_law_plus" s__law_plus f fd) (c__law_ratio:Own P w K mg base "_law_ratio" 2 F__law_ratio):
    FnOk P w K mg base CX0 3 f fd ["one","other"] (spU K F__law_plus):=by
  refine Fn.okJ sc__law_plus (fun ds S k h=>?_) (fun cdv A outer s H E hr=>⟨_,(ds_onej (dst_retj (d_callj c__law_ratio (hr.mono (by decide)) rfl (da_consj (d_opj o_add (d_opj o_mul (d_ixj x_ixE (d_varj 0) d_intj (fun _ _=>rfl)) (d_ixj x_ixE (d_varj 1) d_intj (fun _ _=>rfl))) (d_opj o_mul (d_ixj x_ixE (d_varj 1) d_intj (fun _ _=>rfl)) (d_ixj x_ixE (d_varj 0) d_intj (fun _ _=>rfl)))) (da_consj (d_opj o_mul (d_ixj x_ixE (d_varj 0) d_intj (fun _ _=>rfl)) (d_ixj x_ixE (d_varj 1) d_intj (fun _ _=>rfl))) da_nilj))))),fun ds S k h=>?_⟩)
  · obtain⟨_,_,_,_,_,rfl,_⟩:=h
    rfl
  · obtain⟨a,b,c,d,q,rfl,h0,h1,h2,h3,h4,e,w⟩:=h
    exact⟨mok h1 h4,mok h3 h2,mok h2 h4,lratio_go e h0 ((h2.mul h4).mono (by decide)) w⟩
def F__law_minus:DSp:=fun ds S k=>∃ p q:Rat,ds=[fr p,fr q]/\Sz 4000 p/\Sz 4000 q/\k (fr (p - q)) S
theorem sc__law_minus:FnScope ["one","other"] ["one","other"] (defScope s__law_minus):=⟨rfl,rfl,rfl,by decide +kernel,rfl,by decide +kernel,by decide +kernel⟩
theorem ok__law_minus {P:Program} {w:World} {K:Fg} {mg:Str->Option Value} {base:Heap} {f:Addr} {fd:FuncData} (Fn:Fun K "_law_minus" "_law_minus" s__law_minus f fd) (c__law_ratio:Own P w K mg base "_law_ratio" 2 F__law_ratio):
    FnOk P w K mg base CX0 3 f fd ["one","other"] (spU K F__law_minus):=by
  refine Fn.okJ sc__law_minus (fun ds S k h=>?_) (fun cdv A outer s H E hr=>⟨_,(ds_onej (dst_retj (d_callj c__law_ratio (hr.mono (by decide)) rfl (da_consj (d_opj o_sub (d_opj o_mul (d_ixj x_ixE (d_varj 0) d_intj (fun _ _=>rfl)) (d_ixj x_ixE (d_varj 1) d_intj (fun _ _=>rfl))) (d_opj o_mul (d_ixj x_ixE (d_varj 1) d_intj (fun _ _=>rfl)) (d_ixj x_ixE (d_varj 0) d_intj (fun _ _=>rfl)))) (da_consj (d_opj o_mul (d_ixj x_ixE (d_varj 0) d_intj (fun _ _=>rfl)) (d_ixj x_ixE (d_varj 1) d_intj (fun _ _=>rfl))) da_nilj))))),fun ds S k h=>?_⟩)
  · obtain⟨_,_,rfl,_⟩:=h
    rfl
  · obtain⟨p,q,rfl,hp,hq,w⟩:=h
    exact⟨mok hp.num hq.den,mok hq.num hp.den,mok hp.den hq.den,lratio_go (sub_of p q) (den_mul_ne p q) ((hp.den.mul hq.den).mono (by decide)) w⟩
set_option maxHeartbeats 4000000
def wholeD:D->Bool
  | .int _=>true
  | _=>false
def fracD:D->Bool
  | .tup [.int a,.int b]=>decide (1<=b) && decide (((Int.gcd a b:Nat):Int)=1)
  | _=>false
def aboveD:D->Bool
  | .tup [.int a,.int b]=>fracD (.tup [.int a,.int b]) && decide (0 < a)
  | _=>false
def jointD (n:Nat):D->Bool
  | .int i=>decide (0<=i) && decide (i < (n:Int))
  | _=>false
def Ask (S:DH) (d:D):Prop:=∃ t,tyD S d=some t
def El (S:DH) (d:D):Prop:=Ask S d/\(∀ ds,d=.tup ds->∀ x∈ds,Ask S x)/\∀ a,d=.ref a->∃ ds,S a=some (.lst ds)
def St (S:DH) (d:D):Prop:=Ask S d/\∀ ds,d=.tup ds->∀ x∈ds,El S x
theorem Ask.ext {S S':DH} {d:D} (e:Ext S S') (h:Ask S d):Ask S' d:=by
  obtain⟨t,h⟩:=h
  refine⟨t,?_⟩
  cases d with
  | ref a=>
    have h:tyR (S a)=some t:=h
    show tyR (S' a)=some t
    cases z:S a with
    | none=>rw [z] at h; cases h
    | some o=>rw [e _ _ z,<- z]; exact h
  | _=>exact h
theorem whole_ty {S:DH} {d:D} {t:Ty} (h:tyD S d=some t):wholeD d=(match t with | .int=>true | _=>false):=by
  cases d with
  | ref a=>
    have h:tyR (S a)=some t:=h
    cases z:S a with
    | none=>rw [z] at h; cases h
    | some o=>rw [z] at h; cases o <;> cases h <;> rfl
  | _=>cases h <;> rfl
theorem whole_int {d:D} (h:wholeD d=true):∃ i,d=.int i:=by
  cases d with
  | int i=>exact⟨i,rfl⟩
  | _=>exact absurd (show false=true from h) Bool.false_ne_true
theorem not_tup {S:DH} {d:D} {t:Ty} (h:tyD S d=some t) (n:∀ ds,d≠.tup ds):subT t .tup=false:=by
  cases d with
  | ref a=>
    have h:tyR (S a)=some t:=h
    cases z:S a with
    | none=>rw [z] at h; cases h
    | some o=>rw [z] at h; cases o <;> cases h <;> rfl
  | tup ds=>exact absurd rfl (n ds)
  | _=>cases h <;> rfl
theorem tup_or (d:D):(∃ ds,d=.tup ds)\/∀ ds,d≠.tup ds:=by
  cases d with
  | tup ds=>exact .inl ⟨ds,rfl⟩
  | _=>exact .inr fun ds h=>by cases h
theorem len2 {ds:List D} (h:(ds.length:Int)=2):∃ x y,ds=[x,y]:=by
  match ds,h with
  | [x,y],_=>exact⟨x,y,rfl⟩
  | [],h=>cases h
  | [_],h=>exact absurd h (by simp)
  | _::_::_::r,h=>simp only [List.length_cons] at h; omega
theorem frac_len {ds:List D} (h:¬ (ds.length:Int)=2):fracD (.tup ds)=false:=by
  match ds,h with
  | [],_=>rfl
  | [x],_=>cases x <;> rfl
  | [_,_],h=>exact absurd rfl h
  | x::y::_::r,_=>cases x <;> first | rfl | (cases y <;> rfl)
theorem frac_is {a b:Int}:fracD (.tup [.int a,.int b])=(decide (1<=b) && decide (((Int.gcd a b:Nat):Int)=1)):=rfl
theorem frac_not {d:D} (n:∀ ds,d≠.tup ds):fracD d=false:=by
  cases d with
  | tup ds=>exact absurd rfl (n ds)
  | _=>rfl
theorem frac_w1 {x y:D} (h:wholeD x=false):fracD (.tup [x,y])=false:=by
  cases x with
  | int i=>cases h
  | _=>rfl
theorem frac_w2 {x y:D} (h:wholeD y=false):fracD (.tup [x,y])=false:=by
  cases x with
  | int i=>
    cases y with
    | int j=>cases h
    | _=>rfl
  | _=>rfl
theorem frac_pr {d:D} (h:fracD d=true):∃ a b,d=.tup [.int a,.int b]:=by
  unfold fracD at h
  split at h
  · exact⟨_,_,rfl⟩
  · cases h
theorem above_frac {d:D} (h:fracD d=false):aboveD d=false:=by
  unfold aboveD
  split
  · rw [h]; rfl
  · rfl
def F_is_whole:DSp:=fun ds S k=>∃ d,ds=[d]/\Ask S d/\k (.bl (wholeD d)) S
theorem sc_is_whole:FnScope ["thing"] ["thing"] (defScope s_is_whole):=⟨rfl,rfl,rfl,by decide +kernel,rfl,by decide +kernel,by decide +kernel⟩
theorem ok_is_whole {P:Program} {w:World} {K:Fg} {mg:Str->Option Value} {base:Heap} {f:Addr} {fd:FuncData} (Fn:Fun K "is_whole" "is_whole" s_is_whole f fd) (z_isinstance:mg "isinstance"=none) (z_bool:mg "bool"=none) (z_int:mg "int"=none):
    FnOk P w K mg base CX0 1 f fd ["thing"] (spU K F_is_whole):=by
  refine Fn.okJ sc_is_whole (fun ds S k h=>?_) (fun cdv A outer s H E hr=>⟨_,(ds_onej (dst_retj (d_andj (d_callBj b_isiX rfl z_isinstance bt_isinstance (da_consj (d_varj 0) (da_consj (d_tyj (n:=.int) rfl z_int bt_int) da_nilj))) (d_onej (d_notj (d_callBj b_isiX rfl z_isinstance bt_isinstance (da_consj (d_varj 0) (da_consj (d_tyj (n:=.bool) rfl z_bool bt_bool) da_nilj)))))))),fun ds S k h=>?_⟩)
  · obtain⟨_,rfl,_⟩:=h
    rfl
  · obtain⟨d,rfl,⟨t,ht⟩,q⟩:=h
    rw [whole_ty ht] at q
    refine⟨t,ht,?_⟩
    cases t <;> first | exact q | exact⟨_,ht,q⟩
def F_is_fraction:DSp:=fun ds S k=>∃ d,ds=[d]/\Ask S d/\(∀ ds,d=.tup ds->∀ x∈ds,Ask S x)/\k (.bl (fracD d)) S
theorem sc_is_fraction:FnScope ["thing"] ["thing"] (defScope s_is_fraction):=⟨rfl,rfl,rfl,by decide +kernel,rfl,by decide +kernel,by decide +kernel⟩
theorem ok_is_fraction {P:Program} {w:World} {K:Fg} {mg:Str->Option Value} {base:Heap} {f:Addr} {fd:FuncData} (Fn:Fun K "is_fraction" "is_fraction" s_is_fraction f fd) (c_is_whole:Own P w K mg base "is_whole" 1 F_is_whole) (c_common_divisor:Own P w K mg base "common_divisor" 1 F_common_divisor) (z_len:mg "len"=none) (z_isinstance:mg "isinstance"=none) (z_tuple:mg "tuple"=none):
    FnOk P w K mg base CX0 2 f fd ["thing"] (spU K F_is_fraction):=by
  refine Fn.okJ sc_is_fraction (fun ds S k h=>?_) (fun cdv A outer s H E hr=>⟨_,(ds_consj (dst_ifj (WJ.pt (dw_orj (dt_notj (dt_valj (d_callBj b_isiX rfl z_isinstance bt_isinstance (da_consj (d_varj 0) (da_consj (d_tyj (n:=.tup) rfl z_tuple bt_tuple) da_nilj))))) (dw_or1j (dt_cmpj o_ne (d_callBj b_lenE rfl z_len bt_len (da_consj (d_varj 0) da_nilj)) d_intj (nomark _))))) (ds_onej (dst_retj d_blj)) ds_nilj) (ds_consj (dst_ifj (WJ.pt (dw_orj (dt_notj (dt_valj (d_callj c_is_whole (hr.mono (by decide)) rfl (da_consj (d_ixj x_ixE (d_varj 0) d_intj (fun _ _=>rfl)) da_nilj)))) (dw_or1j (dt_notj (dt_valj (d_callj c_is_whole (hr.mono (by decide)) rfl (da_consj (d_ixj x_ixE (d_varj 0) d_intj (fun _ _=>rfl)) da_nilj))))))) (ds_onej (dst_retj d_blj)) ds_nilj) (ds_onej (dst_retj (d_andj (d_cmpj o_ge (d_ixj x_ixE (d_varj 0) d_intj (fun _ _=>rfl)) d_intj (nomark _)) (d_onej (d_cmpj o_eq (d_callj c_common_divisor (hr.mono (by decide)) rfl (da_consj (d_ixj x_ixE (d_varj 0) d_intj (fun _ _=>rfl)) (da_consj (d_ixj x_ixE (d_varj 0) d_intj (fun _ _=>rfl)) da_nilj))) d_intj (nomark _)))))))),fun ds S k h=>?_⟩)
  · obtain⟨_,rfl,_⟩:=h
    rfl
  · obtain⟨d,rfl,⟨t,ht⟩,ha,q⟩:=h
    refine⟨t,ht,?_⟩
    rcases tup_or d with ⟨ds,rfl⟩ | n
    · cases ht
      refine ite_ndec (fun hl=>?_) (fun hl=>?_)
      · rw [frac_len hl] at q
        exact q
      · obtain⟨x,y,rfl⟩:=len2 hl
        refine⟨x,rfl,ha _ rfl x (by simp),ite_nb (fun h1=>?_) (fun h1=>⟨y,rfl,ha _ rfl y (by simp),ite_nb (fun h2=>?_) (fun h2=>?_)⟩)⟩
        · rw [frac_w1 h1] at q
          exact q
        · rw [frac_w2 h2] at q
          exact q
        · obtain⟨a,rfl⟩:=whole_int h1
          obtain⟨b,rfl⟩:=whole_int h2
          rw [frac_is] at q
          refine ite_dec (fun h3=>?_) (fun h3=>?_)
          · rw [decide_eq_true h3,Bool.true_and] at q
            exact q
          · rw [decide_eq_false h3,Bool.false_and] at q
            exact q
    · rw [not_tup ht n]
      rw [frac_not n] at q
      exact q
def F_is_above_nought:DSp:=fun ds S k=>∃ d,ds=[d]/\Ask S d/\(∀ ds,d=.tup ds->∀ x∈ds,Ask S x)/\k (.bl (aboveD d)) S
theorem sc_is_above_nought:FnScope ["thing"] ["thing"] (defScope s_is_above_nought):=⟨rfl,rfl,rfl,by decide +kernel,rfl,by decide +kernel,by decide +kernel⟩
theorem ok_is_above_nought {P:Program} {w:World} {K:Fg} {mg:Str->Option Value} {base:Heap} {f:Addr} {fd:FuncData} (Fn:Fun K "is_above_nought" "is_above_nought" s_is_above_nought f fd) (c_is_fraction:Own P w K mg base "is_fraction" 2 F_is_fraction):
    FnOk P w K mg base CX0 3 f fd ["thing"] (spU K F_is_above_nought):=by
  refine Fn.okJ sc_is_above_nought (fun ds S k h=>?_) (fun cdv A outer s H E hr=>⟨_,(ds_onej (dst_retj (d_andj (d_callj c_is_fraction (hr.mono (by decide)) rfl (da_consj (d_varj 0) da_nilj)) (d_onej (d_cmpj o_gt (d_ixj x_ixE (d_varj 0) d_intj (fun _ _=>rfl)) d_intj (nomark _)))))),fun ds S k h=>?_⟩)
  · obtain⟨_,rfl,_⟩:=h
    rfl
  · obtain⟨d,rfl,ht,ha,q⟩:=h
    refine⟨d,rfl,ht,ha,ite_b (fun h=>?_) (fun h=>?_)⟩
    · obtain⟨a,b,rfl⟩:=frac_pr h
      have q:k (.bl (fracD (.tup [.int a,.int b]) && decide (0 < a))) S:=q
      rw [h,Bool.true_and] at q
      exact q
    · rw [above_frac h] at q
      exact q
def F_is_joint:DSp:=fun ds S k=>∃ (d:D) (n:Nat),ds=[d,.int (n:Nat)]/\Ask S d/\k (.bl (jointD n d)) S
theorem sc_is_joint:FnScope ["thing","many"] ["thing","many"] (defScope s_is_joint):=⟨rfl,rfl,rfl,by decide +kernel,rfl,by decide +kernel,by decide +kernel⟩
theorem ok_is_joint {P:Program} {w:World} {K:Fg} {mg:Str->Option Value} {base:Heap} {f:Addr} {fd:FuncData} (Fn:Fun K "is_joint" "is_joint" s_is_joint f fd) (c_is_whole:Own P w K mg base "is_whole" 1 F_is_whole):
    FnOk P w K mg base CX0 2 f fd ["thing","many"] (spU K F_is_joint):=by
  refine Fn.okJ sc_is_joint (fun ds S k h=>?_) (fun cdv A outer s H E hr=>⟨_,(ds_onej (dst_retj (d_andj (d_callj c_is_whole (hr.mono (by decide)) rfl (da_consj (d_varj 0) da_nilj)) (d_onej (d_chainj o_le o_lt d_intj (d_varj 0) (d_varj 1)))))),fun ds S k h=>?_⟩)
  · obtain⟨_,_,rfl,_⟩:=h
    rfl
  · obtain⟨d,n,rfl,ht,q⟩:=h
    refine⟨d,rfl,ht,ite_b (fun h=>?_) (fun h=>?_)⟩
    · obtain⟨i,rfl⟩:=whole_int h
      have q:k (.bl (decide (0<=i) && decide (i < (n:Int)))) S:=q
      refine ite_dec (fun h0=>?_) (fun h0=>?_)
      · rw [decide_eq_true h0,Bool.true_and] at q
        exact q
      · rw [decide_eq_false h0,Bool.false_and] at q
        exact q
    · have e:jointD n d=false:=by cases d <;> first | rfl | cases h
      rw [e] at q
      exact q
theorem joint_int {n:Nat} {d:D} (h:jointD n d=true):∃ i:Nat,d=.int (i:Nat)/\i < n:=by
  cases d with
  | int i=>
    have h:(decide (0<=i) && decide (i < (n:Int)))=true:=h
    rw [Bool.and_eq_true] at h
    obtain⟨j,rfl⟩:=Int.eq_ofNat_of_zero_le (of_decide_eq_true h.1)
    exact⟨j,rfl,by have:=of_decide_eq_true h.2; omega⟩
  | _=>cases h
set_option maxHeartbeats 4000000
def ltD:D->D->Bool
  | .int i,.int j=>decide (i < j)
  | _,_=>false
def rdD (n:Nat):D->Bool
  | .tup [a,b,c]=>jointD n a && (jointD n b && (ltD a b && aboveD c))
  | _=>false
theorem rod_len {n:Nat} {r:List D} (h:¬ (r.length:Int)=3):rdD n (.tup r)=false:=by
  match r,h with
  | [],_=>rfl
  | [_],_=>rfl
  | [_,_],_=>rfl
  | [_,_,_],h=>exact absurd rfl h
  | _::_::_::_::_,_=>rfl
theorem rod_not {n:Nat} {d:D} (h:∀ ds,d≠.tup ds):rdD n d=false:=by
  cases d with
  | tup ds=>exact absurd rfl (h ds)
  | _=>rfl
theorem len3r {r:List D} (h:(r.length:Int)=3):∃ x y z,r=[x,y,z]:=by
  match r,h with
  | [x,y,z],_=>exact⟨x,y,z,rfl⟩
def Ask3 (S:DH) (d:D):Prop:=Ask S d/\∀ ds,d=.tup ds->∀ x∈ds,Ask S x/\∀ es,x=.tup es->∀ y∈es,Ask S y
def F_is_rod:DSp:=fun ds S k=>∃ (d:D) (n:Nat),ds=[d,.int (n:Nat)]/\Ask3 S d/\k (.bl (rdD n d)) S
theorem sc_is_rod:FnScope ["thing","many"] ["thing","many"] (defScope s_is_rod):=⟨rfl,rfl,rfl,by decide +kernel,rfl,by decide +kernel,by decide +kernel⟩
theorem ok_is_rod {P:Program} {w:World} {K:Fg} {mg:Str->Option Value} {base:Heap} {f:Addr} {fd:FuncData} (Fn:Fun K "is_rod" "is_rod" s_is_rod f fd) (c_is_joint:Own P w K mg base "is_joint" 2 F_is_joint) (c_is_above_nought:Own P w K mg base "is_above_nought" 3 F_is_above_nought) (z_len:mg "len"=none) (z_isinstance:mg "isinstance"=none) (z_tuple:mg "tuple"=none):
    FnOk P w K mg base CX0 4 f fd ["thing","many"] (spU K F_is_rod):=by
  refine Fn.okJ sc_is_rod (fun ds S k h=>?_) (fun cdv A outer s H E hr=>⟨_,(ds_consj (dst_ifj (WJ.pt (dw_orj (dt_notj (dt_valj (d_callBj b_isiX rfl z_isinstance bt_isinstance (da_consj (d_varj 0) (da_consj (d_tyj (n:=.tup) rfl z_tuple bt_tuple) da_nilj))))) (dw_or1j (dt_cmpj o_ne (d_callBj b_lenE rfl z_len bt_len (da_consj (d_varj 0) da_nilj)) d_intj (nomark _))))) (ds_onej (dst_retj d_blj)) ds_nilj) (ds_consj (dst_ifj (WJ.pt (dw_orj (dt_notj (dt_valj (d_callj c_is_joint (hr.mono (by decide)) rfl (da_consj (d_ixj x_ixE (d_varj 0) d_intj (fun _ _=>rfl)) (da_consj (d_varj 1) da_nilj))))) (dw_or1j (dt_notj (dt_valj (d_callj c_is_joint (hr.mono (by decide)) rfl (da_consj (d_ixj x_ixE (d_varj 0) d_intj (fun _ _=>rfl)) (da_consj (d_varj 1) da_nilj)))))))) (ds_onej (dst_retj d_blj)) ds_nilj) (ds_onej (dst_retj (d_andj (d_cmpj o_lt (d_ixj x_ixE (d_varj 0) d_intj (fun _ _=>rfl)) (d_ixj x_ixE (d_varj 0) d_intj (fun _ _=>rfl)) (nomark _)) (d_onej (d_callj c_is_above_nought (hr.mono (by decide)) rfl (da_consj (d_ixj x_ixE (d_varj 0) d_intj (fun _ _=>rfl)) da_nilj)))))))),fun ds S k h=>?_⟩)
  · obtain⟨_,_,rfl,_⟩:=h
    rfl
  · obtain⟨d,n,rfl,⟨⟨t,ht⟩,ha⟩,q⟩:=h
    refine⟨t,ht,?_⟩
    rcases tup_or d with ⟨ds,rfl⟩ | nt
    · cases ht
      refine ite_ndec (fun hl=>?_) (fun hl=>?_)
      · rw [rod_len hl] at q
        exact q
      · obtain⟨x,y,z,rfl⟩:=len3r hl
        have hx:=ha _ rfl x (by simp)
        have hy:=ha _ rfl y (by simp)
        have hz:=ha _ rfl z (by simp)
        have q:k (.bl (jointD n x && (jointD n y && (ltD x y && aboveD z)))) S:=q
        refine⟨x,n,rfl,hx.1,ite_nb (fun h1=>?_) (fun h1=>⟨y,n,rfl,hy.1,ite_nb (fun h2=>?_) (fun h2=>?_)⟩)⟩
        · rw [h1,Bool.false_and] at q
          exact q
        · rw [h1,h2,Bool.true_and,Bool.false_and] at q
          exact q
        · rw [h1,h2,Bool.true_and,Bool.true_and] at q
          obtain⟨i,rfl,_⟩:=joint_int h1
          obtain⟨j,rfl,_⟩:=joint_int h2
          have q:k (.bl (decide ((i:Int) < (j:Int)) && aboveD z)) S:=q
          refine ite_dec (fun h3=>?_) (fun h3=>?_)
          · rw [decide_eq_true h3,Bool.true_and] at q
            exact⟨z,rfl,hz.1,hz.2,q⟩
          · rw [decide_eq_false h3,Bool.false_and] at q
            exact q
    · rw [not_tup ht nt]
      rw [rod_not nt] at q
      exact q
theorem map_loop {α:Type} {f g:α->D} {all:List α} {S:DH} {p:Addr} {ok:DH->Prop} {bd:DB} {k:DK} {L1:Lo} (hp:S p=none) (hok:∀ S',Ext S S'->ok S')
    (hbd:∀ (x:α) (S':DH) (k':Option D->DH->Prop),x∈all->Ext S S'->k' (some (g x)) S'->bd (some (f x)::L1) S' k'):
    ∀ (r:List α) (acc:List D) (l0:Option D),(∀ x∈r,x∈all)->acc.length+r.length<=100->(∀ S',Ext S S'->S' p=some (.lst (acc++r.map g))->k (.ref p) S')->dCLoop ok p (dgName 0) bd k (r.map f) acc (l0::L1) (put S p (.lst acc))
  | [],acc,l0,_,_,w=>⟨hok _ (Ext.new hp),w _ (Ext.new hp) (by rw [put_same]; simp)⟩
  | x::r,acc,l0,hr,hl,w=>by
    have hl:acc.length+(r.length+1)<=100:=hl
    refine⟨hok _ (Ext.new hp),hbd x _ _ (hr x List.mem_cons_self) (Ext.new hp) ⟨put_same,big1 (by omega),?_⟩⟩
    rw [put_put]
    exact map_loop hp hok hbd r _ _ (fun y hy=>hr y (List.mem_cons_of_mem _ hy)) (by rw [List.length_append]; show acc.length+1+r.length<=100; omega) fun S' e h=>w S' e (by rw [h,List.append_assoc]; rfl)
theorem self_loop {g:D->D} {all:List D} {S:DH} {p:Addr} {ok:DH->Prop} {bd:DB} {k:DK} {L1:Lo} (hp:S p=none) (hok:∀ S',Ext S S'->ok S')
    (hbd:∀ (x:D) (S':DH) (k':Option D->DH->Prop),x∈all->Ext S S'->k' (some (g x)) S'->bd (some x::L1) S' k') (l0:Option D) (hl:all.length<=100) (w:∀ S',Ext S S'->S' p=some (.lst (all.map g))->k (.ref p) S'):dCLoop ok p (dgName 0) bd k all [] (l0::L1) (put S p (.lst [])):=by
  have h:=map_loop (f:=id) (g:=g) (all:=all) (k:=k) hp hok hbd all [] l0 (fun _ h=>h) (by simpa using hl) w
  rw [List.map_id] at h
  exact h
def riseD:List D->Bool
  | x::y::r=>ltD x y && riseD (y::r)
  | _=>true
theorem rise_loop {S:DH} {p:Addr} {ok:DH->Prop} {bd:DB} {k:DK} (hp:S p=none) (hok:∀ S',ok S')
    (hbd:∀ (x y:D) (S':DH) (k':Option D->DH->Prop),wholeD x=true->wholeD y=true->k' (some (.bl (ltD x y))) S'->bd [some x,some y] S' k'):
    ∀ (r:List D) (acc:List Bool) (l0 l1:Option D),(∀ x∈r,wholeD x=true)->acc.length+r.length<=100->(∀ S' (bs:List Bool),Ext S S'->S' p=some (.lst (bs.map D.bl))->bs.all id=(acc.all id && riseD r)->k (.ref p) S')->
    dCLoop ok p (dgSeqE 2 (dgCons (dgName 0) (dgCons (dgName 1) dgNil))) bd k (zipD r (r.drop 1)) (acc.map D.bl) [l0,l1] (put S p (.lst (acc.map D.bl)))
  | [],acc,_,_,_,_,w=>⟨hok _,w _ acc (Ext.new hp) put_same (by show _=(_ && true); rw [Bool.and_true])⟩
  | [x],acc,_,_,_,_,w=>⟨hok _,w _ acc (Ext.new hp) put_same (by show _=(_ && true); rw [Bool.and_true])⟩
  | x::y::r,acc,l0,l1,hx,hl,w=>by
    have hl:acc.length+(r.length+1+1)<=100:=hl
    refine⟨hok _,([x,y],none),rfl,rfl,?_⟩
    refine⟨rfl,hbd x y _ _ (hx x (by simp)) (hx y (by simp)) ⟨put_same,by rw [List.length_map]; exact big1 (by omega),?_⟩⟩
    rw [put_put]
    have ea:acc.map D.bl++[D.bl (ltD x y)]=(acc++[ltD x y]).map D.bl:=by rw [List.map_append]; rfl
    rw [ea]
    refine rise_loop hp hok hbd (y::r) (acc++[ltD x y]) _ _ (fun z hz=>hx z (List.mem_cons_of_mem _ hz)) (by rw [List.length_append]; show acc.length+1+(r.length+1)<=100; omega) fun S' bs e h hb=>w S' bs e h ?_
    rw [hb,List.all_append]
    show(_ && (id (ltD x y) && true) && riseD (y::r))=(_ && (ltD x y && riseD (y::r)))
    rw [Bool.and_true,Bool.and_assoc]
    rfl
theorem joint_whole {n:Nat} {d:D} (h:jointD n d=true):wholeD d=true:=by
  obtain⟨i,rfl,_⟩:=joint_int h
  rfl
theorem cut1 {ds:List D}:DL.cutD ds (some 1) none=ds.drop 1:=by
  unfold DL.cutD
  cases ds with
  | nil=>rfl
  | cons x r=>
    have e:HT.sIx (x::r).length 0 (some 1)=1:=by
      show HT.sIx (r.length+1) 0 (some 1)=1
      unfold HT.sIx
      simp
    rw [e]
    show List.take _ r=r
    rw [List.take_of_length_le]
    show r.length<=(r.length+1) - 1
    omega
theorem count_nodup {α:Type} [BEq α] [LawfulBEq α] (l:List α):(∀ x∈l,l.count x=1)↔l.Nodup:=by
  rw [List.nodup_iff_count]
  refine⟨fun h x=>?_,fun h x hx=>?_⟩
  · by_cases hx:x∈l
    · rw [h x hx]; exact Nat.le_refl _
    · rw [List.count_eq_zero.mpr hx]; decide
  · have h1:=h x
    have h2:=List.count_pos_iff.mpr hx
    omega
def fxsD (n:Nat):D->Bool
  | .tup ds=>ds.all (jointD n) && riseD ds
  | _=>false
def keyD:D->List Int
  | .tup (.int i::.int j::_)=>[i,j]
  | _=>[]
def rdsD (n:Nat):D->Bool
  | .tup ds=>decide (ds.length<=12) && (ds.all (rdD n) && decide ((ds.map keyD).Nodup))
  | _=>false
def lnkD:D->Bool
  | .tup [.int m,f,r]=>(decide (1<=m) && decide (m<=8)) && (fxsD m.toNat f && rdsD m.toNat r)
  | _=>false
def AskN:Nat->DH->D->Prop
  | 0,S,d=>Ask S d
  | n+1,S,d=>Ask S d/\∀ ds,d=.tup ds->ds.length<=40/\∀ x∈ds,AskN n S x
theorem AskN.ask {S:DH} {d:D}:∀ {n:Nat},AskN n S d->Ask S d
  | 0,h=>h
  | _+1,h=>h.1
theorem AskN.ext {S S':DH} (e:Ext S S'):∀ {n:Nat} {d:D},AskN n S d->AskN n S' d
  | 0,_,h=>Ask.ext e h
  | _+1,_,h=>⟨h.1.ext e,fun ds z=>⟨(h.2 ds z).1,fun x hx=>((h.2 ds z).2 x hx).ext e⟩⟩
theorem AskN.three {S:DH} {d:D} (h:AskN 2 S d):Ask3 S d:=⟨h.1,fun ds e x hx=>⟨((h.2 ds e).2 x hx).1,fun es e' y hy=>(((h.2 ds e).2 x hx).2 es e').2 y hy⟩⟩
def F_are_fixed:DSp:=fun ds S k=>∃ (d:D) (n:Nat),ds=[d,.int (n:Nat)]/\AskN 1 S d/\∀ S',Ext S S'->k (.bl (fxsD n d)) S'
theorem sc_are_fixed:FnScope ["thing","many"] ["thing","many"] (defScope s_are_fixed):=⟨rfl,rfl,rfl,by decide +kernel,rfl,by decide +kernel,by decide +kernel⟩
theorem ok_are_fixed {P:Program} {w:World} {K:Fg} {mg:Str->Option Value} {base:Heap} {f:Addr} {fd:FuncData} (Fn:Fun K "are_fixed" "are_fixed" s_are_fixed f fd) (c_is_joint:Own P w K mg base "is_joint" 2 F_is_joint) (z_isinstance:mg "isinstance"=none) (z_tuple:mg "tuple"=none) (z_all:mg "all"=none) (z_zip:mg "zip"=none):
    FnOk P w K mg base CX0 3 f fd ["thing","many"] (spU K F_are_fixed):=by
  refine Fn.okJ sc_are_fixed (fun ds S k h=>?_) (fun cdv A outer s H E hr=>⟨_,(ds_consj (dst_ifj (dt_notj (dt_valj (d_callBj b_isiX rfl z_isinstance bt_isinstance (da_consj (d_varj 0) (da_consj (d_tyj (n:=.tup) rfl z_tuple bt_tuple) da_nilj))))) (ds_onej (dst_retj d_blj)) ds_nilj) (ds_consj (dst_ifj (dt_notj (dt_valj (d_callBj b_allE rfl z_all bt_all (da_consj (d_compEj rfl (compSc (N:=["joint","many"]) (cap:=[none,some 1]) rfl rfl rfl rfl ⟨rfl,trivial⟩ rfl rfl ⟨⟨rfl,.inl rfl,.inl rfl⟩,trivial⟩) (d_varj 0) (fun _ _ _ _=>(dg_namej (i:=0) (show List.Nodup (["joint","many"]:List Str) from by decide +kernel))) (fun _ _ _ _=>(d_callj c_is_joint (hr.mono (by decide)) rfl (da_consj (d_varj 0) (da_consj (d_varj 1) da_nilj))))) da_nilj)))) (ds_onej (dst_retj d_blj)) ds_nilj) (ds_onej (dst_retj (d_callBj b_allE rfl z_all bt_all (da_consj (d_compZj rfl (compSc (N:=["one","other"]) (cap:=[none,none]) rfl rfl rfl rfl trivial rfl rfl trivial) rfl z_zip (da_consj (d_varj 0) (da_consj (d_cutXj (d_varj 0) (do_somej d_intj) do_nonej) da_nilj)) (fun _ _ _ _=>(dg_seqE (n:=2) rfl (dgs_consj (dg_namej (i:=0) (show List.Nodup (["one","other"]:List Str) from by decide +kernel)) (dgs_consj (dg_namej (i:=1) (show List.Nodup (["one","other"]:List Str) from by decide +kernel)) dgs_nilj)))) (fun _ _ _ _=>(d_cmpj o_lt (d_varj 0) (d_varj 1) (nomark _)))) da_nilj)))))),fun ds S k h=>?_⟩)
  · obtain⟨_,_,rfl,_⟩:=h
    rfl
  · obtain⟨d,n,rfl,ha,q⟩:=h
    obtain⟨t,ht⟩:=ha.1
    refine⟨t,ht,?_⟩
    rcases tup_or d with ⟨ds,rfl⟩ | nt
    · cases ht
      obtain⟨hl,hx⟩:=ha.2 ds rfl
      have q:∀ S',Ext S S'->k (.bl (ds.all (jointD n) && riseD ds)) S':=q
      refine⟨(ds,none),rfl,fun p hp=>?_⟩
      refine self_loop (g:=fun x=>.bl (jointD n x)) hp (fun _ _=>trivial) (fun x S' k' hx' e hk=>⟨x,n,rfl,(hx x hx').ext e,hk⟩) _ (show ds.length<=100 by omega) fun S1 e1 h1=>?_
      refine⟨(ds.map (fun x=>.bl (jointD n x)),some p),ds.map (jointD n),by simp only [dItems,h1],by rw [List.map_map]; rfl,?_⟩
      have ea:(ds.map (jointD n)).all id=ds.all (jointD n):=by rw [List.all_map]; rfl
      rw [ea]
      refine ite_nb (fun hb=>?_) (fun hb=>?_)
      · have:=q S1 e1
        rw [hb,Bool.false_and] at this
        exact this
      · refine⟨(ds,none),(ds.drop 1,none),rfl,by rw [cut1]; rfl,fun p2 hp2=>?_⟩
        refine rise_loop hp2 (fun _=>⟨trivial,trivial⟩) (fun x y S' k' h1 h2 hk=>?_) ds [] none none (fun x hx'=>joint_whole (List.all_eq_true.mp hb x hx')) (by simp; omega) fun S2 bs e2 h2 hbs=>?_
        · obtain⟨i,rfl⟩:=whole_int h1
          obtain⟨j,rfl⟩:=whole_int h2
          exact hk
        · refine⟨(bs.map D.bl,some p2),bs,by simp only [dItems,h2],rfl,?_⟩
          have:=q S2 (e1.trans e2)
          rw [hb,Bool.true_and] at this
          rw [hbs]
          exact this
    · rw [not_tup ht nt]
      have:fxsD n d=false:=by
        cases d with
        | tup ds=>exact absurd rfl (nt ds)
        | _=>rfl
      rw [this] at q
      exact q S (Ext.refl S)
theorem rd_key {n:Nat} {d:D} (h:rdD n d=true):∃ ds i j c,d=.tup [.int i,.int j,c]/\ds=[i,j]/\keyD d=ds/\DL.cutD [.int i,.int j,c] none (some 2)=ds.map D.int:=by
  unfold rdD at h
  split at h
  · rename_i a b c
    rw [Bool.and_eq_true,Bool.and_eq_true] at h
    obtain⟨i,rfl,_⟩:=joint_int h.1
    obtain⟨j,rfl,_⟩:=joint_int h.2.1
    exact⟨_,_,_,c,rfl,rfl,rfl,rfl⟩
  · cases h
def F_are_rods:DSp:=fun ds S k=>∃ (d:D) (n:Nat),ds=[d,.int (n:Nat)]/\AskN 3 S d/\∀ S',Ext S S'->k (.bl (rdsD n d)) S'
theorem sc_are_rods:FnScope ["thing","many","joined"] ["thing","many"] (defScope s_are_rods):=⟨rfl,rfl,rfl,by decide +kernel,rfl,by decide +kernel,by decide +kernel⟩
theorem ok_are_rods {P:Program} {w:World} {K:Fg} {mg:Str->Option Value} {base:Heap} {f:Addr} {fd:FuncData} (Fn:Fun K "are_rods" "are_rods" s_are_rods f fd) (c_is_rod:Own P w K mg base "is_rod" 4 F_is_rod) (z_len:mg "len"=none) (z_isinstance:mg "isinstance"=none) (z_tuple:mg "tuple"=none) (z_all:mg "all"=none) (g_MOST_RODS:GInt mg "MOST_RODS" 12):
    FnOk P w K mg base CX0 5 f fd ["thing","many"] (spU K F_are_rods):=by
  refine Fn.okJ sc_are_rods (fun ds S k h=>?_) (fun cdv A outer s H E hr=>⟨_,(ds_consj (dst_ifj (WJ.pt (dw_orj (dt_notj (dt_valj (d_callBj b_isiX rfl z_isinstance bt_isinstance (da_consj (d_varj 0) (da_consj (d_tyj (n:=.tup) rfl z_tuple bt_tuple) da_nilj))))) (dw_or1j (dt_cmpj o_gt (d_callBj b_lenE rfl z_len bt_len (da_consj (d_varj 0) da_nilj)) (d_gint g_MOST_RODS rfl) (nomark _))))) (ds_onej (dst_retj d_blj)) ds_nilj) (ds_consj (dst_ifj (dt_notj (dt_valj (d_callBj b_allE rfl z_all bt_all (da_consj (d_compEj rfl (compSc (N:=["rod","many"]) (cap:=[none,some 1]) rfl rfl rfl rfl ⟨rfl,trivial⟩ rfl rfl ⟨⟨rfl,.inl rfl,.inl rfl⟩,trivial⟩) (d_varj 0) (fun _ _ _ _=>(dg_namej (i:=0) (show List.Nodup (["rod","many"]:List Str) from by decide +kernel))) (fun _ _ _ _=>(d_callj c_is_rod (hr.mono (by decide)) rfl (da_consj (d_varj 0) (da_consj (d_varj 1) da_nilj))))) da_nilj)))) (ds_onej (dst_retj d_blj)) ds_nilj) (ds_consj (dst_setj (i:=2) sc_are_rods.nd (d_compEj rfl (compSc (N:=["rod"]) (cap:=[none]) rfl rfl rfl rfl trivial rfl rfl trivial) (d_varj 0) (fun _ _ _ _=>(dg_namej (i:=0) (show List.Nodup (["rod"]:List Str) from by decide +kernel))) (fun _ _ _ _=>(d_cutXj (d_varj 0) do_nonej (do_somej d_intj))))) (ds_onej (dst_retj (d_callBj b_allE rfl z_all bt_all (da_consj (d_compEj rfl (compSc (N:=["joints","joined"]) (cap:=[none,some 2]) rfl rfl rfl rfl ⟨rfl,trivial⟩ rfl rfl ⟨⟨rfl,.inl rfl,.inl rfl⟩,trivial⟩) (d_varj 2) (fun _ _ _ _=>(dg_namej (i:=0) (show List.Nodup (["joints","joined"]:List Str) from by decide +kernel))) (fun _ _ _ _=>(d_cmpj o_eq (d_cntj hr (d_varj 1) (d_varj 0)) d_intj (nomark _)))) da_nilj))))))),fun ds S k h=>?_⟩)
  · obtain⟨_,_,rfl,_⟩:=h
    rfl
  · obtain⟨d,n,rfl,ha,q⟩:=h
    obtain⟨t,ht⟩:=ha.1
    refine⟨t,ht,?_⟩
    rcases tup_or d with ⟨ds,rfl⟩ | nt
    · cases ht
      obtain⟨hl,hx⟩:=ha.2 ds rfl
      have q:∀ S',Ext S S'->k (.bl (decide (ds.length<=12) && (ds.all (rdD n) && decide ((ds.map keyD).Nodup)))) S':=q
      refine ite_dec (fun h12=>?_) (fun h12=>?_)
      · have:=q S (Ext.refl S)
        rw [decide_eq_false (by omega),Bool.false_and] at this
        exact this
      refine⟨(ds,none),rfl,fun p hp=>?_⟩
      have h12':ds.length<=12:=by omega
      rw [decide_eq_true h12',Bool.true_and] at q
      refine self_loop (g:=fun x=>.bl (rdD n x)) hp (fun _ _=>trivial) (fun x S' k' hx' e hk=>⟨x,n,rfl,((hx x hx').ext e).three,hk⟩) _ (show ds.length<=100 by omega) fun S1 e1 h1=>?_
      refine⟨(ds.map (fun x=>.bl (rdD n x)),some p),ds.map (rdD n),by simp only [dItems,h1],by rw [List.map_map]; rfl,?_⟩
      have ea:(ds.map (rdD n)).all id=ds.all (rdD n):=by rw [List.all_map]; rfl
      rw [ea]
      refine ite_nb (fun hb=>?_) (fun hb=>?_)
      · have:=q S1 e1
        rw [hb,Bool.false_and] at this
        exact this
      · rw [hb,Bool.true_and] at q
        have hb':=List.all_eq_true.mp hb
        refine⟨(ds,none),rfl,fun p2 hp2=>?_⟩
        refine self_loop (g:=fun x=>.tup ((keyD x).map D.int)) hp2 (fun _ _=>trivial) (fun x S' k' hx' e hk=>?_) _ (show ds.length<=100 by omega) fun S2 e2 h2=>?_
        · obtain⟨_,i,j,c,rfl,rfl,_,e3⟩:=rd_key (hb' x hx')
          exact hk
        · have h2:S2 p2=some (.lst ((ds.map keyD).map fun ns=>D.tup (ns.map D.int))):=by rw [h2,List.map_map]; rfl
          refine⟨((ds.map keyD).map (fun ns=>D.tup (ns.map D.int)),some p2),by simp only [dItems,h2],fun p3 hp3=>?_⟩
          refine map_loop (f:=fun ns=>D.tup (ns.map D.int)) (g:=fun ns=>D.bl (decide (((((ds.map keyD).count ns:Nat)):Int)=1))) (all:=ds.map keyD) hp3 (fun S' e=>e _ _ h2) (fun ns S' k' hx' e hk=>?_) (ds.map keyD) [] _ (fun _ h=>h) (by simp; omega) fun S3 e3 h3=>?_
          · exact⟨⟨_,e _ _ h2⟩,_,ns,e _ _ h2,rfl,hk⟩
          · refine⟨((ds.map keyD).map (fun ns=>D.bl (decide (((((ds.map keyD).count ns:Nat)):Int)=1))),some p3),(ds.map keyD).map fun ns=>decide (((((ds.map keyD).count ns:Nat)):Int)=1),by simp only [dItems,h3]; rfl,by simp only [List.map_map]; rfl,?_⟩
            have:=q S3 ((e1.trans e2).trans e3)
            have eb:((ds.map keyD).map fun ns=>decide (((((ds.map keyD).count ns:Nat)):Int)=1)).all id=decide ((ds.map keyD).Nodup):=by
              rw [Bool.eq_iff_iff,decide_eq_true_iff,<- count_nodup,List.all_map,List.all_eq_true]
              refine⟨fun h x hx=>?_,fun h x hx=>?_⟩
              · have:=of_decide_eq_true (h x hx); omega
              · refine decide_eq_true ?_; rw [h x hx]; rfl
            rw [eb]
            exact this
    · rw [not_tup ht nt]
      have:rdsD n d=false:=by
        cases d with
        | tup ds=>exact absurd rfl (nt ds)
        | _=>rfl
      rw [this] at q
      exact q S (Ext.refl S)
theorem lnk_len {ds:List D} (h:¬ (ds.length:Int)=3):lnkD (.tup ds)=false:=by
  match ds,h with
  | [],_=>rfl
  | [x],_=>cases x <;> rfl
  | [x,_],_=>cases x <;> rfl
  | [_,_,_],h=>exact absurd rfl h
  | x::_::_::_::r,_=>cases x <;> rfl
theorem lnk_not {d:D} (n:∀ ds,d≠.tup ds):lnkD d=false:=by
  cases d with
  | tup ds=>exact absurd rfl (n ds)
  | _=>rfl
theorem lnk_w {x y z:D} (h:wholeD x=false):lnkD (.tup [x,y,z])=false:=by
  cases x with
  | int i=>cases h
  | _=>rfl
def F_is_linkage:DSp:=fun ds S k=>∃ (d:D),ds=[d]/\AskN 4 S d/\∀ S',Ext S S'->k (.bl (lnkD d)) S'
theorem sc_is_linkage:FnScope ["thing"] ["thing"] (defScope s_is_linkage):=⟨rfl,rfl,rfl,by decide +kernel,rfl,by decide +kernel,by decide +kernel⟩
theorem ok_is_linkage {P:Program} {w:World} {K:Fg} {mg:Str->Option Value} {base:Heap} {f:Addr} {fd:FuncData} (Fn:Fun K "is_linkage" "is_linkage" s_is_linkage f fd) (c_is_whole:Own P w K mg base "is_whole" 1 F_is_whole) (c_are_rods:Own P w K mg base "are_rods" 5 F_are_rods) (c_are_fixed:Own P w K mg base "are_fixed" 3 F_are_fixed) (z_len:mg "len"=none) (z_isinstance:mg "isinstance"=none) (z_tuple:mg "tuple"=none) (g_MOST_JOINTS:GInt mg "MOST_JOINTS" 8):
    FnOk P w K mg base CX0 6 f fd ["thing"] (spU K F_is_linkage):=by
  refine Fn.okJ sc_is_linkage (fun ds S k h=>?_) (fun cdv A outer s H E hr=>⟨_,(ds_consj (dst_ifj (WJ.pt (dw_orj (dt_notj (dt_valj (d_callBj b_isiX rfl z_isinstance bt_isinstance (da_consj (d_varj 0) (da_consj (d_tyj (n:=.tup) rfl z_tuple bt_tuple) da_nilj))))) (dw_or1j (dt_cmpj o_ne (d_callBj b_lenE rfl z_len bt_len (da_consj (d_varj 0) da_nilj)) d_intj (nomark _))))) (ds_onej (dst_retj d_blj)) ds_nilj) (ds_consj (dst_ifj (WJ.pt (dw_orj (dt_notj (dt_valj (d_callj c_is_whole (hr.mono (by decide)) rfl (da_consj (d_ixj x_ixE (d_varj 0) d_intj (fun _ _=>rfl)) da_nilj)))) (dw_or1j (dt_notj (dt_chainj o_le o_le d_intj (d_ixj x_ixE (d_varj 0) d_intj (fun _ _=>rfl)) (d_gint g_MOST_JOINTS rfl)))))) (ds_onej (dst_retj d_blj)) ds_nilj) (ds_onej (dst_retj (d_andj (d_callj c_are_fixed (hr.mono (by decide)) rfl (da_consj (d_ixj x_ixE (d_varj 0) d_intj (fun _ _=>rfl)) (da_consj (d_ixj x_ixE (d_varj 0) d_intj (fun _ _=>rfl)) da_nilj))) (d_onej (d_callj c_are_rods (hr.mono (by decide)) rfl (da_consj (d_ixj x_ixE (d_varj 0) d_intj (fun _ _=>rfl)) (da_consj (d_ixj x_ixE (d_varj 0) d_intj (fun _ _=>rfl)) da_nilj))))))))),fun ds S k h=>?_⟩)
  · obtain⟨_,rfl,_⟩:=h
    rfl
  · obtain⟨d,rfl,ha,q⟩:=h
    obtain⟨t,ht⟩:=ha.1
    refine⟨t,ht,?_⟩
    rcases tup_or d with ⟨ds,rfl⟩ | nt
    · cases ht
      obtain⟨hl,hx⟩:=ha.2 ds rfl
      refine ite_ndec (fun hl=>?_) (fun hl=>?_)
      · rw [lnk_len hl] at q
        exact q S (Ext.refl S)
      · obtain⟨x,y,z,rfl⟩:=len3r hl
        have ax:=hx x (by simp)
        have ay:=hx y (by simp)
        have az:=hx z (by simp)
        refine⟨x,rfl,ax.ask,ite_nb (fun h1=>?_) (fun h1=>?_)⟩
        · rw [lnk_w h1] at q
          exact q S (Ext.refl S)
        · obtain⟨m,rfl⟩:=whole_int h1
          have q:∀ S',Ext S S'->k (.bl ((decide (1<=m) && decide (m<=8)) && (fxsD m.toNat y && rdsD m.toNat z))) S':=q
          refine ite_dec (fun c1=>ite_ndec (fun c2=>?_) (fun c2=>?_)) (fun c1=>?_)
          · have:=q S (Ext.refl S)
            rw [decide_eq_false c2,Bool.and_false,Bool.false_and] at this
            exact this
          · rw [decide_eq_true c1,decide_eq_true c2,Bool.and_true,Bool.true_and] at q
            have em:D.int m=.int (m.toNat:Nat):=congrArg D.int (by omega)
            have ey:AskN 1 S y:=⟨ay.1,fun ds e=>⟨(ay.2 ds e).1,fun x hx=>((ay.2 ds e).2 x hx).ask⟩⟩
            refine⟨y,m.toNat,by rw [<- em],ey,fun S1 e1=>ite_b (fun hb=>?_) (fun hb=>?_)⟩
            · rw [hb,Bool.true_and] at q
              exact⟨z,m.toNat,by rw [<- em],az.ext e1,fun S2 e2=>q S2 (e1.trans e2)⟩
            · rw [hb,Bool.false_and] at q
              exact q S1 e1
          · have:=q S (Ext.refl S)
            rw [decide_eq_false c1,Bool.false_and,Bool.false_and] at this
            exact this
    · rw [not_tup ht nt]
      rw [lnk_not nt] at q
      exact q S (Ext.refl S)
set_option maxHeartbeats 4000000
def aA (x y z v:Rat):Rat:=(z - x)*(z - x)+(v - y)*(v - y)
def cT (x y s z v r:Rat):Rat:=((s - r)+((z - x)*(z - x)+(v - y)*(v - y))) / (((z - x)*(z - x)+(v - y)*(v - y))+((z - x)*(z - x)+(v - y)*(v - y)))
noncomputable def cL (x y s z v r:Rat):List D:=bothL (x+(z - x)*cT x y s z v r) (y+(v - y)*cT x y s z v r) (-(v - y)) (z - x) (s / ((z - x)*(z - x)+(v - y)*(v - y)) - cT x y s z v r*cT x y s z v r)
theorem two_ne {A:Rat} (h:A≠0):A+A≠0:=by grind
def FX_square_of_unlike (cNoMeet:Addr):DSpX:=fun ds S k x=>∃ a b:Rat,ds=[W a b]/\Sz 900 a/\Sz 900 b/\(a*a+b*b=0->x cNoMeet S)/\(a*a+b*b≠0->k (fr (a*a+b*b)) S)
theorem okx_square_of_unlike {P:Program} {w:World} {K:Fg} {mg:Str->Option Value} {base:Heap} {f:Addr} {fd:FuncData} {cNoMeet:Addr} (Fn:Fun K "square_of_unlike" "square_of_unlike" s_square_of_unlike f fd) (c_product_of_ways:Own P w K mg base "product_of_ways" 36 F_product_of_ways) (m_NoMeet:mg "NoMeet"=some (.ref cNoMeet)) (q_NoMeet:PySem.W.excIn K cNoMeet [.type "ValueError",.type "Exception",.type "BaseException",.type "object"] "ValueError.__new__"=true):
    FnOk P w K mg base (CXE P w) 37 f fd ["way"] (spX K (FX_square_of_unlike cNoMeet)):=by
  refine Fn.okX sc_square_of_unlike (fun ds S k x h=>?_) (fun cdv A outer s H E ex hr hE=>⟨_,(ds_consj (dst_setj (i:=1) sc_square_of_unlike.nd (d_callj c_product_of_ways (hr.mono (by decide)) rfl (da_consj (d_varj 0) (da_consj (d_varj 0) da_nilj)))) (ds_consj (dst_ifj (dt_cmpj o_eq (d_ixj x_ixE (d_varj 1) d_intj (fun _ _=>rfl)) d_intj (nomark _)) (ds_onej (dst_raisej hE PySem.F.excBase_ValueError q_NoMeet m_NoMeet rfl)) ds_nilj) (ds_onej (dst_retj (d_varj 1))))),fun ds S k h=>?_⟩)
  · obtain⟨_,_,rfl,_⟩:=h
    rfl
  · obtain⟨a,b,rfl,ha,hb,w0,w1⟩:=h
    exact⟨a,b,a,b,rfl,ha.mono (by decide),hb.mono (by decide),ha.mono (by decide),hb.mono (by decide),ite_dec (fun z=>w0 (Rat.num_eq_zero.mp z)) (fun z=>w1 fun e=>z (by rw [e]; rfl))⟩
def F_circles_meet:DSp:=fun ds S k=>match ds with
  | [.non,.non,.non,.non]=>False/\k .non S
  | _=>False
theorem sc_circles_meet:FnScope ["one","square","other","other_square","start","way","apart","along","aside"] ["one","square","other","other_square"] (defScope s_circles_meet):=⟨rfl,rfl,rfl,by decide +kernel,rfl,by decide +kernel,by decide +kernel⟩
theorem ok_circles_meet {P:Program} {w:World} {K:Fg} {mg:Str->Option Value} {base:Heap} {f:Addr} {fd:FuncData} (Fn:Fun K "circles_meet" "circles_meet" s_circles_meet f fd) (c_place_of:Own P w K mg base "place_of" 1 F_place_of) (c_plain_way:Own P w K mg base "plain_way" 36 F_plain_way) (c_square_of_unlike:Own P w K mg base "square_of_unlike" 37 F_square_of_unlike) (c_over:Own P w K mg base "over" 35 F_over) (c_plus:Own P w K mg base "plus" 35 F_plus) (c_minus:Own P w K mg base "minus" 35 F_minus) (c_times:Own P w K mg base "times" 35 F_times) (c_both_moved:Own P w K mg base "both_moved" 39 F_both_moved) (c_negative:Own P w K mg base "negative" 1 F_negative) (c_moved:Own P w K mg base "moved" 36 F_moved):
    FnOk P w K mg base CX0 40 f fd ["one","square","other","other_square"] (spU K F_circles_meet):=by
  refine Fn.okJ sc_circles_meet (fun ds S k h=>?_) (fun cdv A outer s H E hr=>⟨_,(ds_consj (dst_setj (i:=4) sc_circles_meet.nd (d_callj c_place_of (hr.mono (by decide)) rfl (da_consj (d_varj 0) da_nilj))) (ds_consj (dst_setj (i:=5) sc_circles_meet.nd (d_callj c_plain_way (hr.mono (by decide)) rfl (da_consj (d_varj 4) (da_consj (d_callj c_place_of (hr.mono (by decide)) rfl (da_consj (d_varj 2) da_nilj)) da_nilj)))) (ds_consj (dst_setj (i:=6) sc_circles_meet.nd (d_callj c_square_of_unlike (hr.mono (by decide)) rfl (da_consj (d_varj 5) da_nilj))) (ds_consj (dst_setj (i:=7) sc_circles_meet.nd (d_callj c_over (hr.mono (by decide)) rfl (da_consj (d_callj c_plus (hr.mono (by decide)) rfl (da_consj (d_callj c_minus (hr.mono (by decide)) rfl (da_consj (d_varj 1) (da_consj (d_varj 3) da_nilj))) (da_consj (d_varj 6) da_nilj))) (da_consj (d_callj c_plus (hr.mono (by decide)) rfl (da_consj (d_varj 6) (da_consj (d_varj 6) da_nilj))) da_nilj)))) (ds_consj (dst_setj (i:=8) sc_circles_meet.nd (d_callj c_minus (hr.mono (by decide)) rfl (da_consj (d_callj c_over (hr.mono (by decide)) rfl (da_consj (d_varj 1) (da_consj (d_varj 6) da_nilj))) (da_consj (d_callj c_times (hr.mono (by decide)) rfl (da_consj (d_varj 7) (da_consj (d_varj 7) da_nilj))) da_nilj)))) (ds_onej (dst_retj (d_callj c_both_moved (hr.mono (by decide)) rfl (da_consj (d_callj c_moved (hr.mono (by decide)) rfl (da_consj (d_varj 4) (da_consj (d_varj 5) (da_consj (d_varj 7) da_nilj)))) (da_consj (d_tupj (da_consj (d_callj c_negative (hr.mono (by decide)) rfl (da_consj (d_ixj x_ixE (d_varj 5) d_intj (fun _ _=>rfl)) da_nilj)) (da_consj (d_ixj x_ixE (d_varj 5) d_intj (fun _ _=>rfl)) da_nilj))) (da_consj (d_varj 8) da_nilj))))))))))),fun ds S k h=>?_⟩)
  · unfold F_circles_meet at h
    split at h
    · rfl
    · exact h.elim
  · unfold F_circles_meet at h
    split at h
    · exact h.1.elim
    · exact h.elim
def FX_circles_meet (cNoMeet:Addr):DSpX:=fun ds S k e=>∃ x y s z v r:Rat,ds=[PP x y,fr s,PP z v,fr r]/\Sz 4 x/\Sz 4 y/\Sz 60 s/\Sz 4 z/\Sz 4 v/\Sz 60 r/\((z - x)*(z - x)+(v - y)*(v - y)=0->e cNoMeet S)/\((z - x)*(z - x)+(v - y)*(v - y)≠0->∀ S' p,Ext S S'->S' p=none->k (.ref p) (put S' p (.lst (cL x y s z v r))))
theorem okx_circles_meet {P:Program} {w:World} {K:Fg} {mg:Str->Option Value} {base:Heap} {f:Addr} {fd:FuncData} {cNoMeet:Addr} (Fn:Fun K "circles_meet" "circles_meet" s_circles_meet f fd) (c_both_moved:Own P w K mg base "both_moved" 39 F_both_moved) (c_negative:Own P w K mg base "negative" 1 F_negative) (c_moved:Own P w K mg base "moved" 36 F_moved) (c_minus:Own P w K mg base "minus" 35 F_minus) (c_times:Own P w K mg base "times" 35 F_times) (c_over:Own P w K mg base "over" 35 F_over) (c_plus:Own P w K mg base "plus" 35 F_plus) (c_plain_way:Own P w K mg base "plain_way" 36 F_plain_way) (c_place_of:Own P w K mg base "place_of" 1 F_place_of) (cx_square_of_unlike:OwnX P w K mg base "square_of_unlike" 37 (FX_square_of_unlike cNoMeet)):
    FnOk P w K mg base (CXE P w) 40 f fd ["one","square","other","other_square"] (spX K (FX_circles_meet cNoMeet)):=by
  refine Fn.okX sc_circles_meet (fun ds S k x h=>?_) (fun cdv A outer s H E ex hr hE=>⟨_,(ds_consj (dst_setj (i:=4) sc_circles_meet.nd (d_callj c_place_of (hr.mono (by decide)) rfl (da_consj (d_varj 0) da_nilj))) (ds_consj (dst_setj (i:=5) sc_circles_meet.nd (d_callj c_plain_way (hr.mono (by decide)) rfl (da_consj (d_varj 4) (da_consj (d_callj c_place_of (hr.mono (by decide)) rfl (da_consj (d_varj 2) da_nilj)) da_nilj)))) (ds_consj (dst_setj (i:=6) sc_circles_meet.nd (d_callXj hE cx_square_of_unlike (hr.mono (by decide)) rfl (da_consj (d_varj 5) da_nilj))) (ds_consj (dst_setj (i:=7) sc_circles_meet.nd (d_callj c_over (hr.mono (by decide)) rfl (da_consj (d_callj c_plus (hr.mono (by decide)) rfl (da_consj (d_callj c_minus (hr.mono (by decide)) rfl (da_consj (d_varj 1) (da_consj (d_varj 3) da_nilj))) (da_consj (d_varj 6) da_nilj))) (da_consj (d_callj c_plus (hr.mono (by decide)) rfl (da_consj (d_varj 6) (da_consj (d_varj 6) da_nilj))) da_nilj)))) (ds_consj (dst_setj (i:=8) sc_circles_meet.nd (d_callj c_minus (hr.mono (by decide)) rfl (da_consj (d_callj c_over (hr.mono (by decide)) rfl (da_consj (d_varj 1) (da_consj (d_varj 6) da_nilj))) (da_consj (d_callj c_times (hr.mono (by decide)) rfl (da_consj (d_varj 7) (da_consj (d_varj 7) da_nilj))) da_nilj)))) (ds_onej (dst_retj (d_callj c_both_moved (hr.mono (by decide)) rfl (da_consj (d_callj c_moved (hr.mono (by decide)) rfl (da_consj (d_varj 4) (da_consj (d_varj 5) (da_consj (d_varj 7) da_nilj)))) (da_consj (d_tupj (da_consj (d_callj c_negative (hr.mono (by decide)) rfl (da_consj (d_ixj x_ixE (d_varj 5) d_intj (fun _ _=>rfl)) da_nilj)) (da_consj (d_ixj x_ixE (d_varj 5) d_intj (fun _ _=>rfl)) da_nilj))) (da_consj (d_varj 8) da_nilj))))))))))),fun ds S k h=>?_⟩)
  · obtain⟨_,_,_,_,_,_,rfl,_⟩:=h
    rfl
  · obtain⟨x,y,s,z,v,r,rfl,hx,hy,hs,hz,hv,hr,w0,w⟩:=h
    have sa:=hz.sub hx
    have sb:=hv.sub hy
    have sA:=(sa.mul sa).add (sb.mul sb)
    have sp:=(hs.sub hr).add sA
    have sB:=sA.add sA
    refine⟨x,y,rfl,z,v,rfl,x,y,z,v,rfl,hx.mono (by decide),hy.mono (by decide),hz.mono (by decide),hv.mono (by decide),_,_,rfl,sa.mono (by decide),sb.mono (by decide),w0,fun h0=>?_⟩
    have w:=w h0
    have h2:=two_ne h0
    have st:=sp.div sB h2
    have sq:=hs.div sA h0
    have sE:=sq.sub (st.mul st)
    have sX:=hx.add (sa.mul st)
    have sY:=hy.add (sb.mul st)
    refine⟨s,r,rfl,hs.mono (by decide),hr.mono (by decide),_,_,rfl,(hs.sub hr).mono (by decide),sA.mono (by decide),_,_,rfl,sA.mono (by decide),sA.mono (by decide),_,_,rfl,h2,sp.mono (by decide),sB.mono (by decide),?_⟩
    refine⟨s,_,rfl,h0,hs.mono (by decide),sA.mono (by decide),_,_,rfl,st.mono (by decide),st.mono (by decide),_,_,rfl,sq.mono (by decide),(st.mul st).mono (by decide),?_⟩
    refine⟨_,_,_,_,_,rfl,hx.mono (by decide),hy.mono (by decide),sa.mono (by decide),sb.mono (by decide),st.mono (by decide),?_⟩
    exact⟨_,rfl,few,_,_,_,_,_,rfl,sX.mono (by decide),sY.mono (by decide),sb.neg.mono (by decide),sa.mono (by decide),sE.mono (by decide),w⟩
theorem two_fd:Fd ((2:Int):Rat):=unders_fd (by decide)
theorem pp_as {u x y:Rat}:PP x y=Pq u (qo x) (qo y):=by
  unfold PP Pq qo
  rw [plain_as (u:=u),plain_as (u:=u)]
theorem no_mul {a s:Rat} (no:NoSq s) (ha:a≠0):NoSq (a*a*s):=fun r e=>no (r / a) (by
  have h:r / a*a=r:=Rat.div_mul_cancel ha
  generalize r / a=t at h
  subst h
  have:a*a*(t*t - s)=0:=by grind
  have h2:a*a≠0:=by grind
  grind)
theorem mk_no {p a s:Rat} (s0:0 < s) (no:NoSq s):mkD p (ss a*s)=N s p a:=by
  by_cases ha:a=0
  · subst ha
    rw [show ss 0*s=0 by unfold ss; grind,mkD_zero]
    exact plain_as
  · rw [mkD_no (by rw [ab_ss s0]; exact no_mul no ha)]
    rfl
theorem mk_sq {p a ρ:Rat} (r0:0 < ρ):mkD p (ss a*(ρ*ρ))=.tup [fr (p+a*ρ),fr 0]:=by
  have s0:0 < ρ*ρ:=Rat.mul_pos r0 r0
  have n1:0<=ab a*ρ:=Rat.mul_nonneg (ab_nn a) (Rat.le_of_lt r0)
  have n2:ab a*ρ*(ab a*ρ)=ab (ss a*(ρ*ρ)):=by
    rw [ab_ss s0]
    unfold ab
    split <;> grind
  rw [mkD_root n1 n2]
  have e:sg (ab a*ρ) (ss a*(ρ*ρ))=a*ρ:=by
    have h:=sgR_ss (b:=a) s0
    unfold sg ab
    rcases tri a with z | z | z
    · have:¬ ss a*(ρ*ρ) < 0:=fun q=>by rw [sgR_neg q,sgR_pos z] at h; exact absurd h (by decide)
      rw [if_neg this,if_neg (by grind)]
    · have:ss a*(ρ*ρ) < 0:=by
        have:sgR (ss a*(ρ*ρ))=-1:=by rw [h,sgR_neg z]
        unfold sgR at this
        split at this
        · exact absurd this (by decide)
        · split at this
          · assumption
          · exact absurd this (by decide)
      rw [if_pos this,if_pos z]; grind
    · subst z
      split <;> grind
  rw [e]
theorem MP_no {x y a b s:Rat} (s0:0 < s) (no:NoSq s):MP x y a b s=Pq s (x,a) (y,b):=by
  unfold MP
  rw [mk_no s0 no,mk_no s0 no]
  rfl
theorem MP_sq {x y a b ρ:Rat} (r0:0 < ρ):MP x y a b (ρ*ρ)=PP (x+a*ρ) (y+b*ρ):=by
  unfold MP
  rw [mk_sq r0,mk_sq r0]
  rfl
theorem sq_or {s:Rat} (s0:0 < s):NoSq s\/∃ ρ,0 < ρ/\ρ*ρ=s:=by
  by_cases h:∃ r,r*r=s
  · obtain⟨r,e⟩:=h
    right
    rcases tri r with z | z | z
    · exact⟨r,z,e⟩
    · exact⟨-r,by grind,by grind⟩
    · subst z; grind
  · exact .inl fun r e=>h ⟨r,e⟩
def cE (x y s z v r:Rat):Rat:=s / ((z - x)*(z - x)+(v - y)*(v - y)) - cT x y s z v r*cT x y s z v r
def eX (x y s z v r:Rat):Rat:=x+cT x y s z v r*(z - x)
def eY (x y s z v r:Rat):Rat:=y+cT x y s z v r*(v - y)
set_option maxHeartbeats 4000000
structure RootOf (E u:Rat) (w:Q):Prop where
  fd:Fd u
  w1:w.1*w.1+w.2*w.2*u=E
  w2:w.1*w.2=0
  sz:Sq 320 w
theorem root_of {E:Rat} (e0:0 < E) (hE:Sz 320 E):∃ u w,RootOf E u w/\∀ X Y a b:Rat,MP X Y a b E=Pq u (X+a*w.1,a*w.2) (Y+b*w.1,b*w.2):=by
  rcases sq_or e0 with no | ⟨ρ,r0,e⟩
  · refine⟨E,(0,1),⟨⟨e0,no,hE.mono (by decide)⟩,by show(0:Rat)*0+1*1*E=E; grind,by show(0:Rat)*1=0; grind,⟨Sz.zero.mono (by decide),Sz.mono (m:=1) ⟨by decide,by decide⟩ (by decide)⟩⟩,fun X Y a b=>?_⟩
    rw [MP_no e0 no]
    have h1:X+a*(0:Rat)=X:=by grind
    have h2:a*(1:Rat)=a:=by grind
    have h3:Y+b*(0:Rat)=Y:=by grind
    have h4:b*(1:Rat)=b:=by grind
    dsimp only
    rw [h1,h2,h3,h4]
  · refine⟨((2:Int):Rat),(ρ,0),⟨two_fd,by show ρ*ρ+0*0*((2:Int):Rat)=E; grind,by show ρ*0=0; grind,⟨(hE.root e).mono (by decide),Sz.zero.mono (by decide)⟩⟩,fun X Y a b=>?_⟩
    rw [<- e,MP_sq r0,pp_as (u:=((2:Int):Rat))]
    have h2:a*(0:Rat)=0:=by grind
    have h4:b*(0:Rat)=0:=by grind
    dsimp only
    rw [h2,h4]
    rfl
theorem cl_ends {x y s z v r:Rat} (e0:0 < cE x y s z v r):cL x y s z v r=[MP (eX x y s z v r) (eY x y s z v r) (-(v - y)) (z - x) (cE x y s z v r),MP (eX x y s z v r) (eY x y s z v r) (- -(v - y)) (-(z - x)) (cE x y s z v r)]:=by
  show bothL (x+(z - x)*cT x y s z v r) (y+(v - y)*cT x y s z v r) _ _ (cE x y s z v r)=_
  unfold bothL
  rw [if_neg (by grind),if_neg (by grind),Rat.mul_comm (z - x),Rat.mul_comm (v - y)]
  rfl
theorem cl_few {x y s z v r:Rat} (e0:¬ 0 < cE x y s z v r):((cL x y s z v r).length:Int) < 2:=by
  show((bothL (x+(z - x)*cT x y s z v r) (y+(v - y)*cT x y s z v r) _ _ (cE x y s z v r)).length:Int) < 2
  unfold bothL
  split
  · show(0:Int) < 2; decide
  · split
    · show(1:Int) < 2; decide
    · exfalso; grind
theorem cl_sz {x y s z v r:Rat} (h0:(z - x)*(z - x)+(v - y)*(v - y)≠0) (hx:Sz 4 x) (hy:Sz 4 y) (hz:Sz 4 z) (hv:Sz 4 v) (hs:Sz 10 s) (hr:Sz 10 r):Sz 320 (cE x y s z v r)/\Sz 160 (eX x y s z v r)/\Sz 160 (eY x y s z v r):=by
  have sa:=hz.sub hx
  have sb:=hv.sub hy
  have sA:=(sa.mul sa).add (sb.mul sb)
  have sp:=(hs.sub hr).add sA
  have sB:=sA.add sA
  have st:Sz 134 (cT x y s z v r):=sp.div sB (two_ne h0)
  have sE:Sz 320 (cE x y s z v r):=((hs.div sA h0).sub (st.mul st)).mono (by decide)
  exact⟨sE,(hx.add (st.mul sa)).mono (by decide),(hy.add (st.mul sb)).mono (by decide)⟩
abbrev rodF (i j:Int) (q:Rat):D:=.tup [.int i,.int j,fr q]
abbrev invR (s r:Rat):List D:=[rodF 0 2 s,rodF 0 3 s,rodF 1 2 r,rodF 1 3 r,rodF 2 4 r,rodF 3 4 r]
abbrev invD (s r:Rat):D:=.tup [.int 5,.tup [.int 0],.tup (invR s r)]
abbrev groR (s r p:Rat):List D:=[rodF 0 2 s,rodF 0 3 (p*p*s),rodF 1 2 r,rodF 1 4 ((p - 1)*(p - 1)*s),rodF 2 3 ((p - 1)*(p - 1)*s),rodF 3 4 r,rodF 3 5 (p*p*r),rodF 4 5 ((p - 1)*(p - 1)*r)]
abbrev groD (s r p:Rat):D:=.tup [.int 6,.tup [.int 0],.tup (groR s r p)]
def F_inverting_linkage:DSp:=fun ds S k=>∃ s r:Rat,ds=[fr s,fr r]/\k (invD s r) S
theorem sc_inverting_linkage:FnScope ["outer","inner"] ["outer","inner"] (defScope s_inverting_linkage):=⟨rfl,rfl,rfl,by decide +kernel,rfl,by decide +kernel,by decide +kernel⟩
theorem ok_inverting_linkage {P:Program} {w:World} {K:Fg} {mg:Str->Option Value} {base:Heap} {f:Addr} {fd:FuncData} (Fn:Fun K "inverting_linkage" "inverting_linkage" s_inverting_linkage f fd):
    FnOk P w K mg base CX0 1 f fd ["outer","inner"] (spU K F_inverting_linkage):=by
  refine Fn.okJ sc_inverting_linkage (fun ds S k h=>?_) (fun cdv A outer s H E hr=>⟨_,(ds_onej (dst_retj (d_tupj (da_consj d_intj (da_consj (d_tupj (da_consj d_intj da_nilj)) (da_consj (d_tupj (da_consj (d_tupj (da_consj d_intj (da_consj d_intj (da_consj (d_varj 0) da_nilj)))) (da_consj (d_tupj (da_consj d_intj (da_consj d_intj (da_consj (d_varj 0) da_nilj)))) (da_consj (d_tupj (da_consj d_intj (da_consj d_intj (da_consj (d_varj 1) da_nilj)))) (da_consj (d_tupj (da_consj d_intj (da_consj d_intj (da_consj (d_varj 1) da_nilj)))) (da_consj (d_tupj (da_consj d_intj (da_consj d_intj (da_consj (d_varj 1) da_nilj)))) (da_consj (d_tupj (da_consj d_intj (da_consj d_intj (da_consj (d_varj 1) da_nilj)))) da_nilj))))))) da_nilj)))))),fun ds S k h=>?_⟩)
  · obtain⟨_,_,rfl,_⟩:=h
    rfl
  · obtain⟨s,r,rfl,w⟩:=h
    exact⟨few,few,few,few,few,few,few,few,few,w⟩
def F_both_ends:DSp:=fun ds S k=>match ds with
  | [.non,.non,.non,.non]=>False/\k .non S
  | _=>False
theorem sc_both_ends:FnScope ["middle","point","outer","inner","found"] ["middle","point","outer","inner"] (defScope s_both_ends):=⟨rfl,rfl,rfl,by decide +kernel,rfl,by decide +kernel,by decide +kernel⟩
theorem ok_both_ends {P:Program} {w:World} {K:Fg} {mg:Str->Option Value} {base:Heap} {f:Addr} {fd:FuncData} (Fn:Fun K "both_ends" "both_ends" s_both_ends f fd) (c_circles_meet:Own P w K mg base "circles_meet" 40 F_circles_meet) (z_len:mg "len"=none):
    FnOk P w K mg base CX0 41 f fd ["middle","point","outer","inner"] (spU K F_both_ends):=by
  refine Fn.okJ sc_both_ends (fun ds S k h=>?_) (fun cdv A outer s H E hr=>⟨_,(ds_consj (dst_setj (i:=4) sc_both_ends.nd (d_callj c_circles_meet (hr.mono (by decide)) rfl (da_consj (d_varj 0) (da_consj (d_varj 2) (da_consj (d_varj 1) (da_consj (d_varj 3) da_nilj)))))) (ds_consj (dst_ifj (dt_cmpj o_lt (d_callBj b_lenE rfl z_len bt_len (da_consj (d_varj 4) da_nilj)) d_intj (nomark _)) (ds_onej dst_neverj) ds_nilj) (ds_onej (dst_retj (d_varj 4))))),fun ds S k h=>?_⟩)
  · unfold F_both_ends at h
    split at h
    · rfl
    · exact h.elim
  · unfold F_both_ends at h
    split at h
    · exact h.1.elim
    · exact h.elim
def FX_both_ends (cNoMeet:Addr):DSpX:=fun ds S k e=>∃ x y z v s r:Rat,ds=[PP x y,PP z v,fr s,fr r]/\Sz 4 x/\Sz 4 y/\Sz 4 z/\Sz 4 v/\Sz 60 s/\Sz 60 r/\(((z - x)*(z - x)+(v - y)*(v - y)=0\/¬ 0 < cE x y s z v r)->∀ S',Ext S S'->e cNoMeet S')/\((z - x)*(z - x)+(v - y)*(v - y)≠0->0 < cE x y s z v r->∀ S' p,Ext S S'->S' p=some (.lst (cL x y s z v r))->k (.ref p) S')
theorem okx_both_ends {P:Program} {w:World} {K:Fg} {mg:Str->Option Value} {base:Heap} {f:Addr} {fd:FuncData} {cNoMeet:Addr} (Fn:Fun K "both_ends" "both_ends" s_both_ends f fd) (cx_circles_meet:OwnX P w K mg base "circles_meet" 40 (FX_circles_meet cNoMeet)) (z_len:mg "len"=none) (m_NoMeet:mg "NoMeet"=some (.ref cNoMeet)) (q_NoMeet:PySem.W.excIn K cNoMeet [.type "ValueError",.type "Exception",.type "BaseException",.type "object"] "ValueError.__new__"=true):
    FnOk P w K mg base (CXE P w) 41 f fd ["middle","point","outer","inner"] (spX K (FX_both_ends cNoMeet)):=by
  refine Fn.okX sc_both_ends (fun ds S k x h=>?_) (fun cdv A outer s H E ex hr hE=>⟨_,(ds_consj (dst_setj (i:=4) sc_both_ends.nd (d_callXj hE cx_circles_meet (hr.mono (by decide)) rfl (da_consj (d_varj 0) (da_consj (d_varj 2) (da_consj (d_varj 1) (da_consj (d_varj 3) da_nilj)))))) (ds_consj (dst_ifj (dt_cmpj o_lt (d_callBj b_lenE rfl z_len bt_len (da_consj (d_varj 4) da_nilj)) d_intj (nomark _)) (ds_onej (dst_raisej hE PySem.F.excBase_ValueError q_NoMeet m_NoMeet rfl)) ds_nilj) (ds_onej (dst_retj (d_varj 4))))),fun ds S k h=>?_⟩)
  · obtain⟨_,_,_,_,_,_,rfl,_⟩:=h
    rfl
  · obtain⟨x,y,z,v,s,r,rfl,hx,hy,hz,hv,hs,hr,w0,w⟩:=h
    refine⟨x,y,s,z,v,r,rfl,hx,hy,hs,hz,hv,hr,fun z=>w0 (.inl z) _ (Ext.refl _),fun n0 S1 p e1 hp=>⟨_,put_same,?_⟩⟩
    by_cases e0:0 < cE x y s z v r
    · rw [cl_ends e0]
      have w:=w n0 e0
      rw [cl_ends e0] at w
      exact w _ p (e1.trans (Ext.new hp)) put_same
    · exact ite_dec (fun _=>w0 (.inr e0) _ (e1.trans (Ext.new hp))) (fun l=>absurd (cl_few e0) l)
def F_inverting_cell:DSp:=fun ds S k=>match ds with
  | [.non,.non,.non,.non]=>False/\k .non S
  | _=>False
theorem sc_inverting_cell:FnScope ["middle","point","outer","inner","ends","start","way","pen"] ["middle","point","outer","inner"] (defScope s_inverting_cell):=⟨rfl,rfl,rfl,by decide +kernel,rfl,by decide +kernel,by decide +kernel⟩
theorem ok_inverting_cell {P:Program} {w:World} {K:Fg} {mg:Str->Option Value} {base:Heap} {f:Addr} {fd:FuncData} (Fn:Fun K "inverting_cell" "inverting_cell" s_inverting_cell f fd) (c_both_ends:Own P w K mg base "both_ends" 41 F_both_ends) (c_place_of:Own P w K mg base "place_of" 1 F_place_of) (c_plain_way:Own P w K mg base "plain_way" 36 F_plain_way) (c_moved:Own P w K mg base "moved" 36 F_moved) (c_over:Own P w K mg base "over" 35 F_over) (c_product_of_ways:Own P w K mg base "product_of_ways" 36 F_product_of_ways) (c_minus:Own P w K mg base "minus" 35 F_minus) (c_plain_point:Own P w K mg base "plain_point" 1 F_plain_point):
    FnOk P w K mg base CX0 42 f fd ["middle","point","outer","inner"] (spU K F_inverting_cell):=by
  refine Fn.okJ sc_inverting_cell (fun ds S k h=>?_) (fun cdv A outer s H E hr=>⟨_,(ds_consj (dst_setj (i:=4) sc_inverting_cell.nd (d_callj c_both_ends (hr.mono (by decide)) rfl (da_consj (d_varj 0) (da_consj (d_varj 1) (da_consj (d_varj 2) (da_consj (d_varj 3) da_nilj)))))) (ds_consj (dst_setj (i:=5) sc_inverting_cell.nd (d_callj c_place_of (hr.mono (by decide)) rfl (da_consj (d_varj 0) da_nilj))) (ds_consj (dst_setj (i:=6) sc_inverting_cell.nd (d_callj c_plain_way (hr.mono (by decide)) rfl (da_consj (d_varj 5) (da_consj (d_callj c_place_of (hr.mono (by decide)) rfl (da_consj (d_varj 1) da_nilj)) da_nilj)))) (ds_consj (dst_setj (i:=7) sc_inverting_cell.nd (d_callj c_moved (hr.mono (by decide)) rfl (da_consj (d_varj 5) (da_consj (d_varj 6) (da_consj (d_callj c_over (hr.mono (by decide)) rfl (da_consj (d_callj c_minus (hr.mono (by decide)) rfl (da_consj (d_varj 2) (da_consj (d_varj 3) da_nilj))) (da_consj (d_callj c_product_of_ways (hr.mono (by decide)) rfl (da_consj (d_varj 6) (da_consj (d_varj 6) da_nilj))) da_nilj))) da_nilj))))) (ds_onej (dst_retj (d_tupj (da_consj (d_varj 0) (da_consj (d_varj 1) (da_consj (d_ixj x_ixE (d_varj 4) d_intj (fun _ _=>rfl)) (da_consj (d_ixj x_ixE (d_varj 4) d_intj (fun _ _=>rfl)) (da_consj (d_callj c_plain_point (hr.mono (by decide)) rfl (da_consj (d_varj 7) da_nilj)) da_nilj)))))))))))),fun ds S k h=>?_⟩)
  · unfold F_inverting_cell at h
    split at h
    · rfl
    · exact h.elim
  · unfold F_inverting_cell at h
    split at h
    · exact h.1.elim
    · exact h.elim
def FX_inverting_cell (cNoMeet:Addr):DSpX:=fun ds S k e=>∃ x y z v s r:Rat,ds=[PP x y,PP z v,fr s,fr r]/\Sz 4 x/\Sz 4 y/\Sz 4 z/\Sz 4 v/\Sz 60 s/\Sz 60 r/\(((z - x)*(z - x)+(v - y)*(v - y)=0\/¬ 0 < cE x y s z v r)->∀ S',Ext S S'->e cNoMeet S')/\((z - x)*(z - x)+(v - y)*(v - y)≠0->0 < cE x y s z v r->∀ S' a b,Ext S S'->cL x y s z v r=[a,b]->k (.tup [PP x y,PP z v,a,b,PP (x+(z - x)*((s - r) / aA x y z v)) (y+(v - y)*((s - r) / aA x y z v))]) S')
theorem okx_inverting_cell {P:Program} {w:World} {K:Fg} {mg:Str->Option Value} {base:Heap} {f:Addr} {fd:FuncData} {cNoMeet:Addr} (Fn:Fun K "inverting_cell" "inverting_cell" s_inverting_cell f fd) (c_plain_point:Own P w K mg base "plain_point" 1 F_plain_point) (c_moved:Own P w K mg base "moved" 36 F_moved) (c_over:Own P w K mg base "over" 35 F_over) (c_product_of_ways:Own P w K mg base "product_of_ways" 36 F_product_of_ways) (c_minus:Own P w K mg base "minus" 35 F_minus) (c_plain_way:Own P w K mg base "plain_way" 36 F_plain_way) (c_place_of:Own P w K mg base "place_of" 1 F_place_of) (cx_both_ends:OwnX P w K mg base "both_ends" 41 (FX_both_ends cNoMeet)):
    FnOk P w K mg base (CXE P w) 42 f fd ["middle","point","outer","inner"] (spX K (FX_inverting_cell cNoMeet)):=by
  refine Fn.okX sc_inverting_cell (fun ds S k x h=>?_) (fun cdv A outer s H E ex hr hE=>⟨_,(ds_consj (dst_setj (i:=4) sc_inverting_cell.nd (d_callXj hE cx_both_ends (hr.mono (by decide)) rfl (da_consj (d_varj 0) (da_consj (d_varj 1) (da_consj (d_varj 2) (da_consj (d_varj 3) da_nilj)))))) (ds_consj (dst_setj (i:=5) sc_inverting_cell.nd (d_callj c_place_of (hr.mono (by decide)) rfl (da_consj (d_varj 0) da_nilj))) (ds_consj (dst_setj (i:=6) sc_inverting_cell.nd (d_callj c_plain_way (hr.mono (by decide)) rfl (da_consj (d_varj 5) (da_consj (d_callj c_place_of (hr.mono (by decide)) rfl (da_consj (d_varj 1) da_nilj)) da_nilj)))) (ds_consj (dst_setj (i:=7) sc_inverting_cell.nd (d_callj c_moved (hr.mono (by decide)) rfl (da_consj (d_varj 5) (da_consj (d_varj 6) (da_consj (d_callj c_over (hr.mono (by decide)) rfl (da_consj (d_callj c_minus (hr.mono (by decide)) rfl (da_consj (d_varj 2) (da_consj (d_varj 3) da_nilj))) (da_consj (d_callj c_product_of_ways (hr.mono (by decide)) rfl (da_consj (d_varj 6) (da_consj (d_varj 6) da_nilj))) da_nilj))) da_nilj))))) (ds_onej (dst_retj (d_tupj (da_consj (d_varj 0) (da_consj (d_varj 1) (da_consj (d_ixj x_ixE (d_varj 4) d_intj (fun _ _=>rfl)) (da_consj (d_ixj x_ixE (d_varj 4) d_intj (fun _ _=>rfl)) (da_consj (d_callj c_plain_point (hr.mono (by decide)) rfl (da_consj (d_varj 7) da_nilj)) da_nilj)))))))))))),fun ds S k h=>?_⟩)
  · obtain⟨_,_,_,_,_,_,rfl,_⟩:=h
    rfl
  · obtain⟨x,y,z,v,s,r,rfl,hx,hy,hz,hv,hs,hr,w0,w⟩:=h
    have sa:=hz.sub hx
    have sb:=hv.sub hy
    have sA:=(sa.mul sa).add (sb.mul sb)
    have sd:=hs.sub hr
    refine⟨x,y,z,v,s,r,rfl,hx,hy,hz,hv,hs,hr,w0,fun h0 e0 S1 p e1 hp=>?_⟩
    have sq:=sd.div sA h0
    have ec:=cl_ends e0
    refine⟨x,y,rfl,z,v,rfl,x,y,z,v,rfl,hx.mono (by decide),hy.mono (by decide),hz.mono (by decide),hv.mono (by decide),s,r,rfl,hs.mono (by decide),hr.mono (by decide),_,_,_,_,rfl,sa.mono (by decide),sb.mono (by decide),sa.mono (by decide),sb.mono (by decide),_,_,rfl,h0,sd.mono (by decide),sA.mono (by decide),_,_,_,_,_,rfl,hx.mono (by decide),hy.mono (by decide),sa.mono (by decide),sb.mono (by decide),sq.mono (by decide),?_⟩
    rw [ec] at hp
    exact⟨_,_,hp,rfl,_,_,hp,rfl,_,_,rfl,few,w h0 e0 _ _ _ e1 ec⟩
def F_growing_linkage:DSp:=fun ds S k=>∃ s r p:Rat,ds=[fr s,fr r,fr p]/\Sz 10 s/\Sz 10 r/\Sz 4 p/\k (groD s r p) S
theorem sc_growing_linkage:FnScope ["near","far","by","square","rest","rest_square"] ["near","far","by"] (defScope s_growing_linkage):=⟨rfl,rfl,rfl,by decide +kernel,rfl,by decide +kernel,by decide +kernel⟩
theorem ok_growing_linkage {P:Program} {w:World} {K:Fg} {mg:Str->Option Value} {base:Heap} {f:Addr} {fd:FuncData} (Fn:Fun K "growing_linkage" "growing_linkage" s_growing_linkage f fd) (c_times:Own P w K mg base "times" 35 F_times) (c_minus:Own P w K mg base "minus" 35 F_minus) (g_ONE:GTup K mg "ONE" [1,1]):
    FnOk P w K mg base CX0 36 f fd ["near","far","by"] (spU K F_growing_linkage):=by
  refine Fn.okJ sc_growing_linkage (fun ds S k h=>?_) (fun cdv A outer s H E hr=>⟨_,(ds_consj (dst_setj (i:=3) sc_growing_linkage.nd (d_callj c_times (hr.mono (by decide)) rfl (da_consj (d_varj 2) (da_consj (d_varj 2) da_nilj)))) (ds_consj (dst_setj (i:=4) sc_growing_linkage.nd (d_callj c_minus (hr.mono (by decide)) rfl (da_consj (d_varj 2) (da_consj (d_gtup g_ONE rfl) da_nilj)))) (ds_consj (dst_setj (i:=5) sc_growing_linkage.nd (d_callj c_times (hr.mono (by decide)) rfl (da_consj (d_varj 4) (da_consj (d_varj 4) da_nilj)))) (ds_onej (dst_retj (d_tupj (da_consj d_intj (da_consj (d_tupj (da_consj d_intj da_nilj)) (da_consj (d_tupj (da_consj (d_tupj (da_consj d_intj (da_consj d_intj (da_consj (d_varj 0) da_nilj)))) (da_consj (d_tupj (da_consj d_intj (da_consj d_intj (da_consj (d_callj c_times (hr.mono (by decide)) rfl (da_consj (d_varj 3) (da_consj (d_varj 0) da_nilj))) da_nilj)))) (da_consj (d_tupj (da_consj d_intj (da_consj d_intj (da_consj (d_varj 1) da_nilj)))) (da_consj (d_tupj (da_consj d_intj (da_consj d_intj (da_consj (d_callj c_times (hr.mono (by decide)) rfl (da_consj (d_varj 5) (da_consj (d_varj 0) da_nilj))) da_nilj)))) (da_consj (d_tupj (da_consj d_intj (da_consj d_intj (da_consj (d_callj c_times (hr.mono (by decide)) rfl (da_consj (d_varj 5) (da_consj (d_varj 0) da_nilj))) da_nilj)))) (da_consj (d_tupj (da_consj d_intj (da_consj d_intj (da_consj (d_varj 1) da_nilj)))) (da_consj (d_tupj (da_consj d_intj (da_consj d_intj (da_consj (d_callj c_times (hr.mono (by decide)) rfl (da_consj (d_varj 3) (da_consj (d_varj 1) da_nilj))) da_nilj)))) (da_consj (d_tupj (da_consj d_intj (da_consj d_intj (da_consj (d_callj c_times (hr.mono (by decide)) rfl (da_consj (d_varj 5) (da_consj (d_varj 1) da_nilj))) da_nilj)))) da_nilj))))))))) da_nilj))))))))),fun ds S k h=>?_⟩)
  · obtain⟨_,_,_,rfl,_⟩:=h
    rfl
  · obtain⟨s,r,p,rfl,hs,hr,hp,w⟩:=h
    have o1:Sz 1 (1:Rat):=⟨by decide,by decide⟩
    have pp:=hp.mul hp
    have qq:=(hp.sub o1).mul (hp.sub o1)
    exact⟨p,p,rfl,hp.mono (by decide),hp.mono (by decide),p,1,rfl,hp.mono (by decide),o1.mono (by decide),_,_,rfl,(hp.sub o1).mono (by decide),(hp.sub o1).mono (by decide),few,few,_,_,rfl,pp.mono (by decide),hs.mono (by decide),few,few,_,_,rfl,qq.mono (by decide),hs.mono (by decide),few,_,_,rfl,qq.mono (by decide),hs.mono (by decide),few,few,_,_,rfl,pp.mono (by decide),hr.mono (by decide),few,_,_,rfl,qq.mono (by decide),hr.mono (by decide),few,few,few,w⟩
def grX (p:Rat) (x:Rat) (X:Q):Q:=(x+p*(X.1 - x),p*X.2)
def crX (p:Rat) (x z:Rat) (X:Q):Q:=(x+p*(X.1 - x)+(z - X.1),p*X.2+(0 - X.2))
def grP (u:Rat) (X Y:Q) (x y z v p:Rat):List D:=[PP x y,PP z v,Pq u X Y,Pq u (grX p x X) (grX p y Y),Pq u (crX p x z X) (crX p y v Y),PP (x+p*(z - x)) (y+p*(v - y))]
theorem like_gr {u p x y:Rat} {X Y:Q}:likeX u (qo x) (qo y) X Y (qo p) (qo 0)=grX p x X/\likeY u (qo x) (qo y) X Y (qo p) (qo 0)=grX p y Y:=by
  simp only [likeX,likeY,grX,qa,qs,qm,qo]
  refine⟨Prod.ext ?_ ?_,Prod.ext ?_ ?_⟩ <;> dsimp only <;> grind
theorem congr2 {a b c d e f:D} (h1:a=b) (h2:c=d):[a,c,e,f]=[b,d,e,f]:=by rw [h1,h2]
theorem gr_plain {p x z:Rat}:grX p x (qo z)=qo (x+p*(z - x)):=by
  unfold grX qo
  refine Prod.ext rfl ?_
  show p*0=0
  grind
theorem comp2 {S:DH} {p:Addr} {ok:DH->Prop} {bd:DB} {k:DK} {l0:Option D} {L1:Lo} {d0 d1:D} (hp:S p=none) (hok:∀ S',ok S')
    (h0:∀ (S':DH) (k':Option D->DH->Prop),Ext S S'->k' (some d0) S'->bd (some (.int 0)::L1) S' k') (h1:∀ (S':DH) (k':Option D->DH->Prop),Ext S S'->k' (some d1) S'->bd (some (.int 1)::L1) S' k')
    (w:∀ S',Ext S S'->S' p=some (.lst [d0,d1])->k (.ref p) S'):dCLoop ok p (dgName 0) bd k [.int 0,.int 1] [] (l0::L1) (put S p (.lst [])):=
  map_loop (f:=fun b:Bool=>D.int (if b then 1 else 0)) (g:=fun b=>if b then d1 else d0) (all:=[false,true]) hp (fun S' _=>hok S')
    (fun b S' k' _ e h=>by cases b with | false=>exact h0 S' k' e h | true=>exact h1 S' k' e h) [false,true] [] l0 (fun _ h=>h) (by decide) w
def F_growing_cell:DSp:=fun ds S k=>match ds with
  | [.non,.non,.non,.non,.non]=>False/\k .non S
  | _=>False
theorem sc_growing_cell:FnScope ["middle","point","near","far","by","end","grown_end","corner"] ["middle","point","near","far","by"] (defScope s_growing_cell):=⟨rfl,rfl,rfl,by decide +kernel,rfl,by decide +kernel,by decide +kernel⟩
theorem ok_growing_cell {P:Program} {w:World} {K:Fg} {mg:Str->Option Value} {base:Heap} {f:Addr} {fd:FuncData} (Fn:Fun K "growing_cell" "growing_cell" s_growing_cell f fd) (c_both_ends:Own P w K mg base "both_ends" 41 F_both_ends) (c_like_at:Own P w K mg base "like_at" 41 F_like_at) (c_root_plus:Own P w K mg base "root_plus" 38 F_root_plus) (c_root_minus:Own P w K mg base "root_minus" 39 F_root_minus) (z_tuple:mg "tuple"=none) (z_range:mg "range"=none) (g_NOUGHT:GTup K mg "NOUGHT" [0,1]):
    FnOk P w K mg base CX0 42 f fd ["middle","point","near","far","by"] (spU K F_growing_cell):=by
  refine Fn.okJ sc_growing_cell (fun ds S k h=>?_) (fun cdv A outer s H E hr=>⟨_,(ds_consj (dst_setj (i:=5) sc_growing_cell.nd (d_ixj x_ixE (d_callj c_both_ends (hr.mono (by decide)) rfl (da_consj (d_varj 0) (da_consj (d_varj 1) (da_consj (d_varj 2) (da_consj (d_varj 3) da_nilj))))) d_intj (fun _ _=>rfl))) (ds_consj (dst_setj (i:=6) sc_growing_cell.nd (d_callj c_like_at (hr.mono (by decide)) rfl (da_consj (d_varj 0) (da_consj (d_varj 5) (da_consj (d_varj 4) (da_consj (d_gtup g_NOUGHT rfl) da_nilj)))))) (ds_consj (dst_setj (i:=7) sc_growing_cell.nd (d_callTj b_tuple rfl z_tuple bt_tuple (da_consj (d_compRj rfl (compSc (N:=["at","grown_end","point","end"]) (cap:=[none,some 6,some 1,some 5]) rfl rfl rfl rfl ⟨rfl,rfl,rfl,trivial⟩ rfl rfl ⟨⟨rfl,.inl rfl,.inl rfl⟩,⟨rfl,.inl rfl,.inl rfl⟩,⟨rfl,.inl rfl,.inl rfl⟩,trivial⟩) rfl z_range (da_consj d_intj da_nilj) (fun _ _ _ _=>(dg_namej (i:=0) (show List.Nodup (["at","grown_end","point","end"]:List Str) from by decide +kernel))) (fun _ _ _ _=>(d_callj c_root_plus (hr.mono (by decide)) rfl (da_consj (d_ixj x_ixE (d_varj 1) (d_varj 0) (fun _ _=>rfl)) (da_consj (d_callj c_root_minus (hr.mono (by decide)) rfl (da_consj (d_ixj x_ixE (d_varj 2) (d_varj 0) (fun _ _=>rfl)) (da_consj (d_ixj x_ixE (d_varj 3) (d_varj 0) (fun _ _=>rfl)) da_nilj))) da_nilj))))) da_nilj))) (ds_onej (dst_retj (d_tupj (da_consj (d_varj 0) (da_consj (d_varj 1) (da_consj (d_varj 5) (da_consj (d_varj 6) (da_consj (d_varj 7) (da_consj (d_callj c_like_at (hr.mono (by decide)) rfl (da_consj (d_varj 0) (da_consj (d_varj 1) (da_consj (d_varj 4) (da_consj (d_gtup g_NOUGHT rfl) da_nilj))))) da_nilj)))))))))))),fun ds S k h=>?_⟩)
  · unfold F_growing_cell at h
    split at h
    · rfl
    · exact h.elim
  · unfold F_growing_cell at h
    split at h
    · exact h.1.elim
    · exact h.elim
def FX_growing_cell (cNoMeet:Addr):DSpX:=fun ds S k e=>∃ x y z v s r p:Rat,ds=[PP x y,PP z v,fr s,fr r,fr p]/\Sz 4 x/\Sz 4 y/\Sz 4 z/\Sz 4 v/\Sz 10 s/\Sz 10 r/\Sz 4 p/\(((z - x)*(z - x)+(v - y)*(v - y)=0\/¬ 0 < cE x y s z v r)->∀ S',Ext S S'->e cNoMeet S')/\((z - x)*(z - x)+(v - y)*(v - y)≠0->0 < cE x y s z v r->∀ S' u X Y,Ext S S'->Fd u->Sq 500 X->Sq 500 Y->(∃ w,RootOf (cE x y s z v r) u w/\X=(eX x y s z v r+-(v - y)*w.1,-(v - y)*w.2)/\Y=(eY x y s z v r+(z - x)*w.1,(z - x)*w.2))->k (.tup (grP u X Y x y z v p)) S')
theorem okx_growing_cell {P:Program} {w:World} {K:Fg} {mg:Str->Option Value} {base:Heap} {f:Addr} {fd:FuncData} {cNoMeet:Addr} (Fn:Fun K "growing_cell" "growing_cell" s_growing_cell f fd) (c_like_at:Own P w K mg base "like_at" 41 F_like_at) (c_root_plus:Own P w K mg base "root_plus" 38 F_root_plus) (c_root_minus:Own P w K mg base "root_minus" 39 F_root_minus) (cx_both_ends:OwnX P w K mg base "both_ends" 41 (FX_both_ends cNoMeet)) (z_tuple:mg "tuple"=none) (z_range:mg "range"=none) (g_NOUGHT:GTup K mg "NOUGHT" [0,1]):
    FnOk P w K mg base (CXE P w) 42 f fd ["middle","point","near","far","by"] (spX K (FX_growing_cell cNoMeet)):=by
  refine Fn.okX sc_growing_cell (fun ds S k x h=>?_) (fun cdv A outer s H E ex hr hE=>⟨_,(ds_consj (dst_setj (i:=5) sc_growing_cell.nd (d_ixj x_ixE (d_callXj hE cx_both_ends (hr.mono (by decide)) rfl (da_consj (d_varj 0) (da_consj (d_varj 1) (da_consj (d_varj 2) (da_consj (d_varj 3) da_nilj))))) d_intj (fun _ _=>rfl))) (ds_consj (dst_setj (i:=6) sc_growing_cell.nd (d_callj c_like_at (hr.mono (by decide)) rfl (da_consj (d_varj 0) (da_consj (d_varj 5) (da_consj (d_varj 4) (da_consj (d_gtup g_NOUGHT rfl) da_nilj)))))) (ds_consj (dst_setj (i:=7) sc_growing_cell.nd (d_callTj b_tuple rfl z_tuple bt_tuple (da_consj (d_compRj rfl (compSc (N:=["at","grown_end","point","end"]) (cap:=[none,some 6,some 1,some 5]) rfl rfl rfl rfl ⟨rfl,rfl,rfl,trivial⟩ rfl rfl ⟨⟨rfl,.inl rfl,.inl rfl⟩,⟨rfl,.inl rfl,.inl rfl⟩,⟨rfl,.inl rfl,.inl rfl⟩,trivial⟩) rfl z_range (da_consj d_intj da_nilj) (fun _ _ _ _=>(dg_namej (i:=0) (show List.Nodup (["at","grown_end","point","end"]:List Str) from by decide +kernel))) (fun _ _ _ _=>(d_callj c_root_plus (hr.mono (by decide)) rfl (da_consj (d_ixj x_ixE (d_varj 1) (d_varj 0) (fun _ _=>rfl)) (da_consj (d_callj c_root_minus (hr.mono (by decide)) rfl (da_consj (d_ixj x_ixE (d_varj 2) (d_varj 0) (fun _ _=>rfl)) (da_consj (d_ixj x_ixE (d_varj 3) (d_varj 0) (fun _ _=>rfl)) da_nilj))) da_nilj))))) da_nilj))) (ds_onej (dst_retj (d_tupj (da_consj (d_varj 0) (da_consj (d_varj 1) (da_consj (d_varj 5) (da_consj (d_varj 6) (da_consj (d_varj 7) (da_consj (d_callj c_like_at (hr.mono (by decide)) rfl (da_consj (d_varj 0) (da_consj (d_varj 1) (da_consj (d_varj 4) (da_consj (d_gtup g_NOUGHT rfl) da_nilj))))) da_nilj)))))))))))),fun ds S k h=>?_⟩)
  · obtain⟨_,_,_,_,_,_,_,rfl,_⟩:=h
    rfl
  · obtain⟨x,y,z,v,s,r,p,rfl,hx,hy,hz,hv,hs,hr,hp,w0,w⟩:=h
    refine⟨x,y,z,v,s,r,rfl,hx,hy,hz,hv,hs.mono (by decide),hr.mono (by decide),w0,fun h0 e0 S1 p1 e1 h1=>?_⟩
    obtain⟨sE,sX,sY⟩:=cl_sz h0 hx hy hz hv hs hr
    obtain⟨u,ww,ro,hM⟩:=root_of e0 sE
    have ec:=cl_ends e0
    rw [hM,hM] at ec
    have sa:=hz.sub hx
    have sb:=hv.sub hy
    have hX:Sq 500 (eX x y s z v r+-(v - y)*ww.1,-(v - y)*ww.2):=⟨(sX.add (sb.neg.mul ro.sz.a)).mono (by decide),(sb.neg.mul ro.sz.b).mono (by decide)⟩
    have hY:Sq 500 (eY x y s z v r+(z - x)*ww.1,(z - x)*ww.2):=⟨(sY.add (sa.mul ro.sz.a)).mono (by decide),(sa.mul ro.sz.b).mono (by decide)⟩
    have w:=w h0 e0
    generalize hXe:((eX x y s z v r+-(v - y)*ww.1,-(v - y)*ww.2):Q)=X at ec hX
    generalize hYe:((eY x y s z v r+(z - x)*ww.1,(z - x)*ww.2):Q)=Y at ec hY
    rw [ec] at h1
    have z4:Sz 4 (0:Rat):=Sz.zero.mono (by decide)
    have z1:Sz 1 (0:Rat):=Sz.zero
    have fd:=ro.fd
    have sqo:∀ {q:Rat},Sz 4 q->Sq 4000 (qo q):=fun h=>⟨h.mono (by decide),Sz.zero.mono (by decide)⟩
    refine⟨_,_,h1,rfl,u,qo x,qo y,X,Y,p,0,congrArg (fun t=>[t,Pq u X Y,fr p,fr 0]) pp_as,fd,sqo hx,sqo hy,hX.mono (by decide),hY.mono (by decide),hp.mono (by decide),z4.mono (by decide),fun S2 e2=>?_⟩
    rw [like_gr.1,like_gr.2]
    have gx:Sz 600 (x+p*(X.1 - x)):=(hx.add (hp.mul (hX.a.sub hx))).mono (by decide)
    have gy:Sz 600 (y+p*(Y.1 - y)):=(hy.add (hp.mul (hY.a.sub hy))).mono (by decide)
    have bx:=hp.mul hX.b
    have by':=hp.mul hY.b
    refine⟨⟨by decide,by decide⟩,fun p2 hp2=>comp2 hp2 (fun _=>trivial) (d0:=N u (crX p x z X).1 (crX p x z X).2) (d1:=N u (crX p y v Y).1 (crX p y v Y).2) (fun S' k' _ h=>⟨u,z,0,X.1,X.2,congrArg (fun t=>[t,N u X.1 X.2]) plain_as,fd,⟨hz.mono (by decide),z1.mono (by decide)⟩,hX.mono (by decide),u,_,_,_,_,rfl,fd,⟨gx.mono (by decide),bx.mono (by decide)⟩,⟨(hz.sub hX.a).mono (by decide),(z1.sub hX.b).mono (by decide)⟩,h⟩) (fun S' k' _ h=>⟨u,v,0,Y.1,Y.2,congrArg (fun t=>[t,N u Y.1 Y.2]) plain_as,fd,⟨hv.mono (by decide),z1.mono (by decide)⟩,hY.mono (by decide),u,_,_,_,_,rfl,fd,⟨gy.mono (by decide),by'.mono (by decide)⟩,⟨(hv.sub hY.a).mono (by decide),(z1.sub hY.b).mono (by decide)⟩,h⟩) fun S3 e3 h3=>⟨_,h3,?_⟩⟩
    refine⟨((2:Int):Rat),qo x,qo y,qo z,qo v,p,0,congr2 pp_as pp_as,two_fd,sqo hx,sqo hy,sqo hz,sqo hv,hp.mono (by decide),z4.mono (by decide),fun S4 e4=>?_⟩
    rw [like_gr.1,like_gr.2,gr_plain,gr_plain,<- pp_as]
    exact⟨few,w _ u X Y (e1.trans (e2.trans (e3.trans e4))) fd hX hY ⟨ww,ro,hXe.symm,hYe.symm⟩⟩
set_option maxHeartbeats 4000000
structure Rod where
  i:Nat
  j:Nat
  q:Rat
def Rod.d (r:Rod):D:=.tup [.int (r.i:Nat),.int (r.j:Nat),fr r.q]
abbrev Pts:=List (Q×Q)
def sqOf (u:Rat) (ps:Pts) (r:Rod):Q:=match ps[r.i]?,ps[r.j]? with
  | some a,some b=>squareQ u (qs b.1 a.1) (qs b.2 a.2)
  | _,_=>(0,0)
def badFrom (u:Rat) (ps:Pts):Nat->List Rod->D
  | _,[]=>.non
  | k,r::rs=>if sqOf u ps r=(r.q,0) then badFrom u ps (k+1) rs else .int (k:Nat)
theorem eq_int {n:Nat} {i j:Int}:eqT n (.int i) (.int j)=some (i == j):=by cases n <;> rfl
theorem eq_fr {n:Nat} {p q:Rat}:eqT (n+1) (fr p) (fr q)=some (decide (p=q)):=by
  show eqTs (eqT n) [.int p.num,.int (p.den:Int)] [.int q.num,.int (q.den:Int)]=_
  show(match eqT n (.int p.num) (.int q.num),(match eqT n (.int (p.den:Int)) (.int (q.den:Int)),some true with | some a,some b=>some (a && b) | _,_=>none) with | some a,some b=>some (a && b) | _,_=>none)=_
  rw [eq_int,eq_int]
  show some ((p.num == q.num) && (((p.den:Int) == (q.den:Int)) && true))=_
  congr 1
  rw [Bool.and_true,Bool.eq_iff_iff]
  simp only [Bool.and_eq_true,beq_iff_eq,decide_eq_true_eq]
  exact⟨fun ⟨a,b⟩=>Rat.ext a (by exact_mod_cast b),fun h=>by subst h; exact⟨rfl,rfl⟩⟩
theorem eq_two {n:Nat} {a b c d:D} {p q:Bool} (h1:eqT n a c=some p) (h2:eqT n b d=some q):eqT (n+1) (.tup [a,b]) (.tup [c,d])=some (p && q):=by
  show(match eqT n a c,(match eqT n b d,some true with | some a,some b=>some (a && b) | _,_=>none) with | some a,some b=>some (a && b) | _,_=>none)=_
  rw [h1,h2]
  show some (p && (q && true))=_
  rw [Bool.and_true]
theorem eq_sq {u q:Rat} {s:Q} (u0:0 < u):eqT 8 (N u s.1 s.2) (.tup [fr q,fr 0])=some (decide (s=(q,0))):=by
  have h:=eq_two (n:=7) (eq_fr (n:=6) (p:=s.1) (q:=q)) (eq_fr (n:=6) (p:=ss s.2*u) (q:=0))
  rw [show decide (s=(q,0))=(decide (s.1=q) && decide (ss s.2*u=0)) from ?_]
  · exact h
  · rw [Bool.eq_iff_iff]
    simp only [Bool.and_eq_true,decide_eq_true_eq]
    rw [ss_zero u0]
    exact⟨fun e=>by rw [e]; exact⟨rfl,rfl⟩,fun⟨a,b⟩=>Prod.ext a b⟩
def ptD (u:Rat) (p:Q×Q):D:=Pq u p.1 p.2
theorem bad_none {u:Rat} {ps:Pts}:∀ {k:Nat} {rs:List Rod},(∀ r∈rs,sqOf u ps r=(r.q,0))->badFrom u ps k rs=.non
  | _,[],_=>rfl
  | k,r::rs,h=>by
    unfold badFrom
    rw [if_pos (h r List.mem_cons_self)]
    exact bad_none fun r hr=>h r (List.mem_cons_of_mem _ hr)
def F_first_wrong:DSp:=fun ds S k=>∃ (u:Rat) (n f:D) (P:Pts) (rs:List Rod),ds=[.tup [n,f,.tup (rs.map Rod.d)],.tup (P.map (ptD u))]/\Fd u/\(∀ p∈P,Sq 7000 p.1/\Sq 7000 p.2)/\P.length<=90/\(∀ r∈rs,r.i < P.length/\r.j < P.length)/\∀ S',Ext S S'->k (badFrom u P 0 rs) S'
theorem sc_first_wrong:FnScope ["linkage","place","number","rod"] ["linkage","place"] (defScope s_first_wrong):=⟨rfl,rfl,rfl,by decide +kernel,rfl,by decide +kernel,by decide +kernel⟩
theorem ok_first_wrong {P:Program} {w:World} {K:Fg} {mg:Str->Option Value} {base:Heap} {f:Addr} {fd:FuncData} (Fn:Fun K "first_wrong" "first_wrong" s_first_wrong f fd) (c_ask_one_field:Own P w K mg base "ask_one_field" 38 F_ask_one_field) (c_square_of_way:Own P w K mg base "square_of_way" 39 F_square_of_way) (c_way_between:Own P w K mg base "way_between" 40 F_way_between) (z_enumerate:mg "enumerate"=none) (g_NOUGHT:GTup K mg "NOUGHT" [0,1]):
    FnOk P w K mg base CX0 41 f fd ["linkage","place"] (spU K F_first_wrong):=by
  refine Fn.okJ sc_first_wrong (fun ds S k h=>?_) (fun cdv A outer s H E hr=>⟨_,(ds_consj (dst_exprj (d_callj c_ask_one_field (hr.mono (by decide)) rfl (da_consj (d_varj 1) da_nilj))) (ds_consj (dst_forEnj PassesOwn.never rfl rfl z_enumerate (da_consj (d_ixj x_ixF (d_varj 0) d_intj (fun _ _=>rfl)) da_nilj) (dg_seqE (n:=2) rfl (dgs_consj (dg_namej (i:=2) sc_first_wrong.nd) (dgs_consj (dg_namej (i:=3) sc_first_wrong.nd) dgs_nilj))) (ds_onej (dst_ifj (dt_cmpj (o_neX hr) (d_callj c_square_of_way (hr.mono (by decide)) rfl (da_consj (d_callj c_way_between (hr.mono (by decide)) rfl (da_consj (d_ixj x_ixF (d_varj 1) (d_ixj x_ixF (d_varj 3) d_intj (fun _ _=>rfl)) (fun _ _=>rfl)) (da_consj (d_ixj x_ixF (d_varj 1) (d_ixj x_ixF (d_varj 3) d_intj (fun _ _=>rfl)) (fun _ _=>rfl)) da_nilj))) da_nilj)) (d_tupj (da_consj (d_ixj x_ixF (d_varj 3) d_intj (fun _ _=>rfl)) (da_consj (d_gtup g_NOUGHT rfl) da_nilj))) (nomark _)) (ds_onej (dst_retj (d_varj 2))) ds_nilj))) (ds_onej (dst_retj d_nonj)))),fun ds S k h=>?_⟩)
  · obtain⟨_,_,_,_,_,rfl,_⟩:=h
    rfl
  · obtain⟨u,n,f,P,rs,rfl,hu,hP,hl,hrs,w⟩:=h
    refine⟨u,_,rfl,hu,fun p hp2=>?_,by rw [List.length_map]; omega,fun S1 e1=>?_⟩
    · obtain⟨p,hp3,rfl⟩:=List.mem_map.mp hp2
      exact PtU.of (hP p hp3).1 (hP p hp3).2 (by decide)
    refine⟨_,atI2,(rs.map Rod.d,none),rfl,?_⟩
    refine loop_ix (fun r L S'=>∃ l2 l3 j rs',L=[some (.tup [n,f,.tup (rs.map Rod.d)]),some (.tup (P.map (ptD u))),l2,l3]/\Ext S S'/\r=enumD j (rs'.map Rod.d)/\(∀ r∈rs',r.i < P.length/\r.j < P.length)/\badFrom u P 0 rs=badFrom u P j rs') (fun _ _ _ _=>trivial) ?_ ?_ _ _ _ ⟨_,_,0,rs,rfl,e1,rfl,hrs,rfl⟩
    · rintro d r L S2 N1 ⟨l2,l3,j,rs',rfl,e2,er,hr,hb⟩ hN
      cases rs' with
      | nil=>cases er
      | cons ro rs'=>
        cases er
        have⟨hi,hj⟩:=hr ro List.mem_cons_self
        have gi:P[ro.i]?=some P[ro.i]:=by simp [hi]
        have gj:P[ro.j]?=some P[ro.j]:=by simp [hj]
        have oi:=hP _ (List.getElem_mem hi)
        have oj:=hP _ (List.getElem_mem hj)
        have fi:L2.atI (P.map (ptD u)) ((ro.i:Nat):Int)=some (ptD u P[ro.i]):=L2.atI_nat (by simp [hi])
        have fj:L2.atI (P.map (ptD u)) ((ro.j:Nat):Int)=some (ptD u P[ro.j]):=L2.atI_nat (by simp [hj])
        refine⟨([.int (j:Nat),ro.d],none),rfl,rfl,rfl,⟨_,atI0,_,fi,_,atI1,_,fj,?_⟩⟩
        refine⟨u,_,_,_,_,rfl,hu,oi.1.mono (by decide),oi.2.mono (by decide),oj.1.mono (by decide),oj.2.mono (by decide),u,_,_,rfl,hu,(sqs oj.1 oi.1).mono (by decide),(sqs oj.2 oi.2).mono (by decide),_,atI2,few,_,eq_sq hu.pos,ite_nb (fun ne=>?_) (fun yes=>?_)⟩
        · have ne:=of_decide_eq_false ne
          have hb2:badFrom u P 0 rs=.int (j:Nat):=by
            rw [hb]
            show(if sqOf u P ro=(ro.q,0) then _ else _)=_
            unfold sqOf
            rw [gi,gj,if_neg ne]
          rw [hb2] at w
          exact w S2 e2
        · have yes:=of_decide_eq_true yes
          refine hN _ _ ⟨_,_,j+1,rs',rfl,e2,rfl,fun r hr2=>hr r (List.mem_cons_of_mem _ hr2),?_⟩
          rw [hb]
          show(if sqOf u P ro=(ro.q,0) then _ else _)=_
          unfold sqOf
          rw [gi,gj,if_pos yes]
    · rintro L S2 ⟨l2,l3,j,rs',rfl,e2,er,hr,hb⟩
      cases rs' with
      | nil=>rw [hb] at w; exact w S2 e2
      | cons ro rs'=>cases er
def F_freedom:DSp:=fun ds S k=>∃ (n:Nat) (rs:List D),ds=[.tup [.int (n:Nat),.tup [.int 0],.tup rs]]/\n<=8/\k (.int (2*((n:Nat) - 1) - (rs.length:Nat))) S
theorem sc_freedom:FnScope ["linkage"] ["linkage"] (defScope s_freedom):=⟨rfl,rfl,rfl,by decide +kernel,rfl,by decide +kernel,by decide +kernel⟩
theorem ok_freedom {P:Program} {w:World} {K:Fg} {mg:Str->Option Value} {base:Heap} {f:Addr} {fd:FuncData} (Fn:Fun K "freedom" "freedom" s_freedom f fd) (z_len:mg "len"=none):
    FnOk P w K mg base CX0 1 f fd ["linkage"] (spU K F_freedom):=by
  refine Fn.okJ sc_freedom (fun ds S k h=>?_) (fun cdv A outer s H E hr=>⟨_,(ds_onej (dst_retj (d_opj o_sub (d_opj o_mul d_intj (d_opj o_sub (d_ixj x_ixE (d_varj 0) d_intj (fun _ _=>rfl)) (d_callBj b_lenE rfl z_len bt_len (da_consj (d_ixj x_ixE (d_varj 0) d_intj (fun _ _=>rfl)) da_nilj)))) (d_callBj b_lenE rfl z_len bt_len (da_consj (d_ixj x_ixE (d_varj 0) d_intj (fun _ _=>rfl)) da_nilj))))),fun ds S k h=>?_⟩)
  · obtain⟨_,_,rfl,_⟩:=h
    rfl
  · obtain⟨n,rs,rfl,hn,w⟩:=h
    exact⟨mok (n:=6) (m:=6) (by decide) (bt_of (by show -(2 ^ 6) < ((n:Nat):Int) - 1; omega) (by show((n:Nat):Int) - 1 < 2 ^ 6; omega)),w⟩
set_option maxHeartbeats 4000000
theorem dpos {a b:Int} (h:0 < a) (h':0 < b):0 < Rat.divInt a b:=by
  rw [Rat.divInt_eq_div,Rat.div_def]
  exact Rat.mul_pos (by exact_mod_cast h) (Rat.inv_pos.mpr (by exact_mod_cast h'))
def F__law_above:DSp:=fun ds S k=>∃ a,ds=[.ref a]/\SOK S a/\∀ q S',Sz 4 q->0 < q->Dr a S S'->k (fr q) S'
theorem sc__law_above:FnScope ["state"] ["state"] (defScope s__law_above):=⟨rfl,rfl,rfl,by decide +kernel,rfl,by decide +kernel,by decide +kernel⟩
theorem ok__law_above {P:Program} {w:World} {K:Fg} {mg:Str->Option Value} {base:Heap} {f:Addr} {fd:FuncData} (Fn:Fun K "_law_above" "_law_above" s__law_above f fd) (c__law_ratio:Own P w K mg base "_law_ratio" 2 F__law_ratio) (c__law_take:Own P w K mg base "_law_take" 1 F__law_take):
    FnOk P w K mg base CX0 3 f fd ["state"] (spU K F__law_above):=by
  refine Fn.okJ sc__law_above (fun ds S k h=>?_) (fun cdv A outer s H E hr=>⟨_,(ds_onej (dst_retj (d_callj c__law_ratio (hr.mono (by decide)) rfl (da_consj (d_opj o_add d_intj (d_callj c__law_take (hr.mono (by decide)) rfl (da_consj (d_varj 0) (da_consj d_intj da_nilj)))) (da_consj (d_opj o_add d_intj (d_ixj x_ixE (d_lstj (da_consj d_intj (da_consj d_intj (da_consj (d_callj c__law_take (hr.mono (by decide)) rfl (da_consj (d_varj 0) (da_consj d_intj da_nilj))) da_nilj)))) (d_callj c__law_take (hr.mono (by decide)) rfl (da_consj (d_varj 0) (da_consj d_intj da_nilj))) (fun _ _=>rfl))) da_nilj))))),fun ds S k h=>?_⟩)
  · obtain⟨_,rfl,_⟩:=h
    rfl
  · obtain⟨a,rfl,hS,q⟩:=h
    refine⟨a,12,rfl,by decide,by decide,hS,fun r1 S1 h1 h1' d1=>⟨a,6,rfl,by decide,by decide,d1.1,fun r2 S2 h2 h2' d2=>⟨few,fun p hp=>⟨a,3,rfl,by decide,by decide,d2.1.new hp,fun r3 S3 h3 h3' d3=>?_⟩⟩⟩⟩
    have hp3:=d3.2 p _ (d2.1.ne hp) put_same
    obtain⟨c,hc,hm⟩:=atI_mem (ds:=[.int 0,.int 0,.int r2]) h3 h3'
    have hc2:∃ s:Int,c=.int s/\0<=s/\s < 6:=by
      simp only [List.mem_cons,List.not_mem_nil,or_false] at hm
      rcases hm with rfl | rfl | rfl
      · exact⟨0,rfl,by decide,by decide⟩
      · exact⟨0,rfl,by decide,by decide⟩
      · exact⟨r2,rfl,h2,h2'⟩
    obtain⟨s,rfl,s0,s1⟩:=hc2
    have b1:Bt 4 (1+r1):=by unfold Bt; omega
    have b2:Bt 4 (1+s):=by unfold Bt; omega
    exact⟨_,_,hp3,hc,_,_,rfl,by omega,b2.mono (by decide),q _ _ (Sz.divInt b1 b2 (by omega)) (dpos (by omega) (by omega)) (d1.trans (d2.trans ((Dr.new d2.1 hp).trans d3)))⟩
def F__law_plain:DSp:=fun ds S k=>∃ q:Rat,ds=[fr q]/\k (.tup [fr q,fr 0]) S
theorem sc__law_plain:FnScope ["fraction"] ["fraction"] (defScope s__law_plain):=⟨rfl,rfl,rfl,by decide +kernel,rfl,by decide +kernel,by decide +kernel⟩
theorem ok__law_plain {P:Program} {w:World} {K:Fg} {mg:Str->Option Value} {base:Heap} {f:Addr} {fd:FuncData} (Fn:Fun K "_law_plain" "_law_plain" s__law_plain f fd):
    FnOk P w K mg base CX0 1 f fd ["fraction"] (spU K F__law_plain):=by
  refine Fn.okJ sc__law_plain (fun ds S k h=>?_) (fun cdv A outer s H E hr=>⟨_,(ds_onej (dst_retj (d_tupj (da_consj (d_varj 0) (da_consj (d_tupj (da_consj d_intj (da_consj d_intj da_nilj))) da_nilj))))),fun ds S k h=>?_⟩)
  · obtain⟨_,rfl,_⟩:=h
    rfl
  · obtain⟨q,rfl,w⟩:=h
    exact⟨few,few,w⟩
def F__law_plain_point:DSp:=fun ds S k=>∃ a,ds=[.ref a]/\SOK S a/\∀ x y S',Sz 4 x->Sz 4 y->Dr a S S'->k (PP x y) S'
theorem sc__law_plain_point:FnScope ["state"] ["state"] (defScope s__law_plain_point):=⟨rfl,rfl,rfl,by decide +kernel,rfl,by decide +kernel,by decide +kernel⟩
theorem ok__law_plain_point {P:Program} {w:World} {K:Fg} {mg:Str->Option Value} {base:Heap} {f:Addr} {fd:FuncData} (Fn:Fun K "_law_plain_point" "_law_plain_point" s__law_plain_point f fd) (c__law_plain:Own P w K mg base "_law_plain" 1 F__law_plain) (c__law_small:Own P w K mg base "_law_small" 3 F__law_small):
    FnOk P w K mg base CX0 4 f fd ["state"] (spU K F__law_plain_point):=by
  refine Fn.okJ sc__law_plain_point (fun ds S k h=>?_) (fun cdv A outer s H E hr=>⟨_,(ds_onej (dst_retj (d_tupj (da_consj (d_callj c__law_plain (hr.mono (by decide)) rfl (da_consj (d_callj c__law_small (hr.mono (by decide)) rfl (da_consj (d_varj 0) da_nilj)) da_nilj)) (da_consj (d_callj c__law_plain (hr.mono (by decide)) rfl (da_consj (d_callj c__law_small (hr.mono (by decide)) rfl (da_consj (d_varj 0) da_nilj)) da_nilj)) da_nilj))))),fun ds S k h=>?_⟩)
  · obtain⟨_,rfl,_⟩:=h
    rfl
  · obtain⟨a,rfl,hS,w⟩:=h
    exact⟨a,rfl,hS,fun x S1 hx d1=>⟨x,rfl,a,rfl,d1.1,fun y S2 hy d2=>⟨y,rfl,few,w x y S2 hx hy (d1.trans d2)⟩⟩⟩
theorem sc__law_placed:FnScope ["call","found"] ["call"] (defScope s__law_placed):=⟨rfl,rfl,rfl,by decide +kernel,rfl,by decide +kernel,by decide +kernel⟩
theorem ok__law_placed {P:Program} {w:World} {K:Fg} {mg:Str->Option Value} {base:Heap} {f:Addr} {fd:FuncData} {cNoMeet:Addr} {cells:List (Addr×Obj)} (Fn:Fun K "_law_placed" "_law_placed" s__law_placed f fd) (m_NoMeet:mg "NoMeet"=some (.ref cNoMeet)) (xm_NoMeet:PySem.W.exmOne K (.ref cNoMeet) (.ref cNoMeet)=some true):
    FnOkP cells P w K mg base CX0 44 f fd ["call"] (spU K (Fpl cNoMeet 43 P w K mg base cells)):=by
  refine Fn.okP sc__law_placed (fun ds S k h=>?_) (fun cdv A outer s H E hr hce=>⟨_,(ds_consj (dst_setj (i:=1) sc__law_placed.nd d_nonj) (ds_consj (dst_tryLj (j:=0) (i:=1) hce (hr.mono (Nat.le_refl _)) rfl (.inl rfl) (fun _=>hr.hd) rfl rfl rfl rfl m_NoMeet sc__law_placed.nd rfl (.inl rfl) (fun v=>(ds_onej (dst_setj (i:=1) sc__law_placed.nd d_nonj)))) (ds_onej (dst_retj (d_varj 1))))),fun ds S k h=>?_⟩)
  · obtain⟨_,_,rfl,_⟩:=h
    rfl
  · obtain⟨g,φ,rfl,hg,he⟩:=h
    exact⟨g,φ,k,_,rfl,hg,he,fun d S' q=>q,fun C S' q=>⟨q.1▸xm_NoMeet,q.2⟩⟩
theorem ld_inv {x y z v q A:Rat} (hA:A=(z - x)*(z - x)+(v - y)*(v - y)) (h0:A≠0):ldA ((2:Int):Rat) [.invert x y q] (qo z,qo v)=some (qo (x+(z - x)*(q / A)),qo (y+(v - y)*(q / A))):=by
  have es:sumS ((2:Int):Rat) (wayS (qo z,qo v) x y)=(A,0):=by
    unfold sumS wayS qo
    simp only [qa,qs,qm]
    refine Prod.ext ?_ ?_ <;> dsimp only
    · rw [hA]; grind
    · grind
  have en:qN ((2:Int):Rat) (sumS ((2:Int):Rat) (wayS (qo z,qo v) x y))=A*A:=by rw [es]; unfold qN; dsimp only; grind
  have ne:A*A≠0:=fun z=>(Rat.mul_eq_zero.mp z).elim h0 h0
  have e1:ldS ((2:Int):Rat) (.invert x y q) (qo z,qo v)=some (qa (qo x) (qm ((2:Int):Rat) (wayS (qo z,qo v) x y).1 (qm ((2:Int):Rat) (qo q) (qI ((2:Int):Rat) (sumS ((2:Int):Rat) (wayS (qo z,qo v) x y))))),qa (qo y) (qm ((2:Int):Rat) (wayS (qo z,qo v) x y).2 (qm ((2:Int):Rat) (qo q) (qI ((2:Int):Rat) (sumS ((2:Int):Rat) (wayS (qo z,qo v) x y)))))):=if_neg (by rw [en]; exact ne)
  unfold ldA
  rw [e1]
  show some _=some _
  congr 1
  rw [es]
  have ei:qI ((2:Int):Rat) (A,0)=(1 / A,0):=by
    unfold qI qN
    refine Prod.ext ?_ ?_ <;> dsimp only
    · rw [show A*A - ((2:Int):Rat)*(0*0)=A*A by grind]
      grind
    · grind
  rw [ei]
  unfold wayS qo
  simp only [qa,qs,qm]
  refine Prod.ext (Prod.ext ?_ ?_) (Prod.ext ?_ ?_) <;> dsimp only <;> grind
theorem ld_grow {x y z v b:Rat}:ldA ((2:Int):Rat) [.grow x y b] (qo z,qo v)=some (qo (x+b*(z - x)),qo (y+b*(v - y))):=by
  show some (qa (qo x) (qm ((2:Int):Rat) (wayS (qo z,qo v) x y).1 (qo b)),qa (qo y) (qm ((2:Int):Rat) (wayS (qo z,qo v) x y).2 (qo b)))=_
  congr 1
  unfold wayS qo
  simp only [qa,qs,qm]
  refine Prod.ext (Prod.ext ?_ ?_) (Prod.ext ?_ ?_) <;> dsimp only <;> grind
theorem eq_PP {x y z v:Rat}:eqT 8 (PP x y) (PP z v)=some (decide (x=z) && decide (y=v)):=by
  have h0:eqT 6 (fr (0:Rat)) (fr 0)=some true:=by rw [eq_fr]; rfl
  have h:=eq_two (n:=7) (eq_two (n:=6) (eq_fr (n:=5) (p:=x) (q:=z)) h0) (eq_two (n:=6) (eq_fr (n:=5) (p:=y) (q:=v)) h0)
  rw [Bool.and_true,Bool.and_true] at h
  exact h
theorem eq_PQ {u x y z v:Rat}:eqT 8 (Pq u (qo x,qo y).1 (qo x,qo y).2) (PP z v)=some (decide (x=z) && decide (y=v)):=by
  show eqT 8 (Pq u (qo x) (qo y)) (PP z v)=_
  rw [<- pp_as]
  exact eq_PP
theorem two_sz:Sz 4 ((2:Int):Rat):=⟨by decide,by decide⟩
theorem one_ld {l:Ld} (ok:LdOk l) (sz:LdSz l):∀ l'∈[l],LdOk l'/\LdSz l':=fun l' hl=>by
  simp only [List.mem_cons,List.not_mem_nil,or_false] at hl
  subst hl
  exact⟨ok,sz⟩
def F__law_inverted:DSp:=fun ds S k=>∃ (x y z v q:Rat) (a b:D),ds=[.tup [PP x y,PP z v,a,b,PP (x+(z - x)*(q / aA x y z v)) (y+(v - y)*(q / aA x y z v))],fr q]/\aA x y z v≠0/\q≠0/\Sz 4 x/\Sz 4 y/\Sz 4 z/\Sz 4 v/\Sz 24 q/\∀ S',Ext S S'->k (.bl true) S'
theorem sc__law_inverted:FnScope ["place","power","lead","both","middle","point","pen"] ["place","power"] (defScope s__law_inverted):=⟨rfl,rfl,rfl,by decide +kernel,rfl,by decide +kernel,by decide +kernel⟩
theorem ok__law_inverted {P:Program} {w:World} {K:Fg} {mg:Str->Option Value} {base:Heap} {f:Addr} {fd:FuncData} (Fn:Fun K "_law_inverted" "_law_inverted" s__law_inverted f fd) (c_side_of:Own P w K mg base "side_of" 41 F_side_of) (c_led:Own P w K mg base "led" 40 F_led) (c_root_times:Own P w K mg base "root_times" 38 F_root_times) (c_square_apart:Own P w K mg base "square_apart" 41 F_square_apart) (c__law_plain:Own P w K mg base "_law_plain" 1 F__law_plain) (c__law_times:Own P w K mg base "_law_times" 3 F__law_times):
    FnOk P w K mg base CX0 42 f fd ["place","power"] (spU K F__law_inverted):=by
  refine Fn.okJ sc__law_inverted (fun ds S k h=>?_) (fun cdv A outer s H E hr=>⟨_,(ds_consj (dst_par3j (i:=4) (j:=5) (l:=6) rfl sc__law_inverted.nd (da_consj (d_ixj x_ixE (d_varj 0) d_intj (fun _ _=>rfl)) (da_consj (d_ixj x_ixE (d_varj 0) d_intj (fun _ _=>rfl)) (da_consj (d_ixj x_ixE (d_varj 0) d_intj (fun _ _=>rfl)) da_nilj)))) (ds_consj (dst_setj (i:=2) sc__law_inverted.nd (d_tupj (da_consj d_strj (da_consj (d_ixj x_ixE (d_ixj x_ixE (d_varj 4) d_intj (fun _ _=>rfl)) d_intj (fun _ _=>rfl)) (da_consj (d_ixj x_ixE (d_ixj x_ixE (d_varj 4) d_intj (fun _ _=>rfl)) d_intj (fun _ _=>rfl)) (da_consj (d_varj 1) da_nilj)))))) (ds_consj (dst_ifj (WJ.pt (dw_orj (dt_cmpj (o_neX hr) (d_callj c_led (hr.mono (by decide)) rfl (da_consj (d_lstj (da_consj (d_varj 2) da_nilj)) (da_consj (d_varj 5) da_nilj))) (d_varj 6) (nomark _)) (dw_orj (dt_cmpj (o_neX hr) (d_callj c_led (hr.mono (by decide)) rfl (da_consj (d_lstj (da_consj (d_varj 2) da_nilj)) (da_consj (d_varj 6) da_nilj))) (d_varj 5) (nomark _)) (dw_or1j (dt_cmpj (o_neX hr) (d_callj c_side_of (hr.mono (by decide)) rfl (da_consj (d_varj 4) (da_consj (d_varj 5) (da_consj (d_varj 6) da_nilj)))) d_intj (nomark _)))))) (ds_onej (dst_retj d_blj)) ds_nilj) (ds_consj (dst_setj (i:=3) sc__law_inverted.nd (d_callj c_root_times (hr.mono (by decide)) rfl (da_consj (d_callj c_square_apart (hr.mono (by decide)) rfl (da_consj (d_varj 4) (da_consj (d_varj 5) da_nilj))) (da_consj (d_callj c_square_apart (hr.mono (by decide)) rfl (da_consj (d_varj 4) (da_consj (d_varj 6) da_nilj))) da_nilj)))) (ds_onej (dst_retj (d_cmpj (o_eqX hr) (d_varj 3) (d_callj c__law_plain (hr.mono (by decide)) rfl (da_consj (d_callj c__law_times (hr.mono (by decide)) rfl (da_consj (d_varj 1) (da_consj (d_varj 1) da_nilj))) da_nilj)) (nomark _)))))))),fun ds S k h=>?_⟩)
  · obtain⟨_,_,_,_,_,_,_,rfl,_⟩:=h
    rfl
  · obtain⟨x,y,z,v,q,a,b,rfl,h0,q0,hx,hy,hz,hv,hq,w⟩:=h
    have sa:=hz.sub hx
    have sb:=hv.sub hy
    have sA:Sz 40 (aA x y z v):=((sa.mul sa).add (sb.mul sb)).mono (by decide)
    have st:=hq.div sA h0
    have sX:Sz 90 (x+(z - x)*(q / aA x y z v)):=(hx.add (sa.mul st)).mono (by decide)
    have sY:Sz 90 (y+(v - y)*(q / aA x y z v)):=(hy.add (sb.mul st)).mono (by decide)
    have eA:aA x y z v=(z - x)*(z - x)+(v - y)*(v - y):=rfl
    have lz:LdSz (.invert x y q):=⟨hx.mono (by decide),hy.mono (by decide),hq⟩
    have l1:=ld_inv (q:=q) eA h0
    have hk:q / aA x y z v*aA x y z v=q:=Rat.div_mul_cancel h0
    generalize hT:q / aA x y z v=t at sX sY l1 hk
    generalize hXe:x+(z - x)*t=X at sX l1
    generalize hYe:y+(v - y)*t=Y at sY l1
    have t0:t≠0:=fun z=>q0 (by rw [<- hk,z]; grind)
    have e2x:(X - x)*(X - x)+(Y - y)*(Y - y)=t*q:=by rw [<- hXe,<- hYe,<- hk,eA]; grind
    have n2:(X - x)*(X - x)+(Y - y)*(Y - y)≠0:=by
      rw [e2x]
      exact fun z=>(Rat.mul_eq_zero.mp z).elim t0 q0
    have l2:=ld_inv (q:=q) (z:=X) (v:=Y) (x:=x) (y:=y) rfl n2
    have ez:x+(X - x)*(q / ((X - x)*(X - x)+(Y - y)*(Y - y)))=z/\y+(Y - y)*(q / ((X - x)*(X - x)+(Y - y)*(Y - y)))=v:=by
      rw [e2x,<- hXe,<- hYe]
      have hq2:q / (t*q)=1 / t:=by grind
      rw [hq2]
      constructor <;> grind
    rw [ez.1,ez.2] at l2
    have sqo:∀ {n:Nat} {p:Rat},Sz (n+1) p->Sq (n+1) (qo p):=fun h=>⟨h,Sz.zero.mono (by omega)⟩
    have z0:Sz 1000 (0:Rat):=Sz.zero.mono (by decide)
    refine⟨few,few,fun p1 hp1=>⟨((2:Int):Rat),(qo z,qo v),(qo X,qo Y),.ref p1,[.invert x y q],congrArg (fun t=>[D.ref p1,t]) pp_as,.inr ⟨p1,rfl,put_same⟩,two_fd,two_sz,hz.mono (by decide),z0,hv.mono (by decide),z0,by show 1<=6; decide,one_ld q0 lz,l1,fun S1 e1=>⟨_,eq_PQ,ite_nb (fun h=>?_) (fun h=>?_)⟩⟩⟩
    · simp at h
    refine⟨few,fun p2 hp2=>⟨((2:Int):Rat),(qo X,qo Y),(qo z,qo v),.ref p2,[.invert x y q],congrArg (fun t=>[D.ref p2,t]) pp_as,.inr ⟨p2,rfl,put_same⟩,two_fd,two_sz,sX.mono (by decide),z0,sY.mono (by decide),z0,by show 1<=6; decide,one_ld q0 lz,l2,fun S2 e2=>⟨_,eq_PQ,ite_nb (fun h=>?_) (fun h=>?_)⟩⟩⟩
    · simp at h
    have q4:∀ {q:Rat},Sz 4 q->Sq 1600 (qo q):=fun h=>⟨h.mono (by decide),Sz.zero.mono (by decide)⟩
    have q9:∀ {q:Rat},Sz 90 q->Sq 14400 (qo q):=fun h=>⟨h.mono (by decide),Sz.zero.mono (by decide)⟩
    refine⟨((2:Int):Rat),qo x,qo y,qo z,qo v,qo X,qo Y,by rw [<- pp_as,<- pp_as,<- pp_as],two_fd,q4 hx,q4 hy,q4 hz,q4 hv,(q9 sX).mono (by decide),(q9 sY).mono (by decide),fun S3 e3=>?_⟩
    have es:sideQ ((2:Int):Rat) (qo x) (qo y) (qo z) (qo v) (qo X) (qo Y)=(0,0):=by
      unfold sideQ qo
      simp only [qs,qm]
      refine Prod.ext ?_ ?_ <;> dsimp only
      · rw [<- hXe,<- hYe]; grind
      · grind
    rw [es]
    have s0:sq2 ((0:Rat),(0:Rat)).1 ((0:Rat),(0:Rat)).2 ((2:Int):Rat)=0:=by
      show sq2 (0:Rat) 0 ((2:Int):Rat)=0
      unfold sq2
      rw [if_neg (by grind)]
      rfl
    rw [s0]
    refine⟨_,eq_int,ite_nb (fun h=>absurd h (by decide)) (fun _=>?_)⟩
    have eS:∀ a b c d:Rat,squareQ ((2:Int):Rat) (qs (qo c) (qo a)) (qs (qo d) (qo b))=((c - a)*(c - a)+(d - b)*(d - b),0):=fun a b c d=>by
      unfold squareQ qo
      simp only [qs,qm,qa]
      refine Prod.ext ?_ ?_ <;> dsimp only <;> grind
    refine⟨((2:Int):Rat),qo x,qo y,qo z,qo v,by rw [<- pp_as,<- pp_as],two_fd,(q4 hx).mono (by decide),(q4 hy).mono (by decide),(q4 hz).mono (by decide),(q4 hv).mono (by decide),fun S4 e4=>⟨((2:Int):Rat),qo x,qo y,qo X,qo Y,by rw [<- pp_as,<- pp_as],two_fd,(q4 hx).mono (by decide),(q4 hy).mono (by decide),q9 sX,q9 sY,fun S5 e5=>?_⟩⟩
    rw [eS,eS,e2x]
    have st':Sz 100 (t*q):=by rw [<- hT]; exact(st.mul hq).mono (by decide)
    refine⟨((2:Int):Rat),_,_,_,_,rfl,two_fd,⟨(((sa.mul sa).add (sb.mul sb))).mono (by decide),Sz.zero.mono (by decide)⟩,⟨st'.mono (by decide),Sz.zero.mono (by decide)⟩,?_⟩
    refine⟨_,_,_,_,_,rfl,den_mul_ne _ _,hq.num.mono (by decide),hq.den.mono (by decide),hq.num.mono (by decide),hq.den.mono (by decide),mul_of _ _,_,rfl,_,eq_sq (s:=(_,_)) two_fd.pos,?_⟩
    have:=w S5 (((Ext.new hp1).trans (e1.trans ((Ext.new hp2).trans (e2.trans (e3.trans e4))))).trans e5)
    rw [decide_eq_true ?_]
    · exact this
    · refine Prod.ext ?_ ?_ <;> dsimp only
      · rw [<- eA,<- hk]; grind
      · grind
set_option maxHeartbeats 4000000
theorem end_sq {x y a b t k u σ E:Rat} {w:Q} (w1:w.1*w.1+w.2*w.2*u=E) (w2:w.1*w.2=0) (hσ:σ*σ=1):
    squareQ u (qs (x+t*a+σ*-b*w.1,σ*-b*w.2) (qo (x+k*a))) (qs (y+t*b+σ*a*w.1,σ*a*w.2) (qo (y+k*b)))=(((t - k)*(t - k)+E)*(a*a+b*b),0):=by
  simp only [squareQ,qs,qm,qa,qo]
  refine Prod.ext ?_ ?_ <;> dsimp only
  · have e:(x+t*a+σ*-b*w.1 - (x+k*a))*(x+t*a+σ*-b*w.1 - (x+k*a))+(σ*-b*w.2 - 0)*(σ*-b*w.2 - 0)*u+((y+t*b+σ*a*w.1 - (y+k*b))*(y+t*b+σ*a*w.1 - (y+k*b))+(σ*a*w.2 - 0)*(σ*a*w.2 - 0)*u)=((t - k)*(t - k)+σ*σ*(w.1*w.1+w.2*w.2*u))*(a*a+b*b):=by grind
    rw [e,w1,hσ]; grind
  · have e:(x+t*a+σ*-b*w.1 - (x+k*a))*(σ*-b*w.2 - 0)+(σ*-b*w.2 - 0)*(x+t*a+σ*-b*w.1 - (x+k*a))+((y+t*b+σ*a*w.1 - (y+k*b))*(σ*a*w.2 - 0)+(σ*a*w.2 - 0)*(y+t*b+σ*a*w.1 - (y+k*b)))=2*(σ*σ)*(w.1*w.2)*(a*a+b*b):=by grind
    rw [e,w2]; grind
theorem sq_sym {u:Rat} {A B C D:Q}:squareQ u (qs A B) (qs C D)=squareQ u (qs B A) (qs D C):=by
  simp only [squareQ,qs,qm,qa]
  refine Prod.ext ?_ ?_ <;> dsimp only <;> grind
section
variable {u x y z v s r p:Rat} {X Y:Q} (h1:squareQ u (qs X (qo x)) (qs Y (qo y))=(s,0)) (h2:squareQ u (qs X (qo z)) (qs Y (qo v))=(r,0))
include h1 in
theorem gr_03:squareQ u (qs (grX p x X) (qo x)) (qs (grX p y Y) (qo y))=(p*p*s,0):=by
  have a:=congrArg Prod.fst h1
  have b:=congrArg Prod.snd h1
  simp only [squareQ,qs,qm,qa,qo,grX] at a b ⊢
  refine Prod.ext ?_ ?_ <;> dsimp only
  · rw [<- a]; grind
  · have:(x+p*(X.1 - x) - x)*(p*X.2 - 0)+(p*X.2 - 0)*(x+p*(X.1 - x) - x)+((y+p*(Y.1 - y) - y)*(p*Y.2 - 0)+(p*Y.2 - 0)*(y+p*(Y.1 - y) - y))=p*p*((X.1 - x)*(X.2 - 0)+(X.2 - 0)*(X.1 - x)+((Y.1 - y)*(Y.2 - 0)+(Y.2 - 0)*(Y.1 - y))):=by grind
    rw [this,b]; grind
include h1 in
theorem gr_14:squareQ u (qs (crX p x z X) (qo z)) (qs (crX p y v Y) (qo v))=((p - 1)*(p - 1)*s,0):=by
  have a:=congrArg Prod.fst h1
  have b:=congrArg Prod.snd h1
  simp only [squareQ,qs,qm,qa,qo,crX] at a b ⊢
  refine Prod.ext ?_ ?_ <;> dsimp only
  · rw [<- a]; grind
  · have e:∀ c d:Rat,c=(p - 1)*(p - 1)*d->d=0->c=0:=fun c d h1 h2=>by rw [h1,h2]; grind
    exact e _ _ (by grind) b
include h1 in
theorem gr_23:squareQ u (qs (grX p x X) X) (qs (grX p y Y) Y)=((p - 1)*(p - 1)*s,0):=by
  have a:=congrArg Prod.fst h1
  have b:=congrArg Prod.snd h1
  simp only [squareQ,qs,qm,qa,qo,grX] at a b ⊢
  refine Prod.ext ?_ ?_ <;> dsimp only
  · rw [<- a]; grind
  · have e:∀ c d:Rat,c=(p - 1)*(p - 1)*d->d=0->c=0:=fun c d h1 h2=>by rw [h1,h2]; grind
    exact e _ _ (by grind) b
include h2 in
theorem gr_34:squareQ u (qs (crX p x z X) (grX p x X)) (qs (crX p y v Y) (grX p y Y))=(r,0):=by
  have a:=congrArg Prod.fst h2
  have b:=congrArg Prod.snd h2
  simp only [squareQ,qs,qm,qa,qo,grX,crX] at a b ⊢
  refine Prod.ext ?_ ?_ <;> dsimp only
  · rw [<- a]; grind
  · have e:∀ c d:Rat,c=d->d=0->c=0:=fun c d h1 h2=>by rw [h1,h2]
    exact e _ _ (by grind) b
include h2 in
theorem gr_35:squareQ u (qs (qo (x+p*(z - x))) (grX p x X)) (qs (qo (y+p*(v - y))) (grX p y Y))=(p*p*r,0):=by
  have a:=congrArg Prod.fst h2
  have b:=congrArg Prod.snd h2
  simp only [squareQ,qs,qm,qa,qo,grX] at a b ⊢
  refine Prod.ext ?_ ?_ <;> dsimp only
  · rw [<- a]; grind
  · have e:∀ c d:Rat,c=p*p*d->d=0->c=0:=fun c d h1 h2=>by rw [h1,h2]; grind
    exact e _ _ (by grind) b
include h2 in
theorem gr_45:squareQ u (qs (qo (x+p*(z - x))) (crX p x z X)) (qs (qo (y+p*(v - y))) (crX p y v Y))=((p - 1)*(p - 1)*r,0):=by
  have a:=congrArg Prod.fst h2
  have b:=congrArg Prod.snd h2
  simp only [squareQ,qs,qm,qa,qo,crX] at a b ⊢
  refine Prod.ext ?_ ?_ <;> dsimp only
  · rw [<- a]; grind
  · have e:∀ c d:Rat,c=(p - 1)*(p - 1)*d->d=0->c=0:=fun c d h1 h2=>by rw [h1,h2]; grind
    exact e _ _ (by grind) b
end
theorem c_facts {x y s z v r:Rat} (h0:(z - x)*(z - x)+(v - y)*(v - y)≠0):(cT x y s z v r*cT x y s z v r+cE x y s z v r)*((z - x)*(z - x)+(v - y)*(v - y))=s/\((cT x y s z v r - 1)*(cT x y s z v r - 1)+cE x y s z v r)*((z - x)*(z - x)+(v - y)*(v - y))=r/\((cT x y s z v r - (s - r) / aA x y z v)*(cT x y s z v r - (s - r) / aA x y z v)+cE x y s z v r)*((z - x)*(z - x)+(v - y)*(v - y))=r:=by
  have hT:cT x y s z v r*(((z - x)*(z - x)+(v - y)*(v - y))+((z - x)*(z - x)+(v - y)*(v - y)))=(s - r)+((z - x)*(z - x)+(v - y)*(v - y)):=Rat.div_mul_cancel (two_ne h0)
  have hS:s / ((z - x)*(z - x)+(v - y)*(v - y))*((z - x)*(z - x)+(v - y)*(v - y))=s:=Rat.div_mul_cancel h0
  have hK:(s - r) / aA x y z v*((z - x)*(z - x)+(v - y)*(v - y))=s - r:=Rat.div_mul_cancel h0
  unfold cE
  generalize (s - r) / aA x y z v=k at hK
  generalize s / ((z - x)*(z - x)+(v - y)*(v - y))=g at hS
  generalize cT x y s z v r=t at hT
  generalize (z - x)*(z - x)+(v - y)*(v - y)=A at hT hS hK
  refine⟨by grind,by grind,?_⟩
  have e:((t - k)*(t - k)+(g - t*t))*A=g*A - (t*(A+A))*k+k*(k*A):=by grind
  rw [e,hS,hT,hK]
  have e2:(s - r+A)*k=(s - r)*k+k*A:=by grind
  rw [e2,hK]
  grind
abbrev EX (x y s z v r σ:Rat) (w:Q):Q:=(x+cT x y s z v r*(z - x)+σ*-(v - y)*w.1,σ*-(v - y)*w.2)
abbrev EY (x y s z v r σ:Rat) (w:Q):Q:=(y+cT x y s z v r*(v - y)+σ*(z - x)*w.1,σ*(z - x)*w.2)
theorem ends_at {x y s z v r u σ:Rat} {w:Q} (h0:(z - x)*(z - x)+(v - y)*(v - y)≠0) (ro:RootOf (cE x y s z v r) u w) (hσ:σ*σ=1):
    squareQ u (qs (EX x y s z v r σ w) (qo x)) (qs (EY x y s z v r σ w) (qo y))=(s,0)/\squareQ u (qs (EX x y s z v r σ w) (qo z)) (qs (EY x y s z v r σ w) (qo v))=(r,0)/\squareQ u (qs (EX x y s z v r σ w) (qo (x+(z - x)*((s - r) / aA x y z v)))) (qs (EY x y s z v r σ w) (qo (y+(v - y)*((s - r) / aA x y z v))))=(r,0):=by
  obtain⟨f1,f2,f3⟩:=c_facts (s:=s) (r:=r) h0
  have g:=fun k=>end_sq (x:=x) (y:=y) (a:=z - x) (b:=v - y) (t:=cT x y s z v r) (k:=k) (u:=u) (σ:=σ) ro.w1 ro.w2 hσ
  have g0:=g 0
  have g1:=g 1
  have gk:=g ((s - r) / aA x y z v)
  rw [show x+0*(z - x)=x by grind,show y+0*(v - y)=y by grind,show cT x y s z v r - 0=cT x y s z v r by grind,f1] at g0
  rw [show x+1*(z - x)=z by grind,show y+1*(v - y)=v by grind,f2] at g1
  rw [f3,Rat.mul_comm ((s - r) / aA x y z v) (z - x),Rat.mul_comm ((s - r) / aA x y z v) (v - y)] at gk
  exact⟨g0,g1,gk⟩
theorem ex_one {x y s z v r:Rat} {w:Q}:EX x y s z v r 1 w=(eX x y s z v r+-(v - y)*w.1,-(v - y)*w.2):=Prod.ext (by show x+cT x y s z v r*(z - x)+1*-(v - y)*w.1=x+cT x y s z v r*(z - x)+-(v - y)*w.1; grind) (by show 1*-(v - y)*w.2=-(v - y)*w.2; grind)
theorem ey_one {x y s z v r:Rat} {w:Q}:EY x y s z v r 1 w=(eY x y s z v r+(z - x)*w.1,(z - x)*w.2):=Prod.ext (by show y+cT x y s z v r*(v - y)+1*(z - x)*w.1=y+cT x y s z v r*(v - y)+(z - x)*w.1; grind) (by show 1*(z - x)*w.2=(z - x)*w.2; grind)
theorem two_ends {x y s z v r:Rat} (h0:(z - x)*(z - x)+(v - y)*(v - y)≠0) (e0:0 < cE x y s z v r) (hx:Sz 4 x) (hy:Sz 4 y) (hz:Sz 4 z) (hv:Sz 4 v) (hs:Sz 10 s) (hr:Sz 10 r):
    ∃ u w,RootOf (cE x y s z v r) u w/\cL x y s z v r=[Pq u (EX x y s z v r 1 w) (EY x y s z v r 1 w),Pq u (EX x y s z v r (-1) w) (EY x y s z v r (-1) w)]/\∀ σ:Rat,(σ=1\/σ=-1)->Sq 500 (EX x y s z v r σ w)/\Sq 500 (EY x y s z v r σ w):=by
  obtain⟨sE,sX,sY⟩:=cl_sz h0 hx hy hz hv hs hr
  obtain⟨u,w,ro,hM⟩:=root_of e0 sE
  have sa:=hz.sub hx
  have sb:=hv.sub hy
  have s1:∀ σ:Rat,(σ=1\/σ=-1)->Sz 1 σ:=fun σ h=>by rcases h with rfl | rfl <;> exact⟨by decide,by decide⟩
  refine⟨u,w,ro,?_,fun σ h=>⟨⟨(Sz.add (m:=160) (show Sz 160 (x+cT x y s z v r*(z - x)) from sX) (((s1 σ h).mul sb.neg).mul ro.sz.a)).mono (by decide),(((s1 σ h).mul sb.neg).mul ro.sz.b).mono (by decide)⟩,⟨(Sz.add (m:=160) (show Sz 160 (y+cT x y s z v r*(v - y)) from sY) (((s1 σ h).mul sa).mul ro.sz.a)).mono (by decide),(((s1 σ h).mul sa).mul ro.sz.b).mono (by decide)⟩⟩⟩
  rw [cl_ends e0,hM,hM]
  have p1:EX x y s z v r 1 w=(eX x y s z v r+-(v - y)*w.1,-(v - y)*w.2):=Prod.ext (by show x+cT x y s z v r*(z - x)+1*-(v - y)*w.1=x+cT x y s z v r*(z - x)+-(v - y)*w.1; grind) (by show 1*-(v - y)*w.2=-(v - y)*w.2; grind)
  have p2:EY x y s z v r 1 w=(eY x y s z v r+(z - x)*w.1,(z - x)*w.2):=Prod.ext (by show y+cT x y s z v r*(v - y)+1*(z - x)*w.1=y+cT x y s z v r*(v - y)+(z - x)*w.1; grind) (by show 1*(z - x)*w.2=(z - x)*w.2; grind)
  have p3:EX x y s z v r (-1) w=(eX x y s z v r+- -(v - y)*w.1,- -(v - y)*w.2):=Prod.ext (by show x+cT x y s z v r*(z - x)+-1*-(v - y)*w.1=x+cT x y s z v r*(z - x)+- -(v - y)*w.1; grind) (by show -1*-(v - y)*w.2=- -(v - y)*w.2; grind)
  have p4:EY x y s z v r (-1) w=(eY x y s z v r+-(z - x)*w.1,-(z - x)*w.2):=Prod.ext (by show y+cT x y s z v r*(v - y)+-1*(z - x)*w.1=y+cT x y s z v r*(v - y)+-(z - x)*w.1; grind) (by show -1*(z - x)*w.2=-(z - x)*w.2; grind)
  rw [p1,p2,p3,p4]
def invRs (s r:Rat):List Rod:=[⟨0,2,s⟩,⟨0,3,s⟩,⟨1,2,r⟩,⟨1,3,r⟩,⟨2,4,r⟩,⟨3,4,r⟩]
def groRs (s r p:Rat):List Rod:=[⟨0,2,s⟩,⟨0,3,p*p*s⟩,⟨1,2,r⟩,⟨1,4,(p - 1)*(p - 1)*s⟩,⟨2,3,(p - 1)*(p - 1)*s⟩,⟨3,4,r⟩,⟨3,5,p*p*r⟩,⟨4,5,(p - 1)*(p - 1)*r⟩]
abbrev penX (x y z v s r:Rat):Rat:=x+(z - x)*((s - r) / aA x y z v)
abbrev penY (x y z v s r:Rat):Rat:=y+(v - y)*((s - r) / aA x y z v)
noncomputable def invP (x y s z v r:Rat) (w:Q):Pts:=[(qo x,qo y),(qo z,qo v),(EX x y s z v r 1 w,EY x y s z v r 1 w),(EX x y s z v r (-1) w,EY x y s z v r (-1) w),(qo (penX x y z v s r),qo (penY x y z v s r))]
theorem inv_right {x y s z v r u:Rat} {w:Q} (h0:(z - x)*(z - x)+(v - y)*(v - y)≠0) (ro:RootOf (cE x y s z v r) u w):∀ ro∈invRs s r,sqOf u (invP x y s z v r w) ro=(ro.q,0):=by
  obtain⟨a1,a2,a3⟩:=ends_at (σ:=1) h0 ro (by grind)
  obtain⟨b1,b2,b3⟩:=ends_at (σ:=-1) h0 ro (by grind)
  unfold invRs
  simp only [List.forall_mem_cons]
  exact⟨a1,b1,a2,b2,sq_sym.trans a3,sq_sym.trans b3,fun _ h=>by cases h⟩
def groP (X Y:Q) (x y z v p:Rat):Pts:=[(qo x,qo y),(qo z,qo v),(X,Y),(grX p x X,grX p y Y),(crX p x z X,crX p y v Y),(qo (x+p*(z - x)),qo (y+p*(v - y)))]
theorem gro_right {x y s z v r u p:Rat} {X Y:Q} (h1:squareQ u (qs X (qo x)) (qs Y (qo y))=(s,0)) (h2:squareQ u (qs X (qo z)) (qs Y (qo v))=(r,0)):∀ ro∈groRs s r p,sqOf u (groP X Y x y z v p) ro=(ro.q,0):=by
  unfold groRs
  simp only [List.forall_mem_cons]
  exact⟨h1,gr_03 h1,h2,gr_14 h1,gr_23 h1,gr_34 h2,gr_35 h2,gr_45 h2,fun _ h=>by cases h⟩
theorem sqp {c:Rat} (h:c≠0):0 < c*c:=by
  rcases tri c with a | a | a
  · exact Rat.mul_pos a a
  · have h1:0 < -c:=by grind
    have h2:=Rat.mul_pos h1 h1
    grind
  · exact absurd a h
theorem ab_fr {q:Rat} (h:0 < q):aboveD (fr q)=true:=by
  show((decide (1<=((q.den:Nat):Int)) && decide (((Int.gcd q.num (q.den:Int):Nat):Int)=1)) && decide (0 < q.num))=true
  have h1:=q.den_pos
  have h2:Int.gcd q.num (q.den:Int)=1:=q.reduced
  have h0:0<=q.num:=Rat.num_nonneg.mpr (Rat.le_of_lt h)
  have h3:q.num≠0:=fun z=>by rw [Rat.num_eq_zero.mp z] at h; exact absurd h (by decide)
  rw [decide_eq_true (by omega),h2,decide_eq_true (show 0 < q.num by omega)]
  rfl
theorem inv_lnk {s r:Rat} (hs:0 < s) (hr:0 < r):lnkD (invD s r)=true:=by
  have e:lnkD (invD s r)=(aboveD (fr s) && aboveD (fr r)):=by
    show((true && true) && ((true && true) && (true && (((true && (true && (true && aboveD (fr s)))) && ((true && (true && (true && aboveD (fr s)))) && ((true && (true && (true && aboveD (fr r)))) && ((true && (true && (true && aboveD (fr r)))) && ((true && (true && (true && aboveD (fr r)))) && ((true && (true && (true && aboveD (fr r)))) && true)))))) && true))))=_
    cases aboveD (fr s) <;> cases aboveD (fr r) <;> rfl
  rw [e,ab_fr hs,ab_fr hr]
  rfl
theorem gro_lnk {s r p:Rat} (hs:0 < s) (hr:0 < r) (p0:p≠0) (p1:p≠1):lnkD (groD s r p)=true:=by
  have pp:0 < p*p:=sqp p0
  have qq:0 < (p - 1)*(p - 1):=sqp fun z=>p1 (by grind)
  have a1:=ab_fr (Rat.mul_pos pp hs)
  have a2:=ab_fr (Rat.mul_pos qq hs)
  have a3:=ab_fr (Rat.mul_pos pp hr)
  have a4:=ab_fr (Rat.mul_pos qq hr)
  have a5:=ab_fr hs
  have a6:=ab_fr hr
  show((true && true) && ((true && true) && (true && (((true && (true && (true && aboveD (fr s)))) && ((true && (true && (true && aboveD (fr (p*p*s))))) && ((true && (true && (true && aboveD (fr r)))) && ((true && (true && (true && aboveD (fr ((p - 1)*(p - 1)*s))))) && ((true && (true && (true && aboveD (fr ((p - 1)*(p - 1)*s))))) && ((true && (true && (true && aboveD (fr r)))) && ((true && (true && (true && aboveD (fr (p*p*r))))) && ((true && (true && (true && aboveD (fr ((p - 1)*(p - 1)*r))))) && true)))))))) && true))))=true
  rw [a1,a2,a3,a4,a5,a6]
  rfl
abbrev lamQ:Str:="law"++".<locals>."++"<lambda>"
abbrev tb:DO:=.tbl fun H ps=>TblOk H lamQ ps
theorem num_pos {q:Rat} (h:0 < q):0 < q.num:=by
  have h0:0<=q.num:=Rat.num_nonneg.mpr (Rat.le_of_lt h)
  have h3:q.num≠0:=fun z=>by rw [Rat.num_eq_zero.mp z] at h; exact absurd h (by decide)
  omega
theorem ne_1x (q:Rat):(q.den:Int)*1≠0:=by have:=den_ne q; omega
theorem sz_cx {q:Rat} {c:Int} (h:Sz 4 q) (hc:Bt 3 c):Sz 7 (Rat.divInt (q.num*c) ((q.den:Int)*1)):=Sz.divInt (h.num.mul hc) ((h.den.mul (show Bt 3 1 by decide)).mono (by decide)) (ne_1x q)
theorem seq_ifx {c:DT} {t e b2:DS} {M:DEnds} {L:Lo} {S:DH} (P:Lo->DH->Prop) (h2:∀ L S,P L S->b2 M L S) (h1:(∀ L S,P L S->b2 M L S)->dIfS c t e {M with nx:=b2 M} L S):dSeq (dIfS c t e) b2 M L S:=h1 h2
theorem ext_lam {T S2:DH} {g:Addr} {o:DO} (hg:T g=none) (h:∀ b o',b≠g->put T g o b=some o'->S2 b=some o'):Ext T S2:=fun b o' e=>by
  have hb:b≠g:=fun z=>by rw [z,hg] at e; cases e
  exact h b o' hb (by rw [put_ne hb]; exact e)
theorem pl_inv {cC:Addr} {qual:Str} {params:Arguments} {body:Expr} {scope:Scope} {clos:List (Str×Addr)} {cap:List (Option Nat)} {pT:Addr} {L:Lo} {T:DH} {k:DK} {x y z v s r:Rat} (hT:T pT=some (.tbl fun H ps=>TblOk H qual ps)) (hL:capL cap L=[some (PP x y),some (PP z v),some (fr s),some (fr r)]) (hx:Sz 4 x) (hy:Sz 4 y) (hz:Sz 4 z) (hv:Sz 4 v) (hs:Sz 60 s) (hr:Sz 60 r)
    (w:∀ d S',Ext T S'->(d=.non\/((z - x)*(z - x)+(v - y)*(v - y)≠0/\0 < cE x y s z v r/\∃ a b,cL x y s z v r=[a,b]/\d=.tup [PP x y,PP z v,a,b,PP (penX x y z v s r) (penY x y z v s r)]))->k d S'):
    dPl cC qual params body scope clos cap (fun ex=>dCallX (FX_inverting_cell cC) ex (dCons (dVar 0) (dCons (dVar 1) (dCons (dVar 2) (dCons (dVar 3) dNil))))) (dLam pT qual params body scope clos) L T k:=by
  refine⟨hT,fun g hg=>⟨g,rfl,put_same,fun S2 h2=>?_⟩⟩
  have e2:=ext_lam hg h2
  rw [hL]
  exact⟨x,y,z,v,s,r,rfl,hx,hy,hz,hv,hs,hr,fun _ S' e=>⟨rfl,w .non S' (e2.trans e) (.inl rfl)⟩,fun h0 e0 S' a b e ec=>w _ S' (e2.trans e) (.inr ⟨h0,e0,a,b,ec,rfl⟩)⟩
theorem pl_gro {cC:Addr} {qual:Str} {params:Arguments} {body:Expr} {scope:Scope} {clos:List (Str×Addr)} {cap:List (Option Nat)} {pT:Addr} {L:Lo} {T:DH} {k:DK} {x y z v s r p:Rat} (hT:T pT=some (.tbl fun H ps=>TblOk H qual ps)) (hL:capL cap L=[some (PP x y),some (PP z v),some (fr s),some (fr r),some (fr p)]) (hx:Sz 4 x) (hy:Sz 4 y) (hz:Sz 4 z) (hv:Sz 4 v) (hs:Sz 10 s) (hr:Sz 10 r) (hp:Sz 4 p)
    (w:∀ d S',Ext T S'->(d=.non\/((z - x)*(z - x)+(v - y)*(v - y)≠0/\0 < cE x y s z v r/\∃ u X Y,Fd u/\Sq 500 X/\Sq 500 Y/\(∃ w,RootOf (cE x y s z v r) u w/\X=(eX x y s z v r+-(v - y)*w.1,-(v - y)*w.2)/\Y=(eY x y s z v r+(z - x)*w.1,(z - x)*w.2))/\d=.tup (grP u X Y x y z v p)))->k d S'):
    dPl cC qual params body scope clos cap (fun ex=>dCallX (FX_growing_cell cC) ex (dCons (dVar 0) (dCons (dVar 1) (dCons (dVar 2) (dCons (dVar 3) (dCons (dVar 4) dNil)))))) (dLam pT qual params body scope clos) L T k:=by
  refine⟨hT,fun g hg=>⟨g,rfl,put_same,fun S2 h2=>?_⟩⟩
  have e2:=ext_lam hg h2
  rw [hL]
  exact⟨x,y,z,v,s,r,p,rfl,hx,hy,hz,hv,hs,hr,hp,fun _ S' e=>⟨rfl,w .non S' (e2.trans e) (.inl rfl)⟩,fun h0 e0 S' u X Y e f1 f2 f3 ec=>w _ S' (e2.trans e) (.inr ⟨h0,e0,u,X,Y,f1,f2,f3,ec,rfl⟩)⟩
theorem leaf_ask3 {S:DH} {i j:Int} {q:Rat}:AskN 2 S (.tup [.int i,.int j,fr q]):=by
  have l:∀ {n:Nat} {i:Int},AskN n S (.int i):=fun {n i}=>by cases n with | zero=>exact⟨_,rfl⟩ | succ n=>exact⟨⟨_,rfl⟩,fun _ e=>by cases e⟩
  refine⟨⟨_,rfl⟩,fun ds e=>?_⟩
  cases e
  refine⟨by simp,?_⟩
  simp only [List.forall_mem_cons]
  refine⟨l,l,⟨⟨_,rfl⟩,fun ds e=>?_⟩,fun _ h=>by cases h⟩
  cases e
  refine⟨by simp,?_⟩
  simp only [List.forall_mem_cons]
  exact⟨l,l,fun _ h=>by cases h⟩
theorem lnk_ask {S:DH} {n:Int} {rs:List D} (hl:rs.length<=40) (h:∀ d∈rs,∃ i j q,d=rodF i j q):AskN 4 S (.tup [.int n,.tup [.int 0],.tup rs]):=by
  have l:∀ {n:Nat} {i:Int},AskN n S (.int i):=fun {n i}=>by cases n with | zero=>exact⟨_,rfl⟩ | succ n=>exact⟨⟨_,rfl⟩,fun _ e=>by cases e⟩
  refine⟨⟨_,rfl⟩,fun ds e=>?_⟩
  cases e
  refine⟨by simp,?_⟩
  simp only [List.forall_mem_cons]
  refine⟨l,⟨⟨_,rfl⟩,fun ds e=>?_⟩,⟨⟨_,rfl⟩,fun ds e=>?_⟩,fun _ h=>by cases h⟩
  · cases e
    refine⟨by decide,?_⟩
    simp only [List.forall_mem_cons]
    exact⟨l,fun _ h=>by cases h⟩
  · cases e
    refine⟨hl,fun d hd=>?_⟩
    obtain⟨i,j,q,rfl⟩:=h d hd
    exact leaf_ask3
def F_law (pT:Addr):DSp:=fun ds S k=>∃ ns:List Int,ds=[.rl (List.map D.int ns)]/\ns.length<=63/\S pT=some tb/\∀ S',k (.bl true) S'
theorem sc_law:FnScope ["script","k","state","by","linkage","place","middle","point","outer","inner","lead"] ["script"] (defScope s_law):=⟨rfl,rfl,rfl,by decide +kernel,rfl,by decide +kernel,by decide +kernel⟩
theorem ok_law {P:Program} {w:World} {K:Fg} {mg:Str->Option Value} {base:Heap} {f:Addr} {fd:FuncData} {cM_law cNoMeet pT_law:Addr} (Fn:Fun K "law" "law" s_law f fd) (c__law_state:Own P w K mg base "_law_state" 2 F__law_state) (c__law_plain_point:Own P w K mg base "_law_plain_point" 4 F__law_plain_point) (c__law_times:Own P w K mg base "_law_times" 3 F__law_times) (c__law_above:Own P w K mg base "_law_above" 3 F__law_above) (c__law_plus:Own P w K mg base "_law_plus" 3 F__law_plus) (c__law_small:Own P w K mg base "_law_small" 3 F__law_small) (c_inverting_linkage:Own P w K mg base "inverting_linkage" 1 F_inverting_linkage) (c__law_placed:OwnR P w K mg base "_law_placed" 44 (Fpl cNoMeet 43 P w K mg base)) (c__law_inverted:Own P w K mg base "_law_inverted" 42 F__law_inverted) (c__law_minus:Own P w K mg base "_law_minus" 3 F__law_minus) (c_first_wrong:Own P w K mg base "first_wrong" 41 F_first_wrong) (c_freedom:Own P w K mg base "freedom" 1 F_freedom) (c_is_linkage:Own P w K mg base "is_linkage" 6 F_is_linkage) (c_growing_linkage:Own P w K mg base "growing_linkage" 36 F_growing_linkage) (c_led:Own P w K mg base "led" 40 F_led) (cx_inverting_cell:OwnX P w K mg base "inverting_cell" 42 (FX_inverting_cell cNoMeet)) (cx_growing_cell:OwnX P w K mg base "growing_cell" 42 (FX_growing_cell cNoMeet)) (z_range:mg "range"=none) (z_max:mg "max"=none) (z_min:mg "min"=none) (z_len:mg "len"=none) (hfc:fd.code=.ref cM_law) (hCd:PySem.W.CodeHd base cM_law pT_law) (hBl:BltB mg base):
    FnOk P w K mg base CX0 45 f fd ["script"] (spU K (F_law pT_law)):=by
  refine Fn.okC hfc sc_law (fun ds S k h=>?_) (fun A outer s H E hr=>⟨_,(ds_consj (dst_forRj PassesOwn.never rfl rfl z_range (da_consj (d_callBj b_max rfl z_max bt_max (da_consj d_intj (da_consj (d_callBj b_min rfl z_min bt_min (da_consj (d_callBj b_lenE rfl z_len bt_len (da_consj (d_varj 0) da_nilj)) (da_consj d_intj da_nilj))) da_nilj))) da_nilj) (dg_namej (i:=1) sc_law.nd) (ds_consj (dst_setj (i:=2) sc_law.nd (d_callj c__law_state (hr.mono (by decide)) rfl (da_consj (d_varj 0) (da_consj (d_varj 1) da_nilj)))) (ds_consj (dst_asgj (d_tupj (da_consj (d_callj c__law_plain_point (hr.mono (by decide)) rfl (da_consj (d_varj 2) da_nilj)) (da_consj (d_callj c__law_plain_point (hr.mono (by decide)) rfl (da_consj (d_varj 2) da_nilj)) da_nilj))) (dg_seqE (n:=2) rfl (dgs_consj (dg_namej (i:=6) sc_law.nd) (dgs_consj (dg_namej (i:=7) sc_law.nd) dgs_nilj)))) (ds_consj (dst_asgj (d_tupj (da_consj (d_callj c__law_times (hr.mono (by decide)) rfl (da_consj (d_callj c__law_above (hr.mono (by decide)) rfl (da_consj (d_varj 2) da_nilj)) (da_consj (d_tupj (da_consj d_intj (da_consj d_intj da_nilj))) da_nilj))) (da_consj (d_callj c__law_times (hr.mono (by decide)) rfl (da_consj (d_callj c__law_above (hr.mono (by decide)) rfl (da_consj (d_varj 2) da_nilj)) (da_consj (d_tupj (da_consj d_intj (da_consj d_intj da_nilj))) da_nilj))) da_nilj))) (dg_seqE (n:=2) rfl (dgs_consj (dg_namej (i:=8) sc_law.nd) (dgs_consj (dg_namej (i:=9) sc_law.nd) dgs_nilj)))) (ds_consj (dst_ifj (dt_cmpj (o_eqX hr) (d_varj 8) (d_varj 9) (nomark _)) (ds_onej (dst_setj (i:=8) sc_law.nd (d_callj c__law_plus (hr.mono (by decide)) rfl (da_consj (d_varj 8) (da_consj (d_tupj (da_consj d_intj (da_consj d_intj da_nilj))) da_nilj))))) ds_nilj) (ds_consj (dst_setj (i:=3) sc_law.nd (d_callj c__law_small (hr.mono (by decide)) rfl (da_consj (d_varj 2) da_nilj))) (ds_consj (dst_ifj (dt_cmpj (o_inP hr) (d_varj 3) (d_tupj (da_consj (d_tupj (da_consj d_intj (da_consj d_intj da_nilj))) (da_consj (d_tupj (da_consj d_intj (da_consj d_intj da_nilj))) da_nilj))) (by with_unfolding_all rfl)) (ds_onej (dst_setj (i:=3) sc_law.nd (d_tupj (da_consj d_intj (da_consj d_intj da_nilj))))) ds_nilj) (ds_consj (dst_setj (i:=4) sc_law.nd (d_callj c_inverting_linkage (hr.mono (by decide)) rfl (da_consj (d_varj 8) (da_consj (d_varj 9) da_nilj)))) (ds_consj (dst_setj (i:=5) sc_law.nd (d_plLj rfl rfl c__law_placed (hr.mono (by decide)) rfl hCd hBl rfl (lamCap (N:=["middle","point","outer","inner"]) (cap:=[some 6,some 7,some 8,some 9]) rfl rfl rfl rfl rfl rfl ⟨rfl,rfl,rfl,rfl,trivial⟩ (fun _=>rfl) rfl ⟨⟨rfl,.inl rfl⟩,⟨rfl,.inl rfl⟩,⟨rfl,.inl rfl⟩,⟨rfl,.inl rfl⟩,trivial⟩) (fun _ _ _=>rfl) (fun g H ex A outer s cv hr=>(d_callLj cx_inverting_cell (hr.mono (by decide)) rfl (da_consj (d_varj 0) (da_consj (d_varj 1) (da_consj (d_varj 2) (da_consj (d_varj 3) da_nilj)))))))) (ds_consj (dst_ifj (dt_cmpj o_isNot (d_varj 5) d_nonj (nomark _)) (ds_onej (dst_ifj (WJ.pt (dw_orj (dt_cmpj o_isNot (d_callj c_first_wrong (hr.mono (by decide)) rfl (da_consj (d_varj 4) (da_consj (d_varj 5) da_nilj))) d_nonj (nomark _)) (dw_or1j (dt_notj (dt_valj (d_callj c__law_inverted (hr.mono (by decide)) rfl (da_consj (d_varj 5) (da_consj (d_callj c__law_minus (hr.mono (by decide)) rfl (da_consj (d_varj 8) (da_consj (d_varj 9) da_nilj))) da_nilj)))))))) (ds_onej (dst_retj d_blj)) ds_nilj)) ds_nilj) (ds_consj (dst_ifj (WJ.pt (dw_orj (dt_cmpj o_isNot (d_callj c_is_linkage (hr.mono (by decide)) rfl (da_consj (d_varj 4) da_nilj)) d_blj (nomark _)) (dw_or1j (dt_cmpj (o_neX hr) (d_callj c_freedom (hr.mono (by decide)) rfl (da_consj (d_varj 4) da_nilj)) d_intj (nomark _))))) (ds_onej (dst_retj d_blj)) ds_nilj) (ds_consj (dst_setj (i:=4) sc_law.nd (d_callj c_growing_linkage (hr.mono (by decide)) rfl (da_consj (d_varj 8) (da_consj (d_varj 9) (da_consj (d_varj 3) da_nilj))))) (ds_consj (dst_setj (i:=5) sc_law.nd (d_plLj rfl rfl c__law_placed (hr.mono (by decide)) rfl hCd hBl rfl (lamCap (N:=["middle","point","outer","inner","by"]) (cap:=[some 6,some 7,some 8,some 9,some 3]) rfl rfl rfl rfl rfl rfl ⟨rfl,rfl,rfl,rfl,rfl,trivial⟩ (fun _=>rfl) rfl ⟨⟨rfl,.inl rfl⟩,⟨rfl,.inl rfl⟩,⟨rfl,.inl rfl⟩,⟨rfl,.inl rfl⟩,⟨rfl,.inl rfl⟩,trivial⟩) (fun _ _ _=>rfl) (fun g H ex A outer s cv hr=>(d_callLj cx_growing_cell (hr.mono (by decide)) rfl (da_consj (d_varj 0) (da_consj (d_varj 1) (da_consj (d_varj 2) (da_consj (d_varj 3) (da_consj (d_varj 4) da_nilj))))))))) (ds_consj (dst_ifj (WJ.pt (dw_orj (dt_cmpj o_isNot (d_callj c_is_linkage (hr.mono (by decide)) rfl (da_consj (d_varj 4) da_nilj)) d_blj (nomark _)) (dw_or1j (dt_cmpj (o_neX hr) (d_callj c_freedom (hr.mono (by decide)) rfl (da_consj (d_varj 4) da_nilj)) d_intj (nomark _))))) (ds_onej (dst_retj d_blj)) ds_nilj) (ds_onej (dst_ifj (dt_cmpj o_isNot (d_varj 5) d_nonj (nomark _)) (ds_consj (dst_setj (i:=10) sc_law.nd (d_tupj (da_consj d_strj (da_consj (d_ixj x_ixE (d_ixj x_ixE (d_varj 6) d_intj (fun _ _=>rfl)) d_intj (fun _ _=>rfl)) (da_consj (d_ixj x_ixE (d_ixj x_ixE (d_varj 6) d_intj (fun _ _=>rfl)) d_intj (fun _ _=>rfl)) (da_consj (d_varj 3) da_nilj)))))) (ds_onej (dst_ifj (WJ.pt (dw_orj (dt_cmpj o_isNot (d_callj c_first_wrong (hr.mono (by decide)) rfl (da_consj (d_varj 4) (da_consj (d_varj 5) da_nilj))) d_nonj (nomark _)) (dw_or1j (dt_cmpj (o_neX hr) (d_callj c_led (hr.mono (by decide)) rfl (da_consj (d_lstj (da_consj (d_varj 10) da_nilj)) (da_consj (d_varj 7) da_nilj))) (d_ixj x_ixE (d_varj 5) d_intj (fun _ _=>rfl)) (nomark _))))) (ds_onej (dst_retj d_blj)) ds_nilj))) ds_nilj)))))))))))))))) (ds_onej (dst_retj d_blj))),fun ds S k h=>?_⟩)
  · obtain⟨_,rfl,_⟩:=h
    rfl
  · obtain⟨ns,rfl,hl,hT,w⟩:=h
    have hb:∀ z:Int,0<=z->z<=63->-(2 ^ 62)<=z/\z < 2 ^ 62:=fun z _ _=>by omega
    refine⟨hb _ (by split <;> (try split) <;> omega) (by rw [List.length_map]; split <;> (try split) <;> omega),?_⟩
    refine loop_all (P:=fun d=>∃ i:Int,d=.int i/\0<=i) (fun L S'=>(∃ r1 r2 r3 r4 r5 r6 r7 r8 r9 r10,L=[some (.rl (List.map D.int ns)),r1,r2,r3,r4,r5,r6,r7,r8,r9,r10])/\S' pT_law=some tb) (fun _ _ _=>trivial) ?_ (fun L S' _=>w S') _ ?_ _ _ ⟨⟨_,_,_,_,_,_,_,_,_,_,rfl⟩,hT⟩
    · rintro d L S1 Nx ⟨i,rfl,hi⟩ ⟨⟨r1,r2,r3,r4,r5,r6,r7,r8,r9,r10,rfl⟩,hT1⟩ hN
      refine⟨ns,i,rfl,hi,fun p n0 b hp hnb=>?_⟩
      have pT:pT_law≠p:=fun z=>by rw [z,hp] at hT1; cases hT1
      have hS:SOK (put S1 p (.lst [.int n0,.bl b])) p:=⟨n0,b,put_same,hnb⟩
      have t1:put S1 p (.lst [.int n0,.bl b]) pT_law=some tb:=by rw [put_ne pT]; exact hT1
      generalize put S1 p (.lst [.int n0,.bl b])=T1 at hS t1 ⊢
      refine⟨p,rfl,hS,fun x y T2 hx hy d2=>⟨p,rfl,d2.1,fun z v T3 hz hv d3=>⟨few,([PP x y,PP z v],none),rfl,rfl,rfl,?_⟩⟩⟩
      refine⟨p,rfl,d3.1,fun q1 T4 hq1 q1p d4=>⟨few,_,_,_,_,_,rfl,ne_1x q1,hq1.num.mono (by decide),hq1.den.mono (by decide),by decide,by decide,rfl,p,rfl,d4.1,fun q2 T5 hq2 q2p d5=>⟨few,_,_,_,_,_,rfl,ne_1x q2,hq2.num.mono (by decide),hq2.den.mono (by decide),by decide,by decide,rfl,few,([fr _,fr _],none),rfl,rfl,rfl,?_⟩⟩⟩
      have hs:=sz_cx (c:=4) hq1 (by decide)
      have hr:=sz_cx (c:=4) hq2 (by decide)
      have sp:0 < Rat.divInt (q1.num*4) ((q1.den:Int)*1):=dpos (by have:=num_pos q1p; omega) (by have:=q1.den_pos; omega)
      have rp:0 < Rat.divInt (q2.num*4) ((q2.den:Int)*1):=dpos (by have:=num_pos q2p; omega) (by have:=q2.den_pos; omega)
      generalize Rat.divInt (q1.num*4) ((q1.den:Int)*1)=s at hs sp ⊢
      generalize Rat.divInt (q2.num*4) ((q2.den:Int)*1)=r at hr rp ⊢
      have t5:=d5.2 _ _ pT (d4.2 _ _ pT (d3.2 _ _ pT (d2.2 _ _ pT t1)))
      have hS5:=d5.1
      clear d2 d3 d4 d5 q1p q2p hq1 hq2 t1 hS
      try dsimp only
      refine seq_ifx (fun L S'=>S'=T5/\∃ (s:Rat) (l1 l3 l4 l5 l10:Option D),L=[some (.rl (List.map D.int ns)),l1,some (.ref p),l3,l4,l5,some (PP x y),some (PP z v),some (fr s),some (fr r),l10]/\Sz 10 s/\0 < s/\s≠r) ?_ (fun go=>⟨_,eq_fr (n:=7),ite_b (fun he=>⟨few,?_⟩) (fun he=>go _ _ ⟨rfl,s,_,_,_,_,_,rfl,hs.mono (by decide),sp,of_decide_eq_false he⟩)⟩)
      · rintro L S' ⟨rfl,s,l1,l3,l4,l5,l10,rfl,hs,sp,sr⟩
        refine⟨p,rfl,hS5,fun a T6 ha d6=>?_⟩
        have t6:=d6.2 _ _ pT t5
        clear d6 hS5 t5
        try dsimp only
        refine seq_ifx (fun L S'=>S'=T6/\∃ (a:Rat) (l1 l4 l5 l10:Option D),L=[some (.rl (List.map D.int ns)),l1,some (.ref p),some (fr a),l4,l5,some (PP x y),some (PP z v),some (fr s),some (fr r),l10]/\Sz 4 a/\a≠0/\a≠1) ?_ (fun go=>⟨few,few,few,(a.num,(a.den:Int)),[(0,1),(1,1)],rfl,rfl,ite_dec (fun _=>⟨few,go _ _ ⟨rfl,⟨3,2,by decide,by decide⟩,_,_,_,_,rfl,⟨by decide,by decide⟩,by decide,by decide⟩⟩) (fun h=>go _ _ ⟨rfl,a,_,_,_,_,rfl,ha,fun z=>h (by rw [z]; exact List.mem_cons_self),fun z=>h (by rw [z]; exact List.mem_cons_of_mem _ List.mem_cons_self)⟩)⟩)
        rintro L T6 ⟨rfl,a,l1,l4,l5,l10,rfl,ha,a0,a1⟩
        have dsz:Sz 24 (s - r):=(hs.sub hr).mono (by decide)
        have dne:s - r≠0:=fun z=>sr (by grind)
        have sqo:∀ {n:Nat} {q:Rat},Sz n q->n<=600->Sq 7000 (qo q):=fun h hn=>⟨h.mono (by omega),Sz.zero.mono (by decide)⟩
        refine⟨s,r,rfl,?_⟩
        refine pl_inv t6 rfl hx hy hz hv (hs.mono (by decide)) (hr.mono (by decide)) fun d S7 e7 hd=>?_
        try dsimp only
        refine seq_ifx (fun L S'=>Ext T6 S'/\∃ (l5:Option D),L=[some (.rl (List.map D.int ns)),l1,some (.ref p),some (fr a),some (invD s r),l5,some (PP x y),some (PP z v),some (fr s),some (fr r),l10]) ?_ (fun go=>?_)
        · rintro L S8 ⟨e8,l5,rfl⟩
          refine⟨_,rfl,lnk_ask (by show(6:Nat)<=40; decide) (fun d hd=>?_),fun S9 e9=>?_⟩
          · simp only [List.mem_cons,List.not_mem_nil,or_false] at hd
            rcases hd with rfl | rfl | rfl | rfl | rfl | rfl <;> exact⟨_,_,_,rfl⟩
          rw [inv_lnk sp rp]
          refine⟨5,invR s r,rfl,by decide,true,rfl,?_⟩
          refine⟨s,r,a,rfl,hs,hr.mono (by decide),ha,?_⟩
          refine pl_gro (e9 _ _ (e8 _ _ t6)) rfl hx hy hz hv hs (hr.mono (by decide)) ha fun d S10 e10 hd=>?_
          refine⟨_,rfl,lnk_ask (by show(8:Nat)<=40; decide) (fun d hd=>?_),fun S11 e11=>?_⟩
          · simp only [List.mem_cons,List.not_mem_nil,or_false] at hd
            rcases hd with rfl | rfl | rfl | rfl | rfl | rfl | rfl | rfl <;> exact⟨_,_,_,rfl⟩
          rw [gro_lnk sp rp a0 a1]
          refine⟨6,groR s r a,rfl,by decide,true,rfl,?_⟩
          have t11:=e11 _ _ (e10 _ _ (e9 _ _ (e8 _ _ t6)))
          rcases hd with rfl | ⟨h0,e0,u,X,Y,fd,hX,hY,⟨w',ro,xe,ye⟩,rfl⟩
          · exact hN _ _ ⟨⟨_,_,_,_,_,_,_,_,_,_,rfl⟩,t11⟩
          · have sq1:squareQ u (qs X (qo x)) (qs Y (qo y))=(s,0)/\squareQ u (qs X (qo z)) (qs Y (qo v))=(r,0):=by
              obtain⟨a1,a2,_⟩:=ends_at (σ:=1) h0 ro (by grind)
              rw [ex_one,ey_one,<- xe,<- ye] at a1 a2
              exact⟨a1,a2⟩
            have o1:Sz 1 (1:Rat):=⟨by decide,by decide⟩
            have gx:Sq 7000 (grX a x X):=⟨(hx.add (ha.mul (hX.a.sub hx))).mono (by decide),(ha.mul hX.b).mono (by decide)⟩
            have gy:Sq 7000 (grX a y Y):=⟨(hy.add (ha.mul (hY.a.sub hy))).mono (by decide),(ha.mul hY.b).mono (by decide)⟩
            have cx:Sq 7000 (crX a x z X):=⟨((hx.add (ha.mul (hX.a.sub hx))).add (hz.sub hX.a)).mono (by decide),((ha.mul hX.b).add (Sz.zero.sub hX.b)).mono (by decide)⟩
            have cy:Sq 7000 (crX a y v Y):=⟨((hy.add (ha.mul (hY.a.sub hy))).add (hv.sub hY.a)).mono (by decide),((ha.mul hY.b).add (Sz.zero.sub hY.b)).mono (by decide)⟩
            have px:Sz 30 (x+a*(z - x)):=(hx.add (ha.mul (hz.sub hx))).mono (by decide)
            have py:Sz 30 (y+a*(v - y)):=(hy.add (ha.mul (hv.sub hy))).mono (by decide)
            refine⟨few,u,.int 6,.tup [.int 0],groP X Y x y z v a,groRs s r a,?_,fd,?_,by show(6:Nat)<=90; decide,?_,fun S12 e12=>?_⟩
            · unfold groP groRs grP
              simp only [List.map_cons,List.map_nil,Rod.d,ptD]
              rw [<- pp_as,<- pp_as,<- pp_as]
              rfl
            · unfold groP
              simp only [List.forall_mem_cons]
              exact⟨⟨sqo hx (by decide),sqo hy (by decide)⟩,⟨sqo hz (by decide),sqo hv (by decide)⟩,⟨hX.mono (by decide),hY.mono (by decide)⟩,⟨gx,gy⟩,⟨cx,cy⟩,⟨sqo px (by decide),sqo py (by decide)⟩,fun _ h=>by cases h⟩
            · unfold groRs
              simp only [List.forall_mem_cons]
              exact⟨⟨by show 0 < 6; decide,by show 2 < 6; decide⟩,⟨by show 0 < 6; decide,by show 3 < 6; decide⟩,⟨by show 1 < 6; decide,by show 2 < 6; decide⟩,⟨by show 1 < 6; decide,by show 4 < 6; decide⟩,⟨by show 2 < 6; decide,by show 3 < 6; decide⟩,⟨by show 3 < 6; decide,by show 4 < 6; decide⟩,⟨by show 3 < 6; decide,by show 5 < 6; decide⟩,⟨by show 4 < 6; decide,by show 5 < 6; decide⟩,fun _ h=>by cases h⟩
            · rw [bad_none (gro_right sq1.1 sq1.2)]
              have z0:Sz 1000 (0:Rat):=Sz.zero.mono (by decide)
              refine⟨few,fun p3 hp3=>⟨((2:Int):Rat),(qo z,qo v),(qo (x+a*(z - x)),qo (y+a*(v - y))),.ref p3,[.grow x y a],congrArg (fun t=>[D.ref p3,t]) pp_as,.inr ⟨p3,rfl,put_same⟩,two_fd,two_sz,hz.mono (by decide),z0,hv.mono (by decide),z0,by show 1<=6; decide,one_ld a0 ⟨hx.mono (by decide),hy.mono (by decide),ha.mono (by decide)⟩,ld_grow,fun S13 e13=>⟨_,eq_PQ,ite_nb (fun h=>?_) (fun h=>?_)⟩⟩⟩
              · simp at h
              · exact hN _ _ ⟨⟨_,_,_,_,_,_,_,_,_,_,rfl⟩,e13 _ _ (Ext.new hp3 _ _ (e12 _ _ t11))⟩
        · rcases hd with rfl | ⟨h0,e0,c,d,ec,rfl⟩
          · exact go _ _ ⟨e7,_,rfl⟩
          · obtain⟨u,w',ro,ec2,sz⟩:=two_ends h0 e0 hx hy hz hv hs (hr.mono (by decide))
            rw [ec2] at ec
            cases ec
            have hA:aA x y z v=(z - x)*(z - x)+(v - y)*(v - y):=rfl
            have sA:Sz 40 (aA x y z v):=(((hz.sub hx).mul (hz.sub hx)).add ((hv.sub hy).mul (hv.sub hy))).mono (by decide)
            have st:=dsz.div sA h0
            have sX:Sz 100 (penX x y z v s r):=(hx.add ((hz.sub hx).mul st)).mono (by decide)
            have sY:Sz 100 (penY x y z v s r):=(hy.add ((hv.sub hy).mul st)).mono (by decide)
            refine⟨u,.int 5,.tup [.int 0],invP x y s z v r w',invRs s r,?_,ro.fd,?_,by show(5:Nat)<=90; decide,?_,fun S8 e8=>?_⟩
            · unfold invP invRs
              simp only [List.map_cons,List.map_nil,Rod.d,ptD]
              rw [<- pp_as,<- pp_as,<- pp_as]
              rfl
            · unfold invP
              simp only [List.forall_mem_cons]
              exact⟨⟨sqo hx (by decide),sqo hy (by decide)⟩,⟨sqo hz (by decide),sqo hv (by decide)⟩,⟨(sz 1 (.inl rfl)).1.mono (by decide),(sz 1 (.inl rfl)).2.mono (by decide)⟩,⟨(sz (-1) (.inr rfl)).1.mono (by decide),(sz (-1) (.inr rfl)).2.mono (by decide)⟩,⟨sqo sX (by decide),sqo sY (by decide)⟩,fun _ h=>by cases h⟩
            · unfold invRs
              simp only [List.forall_mem_cons]
              exact⟨⟨by show 0 < 5; decide,by show 2 < 5; decide⟩,⟨by show 0 < 5; decide,by show 3 < 5; decide⟩,⟨by show 1 < 5; decide,by show 2 < 5; decide⟩,⟨by show 1 < 5; decide,by show 3 < 5; decide⟩,⟨by show 2 < 5; decide,by show 4 < 5; decide⟩,⟨by show 3 < 5; decide,by show 4 < 5; decide⟩,fun _ h=>by cases h⟩
            · rw [bad_none (inv_right h0 ro)]
              refine⟨s,r,rfl,hs.mono (by decide),hr.mono (by decide),x,y,z,v,s - r,_,_,rfl,h0,dne,hx,hy,hz,hv,dsz,fun S9 e9=>go _ _ ⟨e7.trans (e8.trans e9),_,rfl⟩⟩
      · have he':s=r:=of_decide_eq_true he
        refine⟨_,_,_,_,_,rfl,ne_1x s,hs.num.mono (by decide),hs.den.mono (by decide),by decide,by decide,add_of s 1,go _ _ ⟨rfl,s+1,_,_,_,_,_,rfl,(hs.add (Sz.mono (m:=1) ⟨by decide,by decide⟩ (Nat.le_refl 1))).mono (by decide),by grind,by grind⟩⟩
    · intro d hd
      obtain⟨z,_,rfl⟩:=List.mem_map.mp hd
      exact⟨_,rfl,by omega⟩
theorem law_ask (pT:Addr) (ns:List Int) (h:ns.length<=63):F_law pT [.rl (List.map D.int ns)] (tab0 [(pT,lamQ)]) (fun d _=>d=.bl true):=⟨ns,rfl,h,by simp [tab0],fun _=>rfl⟩
end My
def PySem.W.Fast.tw17777154657606165846:Unit:=()
def PySem.W.Fast.tw11802903478260085073:Unit:=()
def PySem.W.Fast.tw11286140085053576989:Unit:=()
def PySem.W.Fast.tw3343721513841752076:Unit:=()
def PySem.W.Fast.tw13718699918821963024:Unit:=()
def PySem.W.Fast.tw11964763749016335672:Unit:=()
def PySem.W.Fast.tw12713759570965048377:Unit:=()
def PySem.W.Fast.tw17555296369579606169:Unit:=()
def PySem.W.Fast.tw4376707226649846652:Unit:=()
def PySem.W.Fast.tw12034332079028712079:Unit:=()
def PySem.W.Fast.tw5433513474201096574:Unit:=()
def PySem.W.Fast.tw12737274364392931149:Unit:=()
def PySem.W.Fast.tw198043613643417876:Unit:=()
def PySem.W.Fast.tw17649351328024871101:Unit:=()
def PySem.W.Fast.tw5223086997512678989:Unit:=()
def PySem.W.Fast.tw10096114591955835684:Unit:=()
def PySem.W.Fast.tw8630691297746302574:Unit:=()
def PySem.W.Fast.tw2639046554822433224:Unit:=()
def PySem.W.Fast.tw11178566407151601579:Unit:=()
def PySem.W.Fast.tw5918099312150573706:Unit:=()
def PySem.W.Fast.tw13807726954954574408:Unit:=()
def PySem.W.Fast.tw10348784740299051719:Unit:=()
namespace My
open PySem PySem.Spec PyProof.Rows L2 DL HM
set_option maxHeartbeats 4000000
theorem all_mk {l:PySem.W.OpenLaw} {w:World} {K:Fg} {h:Heap} {mg:Str->Option Value} {fa:Addr} (X:K.In h) (G:h.Ns mainGlobals mg) (hfa:mg "law"=some (.ref fa))
    {f1 f2 f3 f4 f5 f6 f7 f8 f9 f10 f11 f12 f13 f14 f15 f16 f17 f18 f19 f20 f21 f22 f23 f24 f25 f26 f27 f28 f29 f30 f31 f32 f33 f34 f35 f36 f37 f38 f39 f40 f41 f42 f43 f44 f45 f46 f47 f48 f49 f50 f51 f52 f53 f54 f55 f56 f57 f58 f59 f60 f61 f62 f63 f64 f65 f66 f67 f68 f69 f70 f71 f72 f73 f74 f75 f76 f77 f78 f79 f80 f81 f82 f83 f84 f85 f86:Addr} {cd1 cd2 cd3 cd4 cd5 cd6 cd7 cd8 cd9 cd10 cd11 cd12 cd13 cd14 cd15 cd16 cd17 cd18 cd19 cd20 cd21 cd22 cd23 cd24 cd25 cd26 cd27 cd28 cd29 cd30 cd31 cd32 cd33 cd34 cd35 cd36 cd37 cd38 cd39 cd40 cd41 cd42 cd43 cd44 cd45 cd46 cd47 cd48 cd49 cd50 cd51 cd52 cd53 cd54 cd55 cd56 cd57 cd58 cd59 cd60 cd61 cd62 cd63 cd64 cd65 cd66 cd67 cd68 cd69 cd70 cd71 cd72 cd73 cd74 cd75 cd76 cd77 cd78 cd79 cd80 cd81 cd82 cd83 cd84 cd85 cd86:Value}
    {ti_MOST_RODS:Tok}
    {ti_MOST_JOINTS:Tok}
     {p_ORIGIN:Addr} {od_ORIGIN:Option Addr} {sl_ORIGIN:Array (Option Value)} {n_ORIGIN:Nat} {p0_ORIGIN:Addr} {od0_ORIGIN:Option Addr} {sl0_ORIGIN:Array (Option Value)} {n0_ORIGIN:Nat} {t0_0_ORIGIN t1_0_ORIGIN:Tok} {p1_ORIGIN:Addr} {od1_ORIGIN:Option Addr} {sl1_ORIGIN:Array (Option Value)} {n1_ORIGIN:Nat} {t0_1_ORIGIN t1_1_ORIGIN:Tok}
    {p_NOUGHT:Addr} {od_NOUGHT:Option Addr} {sl_NOUGHT:Array (Option Value)} {n_NOUGHT:Nat} {t0_NOUGHT t1_NOUGHT:Tok}
    {p_ONE:Addr} {od_ONE:Option Addr} {sl_ONE:Array (Option Value)} {n_ONE:Nat} {t0_ONE t1_ONE:Tok}
    {cNoMeet:Addr}
    {cNoQuotient:Addr}
    (d1:DI K "common_divisor" s_common_divisor f1 cd1)
    (d2:DI K "ratio" s_ratio f2 cd2)
    (d3:DI K "plus" s_plus f3 cd3)
    (d4:DI K "minus" s_minus f4 cd4)
    (d5:DI K "times" s_times f5 cd5)
    (d6:DI K "over" s_over f6 cd6)
    (d7:DI K "negative" s_negative f7 cd7)
    (d8:DI K "without_sign" s_without_sign f8 cd8)
    (d9:DI K "whole_root" s_whole_root f9 cd9)
    (d10:DI K "square_root_or_none" s_square_root_or_none f10 cd10)
    (d11:DI K "root_in" s_root_in f11 cd11)
    (d12:DI K "is_plain" s_is_plain f12 cd12)
    (d13:DI K "with_sign_of" s_with_sign_of f13 cd13)
    (d14:DI K "made" s_made f14 cd14)
    (d15:DI K "field_base" s_field_base f15 cd15)
    (d16:DI K "share" s_share f16 cd16)
    (d17:DI K "joined" s_joined f17 cd17)
    (d18:DI K "root_negative" s_root_negative f18 cd18)
    (d19:DI K "root_plus" s_root_plus f19 cd19)
    (d20:DI K "root_minus" s_root_minus f20 cd20)
    (d21:DI K "root_times" s_root_times f21 cd21)
    (d22:DI K "sign_of" s_sign_of f22 cd22)
    (d23:DI K "root_sign" s_root_sign f23 cd23)
    (d24:DI K "one_field" s_one_field f24 cd24)
    (d25:DI K "ask_one_field" s_ask_one_field f25 cd25)
    (d26:DI K "way_between" s_way_between f26 cd26)
    (d27:DI K "square_of_way" s_square_of_way f27 cd27)
    (d28:DI K "square_apart" s_square_apart f28 cd28)
    (d29:DI K "like_at" s_like_at f29 cd29)
    (d30:DI K "side_of" s_side_of f30 cd30)
    (d31:DI K "plain_point" s_plain_point f31 cd31)
    (d32:DI K "place_of" s_place_of f32 cd32)
    (d33:DI K "plain_way" s_plain_way f33 cd33)
    (d34:DI K "product_of_ways" s_product_of_ways f34 cd34)
    (d35:DI K "moved" s_moved f35 cd35)
    (d36:DI K "moved_by_root" s_moved_by_root f36 cd36)
    (d37:DI K "both_moved" s_both_moved f37 cd37)
    (d38:DI K "square_of_unlike" s_square_of_unlike f38 cd38)
    (d39:DI K "common_multiple" s_common_multiple f39 cd39)
    (d40:DI K "common_bottom" s_common_bottom f40 cd40)
    (d41:DI K "surd_times" s_surd_times f41 cd41)
    (d42:DI K "surd_plus" s_surd_plus f42 cd42)
    (d43:DI K "way_times" s_way_times f43 cd43)
    (d44:DI K "way_plus" s_way_plus f44 cd44)
    (d45:DI K "way_minus" s_way_minus f45 cd45)
    (d46:DI K "way_mirrored" s_way_mirrored f46 cd46)
    (d47:DI K "wholes_over" s_wholes_over f47 cd47)
    (d48:DI K "turned" s_turned f48 cd48)
    (d49:DI K "surd_over" s_surd_over f49 cd49)
    (d50:DI K "quotient_of" s_quotient_of f50 cd50)
    (d51:DI K "quotient_moved" s_quotient_moved f51 cd51)
    (d52:DI K "quotient_inverted" s_quotient_inverted f52 cd52)
    (d53:DI K "flat" s_flat f53 cd53)
    (d54:DI K "point_of" s_point_of f54 cd54)
    (d55:DI K "led" s_led f55 cd55)
    (d56:DI K "_law_cell_at" s__law_cell_at f56 cd56)
    (d57:DI K "_law_state" s__law_state f57 cd57)
    (d58:DI K "_law_take" s__law_take f58 cd58)
    (d59:DI K "_law_divisor" s__law_divisor f59 cd59)
    (d60:DI K "_law_ratio" s__law_ratio f60 cd60)
    (d61:DI K "_law_times" s__law_times f61 cd61)
    (d62:DI K "_law_small" s__law_small f62 cd62)
    (d63:DI K "_law_plus" s__law_plus f63 cd63)
    (d64:DI K "_law_minus" s__law_minus f64 cd64)
    (d65:DI K "is_whole" s_is_whole f65 cd65)
    (d66:DI K "is_fraction" s_is_fraction f66 cd66)
    (d67:DI K "is_above_nought" s_is_above_nought f67 cd67)
    (d68:DI K "is_joint" s_is_joint f68 cd68)
    (d69:DI K "is_rod" s_is_rod f69 cd69)
    (d70:DI K "are_fixed" s_are_fixed f70 cd70)
    (d71:DI K "are_rods" s_are_rods f71 cd71)
    (d72:DI K "is_linkage" s_is_linkage f72 cd72)
    (d73:DI K "circles_meet" s_circles_meet f73 cd73)
    (d74:DI K "inverting_linkage" s_inverting_linkage f74 cd74)
    (d75:DI K "both_ends" s_both_ends f75 cd75)
    (d76:DI K "inverting_cell" s_inverting_cell f76 cd76)
    (d77:DI K "growing_linkage" s_growing_linkage f77 cd77)
    (d78:DI K "growing_cell" s_growing_cell f78 cd78)
    (d79:DI K "first_wrong" s_first_wrong f79 cd79)
    (d80:DI K "freedom" s_freedom f80 cd80)
    (d81:DI K "_law_above" s__law_above f81 cd81)
    (d82:DI K "_law_plain" s__law_plain f82 cd82)
    (d83:DI K "_law_plain_point" s__law_plain_point f83 cd83)
    (d84:DI K "_law_placed" s__law_placed f84 cd84)
    (d85:DI K "_law_inverted" s__law_inverted f85 cd85)
    (d86:DI K "law" s_law f86 cd86)
    (hk_law:cd86=.ref 666)
    (ag_MOST_RODS:PySem.W.nsIn K mainGlobals "MOST_RODS"=some (some (.int 12 ti_MOST_RODS)))
    (ag_MOST_JOINTS:PySem.W.nsIn K mainGlobals "MOST_JOINTS"=some (some (.int 8 ti_MOST_JOINTS)))
    (ag_ORIGIN:PySem.W.nsIn K mainGlobals "ORIGIN"=some (some (.ref p_ORIGIN))) (lg_ORIGIN:K.lookup p_ORIGIN=some ⟨.type "tuple",od_ORIGIN,.seq #[.ref p0_ORIGIN,.ref p1_ORIGIN] n_ORIGIN,sl_ORIGIN⟩) (lg0_ORIGIN:K.lookup p0_ORIGIN=some ⟨.type "tuple",od0_ORIGIN,.seq #[.int 0 t0_0_ORIGIN,.int 1 t1_0_ORIGIN] n0_ORIGIN,sl0_ORIGIN⟩) (lg1_ORIGIN:K.lookup p1_ORIGIN=some ⟨.type "tuple",od1_ORIGIN,.seq #[.int 0 t0_1_ORIGIN,.int 1 t1_1_ORIGIN] n1_ORIGIN,sl1_ORIGIN⟩)
    (ag_NOUGHT:PySem.W.nsIn K mainGlobals "NOUGHT"=some (some (.ref p_NOUGHT))) (lg_NOUGHT:K.lookup p_NOUGHT=some ⟨.type "tuple",od_NOUGHT,.seq #[.int 0 t0_NOUGHT,.int 1 t1_NOUGHT] n_NOUGHT,sl_NOUGHT⟩)
    (ag_ONE:PySem.W.nsIn K mainGlobals "ONE"=some (some (.ref p_ONE))) (lg_ONE:K.lookup p_ONE=some ⟨.type "tuple",od_ONE,.seq #[.int 1 t0_ONE,.int 1 t1_ONE] n_ONE,sl_ONE⟩)
    (ac_NoMeet:PySem.W.nsIn K mainGlobals "NoMeet"=some (some (.ref cNoMeet)))
    (ac_NoQuotient:PySem.W.nsIn K mainGlobals "NoQuotient"=some (some (.ref cNoQuotient)))
    (eq_NoQuotient:PySem.W.excIn K cNoQuotient [.type "ValueError",.type "Exception",.type "BaseException",.type "object"] "ValueError.__new__"=true)
    (eq_NoMeet:PySem.W.excIn K cNoMeet [.type "ValueError",.type "Exception",.type "BaseException",.type "object"] "ValueError.__new__"=true)
    (xm_NoMeet:PySem.W.exmOne K (.ref cNoMeet) (.ref cNoMeet)=some true)
    (hTr:l.prog.given.tree=none)
    (y_abs:PySem.W.nsIn K mainGlobals "abs"=some none) (y_zip:PySem.W.nsIn K mainGlobals "zip"=some none) (y_len:PySem.W.nsIn K mainGlobals "len"=some none) (y_isinstance:PySem.W.nsIn K mainGlobals "isinstance"=some none) (y_bool:PySem.W.nsIn K mainGlobals "bool"=some none) (y_int:PySem.W.nsIn K mainGlobals "int"=some none) (y_tuple:PySem.W.nsIn K mainGlobals "tuple"=some none) (y_all:PySem.W.nsIn K mainGlobals "all"=some none) (y_range:PySem.W.nsIn K mainGlobals "range"=some none) (y_enumerate:PySem.W.nsIn K mainGlobals "enumerate"=some none) (y_max:PySem.W.nsIn K mainGlobals "max"=some none) (y_min:PySem.W.nsIn K mainGlobals "min"=some none):
    ∃ fd:FuncData,(∀ (s:Shared) (v:Value),BindsTo s fd ⟨[v],[]⟩ [("script",v)])/\∀ base:Heap,K.In base->base.Ns mainGlobals mg->BltB mg base->PySem.W.CodeAll [(666,662)] base->FnOk l.prog w K mg base CX0 45 fa fd ["script"] (spU K (F_law 662)):=by
  have e:=hfa.symm.trans (PySem.W.mg_of X G d86.a)
  cases e
  have z_abs:=PySem.W.mg_none_of X G y_abs
  have z_zip:=PySem.W.mg_none_of X G y_zip
  have z_len:=PySem.W.mg_none_of X G y_len
  have z_isinstance:=PySem.W.mg_none_of X G y_isinstance
  have z_bool:=PySem.W.mg_none_of X G y_bool
  have z_int:=PySem.W.mg_none_of X G y_int
  have z_tuple:=PySem.W.mg_none_of X G y_tuple
  have z_all:=PySem.W.mg_none_of X G y_all
  have z_range:=PySem.W.mg_none_of X G y_range
  have z_enumerate:=PySem.W.mg_none_of X G y_enumerate
  have z_max:=PySem.W.mg_none_of X G y_max
  have z_min:=PySem.W.mg_none_of X G y_min
  have m_NoMeet:=PySem.W.mg_of X G ac_NoMeet
  have m_NoQuotient:=PySem.W.mg_of X G ac_NoQuotient
  have g_MOST_RODS:GInt mg "MOST_RODS" 12:=⟨_,PySem.W.mg_of X G ag_MOST_RODS⟩
  have g_MOST_JOINTS:GInt mg "MOST_JOINTS" 8:=⟨_,PySem.W.mg_of X G ag_MOST_JOINTS⟩
  have g_ORIGIN:GTup2 K mg "ORIGIN" [[0,1],[0,1]]:=⟨p_ORIGIN,_,_,_,PySem.W.mg_of X G ag_ORIGIN,lg_ORIGIN,rfl,rfl,Nat.le_of_ble_eq_true rfl,.cons lg0_ORIGIN rfl rfl (Nat.le_of_ble_eq_true rfl) (.cons ⟨_,rfl⟩ (.cons ⟨_,rfl⟩ (.nil))) (.cons lg1_ORIGIN rfl rfl (Nat.le_of_ble_eq_true rfl) (.cons ⟨_,rfl⟩ (.cons ⟨_,rfl⟩ (.nil))) (.nil))⟩
  have g_NOUGHT:GTup K mg "NOUGHT" [0,1]:=⟨p_NOUGHT,_,_,_,PySem.W.mg_of X G ag_NOUGHT,lg_NOUGHT,rfl,rfl,Nat.le_of_ble_eq_true rfl,.cons ⟨_,rfl⟩ (.cons ⟨_,rfl⟩ (.nil))⟩
  have g_ONE:GTup K mg "ONE" [1,1]:=⟨p_ONE,_,_,_,PySem.W.mg_of X G ag_ONE,lg_ONE,rfl,rfl,Nat.le_of_ble_eq_true rfl,.cons ⟨_,rfl⟩ (.cons ⟨_,rfl⟩ (.nil))⟩
  obtain⟨fd,Fn,hc,hb⟩:=d86.fn
  refine⟨fd,hb,fun base _ _ hBl hCA=>?_⟩
  have hCd_law:PySem.W.CodeHd base 666 662:=hCA.1
  have c_common_divisor:=d1.own (P:=l.prog) (w:=w) (base:=base) (ps:=["one","other"]) (k:=1) (F:=F_common_divisor) X G fun _ F _=>ok_common_divisor F z_abs
  have c_ratio:=d2.own (P:=l.prog) (w:=w) (base:=base) (ps:=["top","bottom"]) (k:=34) (F:=F_ratio) X G fun _ F _=>ok_ratio F c_common_divisor hBl hTr
  have c_plus:=d3.own (P:=l.prog) (w:=w) (base:=base) (ps:=["one","other"]) (k:=35) (F:=F_plus) X G fun _ F _=>ok_plus F c_ratio
  have c_minus:=d4.own (P:=l.prog) (w:=w) (base:=base) (ps:=["one","other"]) (k:=35) (F:=F_minus) X G fun _ F _=>ok_minus F c_ratio
  have c_times:=d5.own (P:=l.prog) (w:=w) (base:=base) (ps:=["one","other"]) (k:=35) (F:=F_times) X G fun _ F _=>ok_times F c_ratio
  have c_over:=d6.own (P:=l.prog) (w:=w) (base:=base) (ps:=["one","other"]) (k:=35) (F:=F_over) X G fun _ F _=>ok_over F c_ratio
  have c_negative:=d7.own (P:=l.prog) (w:=w) (base:=base) (ps:=["one"]) (k:=1) (F:=F_negative) X G fun _ F _=>ok_negative F
  have c_without_sign:=d8.own (P:=l.prog) (w:=w) (base:=base) (ps:=["one"]) (k:=1) (F:=F_without_sign) X G fun _ F _=>ok_without_sign F z_abs
  have c_whole_root:=d9.own (P:=l.prog) (w:=w) (base:=base) (ps:=["number"]) (k:=34) (F:=F_whole_root) X G fun _ F _=>ok_whole_root F hBl hTr
  have c_square_root_or_none:=d10.own (P:=l.prog) (w:=w) (base:=base) (ps:=["number"]) (k:=35) (F:=F_square_root_or_none) X G fun _ F _=>ok_square_root_or_none F c_whole_root
  have c_root_in:=d11.own (P:=l.prog) (w:=w) (base:=base) (ps:=["one"]) (k:=36) (F:=F_root_in) X G fun _ F _=>ok_root_in F c_square_root_or_none
  have c_is_plain:=d12.own (P:=l.prog) (w:=w) (base:=base) (ps:=["one"]) (k:=1) (F:=F_is_plain) X G fun _ F _=>ok_is_plain F
  have c_with_sign_of:=d13.own (P:=l.prog) (w:=w) (base:=base) (ps:=["one","other"]) (k:=2) (F:=F_with_sign_of) X G fun _ F _=>ok_with_sign_of F c_negative
  have c_made:=d14.own (P:=l.prog) (w:=w) (base:=base) (ps:=["part","under"]) (k:=37) (F:=F_made) X G fun _ F _=>ok_made F c_root_in c_without_sign c_plus c_with_sign_of g_NOUGHT
  have c_field_base:=d15.own (P:=l.prog) (w:=w) (base:=base) (ps:=["one","other"]) (k:=2) (F:=F_field_base) X G fun _ F _=>ok_field_base F c_without_sign c_is_plain
  have c_share:=d16.own (P:=l.prog) (w:=w) (base:=base) (ps:=["one","base"]) (k:=37) (F:=F_share) X G fun _ F _=>ok_share F c_is_plain c_root_in c_over c_without_sign c_with_sign_of g_NOUGHT
  have c_joined:=d17.own (P:=l.prog) (w:=w) (base:=base) (ps:=["part","portion","base"]) (k:=36) (F:=F_joined) X G fun _ F _=>ok_joined F c_times c_with_sign_of
  have c_root_negative:=d18.own (P:=l.prog) (w:=w) (base:=base) (ps:=["one"]) (k:=2) (F:=F_root_negative) X G fun _ F _=>ok_root_negative F c_negative
  have c_root_plus:=d19.own (P:=l.prog) (w:=w) (base:=base) (ps:=["one","other"]) (k:=38) (F:=F_root_plus) X G fun _ F _=>ok_root_plus F c_field_base c_plus c_share c_joined
  have c_root_minus:=d20.own (P:=l.prog) (w:=w) (base:=base) (ps:=["one","other"]) (k:=39) (F:=F_root_minus) X G fun _ F _=>ok_root_minus F c_root_plus c_root_negative
  have c_root_times:=d21.own (P:=l.prog) (w:=w) (base:=base) (ps:=["one","other"]) (k:=38) (F:=F_root_times) X G fun _ F _=>ok_root_times F c_field_base c_share c_plus c_times c_joined
  have c_sign_of:=d22.own (P:=l.prog) (w:=w) (base:=base) (ps:=["number"]) (k:=1) (F:=F_sign_of) X G fun _ F _=>ok_sign_of F
  have c_root_sign:=d23.own (P:=l.prog) (w:=w) (base:=base) (ps:=["one"]) (k:=36) (F:=F_root_sign) X G fun _ F _=>ok_root_sign F c_minus c_without_sign c_times c_sign_of
  have c_one_field:=d24.own (P:=l.prog) (w:=w) (base:=base) (ps:=["one","other"]) (k:=37) (F:=F_one_field) X G fun _ F _=>ok_one_field F c_is_plain c_root_in c_over c_without_sign
  have c_ask_one_field:=d25.own (P:=l.prog) (w:=w) (base:=base) (ps:=["points"]) (k:=38) (F:=F_ask_one_field) X G fun _ F _=>ok_ask_one_field F c_is_plain c_one_field
  have c_way_between:=d26.own (P:=l.prog) (w:=w) (base:=base) (ps:=["one","other"]) (k:=40) (F:=F_way_between) X G fun _ F _=>ok_way_between F c_root_minus
  have c_square_of_way:=d27.own (P:=l.prog) (w:=w) (base:=base) (ps:=["way"]) (k:=39) (F:=F_square_of_way) X G fun _ F _=>ok_square_of_way F c_root_plus c_root_times
  have c_square_apart:=d28.own (P:=l.prog) (w:=w) (base:=base) (ps:=["one","other"]) (k:=41) (F:=F_square_apart) X G fun _ F _=>ok_square_apart F c_ask_one_field c_square_of_way c_way_between
  have c_like_at:=d29.own (P:=l.prog) (w:=w) (base:=base) (ps:=["one","other","along","left"]) (k:=41) (F:=F_like_at) X G fun _ F _=>ok_like_at F c_ask_one_field c_way_between c_root_minus c_root_times c_root_plus g_NOUGHT
  have c_side_of:=d30.own (P:=l.prog) (w:=w) (base:=base) (ps:=["one","other","third"]) (k:=41) (F:=F_side_of) X G fun _ F _=>ok_side_of F c_ask_one_field c_way_between c_root_sign c_root_minus c_root_times
  have c_plain_point:=d31.own (P:=l.prog) (w:=w) (base:=base) (ps:=["place"]) (k:=1) (F:=F_plain_point) X G fun _ F _=>ok_plain_point F g_NOUGHT
  have c_place_of:=d32.own (P:=l.prog) (w:=w) (base:=base) (ps:=["point"]) (k:=1) (F:=F_place_of) X G fun _ F _=>ok_place_of F
  have c_plain_way:=d33.own (P:=l.prog) (w:=w) (base:=base) (ps:=["one","other"]) (k:=36) (F:=F_plain_way) X G fun _ F _=>ok_plain_way F c_minus
  have c_product_of_ways:=d34.own (P:=l.prog) (w:=w) (base:=base) (ps:=["one","other"]) (k:=36) (F:=F_product_of_ways) X G fun _ F _=>ok_product_of_ways F c_plus c_times
  have c_moved:=d35.own (P:=l.prog) (w:=w) (base:=base) (ps:=["place","way","by"]) (k:=36) (F:=F_moved) X G fun _ F _=>ok_moved F c_plus c_times
  have c_moved_by_root:=d36.own (P:=l.prog) (w:=w) (base:=base) (ps:=["place","way","square"]) (k:=38) (F:=F_moved_by_root) X G fun _ F _=>ok_moved_by_root F c_times c_made c_with_sign_of z_zip
  have c_both_moved:=d37.own (P:=l.prog) (w:=w) (base:=base) (ps:=["place","way","square"]) (k:=39) (F:=F_both_moved) X G fun _ F _=>ok_both_moved F c_plain_point c_negative c_moved_by_root
  have c_square_of_unlike:=d38.own (P:=l.prog) (w:=w) (base:=base) (ps:=["way"]) (k:=37) (F:=F_square_of_unlike) X G fun _ F _=>ok_square_of_unlike F c_product_of_ways
  have cx_square_of_unlike:=d38.ownX (P:=l.prog) (w:=w) (base:=base) (ps:=["way"]) (k:=37) (F:=(FX_square_of_unlike cNoMeet)) X G fun _ F=>okx_square_of_unlike F c_product_of_ways m_NoMeet eq_NoMeet
  have c_common_multiple:=d39.own (P:=l.prog) (w:=w) (base:=base) (ps:=["one","other"]) (k:=34) (F:=F_common_multiple) X G fun _ F _=>ok_common_multiple F c_common_divisor hBl hTr
  have c_common_bottom:=d40.own (P:=l.prog) (w:=w) (base:=base) (ps:=["fractions"]) (k:=35) (F:=F_common_bottom) X G fun _ F _=>ok_common_bottom F c_common_multiple
  have c_surd_times:=d41.own (P:=l.prog) (w:=w) (base:=base) (ps:=["one","other","base"]) (k:=1) (F:=F_surd_times) X G fun _ F _=>ok_surd_times F
  have c_surd_plus:=d42.own (P:=l.prog) (w:=w) (base:=base) (ps:=["one","other"]) (k:=1) (F:=F_surd_plus) X G fun _ F _=>ok_surd_plus F
  have c_way_times:=d43.own (P:=l.prog) (w:=w) (base:=base) (ps:=["way","by"]) (k:=1) (F:=F_way_times) X G fun _ F _=>ok_way_times F
  have c_way_plus:=d44.own (P:=l.prog) (w:=w) (base:=base) (ps:=["one","other"]) (k:=1) (F:=F_way_plus) X G fun _ F _=>ok_way_plus F
  have c_way_minus:=d45.own (P:=l.prog) (w:=w) (base:=base) (ps:=["one","other"]) (k:=1) (F:=F_way_minus) X G fun _ F _=>ok_way_minus F
  have c_way_mirrored:=d46.own (P:=l.prog) (w:=w) (base:=base) (ps:=["way"]) (k:=1) (F:=F_way_mirrored) X G fun _ F _=>ok_way_mirrored F
  have c_wholes_over:=d47.own (P:=l.prog) (w:=w) (base:=base) (ps:=["fractions","bottom"]) (k:=1) (F:=F_wholes_over) X G fun _ F _=>ok_wholes_over F
  have c_turned:=d48.own (P:=l.prog) (w:=w) (base:=base) (ps:=["way","by"]) (k:=36) (F:=F_turned) X G fun _ F _=>ok_turned F c_plus c_times c_minus
  have c_surd_over:=d49.own (P:=l.prog) (w:=w) (base:=base) (ps:=["number","base"]) (k:=38) (F:=F_surd_over) X G fun _ F _=>ok_surd_over F c_over c_share c_common_multiple
  have c_quotient_of:=d50.own (P:=l.prog) (w:=w) (base:=base) (ps:=["point","base"]) (k:=39) (F:=F_quotient_of) X G fun _ F _=>ok_quotient_of F c_surd_over c_common_multiple
  have c_quotient_moved:=d51.own (P:=l.prog) (w:=w) (base:=base) (ps:=["quotient","move"]) (k:=36) (F:=F_quotient_moved) X G fun _ F _=>ok_quotient_moved F c_way_mirrored c_common_bottom c_way_times c_wholes_over c_way_plus
  have c_quotient_inverted:=d52.own (P:=l.prog) (w:=w) (base:=base) (ps:=["quotient","middle","power"]) (k:=36) (F:=F_quotient_inverted) X G fun _ F _=>ok_quotient_inverted F c_common_bottom c_wholes_over c_way_minus c_way_times c_way_mirrored c_way_plus
  have cx_quotient_inverted:=d52.ownX (P:=l.prog) (w:=w) (base:=base) (ps:=["quotient","middle","power"]) (k:=36) (F:=(FX_quotient_inverted cNoQuotient)) X G fun _ F=>okx_quotient_inverted F c_way_times c_way_plus c_way_mirrored c_way_minus c_wholes_over c_common_bottom m_NoQuotient eq_NoQuotient
  have c_flat:=d53.own (P:=l.prog) (w:=w) (base:=base) (ps:=["lead"]) (k:=37) (F:=F_flat) X G fun _ F _=>ok_flat F c_product_of_ways c_moved c_over c_turned c_times c_plain_way g_ORIGIN g_NOUGHT g_ONE
  have c_point_of:=d54.own (P:=l.prog) (w:=w) (base:=base) (ps:=["quotient","base"]) (k:=37) (F:=F_point_of) X G fun _ F _=>ok_point_of F c_surd_plus c_surd_times c_joined c_ratio
  have c_led:=d55.own (P:=l.prog) (w:=w) (base:=base) (ps:=["leads","point"]) (k:=40) (F:=F_led) X G fun _ F _=>ok_led F c_field_base c_quotient_of c_quotient_inverted c_quotient_moved c_flat c_point_of
  have cx_led:=d55.ownX (P:=l.prog) (w:=w) (base:=base) (ps:=["leads","point"]) (k:=40) (F:=(FX_led cNoQuotient)) X G fun _ F=>okx_led F c_point_of c_quotient_moved c_flat c_quotient_of c_field_base cx_quotient_inverted
  have c__law_cell_at:=d56.own (P:=l.prog) (w:=w) (base:=base) (ps:=["script","k"]) (k:=1) (F:=F__law_cell_at) X G fun _ F _=>ok__law_cell_at F z_len
  have c__law_state:=d57.own (P:=l.prog) (w:=w) (base:=base) (ps:=["script","k"]) (k:=2) (F:=F__law_state) X G fun _ F _=>ok__law_state F c__law_cell_at
  have c__law_take:=d58.own (P:=l.prog) (w:=w) (base:=base) (ps:=["state","many"]) (k:=1) (F:=F__law_take) X G fun _ F _=>ok__law_take F
  have c__law_divisor:=d59.own (P:=l.prog) (w:=w) (base:=base) (ps:=["one","other"]) (k:=1) (F:=F__law_divisor) X G fun _ F _=>ok__law_divisor F z_abs
  have c__law_ratio:=d60.own (P:=l.prog) (w:=w) (base:=base) (ps:=["top","bottom"]) (k:=2) (F:=F__law_ratio) X G fun _ F _=>ok__law_ratio F c__law_divisor
  have c__law_times:=d61.own (P:=l.prog) (w:=w) (base:=base) (ps:=["one","other"]) (k:=3) (F:=F__law_times) X G fun _ F _=>ok__law_times F c__law_ratio
  have c__law_small:=d62.own (P:=l.prog) (w:=w) (base:=base) (ps:=["state"]) (k:=3) (F:=F__law_small) X G fun _ F _=>ok__law_small F c__law_ratio c__law_take
  have c__law_plus:=d63.own (P:=l.prog) (w:=w) (base:=base) (ps:=["one","other"]) (k:=3) (F:=F__law_plus) X G fun _ F _=>ok__law_plus F c__law_ratio
  have c__law_minus:=d64.own (P:=l.prog) (w:=w) (base:=base) (ps:=["one","other"]) (k:=3) (F:=F__law_minus) X G fun _ F _=>ok__law_minus F c__law_ratio
  have c_is_whole:=d65.own (P:=l.prog) (w:=w) (base:=base) (ps:=["thing"]) (k:=1) (F:=F_is_whole) X G fun _ F _=>ok_is_whole F z_isinstance z_bool z_int
  have c_is_fraction:=d66.own (P:=l.prog) (w:=w) (base:=base) (ps:=["thing"]) (k:=2) (F:=F_is_fraction) X G fun _ F _=>ok_is_fraction F c_is_whole c_common_divisor z_len z_isinstance z_tuple
  have c_is_above_nought:=d67.own (P:=l.prog) (w:=w) (base:=base) (ps:=["thing"]) (k:=3) (F:=F_is_above_nought) X G fun _ F _=>ok_is_above_nought F c_is_fraction
  have c_is_joint:=d68.own (P:=l.prog) (w:=w) (base:=base) (ps:=["thing","many"]) (k:=2) (F:=F_is_joint) X G fun _ F _=>ok_is_joint F c_is_whole
  have c_is_rod:=d69.own (P:=l.prog) (w:=w) (base:=base) (ps:=["thing","many"]) (k:=4) (F:=F_is_rod) X G fun _ F _=>ok_is_rod F c_is_joint c_is_above_nought z_len z_isinstance z_tuple
  have c_are_fixed:=d70.own (P:=l.prog) (w:=w) (base:=base) (ps:=["thing","many"]) (k:=3) (F:=F_are_fixed) X G fun _ F _=>ok_are_fixed F c_is_joint z_isinstance z_tuple z_all z_zip
  have c_are_rods:=d71.own (P:=l.prog) (w:=w) (base:=base) (ps:=["thing","many"]) (k:=5) (F:=F_are_rods) X G fun _ F _=>ok_are_rods F c_is_rod z_len z_isinstance z_tuple z_all g_MOST_RODS
  have c_is_linkage:=d72.own (P:=l.prog) (w:=w) (base:=base) (ps:=["thing"]) (k:=6) (F:=F_is_linkage) X G fun _ F _=>ok_is_linkage F c_is_whole c_are_rods c_are_fixed z_len z_isinstance z_tuple g_MOST_JOINTS
  have c_circles_meet:=d73.own (P:=l.prog) (w:=w) (base:=base) (ps:=["one","square","other","other_square"]) (k:=40) (F:=F_circles_meet) X G fun _ F _=>ok_circles_meet F c_place_of c_plain_way c_square_of_unlike c_over c_plus c_minus c_times c_both_moved c_negative c_moved
  have cx_circles_meet:=d73.ownX (P:=l.prog) (w:=w) (base:=base) (ps:=["one","square","other","other_square"]) (k:=40) (F:=(FX_circles_meet cNoMeet)) X G fun _ F=>okx_circles_meet F c_both_moved c_negative c_moved c_minus c_times c_over c_plus c_plain_way c_place_of cx_square_of_unlike
  have c_inverting_linkage:=d74.own (P:=l.prog) (w:=w) (base:=base) (ps:=["outer","inner"]) (k:=1) (F:=F_inverting_linkage) X G fun _ F _=>ok_inverting_linkage F
  have c_both_ends:=d75.own (P:=l.prog) (w:=w) (base:=base) (ps:=["middle","point","outer","inner"]) (k:=41) (F:=F_both_ends) X G fun _ F _=>ok_both_ends F c_circles_meet z_len
  have cx_both_ends:=d75.ownX (P:=l.prog) (w:=w) (base:=base) (ps:=["middle","point","outer","inner"]) (k:=41) (F:=(FX_both_ends cNoMeet)) X G fun _ F=>okx_both_ends F cx_circles_meet z_len m_NoMeet eq_NoMeet
  have c_inverting_cell:=d76.own (P:=l.prog) (w:=w) (base:=base) (ps:=["middle","point","outer","inner"]) (k:=42) (F:=F_inverting_cell) X G fun _ F _=>ok_inverting_cell F c_both_ends c_place_of c_plain_way c_moved c_over c_product_of_ways c_minus c_plain_point
  have cx_inverting_cell:=d76.ownX (P:=l.prog) (w:=w) (base:=base) (ps:=["middle","point","outer","inner"]) (k:=42) (F:=(FX_inverting_cell cNoMeet)) X G fun _ F=>okx_inverting_cell F c_plain_point c_moved c_over c_product_of_ways c_minus c_plain_way c_place_of cx_both_ends
  have c_growing_linkage:=d77.own (P:=l.prog) (w:=w) (base:=base) (ps:=["near","far","by"]) (k:=36) (F:=F_growing_linkage) X G fun _ F _=>ok_growing_linkage F c_times c_minus g_ONE
  have c_growing_cell:=d78.own (P:=l.prog) (w:=w) (base:=base) (ps:=["middle","point","near","far","by"]) (k:=42) (F:=F_growing_cell) X G fun _ F _=>ok_growing_cell F c_both_ends c_like_at c_root_plus c_root_minus z_tuple z_range g_NOUGHT
  have cx_growing_cell:=d78.ownX (P:=l.prog) (w:=w) (base:=base) (ps:=["middle","point","near","far","by"]) (k:=42) (F:=(FX_growing_cell cNoMeet)) X G fun _ F=>okx_growing_cell F c_like_at c_root_plus c_root_minus cx_both_ends z_tuple z_range g_NOUGHT
  have c_first_wrong:=d79.own (P:=l.prog) (w:=w) (base:=base) (ps:=["linkage","place"]) (k:=41) (F:=F_first_wrong) X G fun _ F _=>ok_first_wrong F c_ask_one_field c_square_of_way c_way_between z_enumerate g_NOUGHT
  have c_freedom:=d80.own (P:=l.prog) (w:=w) (base:=base) (ps:=["linkage"]) (k:=1) (F:=F_freedom) X G fun _ F _=>ok_freedom F z_len
  have c__law_above:=d81.own (P:=l.prog) (w:=w) (base:=base) (ps:=["state"]) (k:=3) (F:=F__law_above) X G fun _ F _=>ok__law_above F c__law_ratio c__law_take
  have c__law_plain:=d82.own (P:=l.prog) (w:=w) (base:=base) (ps:=["fraction"]) (k:=1) (F:=F__law_plain) X G fun _ F _=>ok__law_plain F
  have c__law_plain_point:=d83.own (P:=l.prog) (w:=w) (base:=base) (ps:=["state"]) (k:=4) (F:=F__law_plain_point) X G fun _ F _=>ok__law_plain_point F c__law_plain c__law_small
  have c__law_placed:=d84.ownR (P:=l.prog) (w:=w) (base:=base) (ps:=["call"]) (k:=44) (F:=Fpl cNoMeet 43 l.prog w K mg base) X G fun _ F cells=>ok__law_placed F m_NoMeet xm_NoMeet
  have c__law_inverted:=d85.own (P:=l.prog) (w:=w) (base:=base) (ps:=["place","power"]) (k:=42) (F:=F__law_inverted) X G fun _ F _=>ok__law_inverted F c_side_of c_led c_root_times c_square_apart c__law_plain c__law_times
  exact ok_law Fn c__law_state c__law_plain_point c__law_times c__law_above c__law_plus c__law_small c_inverting_linkage c__law_placed c__law_inverted c__law_minus c_first_wrong c_freedom c_is_linkage c_growing_linkage c_led cx_inverting_cell cx_growing_cell z_range z_max z_min z_len (hc.trans hk_law) hCd_law hBl
theorem walk {l:PySem.W.OpenLaw} {q:Program} {loose:List Str} {XP:(Str->Option Value)->Heap->Prop} {YP:World->Heap->Prop} {d:DefRec} {K:Params->Fg} (himp:importsNone q=true) (hn:l.most=some 63) (hdf:d.params.defaults=[])
    (hY:∀ (w:World) (h:Heap),YP w h->(K w.params).In h)
    (hnK:∀ w:World,PySem.W.noTabs (K w.params)=true) (hT:∀ (w:World) (h:Heap),YP w h->PySem.W.TabsAt [(666,662)] h)
    (F:∀ (w:World) (mg:Str->Option Value) (fa:Addr) (h:Heap),(K w.params).In h->h.Ns mainGlobals mg->mg d.name=some (.ref fa)->
      ∃ fd:FuncData,(∀ (s:Shared) (u:Value),BindsTo s fd ⟨[u],[]⟩ [("script",u)])/\∀ base:Heap,(K w.params).In base->base.Ns mainGlobals mg->BltB mg base->PySem.W.CodeAll [(666,662)] base->FnOk l.prog w (K w.params) mg base CX0 45 fa fd ["script"] (spU (K w.params) (F_law 662))):
    PySem.W.WalkO q loose XP YP l.row.toRowW d [] (fun f vs=>PySem.call f vs):=
  L2.walk_ofT (n:=63) (k:=45) (x:="script") (CX:=fun _=>CX0) (sp:=fun w=>spU (K w.params) (F_law 662)) himp hn (by decide) hdf ⟨rfl,by decide,by decide⟩ hY hnK hT F
    (fun w H a ns hl ho hS=>DL.law_upT (tq:=[(662,"law"++".<locals>."++"<lambda>")]) ho hS (by simp) (law_ask 662 ns hl)) fun _ _ _ _ _ z=>z
end My
open PySem PySem.W PyProof.Rows
set_option maxRecDepth 100000 in
set_option maxHeartbeats 0 in
theorem PySem.Challenge.cw_hingedraw_k85_whole_cells_stand_holds : PySem.Challenge.rw_hingedraw_k85_whole_cells_stand.Holds := by
  w_on; o_law; k_head; (case hw=>w_witness2)
  k_fill
  refine My.walk (l := PySem.Challenge.rw_hingedraw_k85_whole_cells_stand) ?imp rfl rfl (fun w h Y => PySem.W.km_in_of Y) ?nK ?xs ?F
  case imp=>kernel_rfl
  case nK=>intro w; kernel_rfl
  case xs=>intro w h Y; exact List.forall_mem_cons.mpr ⟨⟨PySem.W.codeHd_of_K (c:=666) (P:=662) (PySem.W.km_in_of Y) (by kernel_rfl),PySem.W.km_tabs_of Y 662 (by simp)⟩,fun _ h=>nomatch h⟩
  case F=>
    intro w mg fa h KX G hmg
    refine' My.all_mk KX G hmg ?d1 ?d2 ?d3 ?d4 ?d5 ?d6 ?d7 ?d8 ?d9 ?d10 ?d11 ?d12 ?d13 ?d14 ?d15 ?d16 ?d17 ?d18 ?d19 ?d20 ?d21 ?d22 ?d23 ?d24 ?d25 ?d26 ?d27 ?d28 ?d29 ?d30 ?d31 ?d32 ?d33 ?d34 ?d35 ?d36 ?d37 ?d38 ?d39 ?d40 ?d41 ?d42 ?d43 ?d44 ?d45 ?d46 ?d47 ?d48 ?d49 ?d50 ?d51 ?d52 ?d53 ?d54 ?d55 ?d56 ?d57 ?d58 ?d59 ?d60 ?d61 ?d62 ?d63 ?d64 ?d65 ?d66 ?d67 ?d68 ?d69 ?d70 ?d71 ?d72 ?d73 ?d74 ?d75 ?d76 ?d77 ?d78 ?d79 ?d80 ?d81 ?d82 ?d83 ?d84 ?d85 ?d86 ?hk_law ?ag_MOST_RODS ?ag_MOST_JOINTS ?ag_ORIGIN ?lg_ORIGIN ?lg0_ORIGIN ?lg1_ORIGIN ?ag_NOUGHT ?lg_NOUGHT ?ag_ONE ?lg_ONE ?ac_NoMeet ?ac_NoQuotient ?eq_NoQuotient ?eq_NoMeet ?xm_NoMeet ?hTr ?y_abs ?y_zip ?y_len ?y_isinstance ?y_bool ?y_int ?y_tuple ?y_all ?y_range ?y_enumerate ?y_max ?y_min
    case d1 | d2 | d3 | d4 | d5 | d6 | d7 | d8 | d9 | d10 | d11 | d12 | d13 | d14 | d15 | d16 | d17 | d18 | d19 | d20 | d21 | d22 | d23 | d24 | d25 | d26 | d27 | d28 | d29 | d30 | d31 | d32 | d33 | d34 | d35 | d36 | d37 | d38 | d39 | d40 | d41 | d42 | d43 | d44 | d45 | d46 | d47 | d48 | d49 | d50 | d51 | d52 | d53 | d54 | d55 | d56 | d57 | d58 | d59 | d60 | d61 | d62 | d63 | d64 | d65 | d66 | d67 | d68 | d69 | d70 | d71 | d72 | d73 | d74 | d75 | d76 | d77 | d78 | d79 | d80 | d81 | d82 | d83 | d84 | d85 | d86=>refine' ⟨?a,.mk ?l,?e,?k⟩; (case a=>k_is); (case l=>k_is); (case e=>k_is); (case k=>k_is)
    (case hk_law=>exact rfl)
    (case ag_MOST_RODS=>k_is)
    (case ag_MOST_JOINTS=>k_is)
    (case ag_ORIGIN=>k_is)
    (case lg_ORIGIN=>k_is)
    (case lg0_ORIGIN=>k_is)
    (case lg1_ORIGIN=>k_is)
    (case ag_NOUGHT=>k_is)
    (case lg_NOUGHT=>k_is)
    (case ag_ONE=>k_is)
    (case lg_ONE=>k_is)
    (case ac_NoMeet=>k_is)
    (case ac_NoQuotient=>k_is)
    (case eq_NoQuotient=>kernel_rfl)
    (case eq_NoMeet=>kernel_rfl)
    (case xm_NoMeet=>kernel_rfl)
    (case hTr=>exact rfl)
    (case y_abs=>k_is)
    (case y_zip=>k_is)
    (case y_len=>k_is)
    (case y_isinstance=>k_is)
    (case y_bool=>k_is)
    (case y_int=>k_is)
    (case y_tuple=>k_is)
    (case y_all=>k_is)
    (case y_range=>k_is)
    (case y_enumerate=>k_is)
    (case y_max=>k_is)
    (case y_min=>k_is)
