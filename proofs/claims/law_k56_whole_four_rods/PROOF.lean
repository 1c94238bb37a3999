import PyProof.Rows.All
import Wide.All
import OpenK.AllK
import Wide.FinOn
import Lean
import PyProof.EqAt
import PyProof.EqKinds
import PyProof.TupleCall
import PySem.Challenge.RW_hingedraw_k56_whole_four_rods
set_option compiler.extract_closed false
set_option genSizeOfSpec false
set_option Elab.async false
set_option linter.all false
set_option maxRecDepth 100000
set_option Elab.async false
set_option linter.all false
set_option maxRecDepth 100000
theorem Zf {α β γ:Sort _} {f:α->β->γ}:∀ a b,f a b=f a b:=λ_ _=>rfl
section
open PySem PySem.Spec PyProof.Rows
abbrev gt:=@wpAny_bind
abbrev Ga:=@Heap.get?_push_of_some
abbrev Gb:=@wpAny_pure
abbrev Gc:=@Heap.get?_push_size
abbrev Ge:=@Rat.intCast_mul
abbrev Gf:=@Heap.lt_size
abbrev Gg:=@Nat.le_refl
abbrev Gh:=@List.length_map
abbrev Gi:=@Bool.false_ne_true
abbrev Gj:=@List.size_toArray
abbrev Gk:=@List.mem_cons
abbrev Gm:=@Nat.ne_of_lt
abbrev Gn:=@List.mem_cons_self
abbrev Go:=@List.mem_cons_of_mem
abbrev Gp:=@Nat.lt_of_lt_of_le
abbrev Gq:=@List.mem_append_right
abbrev Gr:=@Rat.mul_eq_zero
abbrev Gs:=@List.not_mem_nil
abbrev Gu:=@Nat.le_of_ble_eq_true
abbrev Gv:=@Rat.intCast_add
abbrev Gw:=@Prod.ext
abbrev Gx:=@List.length_append
abbrev Gy:=@List.append_nil
abbrev Gz:=@Rat.mul_nonneg
abbrev GA:=@wpAny_setField_rec
abbrev GB:=@List.getElem?_eq_getElem
abbrev GC:=@wpAny_newObj_type
abbrev GD:=@Rat.mul_pos
abbrev GE:=@Heap.get?_update_other
abbrev GF:=@Option.some.inj
abbrev GG:=@wpAny_seqItems
abbrev GH:=@Rat.intCast_sub
abbrev GI:=@List.getD_eq_getElem?_getD
abbrev GK:=@Rat.divInt_eq_div
abbrev GL:=@List.getElem?_eq_some_iff
abbrev GM:=@wpAny_mono
abbrev GN:=@wpAny_field
abbrev GO:=@Nat.le_trans
abbrev GP:=@Bool.and_eq_true
abbrev GQ:=@PySem.mem_of_lookup
abbrev GR:=@PySem.W.mg_none_of
abbrev GS:=@Int.fmod_nonneg_of_pos
abbrev GT:=@List.drop_eq_getElem_cons
abbrev GU:=@decide_eq_false
abbrev GV:=@Nat.lt_irrefl
abbrev GW:=@Heap.size_push
abbrev GX:=@List.all_eq_true
abbrev GY:=@Int.natAbs_mul
abbrev GZ:=@wpAny_callSpecial?_slot
abbrev G3:=@decide_eq_true_eq
abbrev G5:=@Int.fmod_lt_of_pos
abbrev G6:=@Option.isSome_iff_exists
abbrev G7:=@List.length_eq_zero_iff
end
section
open PySem PySem.Spec
abbrev G8:=Shared
abbrev G9:=Value
abbrev G_:=Addr
abbrev Ha:=Option
abbrev Hb:=Expr
abbrev Hc:=Program
abbrev Hd:=Around
abbrev He:=World
abbrev Hf:=Heap
abbrev Hg:=Stmt
abbrev Hh:=Array
abbrev Hi:=Bool
abbrev Hj:=String
abbrev Hk:=DictEntry
abbrev Hl:=Obj
end
namespace L2
open PySem PySem.Spec PyProof.Rows
abbrev pJ:=Sum Int Str
def zU:pJ->G9->Hi
 | .inl k,v=>Value.isInt k v
 | .inr x,v=>Value.isStrOf x v
def EM (w:He):pJ->Int
 | .inl k=>hashInt k
 | .inr x=>hashStr w x
theorem b4:∀ {k:pJ} {v:G9},zU k v=true->(∃ i t,k=Sum.inl i/\v=Value.int i t)\/(∃ x t,k=Sum.inr x/\v=Value.str x t)
 | .inl i,v,h=>by
  obtain⟨t,e⟩:=Value.isInt_shape (k:=i) (v:=v) h;exact .inl ⟨i,t,rfl,e⟩
 | .inr x,v,h=>by
  obtain⟨t,e⟩:=Value.isStrOf_shape (x:=x) (v:=v) h;exact .inr ⟨x,t,rfl,e⟩
theorem Cf (a b:Int):decide ((Sum.inl a:pJ)=Sum.inl b)=(a == b):=by
 by_cases e:a=b
 ·subst e; simp
 ·have h:¬ (Sum.inl a:pJ)=Sum.inl b:=λq=>e (Sum.inl.inj q)
  rw [GU h];exact(beq_eq_false_iff_ne.mpr e).symm
theorem Cp (a b:Str):decide ((Sum.inr a:pJ)=Sum.inr b)=decide (a=b):=by
 by_cases e:a=b
 ·subst e; simp
 ·have h:¬ (Sum.inr a:pJ)=Sum.inr b:=λq=>e (Sum.inr.inj q)
  rw [GU h,GU e]
theorem AG (a:Int) (b:Str):decide ((Sum.inl a:pJ)=Sum.inr b)=false:=GU (λq=>nomatch q)
theorem B9 (a:Str) (b:Int):decide ((Sum.inr a:pJ)=Sum.inl b)=false:=GU (λq=>nomatch q)
def uq (prog:Hc) (w:He):PySem.KeyKind prog w pJ where
 is:=zU
 hash:=EM w
 inj:=λv a b ha hb=>by
  rcases b4 ha with ⟨i,t,rfl,rfl⟩ | ⟨x,t,rfl,rfl⟩
  ·rcases b4 hb with ⟨j,u,rfl,e⟩ | ⟨y,u,rfl,e⟩
   ·injection e with e1 _; rw [e1]
   ·exact nomatch e
  ·rcases b4 hb with ⟨j,u,rfl,e⟩ | ⟨y,u,rfl,e⟩
   ·exact nomatch e
   ·injection e with e1 _; rw [e1]
 byValue:=λk v h=>by
  rcases b4 h with ⟨i,t,rfl,rfl⟩ | ⟨x,t,rfl,rfl⟩ <;> rfl
 pyHash:=λhv h=>by
  rcases b4 hv with ⟨i,t,rfl,rfl⟩ | ⟨x,t,rfl,rfl⟩
  ·exact wpAny_pyHash_int h
  ·exact wpAny_pyHash_str h
 eqBool:=λhu hv h=>by
  rcases b4 hu with ⟨i,t,rfl,rfl⟩ | ⟨x,t,rfl,rfl⟩
  ·rcases b4 hv with ⟨j,u,rfl,rfl⟩ | ⟨y,u,rfl,rfl⟩
   ·rw [Cf] at h; exact wpAny_eqBool_int h
   ·rw [AG] at h; exact SeqAt.EqAt.int_str i t y u _ _ _ _ h
  ·rcases b4 hv with ⟨j,u,rfl,rfl⟩ | ⟨y,u,rfl,rfl⟩
   ·rw [B9] at h; exact SeqAt.EqAt.str_int x t j u _ _ _ _ h
   ·rw [Cp] at h; exact wpAny_eqBool_str h
 «strs»:=λk x t v h=>by
  rcases b4 h with ⟨i,u,rfl,e⟩ | ⟨y,u,rfl,e⟩
  ·exact nomatch e
  ·injection e with e1 _
   subst e1;cases v <;> rfl
inductive V where
 | non | bl (b:Hi) | int (i:Int) | str (x:Str) | byt (b:Hh UInt8) | flt (b:UInt64) | ref (a:G_) | ty (n:Hj)
 deriving DecidableEq
def bi:V->G9->Prop
 | .non,u=>u=Value.none
 | .bl b,u=>u=Value.bool b
 | .int i,u=>∃ t,u=Value.int i t
 | .str x,u=>∃ t,u=Value.str x t
 | .byt b,u=>∃ t,u=Value.bytes b t
 | .flt b,u=>∃ t,u=Value.float b t
 | .ref a,u=>u=Value.ref a
 | .ty n,u=>u=Value.type n
abbrev aW:List V->List G9->Prop:=Paired bi
theorem aW.length {xs:List V} {us:List G9} (r:aW xs us):xs.length=us.length:=Paired.length r
theorem aW.get:∀ {xs:List V} {us:List G9} {i:Nat} {x:V},aW xs us->xs[i]?=some x->∃ u,us[i]?=some u/\bi x u
 | _,_,_,_,.nil,e=>by simp at e
 | _,_,0,_,.cons r _,e=>by simp at e; subst e; exact⟨_,rfl,r⟩
 | _,_,i+1,x,.cons _ t,e=>by
  obtain⟨u,h1,h2⟩:=aW.get (i:=i) (x:=x) t (by simpa using e)
  exact⟨u,by simpa using h1,h2⟩
theorem aW.set {x:V} {u:G9} (r:bi x u):∀ {xs:List V} {us:List G9} (i:Nat),aW xs us->aW (xs.set i x) (us.set i u)
 | _,_,_,.nil=>.nil
 | _,_,0,.cons _ t=>.cons r t
 | _,_,i+1,.cons q t=>.cons q (aW.set r i t)
theorem aW.append:∀ {xs ys:List V} {us ws:List G9},aW xs us->aW ys ws->aW (xs++ys) (us++ws)
 | _,_,_,_,.nil,s=>s
 | _,_,_,_,.cons r t,s=>.cons r (aW.append t s)
theorem aW.take:∀ {xs:List V} {us:List G9} (n:Nat),aW xs us->aW (xs.take n) (us.take n)
 | _,_,0,_=>.nil
 | _,_,_+1,.nil=>.nil
 | _,_,n+1,.cons r t=>.cons r (aW.take n t)
theorem aW.drop:∀ {xs:List V} {us:List G9} (n:Nat),aW xs us->aW (xs.drop n) (us.drop n)
 | _,_,0,r=>r
 | _,_,_+1,.nil=>.nil
 | _,_,n+1,.cons _ t=>aW.drop n t
def DJ:Ha V->Ha G9->Prop
 | some v,some u=>bi v u
 | none,none=>True
 | _,_=>False
def KV {κ:Type}:List (κ×V)->List (κ×G9)->Prop:=Paired fun(p:κ×V) (q:κ×G9)=>p.1=q.1/\bi p.2 q.2
def kV:pJ->V
 | .inl i=>.int i
 | .inr x=>.str x
inductive HO where
 | lst (xs:List V)
 | tup (xs:List V)
 | dK (kvs:List (pJ×V)) | dT (kvs:List (List pJ×V))
 | set (S:Int->Hi) (n:Nat)
 | ins (C dx:G_) (fs:List (Str×V))
 | own (x:G_)
 | xd (fs:List (Str×V))
 | met (f x:G_)
 | rng (lo hi:Int)
 | frz (o:Hl) (u:HO)
 | tbl (ps:Hh G9)
 | ext (φ:Hf->Prop)
abbrev Hp:=G_->Ha HO
def bI (H:Hp) (a:G_) (o:HO):Hp:=λb=>if b=a then some o else H b
theorem cA {H:Hp} {a:G_} {o:HO}:bI H a o a=some o:=by unfold bI; rw [if_pos rfl]
theorem aD {H:Hp} {a b:G_} {o:HO} (h:b≠a):bI H a o b=H b:=by unfold bI; rw [if_neg h]
theorem a8 {H:Hp} {a b:G_} {o:HO} (h:H a=some o) (h':H b=none):a≠b:=by
 intro e; subst e; rw [h] at h'; cases h'
section
variable (P:Hc) (w:He)
def en (H:Hp) (h:Hf) (a:G_):HO->Prop
 | .lst xs=>xs.length<=sizeLine/\∃ (its:List G9) (n:Nat),aW xs its/\h.get? a=some {cls:=.type "list",data:=.seq its.toArray n}
 | .tup xs=>xs.length<=sizeLine/\∃ its:List G9,aW xs its/\IsTup h a its.toArray
 | .dK kvs=>kvs.length<=sizeLine/\(a == sysModules)=false/\∃ vs,KV kvs vs/\h.DictOf (uq P w) a vs
 | .dT kvs=>kvs.length<=sizeLine/\(a == sysModules)=false/\∃ xs:List (List pJ×G_×G9),
   Paired (λ(p:List pJ×V) (q:List pJ×G_×G9)=>p.1=q.1/\H q.2.1=some (.tup (p.1.map kV))/\bi p.2 q.2.2) kvs xs/\
   ∃ o es ep,h.get? a=some o/\o.ExactDict/\o.data=.dict es ep/\es.toList=xs.map (entryOfKey (tupleKind (uq P w)))/\(xs.map (·.1)).Nodup
 | .set S n=>h.SetOf (intKind P w) a S n
 | .ins C dx fs=>H dx=some (.own a)/\fs.length<=1000/\dx≠a/\h.get? a=some (PySem.W.instObj C dx)/\
   ∃ mA,h.Ns1 dx mA/\(∀ f,DJ (fs.lookup f) (mA f))/\PySem.Within mA (fs.map (·.1))
 | .own _=>∃ o,h.get? a=some o
 | .xd fs=>∃ mA,h.Ns1 a mA/\∀ f,DJ (fs.lookup f) (mA f)
 | .rng lo hi=>∃ t u v,h.get? a=some {cls:=.type "range",data:=.fields #[.int lo t,.int hi u,.int 1 v]}
 | .frz o u=>h.get? a=some o/\en H h a u
 | .tbl ps=>h.get? a=some {cls:=.none,data:=.fields ps}
 | .met f x=>h.get? a=some (PySem.W.methodObj (.ref f) (.ref x))
 | .ext φ=>φ h/\(∃ o,h.get? a=some o)/\∀ h1 h2:Hf,φ h1->(∀ o,h1.get? a=some o->h2.get? a=some o)->φ h2
def k8 (H:Hp) (h:Hf):Prop:=∀ a o,H a=some o->en P w H h a o
end
section
variable {P:Hc} {w:He} {H H':Hp} {h h':Hf} {a:G_} {o:HO}
theorem en.lt (x:en P w H h a o):a < h.objs.size:=by
 cases o with
 | lst xs=>obtain⟨_,_,_,_,e⟩:=x; exact Gf e
 | tup xs=>obtain⟨_,_,_,p⟩:=x; exact p.lt
 | dK kvs=>obtain⟨_,_,_,_,o,_,_,e,_⟩:=x; exact Gf e
 | dT kvs=>obtain⟨_,_,_,_,o,_,_,e,_⟩:=x; exact Gf e
 | set S n=>obtain⟨o,_,_,_,e,_⟩:=x; exact Gf e
 | ins C dx fs=>obtain⟨_,_,_,e,_⟩:=x; exact Gf e
 | own y=>obtain⟨_,e⟩:=x; exact Gf e
 | xd fs=>obtain⟨_,⟨_,_,_,e,_⟩,_⟩:=x; exact Gf e
 | rng lo hi=>obtain⟨_,_,_,e⟩:=x; exact Gf e
 | frz ob u=>obtain⟨e,_⟩:=x; exact Gf e
 | tbl ps=>exact Gf (show h.get? a=some _ from x)
 | met f y=>exact Gf (show h.get? a=some _ from x)
 | ext φ=>obtain⟨_,⟨_,e⟩,_⟩:=x; exact Gf e
theorem Paired.mapP {α β:Type} {F G:α->β->Prop}:∀ {l₁:List α} {l₂:List β},Paired F l₁ l₂->(∀ a b,F a b->G a b)->Paired G l₁ l₂
 | _,_,.nil,_=>.nil
 | _,_,.cons r t,f=>.cons (f _ _ r) (Paired.mapP t f)
theorem en.stay (x:en P w H h a o) (k:∀ b u,(b=a\/H b=some (.own a))->h.get? b=some u->h'.get? b=some u)
  (ho:∀ b,H b=some (.own a)->H' b=some (.own a)) (ht:∀ b xs,H b=some (.tup xs)->H' b=some (.tup xs)):en P w H' h' a o:=by
 induction o with
 | lst xs=>obtain⟨z,its,n,r,e⟩:=x; exact⟨z,its,n,r,k _ _ (.inl rfl) e⟩
 | tup xs=>obtain⟨z,its,r,ob,e,c⟩:=x; exact⟨z,its,r,ob,k _ _ (.inl rfl) e,c⟩
 | dK kvs=>obtain⟨z,y,vs,r,ob,es,ep,e,c⟩:=x; exact⟨z,y,vs,r,ob,es,ep,k _ _ (.inl rfl) e,c⟩
 | dT kvs=>
  obtain⟨z,y,xs,r,ob,es,ep,e,c⟩:=x;exact⟨z,y,xs,Paired.mapP r λp q z=>⟨z.1,ht _ _ z.2.1,z.2.2⟩,ob,es,ep,k _ _ (.inl rfl) e,c⟩
 | set S n=>obtain⟨ob,es,ep,t,e,c⟩:=x; exact⟨ob,es,ep,t,k _ _ (.inl rfl) e,c⟩
 | ins C dx fs=>
  obtain⟨d,z,ne,e,mA,⟨od,es,ep,e2,c⟩,r⟩:=x;exact⟨ho _ d,z,ne,k _ _ (.inl rfl) e,mA,⟨od,es,ep,k _ _ (.inr d) e2,c⟩,r⟩
 | own y=>obtain⟨ob,e⟩:=x; exact⟨ob,k _ _ (.inl rfl) e⟩
 | xd fs=>obtain⟨mA,⟨od,es,ep,e,c⟩,r⟩:=x; exact⟨mA,⟨od,es,ep,k _ _ (.inl rfl) e,c⟩,r⟩
 | rng lo hi=>obtain⟨t,u,v,e⟩:=x; exact⟨t,u,v,k _ _ (.inl rfl) e⟩
 | frz ob u ih=>obtain⟨e,q⟩:=x; exact⟨k _ _ (.inl rfl) e,ih q⟩
 | tbl ps=>
  have e:h.get? a=some {cls:=.none,data:=.fields ps}:=x
  show h'.get? a=some {cls:=.none,data:=.fields ps}
  exact k a _ (.inl rfl) e
 | met f y=>
  have e:h.get? a=some (PySem.W.methodObj (.ref f) (.ref y)):=x
  show h'.get? a=some (PySem.W.methodObj (.ref f) (.ref y))
  exact k a _ (.inl rfl) e
 | ext φ=>obtain⟨p,⟨o,e⟩,st⟩:=x; exact⟨st _ _ p λo q=>k _ _ (.inl rfl) q,⟨o,k _ _ (.inl rfl) e⟩,st⟩
theorem k8.lt (x:k8 P w H h) (e:H a=some o):a < h.objs.size:=(x a o e).lt
theorem k8.fresh (x:k8 P w H h) (e:h.objs.size<=a):H a=none:=by
 cases q:H a with
 | none=>rfl
 | some u=>exact absurd (Gp (x.lt q) e) (GV _)
theorem k8.kept (x:k8 P w H h) (k:∀ b u,h.get? b=some u->h'.get? b=some u):k8 P w H h':=λa o e=>
 (x a o e).stay (λb u _ q=>k b u q) (λ_ q=>q) λ_ _ q=>q
theorem k8.laid (x:k8 P w H h) (k:∀ b u,h.get? b=some u->h'.get? b=some u) (hp:h.objs.size<=a) (new:en P w (bI H a o) h' a o):k8 P w (bI H a o) h':=λb u e=>by
 have hn:=x.fresh hp
 by_cases hb:b=a
 ·subst hb; rw [cA] at e; cases e; exact new
 ·rw [aD hb] at e;exact(x b u e).stay (λc v _ q=>k c v q) (λc q=>by rw [aD (a8 q hn)]; exact q) λc xs q=>by rw [aD (a8 q hn)]; exact q
end
def Rd (H:Hp) (a:G_) (u:HO):Prop:=H a=some u\/∃ o,H a=some (.frz o u)
theorem Rd.ok {P:Hc} {w:He} {H:Hp} {h:Hf} {a:G_} {u:HO} (r:Rd H a u) (x:k8 P w H h):en P w H h a u:=by
 rcases r with r | ⟨o,r⟩
 ·exact x a u r
 ·obtain⟨_,q⟩:=x a _ r;exact q
def El:Ha HO->Prop
 | some (.lst _)=>True
 | some (.dK _)=>True
 | some (.dT _)=>True
 | some (.set _ _)=>True
 | some (.ins _ _ _)=>True
 | some (.ext _)=>True
 | _=>False
section
variable {P:Hc} {w:He} {H:Hp} {h h':Hf} {x e:G_} {o':HO}
theorem k8.write (ok:k8 P w H h) (mu:El (H x)) (he:e=x\/H e=some (.own x)) (k:∀ b u,b≠e->h.get? b=some u->h'.get? b=some u) (heo:∃ u,h'.get? e=some u)
  (new:en P w (bI H x o') h' x o'):k8 P w (bI H x o') h':=λb u q=>by
 have nown:∀ c y,H c=some (.own y)->c≠x:=λc y r z=>by subst z; rw [r] at mu; exact mu
 have ntup:∀ c xs,H c=some (.tup xs)->c≠x:=λc xs r z=>by subst z; rw [r] at mu; exact mu
 by_cases hb:b=x
 ·subst hb; rw [cA] at q; cases q; exact new
 ·rw [aD hb] at q
  by_cases hbe:b=e
  ·have q':H b=some (.own x):=by
    rcases he with z | z
    ·exact absurd (hbe.trans z) hb
    ·rw [hbe]; exact z
   rw [q] at q'; cases q'
   obtain⟨v,hv⟩:=heo;exact⟨v,by rw [hbe]; exact hv⟩
  ·refine(ok b u q).stay (λc v hc r=>k c v ?_ r) (λc r=>by rw [aD (nown c b r)]; exact r) λc xs r=>by rw [aD (ntup c xs r)]; exact r
   rcases hc with rfl | hc
   ·exact hbe
   ·rintro rfl;rcases he with z | z
    ·exact nown c b hc z
    ·rw [hc] at z; cases z; exact hb rfl
end
structure Un (fs ex:List G_) (H H':Hp) (h h':Hf):Prop where
 keep:∀ b o,h.get? b=some o->H b=none->b∉fs->b∉ex->h'.get? b=some o
 slot:∀ b o,h.get? b=some o->H b=none->b∈fs->b∉ex->∃ sl,h'.get? b=some {o with slots:=sl}
 free:∀ b o,h.get? b=some o->H b=none->b∉ex->H' b=none
 there:∀ b o,h.get? b=some o->b∉ex->∃ o',h'.get? b=some o'
 tups:∀ b xs,H b=some (.tup xs)->H' b=some (.tup xs)
 frzs:∀ b o u,H b=some (.frz o u)->H' b=some (.frz o u)
 tbls:∀ b ps,H b=some (.tbl ps)->∃ more,H' b=some (.tbl (ps++more))
section
variable {fs fs' ex ex':List G_} {H H1 H2:Hp} {h h1 h2 h':Hf} {a x e:G_} {o:HO}
theorem Un.any (u:Un fs ex H H1 h h1) {b:G_} {ob:Hl} (q:h.get? b=some ob) (n:H b=none) (hx:b∉ex):∃ sl,h1.get? b=some {ob with slots:=sl}:=by
 by_cases hb:b∈fs
 ·exact u.slot b ob q n hb hx
 ·exact⟨ob.slots,u.keep b ob q n hb hx⟩
theorem Un.trans (a:Un fs ex H H1 h h1) (b:Un fs ex H1 H2 h1 h2):Un fs ex H H2 h h2 where
 keep:=λc ob q n hc hx=>b.keep c ob (a.keep c ob q n hc hx) (a.free c ob q n hx) hc hx
 slot:=λc ob q n hc hx=>by
  obtain⟨sl,e1⟩:=a.slot c ob q n hc hx;obtain⟨sl',e2⟩:=b.slot c _ e1 (a.free c ob q n hx) hc hx;exact⟨sl',e2⟩
 free:=λc ob q n hx=>by
  obtain⟨o',e1⟩:=a.there c ob q hx;exact b.free c o' e1 (a.free c ob q n hx) hx
 there:=λc ob q hx=>by
  obtain⟨o',e1⟩:=a.there c ob q hx;exact b.there c o' e1 hx
 tups:=λc xs q=>b.tups c xs (a.tups c xs q)
 frzs:=λc ob xs q=>b.frzs c ob xs (a.frzs c ob xs q)
 tbls:=λc ps q=>by
  obtain⟨m1,e1⟩:=a.tbls c ps q;obtain⟨m2,e2⟩:=b.tbls c _ e1;exact⟨m1++m2,by rw [e2,Array.append_assoc]⟩
theorem Un.kept (k:∀ b u,h.get? b=some u->h'.get? b=some u):Un fs ex H H h h':=
 ⟨λb ob q _ _ _=>k b ob q,λb ob q _ _ _=>⟨ob.slots,k b ob q⟩,λ_ _ _ n _=>n,λb ob q _=>⟨ob,k b ob q⟩,λ_ _ q=>q,λ_ _ _ q=>q,λ_ ps q=>⟨#[],by rw [q]; simp⟩⟩
theorem Un.refl:Un fs ex H H h h:=Un.kept λ_ _ q=>q
theorem Un.laid (k:∀ b u,h.get? b=some u->h'.get? b=some u) (hp:h.objs.size<=a) (hn:H a=none):Un fs ex H (bI H a o) h h' where
 keep:=λb u q _ _ _=>k b u q
 slot:=λb u q _ _ _=>⟨u.slots,k b u q⟩
 free:=λb u q n _=>by rw [aD (Gm (Gp (Gf q) hp))]; exact n
 there:=λb u q _=>⟨u,k b u q⟩
 tups:=λb xs q=>by rw [aD (a8 q hn)]; exact q
 frzs:=λb u xs q=>by rw [aD (a8 q hn)]; exact q
 tbls:=λb ps q=>⟨#[],by rw [aD (a8 q hn),q]; simp⟩
theorem Un.write (mu:El (H x)) (he:e=x\/H e=some (.own x)) (k:∀ b u,b≠e->h.get? b=some u->h'.get? b=some u) (heo:∃ u,h'.get? e=some u):Un fs ex H (bI H x o) h h':=by
 have hx:∀ b,H b=none->b≠x:=λb n z=>by subst z; rw [n] at mu; exact mu
 have hb:∀ b,H b=none->b≠e:=λb n z=>by
  subst z;rcases he with r | r
  ·exact hx b n r
  ·rw [n] at r; cases r
 have hm:∀ b u,H b=some u->¬ El (some u)->b≠x:=λb u q nm z=>by subst z; rw [q] at mu; exact nm mu
 refine⟨λb u q n _ _=>k b u (hb b n) q,λb u q n _ _=>⟨u.slots,k b u (hb b n) q⟩,λb u q n _=>by rw [aD (hx b n)]; exact n,λb u q _=>?_,
  λb xs q=>by rw [aD (hm b _ q λz=>z)]; exact q,λb u xs q=>by rw [aD (hm b _ q λz=>z)]; exact q,λb ps q=>⟨#[],by rw [aD (hm b _ q λz=>z),q]; simp⟩⟩
 by_cases hbe:b=e
 ·subst hbe; exact heo
 ·exact⟨u,k b u hbe q⟩
end
def Ej (h:Hf) (H:Hp):List G_:=(List.range h.objs.size).filter λa=>(H a).isSome
def qO (h:Hf) (H:Hp):Hf:=PySem.W.hideAll h (Ej h H)
theorem vh (h:Hf) (H:Hp):(qO h H).objs.size=h.objs.size:=PySem.W.hideAll_size _ _
theorem xC {h:Hf} {H:Hp} {b:G_} {o:Hl} (e:h.get? b=some o) (n:H b=none):(qO h H).get? b=some o:=
 PySem.W.hideAll_get _ e λhm=>by
  have q:(H b).isSome=true:=(List.mem_filter.mp hm).2;rw [n] at q; simp at q
theorem zu {h:Hf} {H:Hp} {b:G_} {o:Hl} (e:(qO h H).get? b=some o):h.get? b=some o/\H b=none:=by
 have e':h.get? b=some o:=PySem.W.of_hideAll (Ej h H) e;refine⟨e',?_⟩;cases q:H b with
 | none=>rfl
 | some x=>
  have hm:b∈Ej h H:=List.mem_filter.mpr ⟨List.mem_range.mpr (Gf e'),by simp [q]⟩
  have z:(qO h H).get? b=none:=PySem.W.hideAll_none (Ej h H) hm;rw [z] at e; cases e
def yY (g h:Hf) (L:G_):List (G_×Hl):=(List.range h.objs.size).filterMap λa=>if a=L\/(g.get? a).isSome=true then none else(h.get? a).map λo=>(a,o)
def bY (g h:Hf) (L d:G_):List (G_×Hl):=(yY g h L).filter λp=>decide (p.1≠d)
structure Mod (K:PySem.W.Frag) (mg:Str->Ha G9) (base:Hf):Prop where
 kin:K.In base
 glob:base.Ns mainGlobals mg
 blt:∃ mb,base.Ns builtinsNs mb/\∀ x:Str,x≠"__name__"->mb x=bootBuiltins x
 nolimit:base.NoLimit
structure Cx where
 prog:Hc
 w:He
 K:PySem.W.Frag
 mg:Str->Ha G9
 base:Hf
 A:Hd
 N:List Str
 s₀:G8
 H₀:Hp
 env:Env
 outer:List Env
 stack:List Env
 ex:List G_
 fn:Str->Hi
 calm:Hi
 pn:List (G_×Hl)
 xe:G9->G8->Prop
def gP (l:List Env):List G_:=l.filterMap (·.frame)
abbrev Cx.fs (X:Cx):List G_:=gP X.outer
def C8 (sc:Scope) (x:Str):Prop:=sc.names.lookup x=some .local\/sc.names.lookup x=some .cell\/sc.names.lookup x=some .free
def Aw (sc:Scope) (x:Str):Prop:=sc.names.lookup x=some .local\/sc.names.lookup x=some .cell
def EU (env:Env) (h:Hf) (m:Str->Ha G9) (x:Str) (u:G9):Prop:=
 (env.kindOf x=some .local/\m x=some u)\/((env.kindOf x=some .cell\/env.kindOf x=some .free)/\∃ c,env.cells.lookup x=some c/\h.IsCell c (some u))
structure Cx.Ok (X:Cx):Prop where
 mod:Mod X.K X.mg X.base
 kind:X.env.scope.kind=.function
 glob:X.env.globals=mainGlobals
 blt:X.env.builtins=builtinsNs
 above:X.s₀.heap.objs.size<=X.env.locals
 inj:∀ x y c,X.env.cells.lookup x=some c->X.env.cells.lookup y=some c->x=y
 has:∀ x,(X.env.kindOf x=some .cell\/X.env.kindOf x=some .free)->∃ c,X.env.cells.lookup x=some c
 cab:∀ x c,X.fn x=true->X.env.cells.lookup x=some c->X.s₀.heap.objs.size<=c
 hd:X.calm=true->X.A.handled=none
 frames:X.A.frames=some X.stack
 stk:X.stack=X.outer\/(X.stack=X.env::X.outer/\X.env.frame=some X.env.locals)
 exf:∀ b∈X.ex,b≠X.env.locals/\∀ x c,X.env.cells.lookup x=some c->c≠b
 bs:∀ b o,X.base.get? b=some o->X.s₀.heap.get? b=some o/\X.H₀ b=none
 bsz:X.base.objs.size<=X.s₀.heap.objs.size
 noex:∀ b o,X.base.get? b=some o->b∉X.ex
 exfs:∀ b∈X.ex,b∉X.fs
 funs:X.s₀.heap.FunFrames X.base X.outer
 frf:∀ b∈X.fs,X.H₀ b=none
structure az (X:Cx) (Hm:List (G_×Hl)) (σ:List (Ha V)) (H:Hp) (s:G8):Prop where
 ok:X.Ok
 os:s.os=X.s₀.os
 bare:AllBare s.gens
 base:Un X.fs X.ex X.H₀ H X.s₀.heap s.heap
 loc:∃ m,s.heap.Ns X.env.locals m/\∀ (i:Nat) (x:Str) (v:V),X.N[i]?=some x->σ[i]?=some (some v)->C8 X.env.scope x->∃ u,bi v u/\EU X.env s.heap m x u
 cell:∀ x c,X.env.cells.lookup x=some c->∃ v,s.heap.IsCell c v
 free:H X.env.locals=none
 freeC:∀ x c,X.env.cells.lookup x=some c->H c=none
 pin:∀ p∈X.pn++Hm,s.heap.get? p.1=some p.2/\H p.1=none/\p.1≠X.env.locals/\p.1∉X.fs/\∀ v,p.2.data≠.cell v
 hok:k8 X.prog X.w H s.heap
 len:σ.length=X.N.length
section
variable {X:Cx} {Hm:List (G_×Hl)} {σ:List (Ha V)} {H H':Hp} {s:G8} {h':Hf}
theorem Cx.Ok.nofr (ok:X.Ok) {b:G_} {o:Hl} (e:X.base.get? b=some o):b∉X.fs:=λhb=>by
 have:=(ok.funs.mem hb).1;rw [e] at this; cases this
theorem az.bs (I:az X Hm σ H s):∀ b o,X.base.get? b=some o->s.heap.get? b=some o/\H b=none:=λb o e=>
 ⟨I.base.keep b o (I.ok.bs b o e).1 (I.ok.bs b o e).2 (I.ok.nofr e) (I.ok.noex b o e),I.base.free b o (I.ok.bs b o e).1 (I.ok.bs b o e).2 (I.ok.noex b o e)⟩
theorem az.bk (I:az X Hm σ H s):∀ b o,X.base.get? b=some o->s.heap.get? b=some o:=λb o e=>(I.bs b o e).1
theorem az.mod (I:az X Hm σ H s):Mod X.K X.mg X.base:=I.ok.mod
theorem az.kIn (I:az X Hm σ H s):X.K.In s.heap:=I.ok.mod.kin.keeps I.bk
theorem az.lt (I:az X Hm σ H s):X.env.locals < s.heap.objs.size:=let ⟨_,hn,_⟩:=I.loc; hn.lt
theorem az.sz (I:az X Hm σ H s):X.s₀.heap.objs.size<=s.heap.objs.size:=GO I.ok.above (Nat.le_of_lt I.lt)
theorem az.nofs (I:az X Hm σ H s) {a:G_} (h:s.heap.objs.size<=a):a∉X.fs:=λhb=>by
 obtain⟨_,o,ho,_⟩:=I.ok.funs.mem hb;exact absurd (Gp (Gf ho) (GO I.sz h)) (GV _)
theorem az.cne (I:az X Hm σ H s):∀ x c,X.env.cells.lookup x=some c->c≠X.env.locals:=λx c e z=>by
 obtain⟨v,o,ho,hd⟩:=I.cell x c e;obtain⟨m,⟨o',es,ep,ho',hd',_⟩,_⟩:=I.loc;rw [z,ho'] at ho; cases ho; rw [hd'] at hd; cases hd
theorem az.funs (I:az X Hm σ H s):s.heap.FunFrames X.base X.outer:=by
 have all:∀ (l:List Env),(∀ b∈gP l,b∈X.fs)->X.s₀.heap.FunFrames X.base l->s.heap.FunFrames X.base l:=by
  intro l
  induction l with
  | nil=>intro _ _; trivial
  | cons env r ih=>
   intro hs hl;obtain⟨hk,⟨L,o,hf,hn,ho,hd⟩,hr⟩:=hl;have hL:L∈X.fs:=hs L (by unfold gP; rw [List.filterMap_cons,hf]; exact Gn)
   obtain⟨sl,e⟩:=I.base.slot L o ho (I.ok.frf L hL) hL λz=>I.ok.exfs L z hL
   exact⟨hk,⟨L,_,hf,hn,e,hd⟩,ih (λb hb=>hs b (by unfold gP; rw [List.filterMap_cons,hf]; exact Go _ hb)) hr⟩
 exact all X.outer (λ_ hb=>hb) I.ok.funs
theorem az.stack (I:az X Hm σ H s):s.heap.FunFrames X.base X.stack:=by
 rcases I.ok.stk with e | ⟨e,hf⟩
 ·rw [e]; exact I.funs
 ·rw [e];obtain⟨m,hn,_⟩:=I.loc;refine .cons (by rw [I.ok.kind]; decide) hf hn ?_ I.funs
  exact Heap.get?_none_of_le (GO I.ok.bsz I.ok.above)
theorem az.stkSub (I:az X Hm σ H s):∀ b∈gP X.stack,b∈X.env.locals::X.fs:=λb hb=>by
 rcases I.ok.stk with e | ⟨e,hf⟩
 ·rw [e] at hb; exact Go _ hb
 ·rw [e] at hb;unfold gP at hb;rw [List.filterMap_cons,hf] at hb;exact hb
theorem az.stkFree (I:az X Hm σ H s):∀ b∈gP X.stack,H b=none:=λb hb=>by
 rcases Gk.mp (I.stkSub b hb) with e | hb
 ·rw [e]; exact I.free
 ·obtain⟨_,o,ho,_⟩:=I.ok.funs.mem hb;exact I.base.free b o ho (I.ok.frf b hb) λz=>I.ok.exfs b z hb
theorem az.step {g':Hh GenState} {t':Nat} {d':Drawn} {ch:List G_} (I:az X Hm σ H s)
  (hch:∀ b∈ch,(b∈X.ex\/X.s₀.heap.objs.size<=b)/\b≠X.env.locals/\(∀ x c,X.env.cells.lookup x=some c->c≠b)/\∀ p∈X.pn++Hm,p.1≠b)
  (keep:∀ b o,b≠X.env.locals->b∉X.fs->b∉ch->s.heap.get? b=some o->H b=none->h'.get? b=some o)
  (slot:∀ b o,b≠X.env.locals->b∈X.fs->b∉ch->s.heap.get? b=some o->H b=none->∃ sl,h'.get? b=some {o with slots:=sl}) (free:∀ b o,b∉ch->s.heap.get? b=some o->H b=none->H' b=none)
  (there:∀ b o,b∉ch->s.heap.get? b=some o->∃ o',h'.get? b=some o')
  (tups:∀ b xs,H b=some (.tup xs)->H' b=some (.tup xs)) (frzs:∀ b o u,H b=some (.frz o u)->H' b=some (.frz o u)) (tbls:∀ b ps,H b=some (.tbl ps)->∃ more,H' b=some (.tbl (ps++more)))
  (ns:∀ m,s.heap.Ns X.env.locals m->h'.Ns X.env.locals m) (hok:k8 X.prog X.w H' h') (hg:AllBare g'):
  az X Hm σ H' {s with heap:=h',gens:=g',drawn:=d',toks:=t'}:=by
 have neL:∀ b o,X.s₀.heap.get? b=some o->b≠X.env.locals:=λb o e=>Gm (Gp (Gf e) I.ok.above)
 have neC:∀ b o,X.s₀.heap.get? b=some o->b∉X.ex->b∉ch:=λb o e hx hb=>by
  rcases(hch b hb).1 with z | z
  ·exact hx z
  ·exact absurd (Gp (Gf e) z) (GV _)
 have cellK:∀ x c,X.env.cells.lookup x=some c->∀ v,s.heap.IsCell c v->h'.IsCell c v:=λx c e v ⟨o,ho,hd⟩=>by
  have nch:c∉ch:=λz=>(hch c z).2.2.1 x c e rfl
  by_cases hc:c∈X.fs
  ·obtain⟨sl,q⟩:=slot c o (I.cne x c e) hc nch ho (I.freeC x c e);exact⟨_,q,hd⟩
  ·exact⟨o,keep c o (I.cne x c e) hc nch ho (I.freeC x c e),hd⟩
 refine⟨I.ok,I.os,hg,⟨λb o e n hb hx=>?_,λb o e n hb hx=>?_,λb o e n hx=>?_,λb o e hx=>?_,λb xs e=>tups b xs (I.base.tups b xs e),λb o xs e=>frzs b o xs (I.base.frzs b o xs e),λb ps e=>?_⟩,?_,λx c e=>?_,?_,λx c e=>?_,λp hp=>?_,hok,I.len⟩
 ·exact keep b o (neL b o e) hb (neC b o e hx) (I.base.keep b o e n hb hx) (I.base.free b o e n hx)
 ·obtain⟨sl,e1⟩:=I.base.slot b o e n hb hx;obtain⟨sl',e2⟩:=slot b _ (neL b o e) hb (neC b o e hx) e1 (I.base.free b o e n hx);exact⟨sl',e2⟩
 ·obtain⟨o',e1⟩:=I.base.there b o e hx;exact free b o' (neC b o e hx) e1 (I.base.free b o e n hx)
 ·obtain⟨o',e1⟩:=I.base.there b o e hx;exact there b o' (neC b o e hx) e1
 ·obtain⟨m1,e1⟩:=I.base.tbls b ps e;obtain⟨m2,e2⟩:=tbls b _ e1;exact⟨m1++m2,by rw [e2,Array.append_assoc]⟩
 ·obtain⟨m,hn,hl⟩:=I.loc;refine⟨m,ns m hn,λi x v e1 e2 e3=>?_⟩
  obtain⟨u,r,l⟩:=hl i x v e1 e2 e3;refine⟨u,r,?_⟩;rcases l with l | ⟨k,c,e,z⟩
  ·exact .inl l
  ·exact .inr ⟨k,c,e,cellK x c e _ z⟩
 ·obtain⟨v,z⟩:=I.cell x c e;exact⟨v,cellK x c e v z⟩
 ·obtain⟨m,⟨o,_,_,ho,_⟩,_⟩:=I.loc;exact free _ o (λz=>(hch _ z).2.1 rfl) ho I.free
 ·obtain⟨v,o,ho,hd⟩:=I.cell x c e;exact free c o (λz=>(hch c z).2.2.1 x c e rfl) ho (I.freeC x c e)
 ·obtain⟨e,n,ne,nf,d⟩:=I.pin p hp;have nch:p.1∉ch:=λz=>(hch p.1 z).2.2.2 p hp rfl
  exact⟨keep p.1 p.2 ne nf nch e n,free p.1 p.2 nch e n,ne,nf,d⟩
theorem az.un {t':Nat} (I:az X Hm σ H s) (u:Un X.fs [] H H' s.heap h') (hok:k8 X.prog X.w H' h'):az X Hm σ H' {s with heap:=h',toks:=t'}:=by
 obtain⟨m,⟨o,es,ep,ho,r⟩,_⟩:=id I.loc;obtain⟨sl,hL⟩:=u.any ho I.free (by simp)
 exact I.step (g':=s.gens) (d':=s.drawn) (ch:=[]) (λ_ z=>nomatch z) (λb o _ hb _ e n=>u.keep b o e n hb (by simp)) (λb o _ hb _ e n=>u.slot b o e n hb (by simp)) (λb o _ e n=>u.free b o e n (by simp)) (λb o _ e=>u.there b o e (by simp)) u.tups u.frzs u.tbls (λm' hm=>by
  obtain⟨o',es',ep',ho',r'⟩:=hm;rw [ho] at ho'; cases ho'
  exact⟨_,es',ep',hL,r'⟩) hok I.bare
theorem az.call {g':Hh GenState} {t':Nat} {d':Drawn} {ch:List G_} (I:az X Hm σ H s) (u:Un (gP X.stack) ch H H' s.heap h') (hok:k8 X.prog X.w H' h') (hg:AllBare g')
  (hch:∀ b∈ch,(b∈X.ex\/X.s₀.heap.objs.size<=b)/\b≠X.env.locals/\(∀ x c,X.env.cells.lookup x=some c->c≠b)/\∀ p∈X.pn++Hm,p.1≠b):
  az X Hm σ H' {s with heap:=h',gens:=g',drawn:=d',toks:=t'}:=by
 obtain⟨m,⟨o,es,ep,ho,r⟩,_⟩:=id I.loc;obtain⟨sl,hL⟩:=u.any ho I.free λz=>(hch _ z).2.1 rfl
 exact I.step (ch:=ch) hch (λb o hL hb hc e n=>u.keep b o e n (λz=>(Gk.mp (I.stkSub b z)).elim hL hb) hc) (λb o _ _ hc e n=>u.any e n hc) (λb o hc e n=>u.free b o e n hc) (λb o hc e=>u.there b o e hc) u.tups u.frzs u.tbls (λm' hm=>by
  obtain⟨o',es',ep',ho',r'⟩:=hm;rw [ho] at ho'; cases ho'
  exact⟨_,es',ep',hL,r'⟩) hok hg
theorem az.turned {t':Nat} {it:G_} (I:az X Hm σ H s) (k:∀ b o,b≠it->s.heap.get? b=some o->h'.get? b=some o) (hn:H it=none) (hL:it≠X.env.locals)
  (h1:it∈X.ex\/X.s₀.heap.objs.size<=it) (h2:∀ x c,X.env.cells.lookup x=some c->c≠it) (h3:∀ p∈X.pn++Hm,p.1≠it):az X Hm σ H {s with heap:=h',toks:=t'}:=by
 have nit:∀ b u,H b=some u->b≠it:=λb u e z=>by rw [z,hn] at e; cases e
 refine I.step (g':=s.gens) (d':=s.drawn) (ch:=[it]) (λb hb=>?_) (λb o _ _ hc e _=>k b o (λz=>hc (by simp [z])) e) (λb o _ _ hc e _=>⟨o.slots,k b o (λz=>hc (by simp [z])) e⟩) (λ_ _ _ _ n=>n)
  (λb o hc e=>⟨o,k b o (λz=>hc (by simp [z])) e⟩) (λ_ _ e=>e) (λ_ _ _ e=>e) (λb ps e=>⟨#[],by rw [e]; simp⟩) (λm hm=>?_) (λb u e=>?_) I.bare
 ·have e:b=it:=by simpa using hb
  subst e;exact⟨h1,hL,h2,h3⟩
 ·obtain⟨o,es,ep,ho,r⟩:=hm;exact⟨o,es,ep,k _ o (Ne.symm hL) ho,r⟩
 ·refine(I.hok b u e).stay (λc v hc q=>k c v ?_ q) (λ_ q=>q) λ_ _ q=>q
  rcases hc with z | z
  ·rw [z]; exact nit b u e
  ·exact nit c _ z
theorem az.tok (I:az X Hm σ H s) (t:Nat):az X Hm σ H {s with toks:=t}:=I.un (h':=s.heap) (t':=t) Un.refl I.hok
theorem az.kept {t':Nat} (I:az X Hm σ H s) (k:∀ b u,s.heap.get? b=some u->h'.get? b=some u):az X Hm σ H {s with heap:=h',toks:=t'}:=I.un (Un.kept k) (I.hok.kept k)
theorem az.laid {a:G_} {o:HO} {t':Nat} (I:az X Hm σ H s) (k:∀ b u,s.heap.get? b=some u->h'.get? b=some u) (hp:s.heap.objs.size<=a) (new:en X.prog X.w (bI H a o) h' a o):
  az X Hm σ (bI H a o) {s with heap:=h',toks:=t'}:=I.un (Un.laid k hp (I.hok.fresh hp)) (I.hok.laid k hp new)
theorem az.write {x e:G_} {o:HO} {t':Nat} (I:az X Hm σ H s) (mu:El (H x)) (he:e=x\/H e=some (.own x)) (k:∀ b u,b≠e->s.heap.get? b=some u->h'.get? b=some u) (heo:∃ u,h'.get? e=some u)
  (new:en X.prog X.w (bI H x o) h' x o):az X Hm σ (bI H x o) {s with heap:=h',toks:=t'}:=I.un (Un.write mu he k heo) (I.hok.write mu he k heo new)
theorem az.pins_of {pins':List (G_×Hl)} (I:az X Hm σ H s) (h:∀ p∈pins',s.heap.get? p.1=some p.2/\H p.1=none/\p.1≠X.env.locals/\p.1∉X.fs/\∀ v,p.2.data≠.cell v):az X pins' σ H s:=
 ⟨I.ok,I.os,I.bare,I.base,I.loc,I.cell,I.free,I.freeC,λp hp=>(List.mem_append.mp hp).elim (λz=>I.pin p (List.mem_append_left _ z)) (h p),I.hok,I.len⟩
theorem se {N:List Str} (hN:N.Nodup) {i j:Nat} {x:Str} (a:N[i]?=some x) (b:N[j]?=some x):i=j:=by
 obtain⟨h1,e1⟩:=GL.mp a;obtain⟨h2,e2⟩:=GL.mp b;exact(List.getElem_inj hN).mp (e1.trans e2.symm)
theorem vk {M:Model} {A:Hd} {E:G9->G8->Prop} {i:Nat} {x:Str} {v:V} {u:G9} {Q:Unit->G8->Prop} (I:az X Hm σ H s) (hN:X.N.Nodup) (hi:X.N[i]?=some x) (hx:Aw X.env.scope x) (r:bi v u)
  (h:∀ s',az X Hm (σ.set i (some v)) H s'->(∃ a,Heap.SameBut a s.heap s'.heap/\(a=X.env.locals\/X.env.cells.lookup x=some a))->Q () s') (hf:X.fn x=true\/X.env.scope.names.lookup x=some .local:=by first | exact .inl rfl | exact .inr rfl | assumption):wpAny M A (storeName X.env x u) Q E s:=by
 obtain⟨m,hn,hl⟩:=id I.loc;have hcls:(X.env.scope.kind == .class || (X.env.scope.kind == .module && X.env.locals != X.env.globals))=false:=by rw [I.ok.kind]; rfl
 have hiσ:i < σ.length:=by rw [I.len]; exact(GL.mp hi).1
 have cne:=I.cne;have tracked:∀ {a:G_} {h':Hf},(∃ o,s.heap.get? a=some o/\H a=none)->Heap.SameBut a s.heap h'->k8 X.prog X.w H h':=λ{a h'} ha hs b ob e=>by
  obtain⟨_,_,hfree⟩:=ha;refine(I.hok b ob e).stay (λc w' hc q=>(hs.2 c ?_).trans q) (λ_ q=>q) λ_ _ q=>q
  rintro rfl;rcases hc with rfl | hc
  ·rw [hfree] at e; cases e
  ·rw [hfree] at hc; cases hc
 rcases hx with hk | hk
 ·refine wpAny_storeName_local hk hn (λh' hn' hs=>?_) hcls
  obtain⟨oL,_,_,hoL,_⟩:=id hn;refine h _ ⟨I.ok,I.os,I.bare,⟨λb o e n hb hx=>?_,λb o e n hb hx=>?_,I.base.free,λb o e hx=>?_,I.base.tups,I.base.frzs,I.base.tbls⟩,⟨_,hn',λj y v' e1 e2 e3=>?_⟩,λy c e=>?_,I.free,I.freeC,λp hp=>?_,tracked ⟨oL,hoL,I.free⟩ hs,by simpa using I.len⟩ ⟨_,hs,.inl rfl⟩
  ·exact(hs.2 b (Gm (Gp (Gf e) I.ok.above))).trans (I.base.keep b o e n hb hx)
  ·obtain⟨sl,e1⟩:=I.base.slot b o e n hb hx;exact⟨sl,(hs.2 b (Gm (Gp (Gf e) I.ok.above))).trans e1⟩
  ·obtain⟨o',e1⟩:=I.base.there b o e hx;exact⟨o',(hs.2 b (Gm (Gp (Gf e) I.ok.above))).trans e1⟩
  ·by_cases hj:j=i
   ·subst hj;rw [hi] at e1; cases e1
    rw [List.getElem?_set_self hiσ] at e2;cases e2;exact⟨u,r,.inl ⟨hk,by simp⟩⟩
   ·rw [List.getElem?_set_ne (Ne.symm hj)] at e2;obtain⟨u',r',q⟩:=hl j y v' e1 e2 e3;refine⟨u',r',?_⟩;rcases q with ⟨k,e⟩ | ⟨k,c,e,z⟩
    ·refine .inl ⟨k,?_⟩;have:y≠x:=λe=>hj (se hN e1 (e▸hi))
     simp [this,e]
    ·exact .inr ⟨k,c,e,z.sameBut hs (cne y c e)⟩
  ·obtain⟨w',z⟩:=I.cell y c e;exact⟨w',z.sameBut hs (cne y c e)⟩
  ·obtain⟨e,n,ne,nf,d⟩:=I.pin p hp;exact⟨(hs.2 p.1 ne).trans e,n,ne,nf,d⟩
 ·have hfn:X.fn x=true:=by
   rcases hf with z | z
   ·exact z
   ·rw [z] at hk; cases hk
  obtain⟨c,hc⟩:=I.ok.has x (.inl hk);obtain⟨w',z⟩:=I.cell x c hc;refine wpAny_storeName_cell I.ok.kind hk hc z (λh' hc' hs=>?_)
  obtain⟨oc,hoc,hocd⟩:=id z;refine h {s with heap:=h'} ⟨I.ok,I.os,I.bare,⟨λb o e n hb hx=>?_,λb o e n hb hx=>?_,I.base.free,λb o e hx=>?_,I.base.tups,I.base.frzs,I.base.tbls⟩,⟨m,hn.sameBut hs (Ne.symm (cne x c hc)),λj y v' e1 e2 e3=>?_⟩,λy c' e=>?_,I.free,I.freeC,λp hp=>?_,tracked ⟨oc,hoc,I.freeC x c hc⟩ hs,by simpa using I.len⟩ ⟨c,hs,.inr hc⟩
  ·exact(hs.2 b (Gm (Gp (Gf e) (I.ok.cab x c hfn hc)))).trans (I.base.keep b o e n hb hx)
  ·obtain⟨sl,e1⟩:=I.base.slot b o e n hb hx;exact⟨sl,(hs.2 b (Gm (Gp (Gf e) (I.ok.cab x c hfn hc)))).trans e1⟩
  ·obtain⟨o',e1⟩:=I.base.there b o e hx;exact⟨o',(hs.2 b (Gm (Gp (Gf e) (I.ok.cab x c hfn hc)))).trans e1⟩
  ·by_cases hj:j=i
   ·subst hj;rw [hi] at e1; cases e1
    rw [List.getElem?_set_self hiσ] at e2;cases e2;exact⟨u,r,.inr ⟨.inl hk,c,hc,hc'⟩⟩
   ·rw [List.getElem?_set_ne (Ne.symm hj)] at e2;obtain⟨u',r',q⟩:=hl j y v' e1 e2 e3;refine⟨u',r',?_⟩;rcases q with q | ⟨k,c',e,z'⟩
    ·exact .inl q
    ·refine .inr ⟨k,c',e,z'.sameBut hs ?_⟩;rintro rfl;exact hj (se hN e1 (I.ok.inj _ _ _ e hc▸hi))
  ·by_cases hcc:c'=c
   ·subst hcc; exact⟨_,hc'⟩
   ·obtain⟨w2,z2⟩:=I.cell y c' e;exact⟨w2,z2.sameBut hs hcc⟩
  ·obtain⟨e,n,ne,nf,d⟩:=I.pin p hp;refine⟨(hs.2 p.1 ?_).trans e,n,ne,nf,d⟩;intro q;rw [q,hoc] at e;have q':oc=p.2:=GF e;exact d w' (by rw [<- q']; exact hocd)
theorem iV {M:Model} {A:Hd} {E:G9->G8->Prop} {i:Nat} {x:Str} {v:V} {u:G9} {Q:Unit->G8->Prop} (I:az X Hm σ H s) (hN:X.N.Nodup) (hi:X.N[i]?=some x) (hx:Aw X.env.scope x) (r:bi v u)
  (h:∀ s',az X Hm (σ.set i (some v)) H s'->Q () s') (hf:X.fn x=true\/X.env.scope.names.lookup x=some .local:=by first | exact .inl rfl | exact .inr rfl | assumption):wpAny M A (storeName X.env x u) Q E s:=
 vk I hN hi hx r (λs' I' _=>h s' I') hf
theorem az.call' {s':G8} {ch:List G_} (I:az X Hm σ H s) (ho:s'.os=s.os) (u:Un (gP X.stack) ch H H' s.heap s'.heap) (hok:k8 X.prog X.w H' s'.heap) (hg:AllBare s'.gens)
  (hch:∀ b∈ch,(b∈X.ex\/X.s₀.heap.objs.size<=b)/\b≠X.env.locals/\(∀ x c,X.env.cells.lookup x=some c->c≠b)/\∀ p∈X.pn++Hm,p.1≠b):az X Hm σ H' s':=by
 obtain⟨h',g',d',t',o'⟩:=s';have e:o'=s.os:=ho;subst e;exact I.call (g':=g') (t':=t') (d':=d') u hok hg hch
end
abbrev XK:=G9->Ha G_->Hp->Prop
abbrev St:=List (Ha V)
abbrev VK:=V->Hp->Prop
abbrev TE:=St->Hp->VK->Prop
abbrev TT:=St->Hp->(Hi->Hp->Prop)->Prop
abbrev TA:=St->Hp->(List V->Hp->Prop)->Prop
structure fo where
 nx:St->Hp->Prop
 rt:VK
 bk:St->Hp->Prop:=λ_ _=>False
 ct:St->Hp->Prop:=λ_ _=>False
abbrev TS:=fo->St->Hp->Prop
def EP (X:Cx) (Hm:List (G_×Hl)) (σ:St) (Q:VK) (u:G9) (s':G8):Prop:=∃ v H',az X Hm σ H' s'/\bi v u/\Q v H'
def TP (X:Cx) (Hm:List (G_×Hl)) (σ:St) (Q:Hi->Hp->Prop) (b:Hi) (s':G8):Prop:=∃ H',az X Hm σ H' s'/\Q b H'
def AP (X:Cx) (Hm:List (G_×Hl)) (σ:St) (Q:List V->Hp->Prop) (us:List G9) (s':G8):Prop:=∃ vs H',az X Hm σ H' s'/\aW vs us/\Q vs H'
def SP (X:Cx) (Hm:List (G_×Hl)) (D:fo) (f:Flow) (s':G8):Prop:=
 match f with
 | .next=>∃ σ' H',az X Hm σ' H' s'/\D.nx σ' H'
 | .brk=>∃ σ' H',az X Hm σ' H' s'/\D.bk σ' H'
 | .cont=>∃ σ' H',az X Hm σ' H' s'/\D.ct σ' H'
 | .ret u=>∃ v σ' H',az X Hm σ' H' s'/\bi v u/\D.rt v H'
def PE (X:Cx) (e:Hb) (t:TE):Prop:=
 ∀ (Hm:List (G_×Hl)) (s:G8) (σ:St) (H:Hp) (Q:VK),az X Hm σ H s->t σ H Q->wpAny (model X.prog X.w) X.A (eval e X.env) (EP X Hm σ Q) X.xe s
def PT (X:Cx) (e:Hb) (t:TT):Prop:=
 ∀ (Hm:List (G_×Hl)) (s:G8) (σ:St) (H:Hp) (Q:Hi->Hp->Prop),az X Hm σ H s->t σ H Q->wpAny (model X.prog X.w) X.A (isTrue e X.env (eval e X.env)) (TP X Hm σ Q) X.xe s
def PW (X:Cx) (e:Hb) (t:TT):Prop:=
 ∀ (whole:Sem G9) (Hm:List (G_×Hl)) (s:G8) (σ:St) (H:Hp) (Q:Hi->Hp->Prop),az X Hm σ H s->t σ H Q->wpAny (model X.prog X.w) X.A (isTrue e X.env whole) (TP X Hm σ Q) X.xe s
theorem PW.pt {X:Cx} {e:Hb} {t:TT} (h:PW X e t):PT X e t:=h _
def PA (X:Cx) (es:List Hb) (t:TA):Prop:=
 ∀ (pos:Pos) (Hm:List (G_×Hl)) (s:G8) (σ:St) (H:Hp) (Q:List V->Hp->Prop),az X Hm σ H s->t σ H Q->wpAny (model X.prog X.w) X.A (spliced (backTo pos (starEach es X.env))) (AP X Hm σ Q) X.xe s
def PS (X:Cx) (st:Hg) (t:TS):Prop:=
 ∀ (Hm:List (G_×Hl)) (s:G8) (σ:St) (H:Hp) (D:fo),az X Hm σ H s->t D σ H->wpAny (model X.prog X.w) X.A (exec st X.env) (SP X Hm D) X.xe s
def mV (X:Cx) (st:List Hg) (t:TS):Prop:=
 ∀ (Hm:List (G_×Hl)) (s:G8) (σ:St) (H:Hp) (D:fo),az X Hm σ H s->t D σ H->wpAny (model X.prog X.w) X.A (execs st X.env) (SP X Hm D) X.xe s
theorem bX {α:Type} {t:Sem α} {Q Q':α->G8->Prop} {M:Model} {A:Hd} {E:G9->G8->Prop} {s:G8} (h:wpAny M A t Q E s) (hQ:∀ a s,Q a s->Q' a s):wpAny M A t Q' E s:=GM h hQ λ_ _ x=>x
section
variable {X:Cx}
def E' (i:Nat):TE:=fun σ H Q=>∃ v,σ[i]?=some (some v)/\Q v H
def tC (v:V):TE:=λ_ H Q=>Q v H
theorem Bv {i:Nat} {x:Str} {pos:Pos} (hN:X.N[i]?=some x) (hv:C8 X.env.scope x) (hd:(x == ("__debug__":Str))=false:=by decide) (hcd:(x == ("__classdict__":Str))=false:=by decide):PE X (.Name x pos) (E' i):=by
 intro Hm s σ H Q I h;obtain⟨v,e,h⟩:=h;obtain⟨m,hn,hl⟩:=I.loc;obtain⟨u,r,l⟩:=hl i x v hN e hv;have fin:EP X Hm σ Q u s:=⟨v,H,I,r,h⟩;rcases l with ⟨hk,hm⟩ | ⟨hk,c,hc,hcell⟩
 ·exact wpAny_Name (wpAny_loadName_local I.ok.kind hk hn hm fin) hd
 ·rcases hk with hk | hk
  ·exact wpAny_Name (wpAny_loadName_cell I.ok.kind hk hc hcell fin) hd
  ·exact wpAny_Name (wpAny_loadName_free I.ok.kind hk hc hcell fin hcd) hd
theorem B4 {i j pos}:PE X (.Constant (.int i) j pos) (tC (.int i)):=λ_ _ _ H _ I h=>wpAny_Constant_int ⟨.int i,H,I.tok _,⟨_,rfl⟩,h⟩
theorem C0 {b j pos}:PE X (.Constant (.bool b) j pos) (tC (.bl b)):=λ_ _ _ H _ I h=>Constant_bool ⟨.bl b,H,I,rfl,h⟩
theorem Bc {j pos}:PE X (.Constant .none j pos) (tC .non):=λ_ _ _ H _ I h=>Constant_none ⟨.non,H,I,rfl,h⟩
theorem Ca {x j pos}:PE X (.Constant (.str x) j pos) (tC (.str x)):=λ_ _ _ H _ I h=>Calls.Constant_str ⟨.str x,H,I.tok _,⟨_,rfl⟩,h⟩
def Gl (X:Cx) (x:Str):Prop:=X.env.kindOf x=some .globalImplicit
theorem kA {E:G9->G8->Prop} {Hm:List (G_×Hl)} {s:G8} {σ:St} {H:Hp} {x:Str} {u:G9} {pos:Pos} {Q:G9->G8->Prop} (I:az X Hm σ H s) (hg:Gl X x) (hm:X.mg x=some u) (h:Q u s)
  (hd:(x == ("__debug__":Str))=false:=by decide):wpAny (model X.prog X.w) X.A (eval (.Name x pos) X.env) Q E s:=
 Calls.Name_function_global I.ok.kind hg (Calls.loadGlobal_global (by rw [I.ok.glob]; exact I.mod.glob.keeps I.bk) hm h) hd
theorem nh {E:G9->G8->Prop} {Hm:List (G_×Hl)} {s:G8} {σ:St} {H:Hp} {x:Str} {u:G9} {pos:Pos} {Q:G9->G8->Prop} (I:az X Hm σ H s) (hg:Gl X x) (hm:X.mg x=none) (hv:bootBuiltins x=some u) (h:Q u s)
  (hn:x≠"__name__":=by decide) (hd:(x == ("__debug__":Str))=false:=by decide):wpAny (model X.prog X.w) X.A (eval (.Name x pos) X.env) Q E s:=by
 obtain⟨mb,h1,h2⟩:=I.mod.blt;exact Calls.Name_function_global I.ok.kind hg (Calls.loadGlobal_builtin (by rw [I.ok.glob]; exact I.mod.glob.keeps I.bk) hm (by rw [I.ok.blt]; exact h1.keeps I.bk) ((h2 x hn).trans hv) h) hd
theorem p8 {x:Str} {v:V} {u:G9} {pos:Pos} (hg:Gl X x) (hm:X.mg x=some u) (r:bi v u) (hd:(x == ("__debug__":Str))=false:=by decide):PE X (.Name x pos) (tC v):=
 λ_ _ _ H _ I h=>kA I hg hm ⟨v,H,I,r,h⟩ hd
variable {a b:Hb} {ta tb:TE} {pos:Pos}
def tB (t:TE):TT:=fun σ H Q=>t σ H λx H1=>∃ c,x=.bl c/\Q c H1
theorem BH {e:Hb} {t:TE} (h:PE X e t) (he:∀ whole,isTrue e X.env whole=(do let v <- whole; standAt e.pos; holding [v] (truthy v)):=by intro _; rfl):PT X e (tB t):=by
 intro Hm s σ H Q I hw;refine isTrue_plain (bX (h Hm s σ H _ I hw) λv s1 ⟨x,H1,I1,r1,q1⟩=>?_) (he _)
 obtain⟨d,rfl,q⟩:=q1;cases r1;exact wpAny_truthy_bool ⟨H1,I1,q⟩
variable {tA tB':TT} {bY:List Hb}
def Et (t u:TT):TT:=fun σ H Q=>t σ H λc H1=>if c=true then u σ H1 Q else Q false H1
def FI (t u:TT):TT:=fun σ H Q=>t σ H λc H1=>if c=true then Q true H1 else u σ H1 Q
def E8 (t:TT):TT:=fun σ H Q=>t σ H λc H1=>Q (!c) H1
theorem y9 (ha:PT X a tA):PW X (.BoolOp .And [a] pos) tA:=by
 intro wh Hm s σ H Q I h;refine isTrue_and (bX (ha Hm s σ H Q I h) λc s1 e=>?_)
 cases c with
 | true=>exact isTrue_and_nil e
 | false=>exact e
theorem AU (ha:PT X a tA):PW X (.BoolOp .Or [a] pos) tA:=by
 intro wh Hm s σ H Q I h;refine isTrue_or (bX (ha Hm s σ H Q I h) λc s1 e=>?_)
 cases c with
 | false=>exact isTrue_or_nil e
 | true=>exact e
theorem AF (ha:PT X a tA) (hb:PW X (.BoolOp .And (b::bY) pos) tB'):PW X (.BoolOp .And (a::b::bY) pos) (Et tA tB'):=by
 intro wh Hm s σ H Q I h;refine isTrue_and (bX (ha Hm s σ H _ I h) λc s1 z9=>?_)
 obtain⟨H1,I1,q1⟩:=z9;cases c with
 | true=>exact hb wh Hm s1 σ H1 Q I1 q1
 | false=>exact⟨H1,I1,q1⟩
theorem Db (ha:PT X a tA) (hb:PW X (.BoolOp .Or (b::bY) pos) tB'):PW X (.BoolOp .Or (a::b::bY) pos) (FI tA tB'):=by
 intro wh Hm s σ H Q I h;refine isTrue_or (bX (ha Hm s σ H _ I h) λc s1 z9=>?_)
 obtain⟨H1,I1,q1⟩:=z9;cases c with
 | true=>exact⟨H1,I1,q1⟩
 | false=>exact hb wh Hm s1 σ H1 Q I1 q1
theorem Bu (ha:PT X a tA):PT X (.UnaryOp .Not a pos) (E8 tA):=by
 intro Hm s σ H Q I h;exact isTrue_not (ha Hm s σ H (λc H1=>Q (!c) H1) I h)
def CV (ta tb:TE):TE:=fun σ H Q=>ta σ H λx H1=>∃ c,x=.bl c/\if c=true then tb σ H1 Q else Q (.bl false) H1
theorem Be {op} {t:TE} (h:PE X a t):PE X (.BoolOp op [a] pos) t:=λHm s σ H Q I hw=>BoolOp_one (h Hm s σ H Q I hw)
theorem B_ (ha:PE X a ta) (hb:PE X (.BoolOp .And (b::bY) pos) tb):PE X (.BoolOp .And (a::b::bY) pos) (CV ta tb):=by
 intro Hm s σ H Q I h;refine BoolOp_and (bX (ha Hm s σ H _ I h) λv s1 z9=>?_)
 obtain⟨x,H1,I1,r1,q1⟩:=z9;obtain⟨c,rfl,q1⟩:=q1;cases r1;refine wpAny_truthy_bool ?_;cases c with
 | true=>exact hb Hm s1 σ H1 Q I1 q1
 | false=>exact⟨.bl false,H1,I1,rfl,q1⟩
def F_ (t:TT) (ta tb:TE):TE:=fun σ H Q=>t σ H λc H1=>if c=true then ta σ H1 Q else tb σ H1 Q
theorem wn {c:Hb} (hc:PT X c tA) (ha:PE X a ta) (hb:PE X b tb):PE X (.IfExp c a b pos) (F_ tA ta tb):=by
 intro Hm s σ H Q I h;refine wpAny_IfExp (bX (hc Hm s σ H _ I h) λd s1 z9=>?_)
 obtain⟨H1,I1,q1⟩:=z9;cases d with
 | true=>exact ha Hm s1 σ H1 Q I1 q1
 | false=>exact hb Hm s1 σ H1 Q I1 q1
end
def eu (K:PySem.W.Frag) (H:Hp) (a:G_) (xs:List V):Prop:=
 Rd H a (.lst xs)\/
  ∃ (o:Hl) (its:Hh G9) (n:Nat),K.lookup a=some o/\o.cls=.type "list"/\o.dict=none/\o.data=.seq its n/\its.size<=sizeLine/\aW xs its.toList
def kU (K:PySem.W.Frag) (H:Hp) (a:G_) (xs:List V):Prop:=
 Rd H a (.tup xs)\/
  ∃ (o:Hl) (its:Hh G9) (n:Nat),K.lookup a=some o/\o.cls=.type "tuple"/\o.data=.seq its n/\its.size<=sizeLine/\aW xs its.toList
def ET:G9->Ha V
 | .none=>some .non
 | .bool b=>some (.bl b)
 | .int i _=>some (.int i)
 | .str x _=>some (.str x)
 | .bytes b _=>some (.byt b)
 | .float b _=>some (.flt b)
 | .ref a=>some (.ref a)
 | .type n=>some (.ty n)
 | _=>none
theorem bi.abs {x:V} {u:G9} (r:bi x u):ET u=some x:=by
 cases x with
 | non=>cases r; rfl
 | bl _=>cases r; rfl
 | int _=>obtain⟨t,rfl⟩:=r; rfl
 | str _=>obtain⟨t,rfl⟩:=r; rfl
 | byt _=>obtain⟨t,rfl⟩:=r; rfl
 | flt _=>obtain⟨t,rfl⟩:=r; rfl
 | ref _=>cases r; rfl
 | ty _=>cases r; rfl
theorem bi.inj {x y:V} {u:G9} (r:bi x u) (q:bi y u):x=y:=GF (r.abs.symm.trans q.abs)
theorem aW.inj:∀ {xs ys:List V} {us:List G9},aW xs us->aW ys us->xs=ys
 | _,_,_,.nil,.nil=>rfl
 | _,_,_,.cons r t,.cons r' t'=>by rw [r.inj r',aW.inj t t']
section
variable {X:Cx} {Hm:List (G_×Hl)} {σ:St} {H:Hp} {s:G8} {a:G_} {xs ys:List V}
theorem eu.of {K:PySem.W.Frag} (h:H a=some (.lst xs)):eu K H a xs:=.inl (.inl h)
theorem kU.of {K:PySem.W.Frag} (h:H a=some (.tup xs)):kU K H a xs:=.inl (.inl h)
theorem az.list (I:az X Hm σ H s) (h:eu X.K H a xs):∃ its:List G9,aW xs its/\PlainL s.heap a its.toArray/\xs.length<=sizeLine:=by
 rcases h with h | ⟨o,its,n,hk,hc,hd,hs,hz,r⟩
 ·obtain⟨z,its,n,r,e⟩:=h.ok I.hok;exact⟨its,r,⟨_,n,e,rfl,rfl,rfl⟩,z⟩
 ·refine⟨its.toList,r,⟨o,n,I.kIn a o hk,hc,hd,by simpa using hs⟩,?_⟩
  have e:=r.length;simp only [Array.length_toList] at e;omega
theorem az.tuple (I:az X Hm σ H s) (h:kU X.K H a xs):∃ its:List G9,aW xs its/\IsTup s.heap a its.toArray/\xs.length<=sizeLine:=by
 rcases h with h | ⟨o,its,n,hk,hc,hs,hz,r⟩
 ·obtain⟨z,its,r,p⟩:=h.ok I.hok;exact⟨its,r,p,z⟩
 ·refine⟨its.toList,r,⟨o,I.kIn a o hk,hc,n,by simpa using hs⟩,?_⟩
  have e:=r.length;simp only [Array.length_toList] at e;omega
theorem az.list_inj (I:az X Hm σ H s) (h:eu X.K H a xs) (h':eu X.K H a ys):xs=ys:=by
 obtain⟨its,r,⟨o,n,e,_,_,d⟩,_⟩:=I.list h;obtain⟨its',r',⟨o',n',e',_,_,d'⟩,_⟩:=I.list h';rw [e] at e'; cases e'
 rw [d] at d';injection d' with d1 _
 have:its=its':=by simpa using congrArg Array.toList d1
 subst this;exact r.inj r'
theorem az.tuple_inj (I:az X Hm σ H s) (h:kU X.K H a xs) (h':kU X.K H a ys):xs=ys:=by
 obtain⟨its,r,⟨o,e,_,n,d⟩,_⟩:=I.tuple h;obtain⟨its',r',⟨o',e',_,n',d'⟩,_⟩:=I.tuple h';rw [e] at e'; cases e'
 rw [d] at d';injection d' with d1 _
 have:its=its':=by simpa using congrArg Array.toList d1
 subst this;exact r.inj r'
end
abbrev Cx.wish (X:Cx) (E:G9->G8->Prop):Cx:={X with xe:=E}
abbrev Cx.nox (X:Cx):Cx:=X.wish λ_ _=>False
theorem Cx.Ok.wish {X:Cx} (ok:X.Ok) (E:G9->G8->Prop):(X.wish E).Ok:=
 ⟨ok.mod,ok.kind,ok.glob,ok.blt,ok.above,ok.inj,ok.has,ok.cab,ok.hd,ok.frames,ok.stk,ok.exf,ok.bs,ok.bsz,ok.noex,ok.exfs,ok.funs,ok.frf⟩
theorem Cx.Ok.unwish {X:Cx} {E:G9->G8->Prop} (ok:(X.wish E).Ok):X.Ok:=
 ⟨ok.mod,ok.kind,ok.glob,ok.blt,ok.above,ok.inj,ok.has,ok.cab,ok.hd,ok.frames,ok.stk,ok.exf,ok.bs,ok.bsz,ok.noex,ok.exfs,ok.funs,ok.frf⟩
section
variable {X:Cx} {Hm:List (G_×Hl)} {σ:St} {H:Hp} {s:G8} {E:G9->G8->Prop}
theorem az.wish (I:az X Hm σ H s) (E:G9->G8->Prop):az (X.wish E) Hm σ H s:=⟨I.ok.wish E,I.os,I.bare,I.base,I.loc,I.cell,I.free,I.freeC,I.pin,I.hok,I.len⟩
theorem az.unwish (I:az (X.wish E) Hm σ H s):az X Hm σ H s:=⟨I.ok.unwish,I.os,I.bare,I.base,I.loc,I.cell,I.free,I.freeC,I.pin,I.hok,I.len⟩
theorem SP.unwish {D:fo} {f:Flow} {s':G8} (h:SP (X.wish E) Hm D f s'):SP X Hm D f s':=by
 cases f with
 | next=>obtain⟨σ',H',I,q⟩:=h; exact⟨σ',H',I.unwish,q⟩
 | brk=>obtain⟨σ',H',I,q⟩:=h; exact⟨σ',H',I.unwish,q⟩
 | cont=>obtain⟨σ',H',I,q⟩:=h; exact⟨σ',H',I.unwish,q⟩
 | ret u=>obtain⟨v,σ',H',I,r,q⟩:=h; exact⟨v,σ',H',I.unwish,r,q⟩
theorem mV.nox {st:List Hg} {t:TS} (h:mV X.nox st t):mV X st t:=λHm s σ H D I hw=>
 GM (h Hm s σ H D (I.wish _) hw) (λ_ _ q=>q.unwish) λ_ _ z=>False.elim z
end
section
variable {X:Cx} {st:Hg} {bY:List Hg} {t u:TS} {e:Hb} {te:TE} {pos:Pos}
def C':TS:=λD σ H=>D.nx σ H
def DF (t u:TS):TS:=λD σ H=>t {D with nx:=u D} σ H
theorem zQ:mV X [] C':=λ_ _ σ H _ I h=>wpAny_execs_nil ⟨σ,H,I,h⟩
theorem vR (h1:PS X st t) (h2:mV X bY u):mV X (st::bY) (DF t u):=by
 intro Hm s σ H D I h;refine wpAny_execs_cons (bX (h1 Hm s σ H {D with nx:=u D} I h) λf s1 q=>?_)
 cases f with
 | next=>
  obtain⟨σ',H',I',q⟩:=q;exact h2 Hm s1 σ' H' D I' q
 | ret v=>exact q
 | brk=>exact q
 | cont=>exact q
theorem zF (h1:PS X st t):mV X [st] t:=by
 intro Hm s σ H D I h;refine wpAny_execs_cons (bX (h1 Hm s σ H D I h) λf s1 q=>?_)
 cases f with
 | next=>exact wpAny_execs_nil q
 | ret v=>exact q
 | brk=>exact q
 | cont=>exact q
theorem az.quiet {Hm:List (G_×Hl)} {σ:St} {H:Hp} {s:G8} (I:az X Hm σ H s):interactive X.env=false:=by simp [interactive,I.ok.kind]
def D4 (te:TE):TS:=λD σ H=>te σ H λ_ H1=>D.nx σ H1
theorem y8 (he:PE X e te) (hs:swapsWith e none pos.line X.env=pure false:=by rfl):PS X (.Expr e pos) (D4 te):=by
 intro Hm s σ H D I h;exact wpAny_Expr_any (bX (he Hm s σ H _ I h) λv s1 z9=>by obtain⟨x,H1,I1,r1,q1⟩:=z9; exact⟨σ,H1,I1,q1⟩) I.quiet hs
def Fk (te:TE):TS:=λD σ H=>te σ H D.rt
theorem BW (he:PE X e te):PS X (.Return (some e) pos) (Fk te):=by
 intro Hm s σ H D I h;exact wpAny_Return_some (bX (he Hm s σ H _ I h) λv s1 z9=>by obtain⟨x,H1,I1,r1,q1⟩:=z9; exact⟨x,σ,H1,I1,r1,q1⟩)
def E6 (c:TT) (t u:TS):TS:=λD σ H=>c σ H λb H1=>if b=true then t D σ H1 else u D σ H1
theorem CN {c:Hb} {a b:List Hg} {tc:TT} (hc:PT X c tc) (ha:mV X a t) (hb:mV X b u):PS X (.If c a b pos) (E6 tc t u):=by
 intro Hm s σ H D I h;refine wpAny_If (bX (hc Hm s σ H _ I h) λd s1 z9=>?_)
 obtain⟨H1,I1,q1⟩:=z9;cases d with
 | true=>exact ha Hm s1 σ H1 D I1 q1
 | false=>exact hb Hm s1 σ H1 D I1 q1
def By:TS:=λ_ _ _=>False
theorem xo:PS X st By:=λ_ _ _ _ _ _ h=>h.elim
end
abbrev TG:=V->St->Hp->(St->Hp->Prop)->Prop
abbrev xA:=List V->St->Hp->(St->Hp->Prop)->Prop
def PG (X:Cx) (target:Hb) (t:TG):Prop:=
 ∀ (Hm:List (G_×Hl)) (s:G8) (σ:St) (H:Hp) (v:V) (u:G9) (Q:St->Hp->Prop),az X Hm σ H s->bi v u->t v σ H Q->
  wpAny (model X.prog X.w) X.A (assign target X.env u) (λ_ s'=>∃ σ' H',az X Hm σ' H' s'/\Q σ' H') X.xe s
def wP (X:Cx) (ts:List Hb) (t:xA):Prop:=
 ∀ (Hm:List (G_×Hl)) (s:G8) (σ:St) (H:Hp) (vs:List V) (us:List G9) (Q:St->Hp->Prop),az X Hm σ H s->aW vs us->t vs σ H Q->
  wpAny (model X.prog X.w) X.A (assignInOrder ((assignEach ts X.env).map (·.2)) us) (λ_ s'=>∃ σ' H',az X Hm σ' H' s'/\Q σ' H') X.xe s
abbrev Bg:=V->V->V->Hp->(Hp->Prop)->Prop
def DX (X:Cx) (t:Bg):Prop:=
 ∀ (Hm:List (G_×Hl)) (s:G8) (σ:St) (H:Hp) (o i v:V) (ov iv u:G9) (Q:Hp->Prop),az X Hm σ H s->bi o ov->bi i iv->bi v u->t o i v H Q->
  wpAny (model X.prog X.w) X.A (setItem ov iv u) (λ_ s'=>∃ H',az X Hm σ H' s'/\Q H') X.xe s
section
variable {X:Cx} {pos:Pos}
def pw (i:Nat):TG:=λv σ H Q=>Q (σ.set i (some v)) H
theorem uM {i:Nat} {x:Str} (hN:X.N.Nodup) (hi:X.N[i]?=some x) (hx:Aw X.env.scope x) (hf:X.fn x=true\/X.env.scope.names.lookup x=some .local:=by first | exact .inl rfl | exact .inr rfl | assumption):PG X (.Name x pos) (pw i):=by
 intro Hm s σ H v u Q I r h;exact wpAny_assign_Name (iV I hN hi hx r (λs' I'=>⟨_,H,I',h⟩) hf)
def EN:xA:=λvs σ H Q=>vs=[]/\Q σ H
def CQ (t:TG) (u:xA):xA:=λvs σ H Q=>∃ v r,vs=v::r/\t v σ H fun σ' H'=>u r σ' H' Q
theorem y7:wP X [] EN:=by
 intro Hm s σ H vs us Q I r h;obtain⟨e,h⟩:=h;subst e;cases r;exact assignInOrder_nil ⟨σ,H,I,h⟩
theorem vT {e:Hb} {es:List Hb} {t:TG} {u:xA} (h1:PG X e t) (h2:wP X es u)
  (hs:(assignEach (e::es) X.env).map (·.2)=assign e X.env::(assignEach es X.env).map (·.2):=by rfl):wP X (e::es) (CQ t u):=by
 intro Hm s σ H vs us Q I r h;obtain⟨v,vr,e1,h⟩:=h;subst e1;cases r with
 | cons r rr=>
  rw [hs];refine assignInOrder_cons (bX (h1 Hm s σ H _ _ _ I r h) λ_ s1 z9=>?_)
  obtain⟨σ1,H1,I1,q1⟩:=z9;exact h2 Hm s1 σ1 H1 _ _ Q I1 rr q1
def EC (K:PySem.W.Frag) (n:Nat) (t:xA):TG:=λv σ H Q=>∃ a xs,v=.ref a/\kU K H a xs/\xs.length=n/\t xs σ H Q
theorem AW {es:List Hb} {k:Nat} {t:xA} {n:Nat} (hc:X.calm=true) (h:wP X es t)
  (hn:(assignEach es X.env).length=n:=by rfl) (hst:(assignEach es X.env).findIdx? (·.1)=none:=by rfl):PG X (.Tuple es k pos) (EC X.K n t):=by
 intro Hm s σ H v u Q I r hw;obtain⟨a,xs,e1,hq,hl,hw⟩:=hw;subst e1;cases r;obtain⟨its,rv,ht,hz⟩:=I.tuple hq;refine assign_Tuple_tuple (I.ok.hd hc) ht (by simp [hn,<- hl,rv.length]) hst λh' hx=>?_
 have I1:az X Hm σ H {s with heap:=h'}:=I.kept (t':=s.toks) λb o e=>hx b o (Gm (Gf e)) e
 exact h Hm _ σ H xs _ Q I1 (by simpa using rv) hw
def Fh (to ti:TE) (t:Bg):TG:=λv σ H Q=>to σ H λo H1=>ti σ H1 λi H2=>t o i v H2 λH3=>Q σ H3
theorem Br {o i:Hb} {to ti:TE} {t:Bg} (ho:PE X o to) (hi:PE X i ti) (hs:DX X t)
  (ha:∀ v,assign (.Subscript o i pos) X.env v=(do
   let ov <- holding [v] (eval o X.env)
   let iv <- holding [v,ov] (eval i X.env)
   standAt pos
   holding [v,ov,iv] (setItem ov iv v)
   release [v,ov,iv] []):=by intro _; rfl):PG X (.Subscript o i pos) (Fh to ti t):=by
 intro Hm s σ H v u Q I r h;rw [ha];refine gt (wpAny_holding (bX (ho Hm s σ H _ I h) λov s1 z9=>?_))
 obtain⟨x,H1,I1,r1,q1⟩:=z9;refine gt (wpAny_holding (bX (hi Hm s1 σ H1 _ I1 q1) λiv s2 z9=>?_))
 obtain⟨y,H2,I2,r2,q2⟩:=z9;refine gt (wpAny_standAt (gt (wpAny_holding (bX (hs Hm s2 σ H2 x y v ov iv u _ I2 r1 r2 r q2) λ_ s3 z9=>?_))))
 obtain⟨H3,I3,q3⟩:=z9;exact wpAny_release ⟨σ,H3,I3,q3⟩
def y6 (te:TE) (g:TG):TS:=λD σ H=>te σ H λx H1=>g x σ H1 D.nx
theorem Bh {tg e:Hb} {te:TE} {g:TG} (he:PE X e te) (hg:PG X tg g) (hs:swapsWithSole [tg] e pos.line X.env=pure false:=by rfl) (hw:swappedStores [tg] e X.env=pure none:=by rfl)
  (h1:(assignEach [tg] X.env).map (·.2)=[assign tg X.env]:=by rfl):PS X (.Assign [tg] e pos) (y6 te g):=by
 intro Hm s σ H D I h;refine wpAny_Assign_stores (bX (he Hm s σ H _ I h) λv s1 ⟨x,H1,I1,r1,q1⟩=>?_) hs hw
 rw [h1];exact bX (hg Hm s1 σ H1 x v _ I1 r1 q1) λ_ s2 q=>q
theorem Bw {i:Nat} {x:Str} {e:Hb} {te:TE} {pos':Pos} (hN:X.N.Nodup) (hi:X.N[i]?=some x) (hx:Aw X.env.scope x) (he:PE X e te) (hs:swapsWith e (some (.Name x pos')) pos.line X.env=pure false:=by rfl) (hf:X.fn x=true\/X.env.scope.names.lookup x=some .local:=by first | exact .inl rfl | exact .inr rfl | assumption):
  PS X (.Assign [.Name x pos'] e pos) (y6 te (pw i)):=by
 intro Hm s σ H D I h;refine wpAny_Assign_Name (bX (he Hm s σ H _ I h) λv s1 ⟨y,H1,I1,r1,q1⟩=>?_) hs
 exact iV I1 hN hi hx r1 (λs2 I2=>⟨_,H1,I2,q1⟩) hf
def EQ (i j:Nat) (ta:TA):TS:=λD σ H=>ta σ H λvs H1=>∃ v w,vs=[v,w]/\D.nx ((σ.set i (some v)).set j (some w)) H1
theorem BR {i j:Nat} {x y:Str} {a b:Hb} {ta:TA} {px py pt:Pos} {kt k2 pt2} (hc:X.calm=true) (hN:X.N.Nodup) (hi:X.N[i]?=some x) (hj:X.N[j]?=some y) (hij:i≠j)
  (hx:X.env.scope.names.lookup x=some .local) (hy:X.env.scope.names.lookup y=some .local) (ha:PA X [a,b] ta)
  (hw:swappedStores [.Tuple [.Name x px,.Name y py] kt pt] (.Tuple [a,b] k2 pt2) X.env=pure (some [x,y]))
  (hs:swapsWithSole [.Tuple [.Name x px,.Name y py] kt pt] (.Tuple [a,b] k2 pt2) pos.line X.env=pure false:=by rfl):
  PS X (.Assign [.Tuple [.Name x px,.Name y py] kt pt] (.Tuple [a,b] k2 pt2) pos) (EQ i j ta):=by
 intro Hm s σ H D I h;rw [exec_Assign_arm];refine gt (wpAny_standAt ?_);rw [hs];refine gt (Gb ?_);rw [if_neg (by decide)]
 refine gt (Tuple_ (bX (ha _ Hm s σ H _ I h) λus s1 z9=>?_))
 obtain⟨vs,H1,I1,r1,q1⟩:=z9;obtain⟨v,w,e1,q1⟩:=q1;subst e1;obtain⟨u1,u2,rfl,rv,rw'⟩:∃ u1 u2,us=[u1,u2]/\bi v u1/\bi w u2:=by
  cases r1 with
  | cons p q=>
   cases q with
   | cons p' q'=>
    cases q';exact⟨_,_,rfl,p,p'⟩
 refine GC ?_ (by show 2<=sizeLine; decide)
 have I2:az X Hm σ H1 {s1 with heap:=s1.heap.push {cls:=.type "tuple",data:=.seq [u1,u2].toArray}}:=I1.kept (t':=s1.toks) λb o e=>Ga _ e
 rw [hw];refine gt (Gb ?_)
 show wpAny (model X.prog X.w) X.A (do rule "assign.swapped-stores"; let items <- unpackItems (.ref s1.heap.objs.size) 2 none; assignInOrder [λv=>bindName X.env y v,λv=>bindName X.env x v] items.reverse; pure Flow.next) _ _ _
 refine gt (wpAny_rule (gt (unpackItems_tuple (items:=#[u1,u2]) (I.ok.hd hc) (IsTup.new s1.heap _) λh' hx'=>?_)))
 have I3:=I2.kept (h':=h') (t':=s1.toks) λb o e=>hx' b o (Gm (Gf e)) e
 show wpAny _ _ (assignInOrder [λv=>bindName X.env y v,λv=>bindName X.env x v] [u2,u1] >>= λ_=>pure Flow.next) _ _ _
 refine gt (assignInOrder_cons (wpAny_bindName (iV I3 hN hj (.inl hy) rw' (λs2 I4=>?_) (.inr hy))))
 refine assignInOrder_cons (wpAny_bindName (iV I4 hN hi (.inl hx) rv (λs3 I5=>assignInOrder_nil (Gb ?_)) (.inr hx)))
 rw [List.set_comm _ _ (Ne.symm hij)] at I5;exact⟨_,H1,I5,q1⟩
def AR (c:TT) (tb:TS):TS:=λD σ H=>∃ W:Nat->St->Hp->Prop,(∃ m,W m σ H)/\∀ m σ H,W m σ H->
 c σ H λb H1=>if b=true then ∃ N:St->Hp->Prop,(∀ σ' H',N σ' H'->∃ m',m' < m/\W m' σ' H')/\tb {D with nx:=N,ct:=N,bk:=D.nx} σ H1 else D.nx σ H1
theorem xZ {c:Hb} {body:List Hg} {tc:TT} {tb:TS} (hp:PassesOwn (model X.prog X.w) X.A X.env X.xe) (hc:PT X c tc) (hb:mV X body tb):PS X (.While c body [] pos) (AR tc tb):=by
 intro Hm s σ H D I h;obtain⟨W,⟨m0,w0⟩,turn⟩:=h;refine wpAny_While (codeAny_whileLoop (λn s'=>∃ σ' H',az X Hm σ' H' s'/\W n σ' H') ?_ m0 ⟨σ,H,I,w0⟩)
 rintro n s1 ⟨σ1,H1,I1,w1⟩;refine wpAny_passesOwn hp (bX (hc Hm s1 σ1 H1 _ I1 (turn n σ1 H1 w1)) λb s2 z9=>?_)
 obtain⟨H2,I2,q2⟩:=z9;cases b with
 | true=>
  obtain⟨N,hN,q2⟩:=q2;rw [if_pos rfl];refine wpAny_passesOwn hp (bX (hb Hm s2 σ1 H2 _ I2 q2) λf s3 q3=>?_)
  cases f with
  | next=>
   obtain⟨σ3,H3,I3,n3⟩:=q3;obtain⟨m',hm,w3⟩:=hN σ3 H3 n3;exact⟨m',hm,σ3,H3,I3,w3⟩
  | cont=>
   obtain⟨σ3,H3,I3,n3⟩:=q3;obtain⟨m',hm,w3⟩:=hN σ3 H3 n3;exact⟨m',hm,σ3,H3,I3,w3⟩
  | brk=>exact q3
  | ret v=>exact q3
 | false=>
  rw [if_neg Gi];exact wpAny_execs_nil ⟨σ1,H2,I2,q2⟩
end
structure It where
 go:Nat->Hp->Prop
 yld:Nat->Hp->V->Hp->Prop
 stop:Nat->Hp->Prop
def mv (X:Cx) (Hm:List (G_×Hl)) (H:Hp) (b:G_):Prop:=
 H b=none/\b≠X.env.locals/\b∉X.fs/\(b∈X.ex\/X.s₀.heap.objs.size<=b)/\(∀ x c,X.env.cells.lookup x=some c->c≠b)/\∀ p∈X.pn++Hm,p.1≠b
theorem az.fpOk {X:Cx} {Hm:List (G_×Hl)} {σ:St} {H H':Hp} {s:G8} {b:G_} (I:az X Hm σ H s) (hb:s.heap.objs.size<=b) (hn:H' b=none):mv X Hm H' b:=by
 refine⟨hn,Nat.ne_of_gt (Gp I.lt hb),I.nofs hb,.inr (GO I.sz hb),λx c e z=>?_,λp hp z=>?_⟩
 ·obtain⟨v,q⟩:=I.cell x c e;exact absurd (Gp q.lt (by rw [z]; exact hb)) (GV _)
 ·exact absurd (Gp (Gf (I.pin p hp).1) (by rw [z]; exact hb)) (GV _)
structure vz (P:Hc) (w:He) (K:PySem.W.Frag) (tg:Hb) (J:It) (fp:List G_) (it:G_) (tn:Nat->Hf->Prop):Prop where
 mem:it∈fp
 obj:∀ i h,tn i h->∀ b∈fp,∃ o,h.get? b=some o/\∀ v,o.data≠.cell v
 keep:∀ i h h',tn i h->(∀ b∈fp,∀ o,h.get? b=some o->h'.get? b=some o)->tn i h'
 item:∀ (X:Cx),X.prog=P->X.w=w->X.K=K->X.calm=true->∀ (i:Nat) (Hm:List (G_×Hl)) (s:G8) (σ:St) (H:Hp) (E:G9->G8->Prop),az X Hm σ H s->(∀ b∈fp,mv X Hm H b)->tn i s.heap->J.go i H->
  wpAny (model P w) X.A (pyNext (.ref it)) (λr s1=>∃ u,r=some u/\
   wpAny (model P w) X.A (letOwnedTupleGo tg (.ref it) u) (λ_ s2=>∃ x H',az X Hm σ H' s2/\bi x u/\J.yld i H x H'/\tn (i+1) s2.heap/\∀ b∈fp,H' b=none) E s1) E s
 done:∀ (X:Cx),X.prog=P->X.w=w->X.K=K->X.calm=true->∀ (i:Nat) (Hm:List (G_×Hl)) (s:G8) (σ:St) (H:Hp) (E:G9->G8->Prop),az X Hm σ H s->(∀ b∈fp,mv X Hm H b)->tn i s.heap->J.stop i H->
  wpAny (model P w) X.A (pyNext (.ref it)) (λr s1=>r=none/\az X Hm σ H s1) E s
 self:∀ (A:Hd) (i:Nat) (s:G8) (Q:G9->G8->Prop) (E:G9->G8->Prop),tn i s.heap->Q (.ref it) s->wpAny (model P w) A (pyIter (.ref it)) Q E s
abbrev TI:=St->Hp->(It->Hp->Prop)->Prop
def FD (X:Cx) (Hm:List (G_×Hl)) (σ:St) (tg:Hb) (R:It->Hp->Prop) (itv:G9) (s2:G8):Prop:=
 ∃ (it:G_) (fp:List G_) (tn:Nat->Hf->Prop) (J:It) (H':Hp),itv=.ref it/\az X Hm σ H' s2/\vz X.prog X.w X.K tg J fp it tn/\tn 0 s2.heap/\(∀ b∈fp,mv X Hm H' b)/\R J H'
def PI (X:Cx) (tg iter:Hb) (wi:TI):Prop:=
 ∀ (Hm:List (G_×Hl)) (s:G8) (σ:St) (H:Hp) (R:It->Hp->Prop),az X Hm σ H s->wi σ H R->
  wpAny (model X.prog X.w) X.A (eval iter X.env) (λv s1=>wpAny (model X.prog X.w) X.A (pyIter v) (FD X Hm σ tg R) X.xe s1) X.xe s
theorem x_ {M:Model} {A:Hd} {E:G9->G8->Prop} {s:G8} {tg:Hb} {it:G_} {u:G9} {o:Hl} {n:Hj} {vs:Hh G9} {Q:Unit->G8->Prop} (ho:s.heap.get? it=some o) (hc:o.cls=.type n) (hd:o.data=.fields vs)
  (hn:["enumerate","zip","dict_itemiterator","dict_reverseitemiterator","odict_iterator","itertools.zip_longest","itertools.pairwise"].contains n=false) (hQ:Q () s):wpAny M A (letOwnedTupleGo tg (.ref it) u) Q E s:=by
 unfold letOwnedTupleGo;cases tg <;> first
  | exact Gb hQ
  | (cases u <;> first
    | exact Gb hQ
    | (refine gt (wpAny_load ho ?_)
       rw [hc,hd]
       show wpAny M A (if (["enumerate","zip","dict_itemiterator","dict_reverseitemiterator","odict_iterator","itertools.zip_longest","itertools.pairwise"].contains n && vs[0]? == some (rawInt _))=true then _ else _) Q E s
       rw [if_neg (by intro h; rw [hn,Bool.false_and] at h; cases h)]
       exact Gb hQ))
def Df (K:PySem.W.Frag) (a:G_):It:=
 ⟨λi H=>∃ xs x,eu K H a xs/\xs[i]?=some x,λi H x H'=>H'=H/\∀ xs,eu K H a xs->xs[i]?=some x,λi H=>∃ xs,eu K H a xs/\xs.length<=i⟩
def Dt (K:PySem.W.Frag) (a:G_):It:=
 ⟨λi H=>∃ xs x,kU K H a xs/\xs[i]?=some x,λi H x H'=>H'=H/\∀ xs,kU K H a xs->xs[i]?=some x,λi H=>∃ xs,kU K H a xs/\xs.length<=i⟩
def Dw (lo:Int) (n:Nat):It:=⟨λi _=>i < n,λi H x H'=>H'=H/\x=.int (lo+i),λi _=>n<=i⟩
theorem vp {P:Hc} {w:He} {K:PySem.W.Frag} {tg:Hb} (a it:G_):vz P w K tg (Df K a) [it] it (λi h=>h.IsListIter it a i) where
 mem:=by simp
 obj:=λi h st b hb=>by
  have e:b=it:=by simpa using hb
  subst e;obtain⟨o,e,c,d⟩:=st;exact⟨o,e,λv z=>by rw [d] at z; cases z⟩
 keep:=λi h h' st k=>st.at λo e=>k it (by simp) o e
 item:=by
  intro X hP hw hK hc i Hm s σ H E I hf st hg;subst hP hw hK;obtain⟨xs,x,hq,hx⟩:=hg;obtain⟨its,rv,p,hz⟩:=I.list hq;obtain⟨u,hu,ru⟩:=rv.get hx;obtain⟨f0,f1,f2,f3,f4,f5⟩:=hf it (by simp)
  refine wpAny_pyNext_list_item st p.isList (x:=u) (by simpa using hu) λh' st' sb=>?_
  have I1:az X Hm σ H {s with heap:=h'}:=I.turned (t':=s.toks) (λb o hb e=>(sb.2 b hb).trans e) f0 f1 f3 f4 f5
  obtain⟨o,e,c,d⟩:=id st';exact⟨u,rfl,x_ (s:={s with heap:=h'}) e c d (by decide) ⟨x,H,I1,ru,⟨rfl,λys hy=>by rw [I.list_inj hy hq]; exact hx⟩,st',λb hb=>(hf b hb).1⟩⟩
 done:=by
  intro X hP hw hK hc i Hm s σ H E I hf st hg;subst hP hw hK;obtain⟨xs,hq,hx⟩:=hg;obtain⟨its,rv,p,hz⟩:=I.list hq;obtain⟨f0,f1,f2,f3,f4,f5⟩:=hf it (by simp)
  have hl:=rv.length;exact wpAny_pyNext_list_end (I.ok.hd hc) st p.isList (by simp; omega) λh' eb=>⟨rfl,I.turned (t':=s.toks) (λb o hb e=>eb b o hb e) f0 f1 f3 f4 f5⟩
 self:=λ_ _ _ _ _ st h=>wpAny_pyIter_listiter st h
theorem tM {P:Hc} {w:He} {K:PySem.W.Frag} {tg:Hb} (a it:G_):vz P w K tg (Dt K a) [it] it (λi h=>h.IsTupleIter it a i) where
 mem:=by simp
 obj:=λi h st b hb=>by
  have e:b=it:=by simpa using hb
  subst e;obtain⟨o,e,c,d⟩:=st;exact⟨o,e,λv z=>by rw [d] at z; cases z⟩
 keep:=λi h h' st k=>st.at λo e=>k it (by simp) o e
 item:=by
  intro X hP hw hK hc i Hm s σ H E I hf st hg;subst hP hw hK;obtain⟨xs,x,hq,hx⟩:=hg;obtain⟨its,rv,p,hz⟩:=I.tuple hq;obtain⟨u,hu,ru⟩:=rv.get hx;obtain⟨f0,f1,f2,f3,f4,f5⟩:=hf it (by simp)
  refine wpAny_pyNext_tuple_item st (show s.heap.IsTuple a its.toArray from p) (x:=u) (by simpa using hu) λh' st' sb=>?_
  have I1:az X Hm σ H {s with heap:=h'}:=I.turned (t':=s.toks) (λb o hb e=>(sb.2 b hb).trans e) f0 f1 f3 f4 f5
  obtain⟨o,e,c,d⟩:=id st';exact⟨u,rfl,x_ (s:={s with heap:=h'}) e c d (by decide) ⟨x,H,I1,ru,⟨rfl,λys hy=>by rw [I.tuple_inj hy hq]; exact hx⟩,st',λb hb=>(hf b hb).1⟩⟩
 done:=by
  intro X hP hw hK hc i Hm s σ H E I hf st hg;subst hP hw hK;obtain⟨xs,hq,hx⟩:=hg;obtain⟨its,rv,p,hz⟩:=I.tuple hq;obtain⟨f0,f1,f2,f3,f4,f5⟩:=hf it (by simp)
  have hl:=rv.length;exact wpAny_pyNext_tuple_end (I.ok.hd hc) st (show s.heap.IsTuple a its.toArray from p) (by simp; omega) λh' eb=>⟨rfl,I.turned (t':=s.toks) (λb o hb e=>eb b o hb e) f0 f1 f3 f4 f5⟩
 self:=λ_ _ _ _ _ st h=>wpAny_pyIter_tupleiter st h
theorem tQ {P:Hc} {w:He} {K:PySem.W.Frag} {tg:Hb} (it:G_) (lo:Int) (n:Nat):vz P w K tg (Dw lo n) [it] it (λi h=>IsRangeIter h it (lo+(i:Nat)*1) ((n:Int) - (i:Nat)) 1) where
 mem:=by simp
 obj:=λi h st b hb=>by
  have e:b=it:=by simpa using hb
  subst e;exact⟨_,st,λv z=>by
   have z':Data.fields _=Data.cell v:=z;cases z'⟩
 keep:=λi h h' st k=>k it (by simp) _ st
 item:=by
  intro X hP hw hK hc i Hm s σ H E I hf st hg;subst hP hw hK;obtain⟨f0,f1,f2,f3,f4,f5⟩:=hf it (by simp)
  have W:=Walks.range (prog:=X.prog) (w:=X.w) (I.ok.hd hc) it lo 1 n;refine W.item i s _ _ hg st λv h' tk hv st' kk=>?_
  obtain⟨t,rfl⟩:=hv;have I1:az X Hm σ H {s with heap:=h',toks:=tk}:=I.turned (λb o hb e=>kk b o (by simpa using hb) e) f0 f1 f3 f4 f5
  refine⟨_,rfl,x_ (s:={s with heap:=h',toks:=tk}) (n:="range_iterator") st' rfl rfl (by decide) ⟨.int (lo+i),H,I1,⟨t,?_⟩,⟨rfl,rfl⟩,st',λb hb=>(hf b hb).1⟩⟩
  rw [Int.mul_one]
 done:=by
  intro X hP hw hK hc i Hm s σ H E I hf st hg;subst hP hw hK;obtain⟨f0,f1,f2,f3,f4,f5⟩:=hf it (by simp)
  exact wpAny_pyNext_range_end (I.ok.hd hc) st (by have:n<=i:=hg; omega) λh' eb=>⟨rfl,I.turned (t':=s.toks) (λb o hb e=>eb b o hb e) f0 f1 f3 f4 f5⟩
 self:=λ_ _ _ _ _ st h=>wpAny_pyIter_rangeiter st h
section
variable {X:Cx} {tg:Hb}
theorem wS {Hm:List (G_×Hl)} {σ:St} {H:Hp} {s:G8} {R:It->Hp->Prop} {E:G9->G8->Prop} {lo hi:Int} {t u v:Tok} {tk:Nat} (I:az X Hm σ H s) (h1:-(2 ^ 62)<=lo) (h2:lo < 2 ^ 62) (h3:-(2 ^ 62)<=hi) (h4:hi < 2 ^ 62)
  (q:R (Dw lo (hi - lo).toNat) H):wpAny (model X.prog X.w) X.A (pyIter (.ref s.heap.objs.size)) (FD X Hm σ tg R) E {s with heap:=s.heap.push {cls:=.type "range",data:=.fields #[.int lo t,.int hi u,.int 1 v]},toks:=tk}:=by
 refine wpAny_pyIter_range (IsRange.new ..) (small_one h1 h2 h3 h4) ?_;have I1:az X Hm σ H {s with heap:=s.heap.push {cls:=.type "range",data:=.fields #[.int lo t,.int hi u,.int 1 v]},toks:=tk}:=I.kept λb o e=>Ga _ e
 refine⟨(s.heap.push {cls:=.type "range",data:=.fields #[.int lo t,.int hi u,.int 1 v]}).objs.size,[(s.heap.push {cls:=.type "range",data:=.fields #[.int lo t,.int hi u,.int 1 v]}).objs.size],_,_,H,rfl,
  I1.kept (t':=tk) λb o e=>Ga _ e,tQ _ lo (hi - lo).toNat,?_,λb hb=>?_,q⟩
 ·have e1:lo+((0:Nat):Int)*1=lo:=by simp
  have e2:(((hi - lo).toNat:Nat):Int) - ((0:Nat):Int)=Builtin.Range.rangeSize lo hi 1:=by rw [rangeSize_one]; split <;> omega
  show IsRangeIter _ _ (lo+((0:Nat):Int)*1) ((((hi - lo).toNat:Nat):Int) - ((0:Nat):Int)) 1
  rw [e1,e2];exact Gc _ rfl
 ·have e:b=(s.heap.push {cls:=.type "range",data:=.fields #[.int lo t,.int hi u,.int 1 v]}).objs.size:=by simpa using hb
  subst e;exact I1.fpOk (Gg _) (I1.hok.fresh (Gg _))
def Do (ta:TA):TI:=fun σ H R=>ta σ H λvs H1=>∃ j:Int,vs=[.int j]/\-(2 ^ 62)<=j/\j < 2 ^ 62/\R (Dw 0 j.toNat) H1
theorem oJ {a:Hb} {ta:TA} {p pos:Pos} (hg:Gl X "range") (hm:X.mg "range"=none) (ha:PA X [a] ta) (hs:starEach [a] X.env=[(false,eval a X.env)]:=by rfl):PI X tg (.Call (.Name "range" p) [a] [] pos) (Do ta):=by
 intro Hm s σ H R I h;refine Call_ (nh I hg hm boot_range (PyProof.Rows.callWith_type1 (bX (ha pos Hm s σ H _ I h) λus s1 ⟨vs,H1,I1,r1,q1⟩=>?_) hs rfl))
 obtain⟨j,e,q1,q2,q⟩:=q1;subst e;cases r1 with
 | cons r rr=>
  cases rr;obtain⟨t,rfl⟩:=r;exact call_range_1 (wS I1 (by omega) (by omega) q1 q2 (by simpa using q))
def EV (wi:TI) (g:TG) (tb:TS):TS:=λD σ H=>wi σ H λJ H1=>∃ W:Nat->Nat->St->Hp->Prop,(∃ m,W 0 m σ H1)/\∀ i m σ H,W i m σ H->
 (J.stop i H/\D.nx σ H)\/(J.go i H/\∃ N:St->Hp->Prop,(∀ σ' H',N σ' H'->∃ m',m' < m/\W (i+1) m' σ' H')/\∀ x H',J.yld i H x H'->g x σ H' fun σ2 H2=>tb {D with nx:=N,ct:=N,bk:=D.nx} σ2 H2)
def nC (fp:List G_) (h:Hf):List (G_×Hl):=fp.filterMap λb=>(h.get? b).map λo=>(b,o)
theorem cS {fp:List G_} {h:Hf} {b:G_} {o:Hl} (hb:b∈fp) (e:h.get? b=some o):(b,o)∈nC fp h:=List.mem_filterMap.mpr ⟨b,hb,by rw [e]; rfl⟩
theorem uZ {fp:List G_} {h:Hf} {p:G_×Hl} (hp:p∈nC fp h):p.1∈fp/\h.get? p.1=some p.2:=by
 obtain⟨b,hb,e⟩:=List.mem_filterMap.mp hp;cases q:h.get? b with
 | none=>rw [q] at e; cases e
 | some o=>
  rw [q] at e;have e':(b,o)=p:=GF e;subst e';exact⟨hb,q⟩
theorem az.pinned {Hm:List (G_×Hl)} {σ:St} {H:Hp} {s:G8} {fp:List G_} (I:az X Hm σ H s) (hf:∀ b∈fp,mv X Hm H b) (ho:∀ b∈fp,∃ o,s.heap.get? b=some o/\∀ v,o.data≠.cell v):az X (Hm++nC fp s.heap) σ H s:=
 I.pins_of λp hp=>(List.mem_append.mp hp).elim (λz=>I.pin p (Gq _ z)) λz=>by
  obtain⟨hb,e⟩:=uZ z;obtain⟨f0,f1,f2,_⟩:=hf p.1 hb;obtain⟨o,e',d⟩:=ho p.1 hb;rw [e] at e'; cases e'
  exact⟨e,f0,f1,f2,d⟩
theorem az.unpinned {Hm pl:List (G_×Hl)} {σ:St} {H:Hp} {s:G8} (I:az X (Hm++pl) σ H s):az X Hm σ H s:=I.pins_of λp hp=>I.pin p (Gq _ (List.mem_append_left _ hp))
theorem pX {iter:Hb} {body:List Hg} {wi:TI} {g:TG} {tb:TS} {pos:Pos} (hp:PassesOwn (model X.prog X.w) X.A X.env X.xe) (hc:X.calm=true) (hi:PI X tg iter wi) (hg:PG X tg g) (hb:mV X body tb)
  (hs:∀ x,foldedSetIterable iter X.env x=pure x:=by intro _; rfl):PS X (.For tg iter body [] pos) (EV wi g tb):=by
 intro Hm s σ H D I h;refine wpAny_For (bX (hi Hm s σ H _ I h) λv s1 h1=>bX h1 λitv s2 h2=>?_) hs
 obtain⟨it,fp,tn,J,H2,e,I2,T,st2,f2,W,⟨m0,w0⟩,turn⟩:=h2;subst e;have stat:∀ {H':Hp},(∀ b∈fp,H' b=none)->∀ b∈fp,mv X Hm H' b:=λhn b hb=>⟨hn b hb,(f2 b hb).2⟩
 refine codeAny_forLoop_any (λn s'=>∃ i σ' H',az X Hm σ' H' s'/\tn i s'.heap/\(∀ b∈fp,H' b=none)/\W i n σ' H') ?_ m0 ⟨0,σ,H2,I2,st2,λb hb=>(f2 b hb).1,w0⟩
 rintro n s3 ⟨i,σ3,H3,I3,st3,fr3,w3⟩;rcases turn i n σ3 H3 w3 with ⟨stop,qn⟩ | ⟨go,N,hN,step⟩
 ·refine wpAny_passesOwn hp (bX (T.done X rfl rfl rfl hc i Hm s3 σ3 H3 X.xe I3 (stat fr3) st3 stop) λr s4 z9=>?_)
  obtain⟨hr,I4⟩:=z9;subst hr;exact wpAny_execs_nil ⟨σ3,H3,I4,qn⟩
 ·refine wpAny_passesOwn hp (bX (T.item X rfl rfl rfl hc i Hm s3 σ3 H3 X.xe I3 (stat fr3) st3 go) λr s4 z9=>?_)
  obtain⟨u,hr,h4⟩:=z9;subst hr;refine wpAny_passesOwn hp (bX h4 λ_ s5 z9=>?_)
  obtain⟨x,H5,I5,r5,y5,st5,fr5⟩:=z9;have I5':=I5.pinned (stat fr5) (T.obj _ _ st5);refine wpAny_passesOwn hp (bX (hg _ s5 σ3 H5 x u _ I5' r5 (step x H5 y5)) λ_ s6 z9=>?_)
  obtain⟨σ6,H6,I6,q6⟩:=z9;refine wpAny_passesOwn hp (bX (hb _ s6 σ6 H6 _ I6 q6) λf s7 q7=>?_)
  have again:∀ {σ7:St} {H7:Hp},az X (Hm++nC fp s5.heap) σ7 H7 s7->N σ7 H7->∃ m,m < n/\∃ i σ' H',az X Hm σ' H' s7/\tn i s7.heap/\(∀ b∈fp,H' b=none)/\W i m σ' H':=λ{σ7 H7} I7 n7=>by
   obtain⟨m',hm,w7⟩:=hN σ7 H7 n7;refine⟨m',hm,i+1,σ7,H7,I7.unpinned,T.keep _ _ _ st5 λb hb o e=>(I7.pin (b,o) (Gq _ (Gq _ (cS hb e)))).1,λb hb=>?_,w7⟩
   obtain⟨o,e,d⟩:=T.obj _ _ st5 b hb;exact(I7.pin (b,o) (Gq _ (Gq _ (cS hb e)))).2.1
  cases f with
  | next=>obtain⟨σ7,H7,I7,n7⟩:=q7; exact again I7 n7
  | cont=>obtain⟨σ7,H7,I7,n7⟩:=q7; exact again I7 n7
  | brk=>obtain⟨σ7,H7,I7,q7⟩:=q7; exact⟨σ7,H7,I7.unpinned,q7⟩
  | ret v=>obtain⟨x7,σ7,H7,I7,r7,q7⟩:=q7; exact⟨x7,σ7,H7,I7.unpinned,r7,q7⟩
end
abbrev R2:=V->V->Hp->VK->Prop
def eU (X:Cx) (f:G9->G9->Sem G9) (r:R2):Prop:=
 ∀ (Hm:List (G_×Hl)) (s:G8) (σ:St) (H:Hp) (x y:V) (v u:G9) (Q:VK),az X Hm σ H s->bi x v->bi y u->r x y H Q->
  wpAny (model X.prog X.w) X.A (f v u) (EP X Hm σ Q) X.xe s
def DV (X:Cx) (f:G9->Sem G9) (r:V->Hp->VK->Prop):Prop:=
 ∀ (Hm:List (G_×Hl)) (s:G8) (σ:St) (H:Hp) (x:V) (v:G9) (Q:VK),az X Hm σ H s->bi x v->r x H Q->
  wpAny (model X.prog X.w) X.A (f v) (EP X Hm σ Q) X.xe s
def cb (X:Cx) (f:G9) (r:List V->Hp->VK->Prop):Prop:=
 ∀ (Hm:List (G_×Hl)) (s:G8) (σ:St) (H:Hp) (xs:List V) (us:List G9) (Q:VK),az X Hm σ H s->aW xs us->r xs H Q->
  wpAny (model X.prog X.w) X.A (call f us) (EP X Hm σ Q) X.xe s
def Dm (r:R2) (ta tb:TE):TE:=fun σ H Q=>ta σ H λx H1=>tb σ H1 λy H2=>r x y H2 Q
def FS (r:V->Hp->VK->Prop) (ta:TE):TE:=fun σ H Q=>ta σ H λx H1=>r x H1 Q
def rI (C:Int->Int->Prop) (g:Int->Int->V):R2:=λx y H Q=>∃ i j,x=.int i/\y=.int j/\C i j/\Q (g i j) H
def yC (g:Int->Int->V):R2:=λx y H Q=>∃ i j,x=.int i/\y=.int j/\Q (g i j) H
def rU (g:Int->V):V->Hp->VK->Prop:=λx H Q=>∃ i,x=.int i/\Q (g i) H
section
variable {X:Cx} {a b c:Hb} {ta tb tc:TE} {pos:Pos}
theorem AI (ha:PE X a ta) (hb:PE X b tb) {Hm:List (G_×Hl)} {s:G8} {σ:St} {H:Hp} {R:V->V->Hp->Prop} (I:az X Hm σ H s)
  (h:ta σ H λx H1=>tb σ H1 λy H2=>R x y H2) {Q:G9->G8->Prop} {f:G9->G9->Sem G9}
  (hf:∀ v u s2 x y H2,az X Hm σ H2 s2->bi x v->bi y u->R x y H2->wpAny (model X.prog X.w) X.A (f v u) Q X.xe s2):
  wpAny (model X.prog X.w) X.A (eval a X.env) (λv s₁=>wpAny (model X.prog X.w) X.A (eval b X.env) (λu s₂=>wpAny (model X.prog X.w) X.A (f v u) Q X.xe s₂) X.xe s₁) X.xe s:=by
 refine bX (ha Hm s σ H _ I h) λv s1 z9=>?_
 obtain⟨x,H1,I1,r1,q1⟩:=z9;refine bX (hb Hm s1 σ H1 _ I1 q1) λu s2 z9=>?_
 obtain⟨y,H2,I2,r2,q2⟩:=z9;exact hf v u s2 x y H2 I2 r1 r2 q2
theorem C3 {op:Operator} {r:R2} (ho:eU X (binaryOp op) r) (ha:PE X a ta) (hb:PE X b tb):PE X (.BinOp a op b pos) (Dm r ta tb):=by
 intro Hm s σ H Q I h;exact wpAny_BinOp (AI ha hb I h λv u s2 x y H2 I2 rx ry q=>ho Hm s2 σ H2 x y v u Q I2 rx ry q)
theorem Dk {op:UnaryOp} {r:V->Hp->VK->Prop} (ho:DV X (unaryOp op) r) (ha:PE X a ta):PE X (.UnaryOp op a pos) (FS r ta):=by
 intro Hm s σ H Q I h;exact UnaryOp_ (bX (ha Hm s σ H _ I h) λv s1 z9=>by obtain⟨x,H1,I1,r1,q1⟩:=z9; exact ho Hm s1 σ H1 x v Q I1 r1 q1)
theorem Dx {f:G9->G9->Sem G9} {C:Int->Int->Prop} {g:Int->Int->Int}
  (rule:∀ (i j:Int) (t u:Tok) (s:G8) (Q:G9->G8->Prop) (E:G9->G8->Prop),C i j->Q (.int (g i j) s.toks) {s with toks:=s.toks+1}->wpAny (model X.prog X.w) X.A (f (.int i t) (.int j u)) Q E s):
  eU X f (rI C λi j=>.int (g i j)):=by
 intro Hm s σ H x y v u Q I rx ry h;obtain⟨i,j,rfl,rfl,hc,q⟩:=h;obtain⟨t,rfl⟩:=rx;obtain⟨t',rfl⟩:=ry;exact rule i j t t' s _ _ hc ⟨.int (g i j),H,I.tok _,⟨_,rfl⟩,q⟩
theorem D8 {f:G9->G9->Sem G9} {g:Int->Int->Int}
  (rule:∀ (i j:Int) (t u:Tok) (s:G8) (Q:G9->G8->Prop) (E:G9->G8->Prop),Q (.int (g i j) s.toks) {s with toks:=s.toks+1}->wpAny (model X.prog X.w) X.A (f (.int i t) (.int j u)) Q E s):
  eU X f (yC λi j=>.int (g i j)):=by
 intro Hm s σ H x y v u Q I rx ry h;obtain⟨i,j,rfl,rfl,q⟩:=h;obtain⟨t,rfl⟩:=rx;obtain⟨t',rfl⟩:=ry;exact rule i j t t' s _ _ ⟨.int (g i j),H,I.tok _,⟨_,rfl⟩,q⟩
theorem zR {f:G9->G9->Sem G9} {g:Int->Int->Hi}
  (rule:∀ (i j:Int) (t u:Tok) (s:G8) (Q:G9->G8->Prop) (E:G9->G8->Prop),Q (.bool (g i j)) s->wpAny (model X.prog X.w) X.A (f (.int i t) (.int j u)) Q E s):
  eU X f (yC λi j=>.bl (g i j)):=by
 intro Hm s σ H x y v u Q I rx ry h;obtain⟨i,j,rfl,rfl,q⟩:=h;obtain⟨t,rfl⟩:=rx;obtain⟨t',rfl⟩:=ry;exact rule i j t t' s _ _ ⟨.bl (g i j),H,I,rfl,q⟩
def vD (i j:Int):Prop:=0<=j/\j<=1000000/\i.natAbs < 2 ^ 64
theorem BN:eU X (binaryOp .Add) (yC λi j=>.int (i+j)):=D8 λ_ _ _ _ _ _ _ q=>add_int q
theorem AV:eU X (binaryOp .Sub) (yC λi j=>.int (i - j)):=D8 λ_ _ _ _ _ _ _ q=>sub_int q
theorem yA:eU X (binaryOp .Mod) (rI (λ_ j=>j≠0) λi j=>.int (i.fmod j)):=Dx λ_ _ _ _ _ _ _ hc q=>mod_int' hc q
theorem Co:eU X (binaryOp .Pow) (rI vD λi j=>.int (i ^ j.toNat)):=Dx λ_ _ _ _ _ _ _ hc q=>pow_int_small hc.1 hc.2.1 hc.2.2 q
theorem BE:eU X (binaryOp .LShift) (rI vD λi j=>.int (i*2 ^ j.toNat)):=Dx λ_ _ _ _ _ _ _ hc q=>lshift_int_small hc.1 hc.2.1 hc.2.2 q
theorem FR {f:G9->Sem G9} {g:Int->Int}
  (rule:∀ (i:Int) (t:Tok) (s:G8) (Q:G9->G8->Prop) (E:G9->G8->Prop),Q (.int (g i) s.toks) {s with toks:=s.toks+1}->wpAny (model X.prog X.w) X.A (f (.int i t)) Q E s):
  DV X f (rU λi=>.int (g i)):=by
 intro Hm s σ H x v Q I rx h;obtain⟨i,rfl,q⟩:=h;obtain⟨t,rfl⟩:=rx;exact rule i t s _ _ ⟨.int (g i),H,I.tok _,⟨_,rfl⟩,q⟩
theorem B3:DV X (unaryOp .USub) (rU λi=>.int (-i)):=FR λ_ _ _ _ _ q=>neg_int q
end
def Cq:V->V->Hi
 | .non,.non=>true | .non,.int _=>true | .int _,.non=>true | .non,.bl _=>true | .bl _,.non=>true | .non,.str _=>true | .str _,.non=>true
 | .int _,.int _=>true | .bl _,.bl _=>true | .str _,.str _=>true | .byt _,.byt _=>true
 | .int _,.str _=>true | .str _,.int _=>true | .bl _,.str _=>true | .str _,.bl _=>true
 | _,_=>false
def FK:R2:=λx y H Q=>Cq x y=true/\Q (.bl (decide (x=y))) H
def FX:R2:=λx y H Q=>Cq x y=true/\Q (.bl (!decide (x=y))) H
theorem ux {i j:Int}:decide (V.int i=V.int j)=(i == j):=by
 rw [Bool.eq_iff_iff];simp
theorem xK {i j:Hi}:decide (V.bl i=V.bl j)=(i == j):=by
 rw [Bool.eq_iff_iff];simp
theorem uc {i j:Str}:decide (V.str i=V.str j)=(i == j):=by
 rw [Bool.eq_iff_iff];simp
theorem ur {i j:Hh UInt8}:decide (V.byt i=V.byt j)=(i.toList == j.toList):=by
 rw [Bool.eq_iff_iff];cases i;cases j;simp
section
variable {X:Cx} {a b c:Hb} {ta tb tc:TE} {pos:Pos}
theorem be {Hm:List (G_×Hl)} {σ:St} {H:Hp} {s:G8} {Q:VK} {k k':Hi} (I:az X Hm σ H s) (q:Q (.bl k) H) (e:k=k'):EP X Hm σ Q (.bool k') s:=by
 subst e;exact⟨.bl k,H,I,rfl,q⟩
theorem CO:eU X (compareOp .Eq) FK:=by
 intro Hm s σ H x y v u Q I rx ry h;obtain⟨hs,q⟩:=h;cases x with
 | non=>
  cases rx;cases y with
  | non=>cases ry; exact PySem.EqNone.eq_none_none (be I q (by simp))
  | bl j=>cases ry; exact PySem.EqNone.eq_none_bool (be I q (by simp))
  | int j=>obtain⟨t',rfl⟩:=ry; exact PySem.EqNone.eq_none_int (be I q (by simp))
  | str j=>obtain⟨t',rfl⟩:=ry; exact PySem.EqNone.eq_none_str (be I q (by simp))
  | _=>exact absurd (show false=true from hs) Gi
 | bl i=>
  cases rx;cases y with
  | non=>cases ry; exact PySem.EqNone.eq_bool_none (be I q (by simp))
  | bl j=>cases ry; exact eq_bool (be I q xK)
  | str j=>obtain⟨t',rfl⟩:=ry; exact PySem.EqMixed.eq_bool_str (be I q (by simp))
  | _=>exact absurd (show false=true from hs) Gi
 | int i=>
  obtain⟨t,rfl⟩:=rx;cases y with
  | non=>cases ry; exact PySem.EqNone.eq_int_none (be I q (by simp))
  | int j=>obtain⟨t',rfl⟩:=ry; exact eq_int (be I q ux)
  | str j=>obtain⟨t',rfl⟩:=ry; exact PySem.EqMixed.eq_int_str (be I q (by simp))
  | _=>exact absurd (show false=true from hs) Gi
 | str i=>
  obtain⟨t,rfl⟩:=rx;cases y with
  | non=>cases ry; exact PySem.EqNone.eq_str_none (be I q (by simp))
  | bl j=>cases ry; exact PySem.EqMixed.eq_str_bool (be I q (by simp))
  | int j=>obtain⟨t',rfl⟩:=ry; exact PySem.EqMixed.eq_str_int (be I q (by simp))
  | str j=>obtain⟨t',rfl⟩:=ry; exact eq_str (be I q uc)
  | _=>exact absurd (show false=true from hs) Gi
 | byt i=>
  obtain⟨t,rfl⟩:=rx;cases y with
  | byt j=>obtain⟨t',rfl⟩:=ry; exact PySem.W.eq_bytes (be I q ur)
  | _=>exact absurd (show false=true from hs) Gi
 | _=>cases y <;> exact absurd (show false=true from hs) Gi
theorem Ef:eU X (compareOp .NotEq) FX:=by
 intro Hm s σ H x y v u Q I rx ry h;obtain⟨hs,q⟩:=h;cases x with
 | non=>
  cases rx;cases y with
  | non=>cases ry; exact PySem.EqNone.ne_none_none (be I q (by simp))
  | bl j=>cases ry; exact PySem.EqNone.ne_none_bool (be I q (by simp))
  | int j=>obtain⟨t',rfl⟩:=ry; exact PySem.EqNone.ne_none_int (be I q (by simp))
  | str j=>obtain⟨t',rfl⟩:=ry; exact PySem.EqNone.ne_none_str (be I q (by simp))
  | _=>exact absurd (show false=true from hs) Gi
 | bl i=>
  cases rx;cases y with
  | non=>cases ry; exact PySem.EqNone.ne_bool_none (be I q (by simp))
  | bl j=>cases ry; exact ne_bool (be I q (congrArg not xK))
  | str j=>obtain⟨t',rfl⟩:=ry; exact PySem.EqMixed.ne_bool_str (be I q (by simp))
  | _=>exact absurd (show false=true from hs) Gi
 | int i=>
  obtain⟨t,rfl⟩:=rx;cases y with
  | non=>cases ry; exact PySem.EqNone.ne_int_none (be I q (by simp))
  | int j=>obtain⟨t',rfl⟩:=ry; exact ne_int (be I q (congrArg not ux))
  | str j=>obtain⟨t',rfl⟩:=ry; exact PySem.EqMixed.ne_int_str (be I q (by simp))
  | _=>exact absurd (show false=true from hs) Gi
 | str i=>
  obtain⟨t,rfl⟩:=rx;cases y with
  | non=>cases ry; exact PySem.EqNone.ne_str_none (be I q (by simp))
  | bl j=>cases ry; exact PySem.EqMixed.ne_str_bool (be I q (by simp))
  | int j=>obtain⟨t',rfl⟩:=ry; exact PySem.EqMixed.ne_str_int (be I q (by simp))
  | str j=>obtain⟨t',rfl⟩:=ry; exact ne_str (be I q (congrArg not uc))
  | _=>exact absurd (show false=true from hs) Gi
 | byt i=>
  obtain⟨t,rfl⟩:=rx;cases y with
  | byt j=>obtain⟨t',rfl⟩:=ry; exact PySem.W.ne_bytes (be I q (congrArg not ur))
  | _=>exact absurd (show false=true from hs) Gi
 | _=>cases y <;> exact absurd (show false=true from hs) Gi
theorem DW:eU X (compareOp .Lt) (yC λi j=>.bl (decide (i < j))):=zR λ_ _ _ _ _ _ _ q=>lt_int q
theorem Dv:eU X (compareOp .LtE) (yC λi j=>.bl (decide (i<=j))):=zR λ_ _ _ _ _ _ _ q=>le_int q
theorem CI:eU X (compareOp .Gt) (yC λi j=>.bl (decide (j < i))):=zR λ_ _ _ _ _ _ _ q=>gt_int q
theorem C_:eU X (compareOp .GtE) (yC λi j=>.bl (decide (j<=i))):=zR λ_ _ _ _ _ _ _ q=>ge_int q
theorem Bm:eU X (compareOp .Is) (λx y H Q=>y=.non/\Q (.bl (decide (x=.non))) H):=by
 intro Hm s σ H x y v u Q I rx ry h;obtain⟨rfl,q⟩:=h;cases ry;refine is_none_gen (be I q ?_);cases x <;> first
  | (cases rx; rfl)
  | (obtain ⟨t,rfl⟩:=rx; rfl)
theorem yz:eU X (compareOp .IsNot) (λx y H Q=>y=.non/\Q (.bl (!decide (x=.non))) H):=by
 intro Hm s σ H x y v u Q I rx ry h;obtain⟨rfl,q⟩:=h;cases ry;refine isnot_none_gen (be I q ?_);cases x <;> first
  | (cases rx; rfl)
  | (obtain ⟨t,rfl⟩:=rx; rfl)
theorem aw (b:Hb) {op:CmpOp} (h:op≠.In:=by decide) (h2:op≠.NotIn:=by decide):behindInMarks op b=false:=by
 have e1:(op == CmpOp.In)=false:=by cases op <;> first | rfl | exact absurd rfl h
 have e2:(op == CmpOp.NotIn)=false:=by cases op <;> first | rfl | exact absurd rfl h2
 cases b <;> simp [behindInMarks,e1,e2]
theorem yG {op:CmpOp} {r:R2} (ho:eU X (compareOp op) r) (ha:PE X a ta) (hb:PE X b tb) (hm:behindInMarks op b=false):PE X (.Compare a [op] [b] pos) (Dm r ta tb):=by
 intro Hm s σ H Q I h;exact wpAny_Compare1 (AI ha hb I h λv u s2 x y H2 I2 rx ry q=>ho Hm s2 σ H2 x y v u Q I2 rx ry q) hm
def Am (t:TE):TT:=fun σ H Q=>t σ H λx H'=>∃ k,x=.bl k/\Q k H'
theorem zx {op:CmpOp} {r:R2} (ho:eU X (compareOp op) r) (ha:PE X a ta) (hb:PE X b tb) (hm:behindInMarks op b=false):PT X (.Compare a [op] [b] pos) (Am (Dm r ta tb)):=by
 intro Hm s σ H Q I h;refine wpAny_isTrue_Compare1 (bX (ha Hm s σ H _ I h) λv s1 ⟨x,H1,I1,r1,q1⟩=>bX (hb Hm s1 σ H1 _ I1 q1) λu s2 ⟨y,H2,I2,r2,q2⟩=>
  bX (ho Hm s2 σ H2 x y v u _ I2 r1 r2 q2) λc s3 ⟨z,H3,I3,r3,k,e,q3⟩=>?_) hm
 subst e;cases r3;exact wpAny_truthy_bool ⟨H3,I3,q3⟩
theorem mP:(sizeLine:Nat) < 2 ^ 63:=by rw [sizeLine_eq]; decide
theorem tS:eU X (binaryOp .Add) (λx y H Q=>∃ i j,x=.str i/\y=.str j/\i.length+j.length<=sizeLine/\Q (.str (i++j)) H):=by
 intro Hm s σ H x y v u Q I rx ry h;obtain⟨i,j,rfl,rfl,hz,q⟩:=h;obtain⟨t,rfl⟩:=rx;obtain⟨t',rfl⟩:=ry;exact add_str (λt' tk=>⟨.str (i++j),H,I.tok _,⟨_,rfl⟩,q⟩) hz
theorem mW {x:V} {us:List G9} (r:aW [x] us):∃ u,us=[u]/\bi x u:=by
 cases r with
 | cons r1 r2=>cases r2; exact⟨_,rfl,r1⟩
theorem Ap {x y:V} {us:List G9} (r:aW [x,y] us):∃ u w',us=[u,w']/\bi x u/\bi y w':=by
 cases r with
 | cons r1 r2=>
  cases r2 with
  | cons r3 r4=>cases r4; exact⟨_,_,rfl,r1,r3⟩
theorem yb:cb X (.builtin "abs") (λxs H Q=>∃ i,xs=[.int i]/\Q (.int (if i < 0 then -i else i)) H):=by
 intro Hm s σ H xs us Q I r h;obtain⟨i,rfl,q⟩:=h;obtain⟨u,rfl,t,rfl⟩:=mW r;exact call_abs_int λu tk=>⟨.int (if i < 0 then -i else i),H,I.tok _,⟨_,rfl⟩,q⟩
theorem vn (hc:X.calm=true):cb X (.builtin "max") (λxs H Q=>∃ i j,xs=[.int i,.int j]/\Q (.int (if j > i then j else i)) H):=by
 intro Hm s σ H xs us Q I r h;obtain⟨i,j,rfl,q⟩:=h;obtain⟨u,w',rfl,⟨t,rfl⟩,⟨t',rfl⟩⟩:=Ap r;refine max_two_ints (I.ok.hd hc) λh' tk k=>⟨_,H,I.kept k,?_,q⟩
 by_cases hj:j > i
 ·rw [if_pos hj,if_pos hj]; exact⟨_,rfl⟩
 ·rw [if_neg hj,if_neg hj]; exact⟨_,rfl⟩
theorem uR (hc:X.calm=true):cb X (.builtin "min") (λxs H Q=>∃ i j,xs=[.int i,.int j]/\Q (.int (if j < i then j else i)) H):=by
 intro Hm s σ H xs us Q I r h;obtain⟨i,j,rfl,q⟩:=h;obtain⟨u,w',rfl,⟨t,rfl⟩,⟨t',rfl⟩⟩:=Ap r;refine min_two_ints (I.ok.hd hc) λh' tk k=>⟨_,H,I.kept k,?_,q⟩
 by_cases hj:j < i
 ·rw [if_pos hj,if_pos hj]; exact⟨_,rfl⟩
 ·rw [if_neg hj,if_neg hj]; exact⟨_,rfl⟩
end
structure dE (k:Nat) (A:Hd):Prop where
 hd:A.handled=none
 dp:A.depth+3*k+5 < recursionLimit
 un:A.units+16*k+200 < cLine
theorem dE.mono {j k:Nat} {A:Hd} (r:dE k A) (h:j<=k):dE j A:=⟨r.hd,by have:=r.dp; omega,by have:=r.un; omega⟩
theorem dE.deeper {k:Nat} {A:Hd} (r:dE (k+1) A) (env:Env):dE k (A.deeper env):=
 ⟨r.hd,by have:=r.dp; show A.depth+1+3*k+5 < _; omega,by have:=r.un; show A.units+3+16*k+200 < _; omega⟩
theorem dE.depth {k:Nat} {A:Hd} (r:dE k A):A.depth < recursionLimit:=by have:=r.dp; omega
theorem dE.units {k:Nat} {A:Hd} (r:dE k A):A.units+64 < cLine:=by have:=r.un; omega
def Fj:TA:=λ_ H Q=>Q [] H
def CU (ta:TE) (tr:TA):TA:=fun σ H Q=>ta σ H λx H1=>tr σ H1 λxs H2=>Q (x::xs) H2
section
variable {X:Cx} {e:Hb} {es:List Hb} {te:TE} {t:TA} {pos:Pos}
theorem qT:PA X [] Fj:=λ_ _ _ _ H Q I h=>Calls.spliced_nil ⟨[],H,I,.nil,h⟩
theorem kW (ha:PE X e te) (hr:PA X es t) (hs:starEach (e::es) X.env=(false,eval e X.env)::starEach es X.env:=by rfl):PA X (e::es) (CU te t):=by
 intro pos Hm s σ H Q I h;rw [hs]
 show wpAny _ _ (spliced ((false,eval e X.env)::backTo pos (starEach es X.env))) _ _ s
 refine Calls.spliced_cons (bX (ha Hm s σ H _ I h) λu s1 z9=>?_)
 obtain⟨x,H1,I1,r1,q1⟩:=z9;exact bX (hr pos Hm s1 σ H1 _ I1 q1) λus s2 z9=>by obtain⟨xs,H2,I2,r2,q2⟩:=z9; exact⟨x::xs,H2,I2,.cons r1 r2,q2⟩
def Ew (t:TA):TE:=fun σ H Q=>t σ H λxs H1=>xs.length<=sizeLine/\∀ p,H1 p=none->Q (.ref p) (bI H1 p (.tup xs))
def Fm (t:TA):TE:=fun σ H Q=>t σ H λxs H1=>xs.length<=sizeLine/\∀ p,H1 p=none->Q (.ref p) (bI H1 p (.lst xs))
theorem Ch {x1} (h:PA X es t):PE X (.Tuple es x1 pos) (Ew t):=by
 intro Hm s σ H Q I hq;refine wpAny_Tuple_spliced (bX (h pos Hm s σ H _ I hq) λus s1 ⟨xs,H1,I1,r,z,q⟩=>⟨by rw [<- r.length]; exact z,?_⟩)
 have hf:H1 s1.heap.objs.size=none:=I1.hok.fresh (Gg _);refine⟨.ref s1.heap.objs.size,bI H1 s1.heap.objs.size (.tup xs),I1.laid (t':=s1.toks) (λb u e=>Ga _ e) (Gg _) ?_,rfl,q _ hf⟩
 exact⟨z,us,r,⟨_,Gc _ rfl,rfl,_,rfl⟩⟩
theorem Cc (h:PA X es t):PE X (.List es pos) (Fm t):=by
 intro Hm s σ H Q I hq;refine wpAny_List_spliced (bX (h pos Hm s σ H _ I hq) λus s1 ⟨xs,H1,I1,r,z,q⟩=>⟨by rw [<- r.length]; exact z,?_⟩)
 have hf:H1 s1.heap.objs.size=none:=I1.hok.fresh (Gg _);refine⟨.ref s1.heap.objs.size,bI H1 s1.heap.objs.size (.lst xs),I1.laid (t':=s1.toks) (λb u e=>Ga _ e) (Gg _) ?_,rfl,q _ hf⟩
 exact⟨z,us,0,r,Gc _ rfl⟩
end
abbrev Sp:=List V->Hp->VK->XK->Prop
abbrev xS:=List Env->Hp->G8->XK->G9->G8->Prop
structure yQ (P:Hc) (w:He) (K:PySem.W.Frag) (mg:Str->Ha G9) (base:Hf) (A:Hd) (outer:List Env) (s:G8) (H:Hp):Prop where
 frames:A.frames=some outer
 mod:Mod K mg base
 bs:∀ b o,base.get? b=some o->s.heap.get? b=some o/\H b=none
 bsz:base.objs.size<=s.heap.objs.size
 funs:s.heap.FunFrames base outer
 frf:∀ b∈gP outer,H b=none
 hok:k8 P w H s.heap
 bare:AllBare s.gens
def CE (outer:List Env) (P:Hc) (w:He) (H:Hp) (s:G8) (Q:VK) (u:G9) (s':G8):Prop:=
 ∃ v H',s'.os=s.os/\AllBare s'.gens/\Un (gP outer) [] H H' s.heap s'.heap/\k8 P w H' s'.heap/\bi v u/\Q v H'
def CR (CX:xS) (outer:List Env) (P:Hc) (w:He) (H:Hp) (s:G8) (Q:VK) (E:XK) (r:Result) (s':G8):Prop:=
 match r with
 | .ok (.ret u)=>CE outer P w H s Q u s'
 | .ok _=>False
 | .error e=>CX outer H s E e s'
structure aH (P:Hc) (w:He) (K:PySem.W.Frag) (mg:Str->Ha G9) (base:Hf) (CX:xS) (k:Nat) (f:G_) (fd:FuncData) (ps:List Str) (sp:Sp):Prop where
 len:∀ vs H Q E,sp vs H Q E->vs.length=ps.length
 run:∀ (A:Hd) (outer:List Env) (s:G8) (H:Hp) (args:Args) (us:List G9) (vs:List V) (Q:VK) (E:XK),dE k A->yQ P w K mg base A outer s H->BindsTo s fd args (ps.zip us)->aW vs us->sp vs H Q E->
  codeAny (model P w) A (.call (.ref f) args) (CR CX outer P w H s Q E) s
section
variable {X:Cx} {Hm:List (G_×Hl)} {σ:St} {H:Hp} {s s':G8}
theorem az.env0 (I:az X Hm σ H s):yQ X.prog X.w X.K X.mg X.base X.A X.stack s H:=
 ⟨I.ok.frames,I.ok.mod,I.bs,GO I.ok.bsz I.sz,I.stack,I.stkFree,I.hok,I.bare⟩
theorem az.after {Q:VK} {u:G9} (I:az X Hm σ H s) (h:CE X.stack X.prog X.w H s Q u s'):EP X Hm σ Q u s':=by
 obtain⟨v,H',os,bare,un,hok,r,q⟩:=h;obtain⟨hh,g,d,t,os'⟩:=s';obtain rfl:os'=s.os:=os;exact⟨v,H',I.call (h':=hh) (g':=g) (d':=d) (t':=t) (ch:=[]) un hok bare (λb z=>absurd z (by simp)),r,q⟩
end
def CB (sp:Sp) (dvs:List V) (E:XK) (t:TA):TE:=fun σ H Q=>t σ H λvs H1=>sp (vs++dvs) H1 Q E
def jT (K:PySem.W.Frag) (fd:FuncData) (ps:List Str) (ds:List G9):Prop:=
 ∀ (s:G8) (us:List G9),K.In s.heap->(us++ds).length=ps.length->BindsTo s fd ⟨us,[]⟩ (ps.zip (us++ds))
theorem jT.all {K:PySem.W.Frag} {fd:FuncData} {ps:List Str} (h:∀ us:List G9,us.length=ps.length->bindArgs fd ⟨us,[]⟩=pure (ps.zip us)):jT K fd ps []:=λs us _ hl=>by
 rw [Gy] at hl ⊢;exact .of_eq (h us hl)
def pT (CX:xS) (X:Cx) (E:XK):Prop:=∀ (Hm:List (G_×Hl)) (σ:St) (H:Hp) (s:G8) (e:G9) (s':G8),az X Hm σ H s->CX X.stack H s E e s'->X.xe e s'
section
variable {X:Cx} {CX:xS} {k:Nat} {f C:G_} {fd:FuncData} {ps:List Str} {sp:Sp} {dvs:List V} {ds:List G9} {E:XK} {x m:Str} {p pos apos:Pos} {e o:Hb} {es:List Hb} {ta:TE} {t:TA}
theorem Bz {Hm:List (G_×Hl)} {σ:St} {H:Hp} {s:G8} {Q:VK} {us:List G9} {vs:List V} (F:aH X.prog X.w X.K X.mg X.base CX k f fd ps sp) (hr:dE k X.A) (hb:jT X.K fd ps ds) (hd:aW dvs ds) (hx:pT CX X E)
  (I:az X Hm σ H s) (r:aW vs us) (h:sp (vs++dvs) H Q E):wpAny (model X.prog X.w) X.A (call (.ref f) us) (EP X Hm σ Q) X.xe s:=by
 have r2:aW (vs++dvs) (us++ds):=r.append hd;have hl:(us++ds).length=ps.length:=by rw [<- r2.length]; exact F.len _ _ _ _ h
 refine wpAny_call (codeAny_mono (F.run X.A X.stack s H ⟨us,[]⟩ (us++ds) (vs++dvs) Q E hr I.env0 (hb s us I.kIn hl) r2 h) λr s' hq=>?_)
 cases r with
 | error e=>exact hx Hm σ H s e s' I hq
 | ok fl=>
  cases fl with
  | ret u=>exact I.after hq
  | next=>exact False.elim hq
  | brk=>exact False.elim hq
  | cont=>exact False.elim hq
theorem uE (F:aH X.prog X.w X.K X.mg X.base CX k f fd ps sp) (hr:dE k X.A) (hg:Gl X x) (hm:X.mg x=some (.ref f)) (hk:PySem.W.keepIn X.K (.ref f)=true) (hb:jT X.K fd ps ds) (hd:aW dvs ds) (hx:pT CX X E)
  (ha:PA X (e::es) t) (hdb:(x == ("__debug__":Str))=false:=by decide) (he:starEach (e::es) X.env=(false,eval e X.env)::starEach es X.env:=by rfl) (hpl:(backTo pos (starEach es X.env)).any (·.1)=false:=by rfl):
  PE X (.Call (.Name x p) (e::es) [] pos) (CB sp dvs E t):=by
 intro Hm s σ H Q I h;refine wpAny_Call_Name_kw (kA I hg hm ?_ hdb);refine PySem.W.callWith_K (h₀:=X.base) I.ok.mod.kin hk (bX (ha pos Hm s σ H _ I h) λus s1 ⟨vs,H1,I1,r,q⟩=>⟨I1.kIn,?_⟩) he hpl
 exact Bz F hr hb hd hx I1 r q
end
structure aq (N P:List Str) (sc:Scope):Prop where
 kind:sc.kind=.function
 co:sc.isCoroutine=false
 gen:sc.isGenerator=false
 nd:N.Nodup
 pre:N.take P.length=P
 par:∀ x∈P,sc.names.lookup x=some .local\/sc.names.lookup x=some .cell
 nofree:∀ y∈sc.names,y.2≠.free
theorem cV {N P:List Str} {sc:Scope} (a:sc.kind=.function:=by rfl) (b:sc.isCoroutine=false:=by rfl) (c:sc.isGenerator=false:=by rfl) (d:N.Nodup:=by decide +kernel) (e:N.take P.length=P:=by rfl) (f:∀ x∈P,sc.names.lookup x=some .local\/sc.names.lookup x=some .cell:=by decide +kernel) (g:∀ y∈sc.names,y.2≠.free:=by decide +kernel):aq N P sc:=⟨a,b,c,d,e,f,g⟩
theorem oN {kindOf:Str->Ha NameKind} {x:Str}:∀ {binds:List (Str×G9)} {m:Str->Ha G9},(∀ v,(x,v)∉binds)->bindL kindOf binds m x=m x
 | [],_,_=>rfl
 | (n,v)::r,m,h=>by
  unfold bindL;rw [oN λw hw=>h w (Go _ hw)]
  split
  ·have:x≠n:=by rintro rfl; exact h v Gn
   simp [this]
  ·rfl
theorem oM {kindOf:Str->Ha NameKind} {x:Str}:∀ {binds:List (Str×G9)} {m:Str->Ha G9},(∀ v,(x,v)∉binds)->bindC kindOf binds m x=m x
 | [],_,_=>rfl
 | (n,v)::r,m,h=>by
  unfold bindC;rw [oM λw hw=>h w (Go _ hw)]
  split
  ·rfl
  ·have:x≠n:=by rintro rfl; exact h v Gn
   simp [this]
theorem oW {kindOf:Str->Ha NameKind} {x:Str} {v:G9}:∀ {P:List Str} {vs:List G9} {i:Nat} {m:Str->Ha G9},P.Nodup->P[i]?=some x->vs[i]?=some v->kindOf x=some .local->
  bindL kindOf (P.zip vs) m x=some v
 | [],_,_,_,_,h,_,_=>by simp at h
 | _::_,[],_,_,_,_,h,_=>by simp at h
 | p::P,w::vs,0,m,nd,h1,h2,hk=>by
  simp at h1 h2; subst h1; subst h2
  show bindL kindOf ((p,w)::P.zip vs) m p=_
  unfold bindL;rw [oN λv hv=>(List.nodup_cons.mp nd).1 (List.of_mem_zip hv).1,if_pos hk]
  simp
 | p::P,w::vs,i+1,m,nd,h1,h2,hk=>by
  show bindL kindOf ((p,w)::P.zip vs) m x=_
  unfold bindL;exact oW (i:=i) (List.nodup_cons.mp nd).2 (by simpa using h1) (by simpa using h2) hk
theorem pA {kindOf:Str->Ha NameKind} {x:Str} {v:G9}:∀ {P:List Str} {vs:List G9} {i:Nat} {m:Str->Ha G9},P.Nodup->P[i]?=some x->vs[i]?=some v->kindOf x≠some .local->
  bindC kindOf (P.zip vs) m x=some v
 | [],_,_,_,_,h,_,_=>by simp at h
 | _::_,[],_,_,_,_,h,_=>by simp at h
 | p::P,w::vs,0,m,nd,h1,h2,hk=>by
  simp at h1 h2; subst h1; subst h2
  show bindC kindOf ((p,w)::P.zip vs) m p=_
  unfold bindC;rw [oM λv hv=>(List.nodup_cons.mp nd).1 (List.of_mem_zip hv).1,if_neg hk]
  simp
 | p::P,w::vs,i+1,m,nd,h1,h2,hk=>by
  show bindC kindOf ((p,w)::P.zip vs) m x=_
  unfold bindC;exact pA (i:=i) (List.nodup_cons.mp nd).2 (by simpa using h1) (by simpa using h2) hk
def start (N:List Str) (vs:List V):St:=vs.map some++List.replicate (N.length - vs.length) none
def dF (CX:xS) (P:Hc) (w:He) (K:PySem.W.Frag) (mg:Str->Ha G9) (base:Hf) (N:List Str) (Hn:Str) (scope:Scope) (f:G_) (cd:G9) (A:Hd) (outer:List Env) (s:G8) (H:Hp) (E:XK):Cx where
 prog:=P
 w:=w
 K:=K
 mg:=mg
 base:=base
 A:=A.deeper (envOfC Hn scope s.heap.objs.size f cd)
 N:=N
 s₀:=s
 H₀:=H
 env:=envOfC Hn scope s.heap.objs.size f cd
 outer:=outer
 stack:=envOfC Hn scope s.heap.objs.size f cd::outer
 ex:=[]
 calm:=true
 fn:=λ_=>true
 pn:=[]
 xe:=λe s'=>wpAny (model P w) (A.deeper (envOfC Hn scope s.heap.objs.size f cd)) (leaving (envOfC Hn scope s.heap.objs.size f cd) e) (λ_ s''=>CX outer H s E e s'') (λe' s''=>CX outer H s E e' s'') s'
theorem rK {sc:Scope} {n:Nat} {x:Str} (h:sc.names.lookup x=some .cell):∃ c,(cellsFrom n sc.names []).lookup x=some c:=by
 have q:=PySem.W.cellsFrom_some sc.names n [] (.inl h);exact G6.mp q
theorem vM {CX:xS} {P:Hc} {w:He} {K:PySem.W.Frag} {mg:Str->Ha G9} {base:Hf} {N ps:List Str} {Hn:Str} {scope:Scope} {f:G_} {cd:G9} {A:Hd} {outer:List Env} {s s1:G8} {H:Hp} {E:XK} {us:List G9} {vs:List V}
  (S:aq N ps scope) (hd:A.handled=none) (e0:yQ P w K mg base A outer s H) (hl:vs.length=ps.length) (r:aW vs us)
  (x:InCallC s s.heap.objs.size (bindL (envOfC Hn scope s.heap.objs.size f cd).kindOf (ps.zip us) λ_=>none) (cellsFrom (s.heap.objs.size+1) scope.names []) (bindC (envOfC Hn scope s.heap.objs.size f cd).kindOf (ps.zip us) λ_=>none) s1):
  az (dF CX P w K mg base N Hn scope f cd A outer s H E) [] (start N vs) H s1:=by
 have hpl:ps.length<=N.length:=by have:=congrArg List.length S.pre; rw [List.length_take] at this; omega
 obtain⟨h1,tk,rfl,hk⟩:=x.done;have noA:∀ b:G_,b∉(dF CX P w K mg base N Hn scope f cd A outer s H E).ex:=λb z=>absurd (show b∈([]:List G_) from z) (by simp)
 refine⟨⟨e0.mod,S.kind,rfl,rfl,Gg _,λy z c h1 h2=>?_,λy hy=>?_,λy c _ h=>?_,λ_=>hd,Around.frames_deeper e0.frames,.inr ⟨rfl,rfl⟩,λb z=>absurd z (noA b),e0.bs,e0.bsz,λb _ _=>noA b,λb z=>absurd z (noA b),e0.funs,e0.frf⟩,
  rfl,e0.bare,Un.kept hk,⟨_,x.toInCall.ns,λi y v h1 h2 h3=>?_⟩,λy c h=>⟨_,x.cell y c h⟩,e0.hok.fresh (Gg _),λy c h=>?_,λp hp=>absurd (show p∈([]:List (G_×Hl)) from hp) (by simp),e0.hok.kept hk,?_⟩
 ·exact name_of_addr x.apart (GQ h1) (GQ h2)
 ·have hy:scope.names.lookup y=some .cell\/scope.names.lookup y=some .free:=hy;rcases hy with hy | hy
  ·exact rK hy
  ·exact absurd rfl (S.nofree _ (GQ hy))
 ·exact Nat.le_of_lt (x.above y c (GQ h))
 ·have hi:i < vs.length:=by
   unfold start at h2
   by_cases hi:i < vs.length
   ·exact hi
   ·rw [List.getElem?_append_right (by simpa using hi)] at h2
    rw [List.getElem?_replicate] at h2
    split at h2 <;> cases h2
  have ha:vs[i]?=some v:=by
   unfold start at h2;rw [List.getElem?_append_left (by simpa using hi),List.getElem?_map] at h2
   cases e:vs[i]? with
   | none=>rw [e] at h2; cases h2
   | some a=>rw [e] at h2; cases h2; rfl
  obtain⟨u,hu,rv⟩:=r.get ha;have hp:ps[i]?=some y:=by
   rw [<- S.pre,List.getElem?_take_of_lt (by omega)]; exact h1
  have ndP:ps.Nodup:=by rw [<- S.pre]; exact S.nd.sublist (List.take_sublist _ _)
  refine⟨u,rv,?_⟩;rcases S.par y (List.mem_of_getElem? hp) with k | k
  ·exact .inl ⟨k,oW ndP hp hu k⟩
  ·obtain⟨c,e⟩:=rK (n:=s.heap.objs.size+1) k;refine .inr ⟨.inl k,c,e,?_⟩;have q:=x.cell y c e;rw [pA ndP hp hu (by show scope.names.lookup y≠_; rw [k]; decide)] at q
   exact q
 ·exact e0.hok.fresh (Nat.le_of_lt (x.above y c (GQ h)))
 ·unfold start
  show _=N.length
  rw [Gx,Gh,List.length_replicate];omega
theorem At {CX:xS} {P:Hc} {w:He} {K:PySem.W.Frag} {mg:Str->Ha G9} {base:Hf} {k:Nat} {f:G_} {name Hn:Str} {params:Arguments} {body:List Hg} {scope:Scope} {dV kV doc pm cdv ct oc:G9} {an od:Ha G_}
  {osl:Hh (Ha G9)} {N ps:List Str} {sp:Sp} (lk:K.lookup f=some ⟨oc,od,.func (PySem.W.fnOf name Hn params body scope dV kV doc pm an cdv ct),osl⟩) (hcd:PySem.W.codeIn K cdv Hn=true) (S:aq N ps scope)
  (len:∀ vs H Q E,sp vs H Q E->vs.length=ps.length)
  (hbody:∀ (A:Hd) (outer:List Env) (s:G8) (H:Hp) (vs:List V) (Q:VK) (E:XK),dE k (A.deeper (envOfC Hn scope s.heap.objs.size f cdv))->sp vs H Q E->
   ∃ t,mV (dF CX P w K mg base N Hn scope f cdv A outer s H E) body t/\t {nx:=λ_ H'=>Q .non H',rt:=Q} (start N vs) H):
  aH P w K mg base CX (k+1) f (PySem.W.fnOf name Hn params body scope dV kV doc pm an cdv ct) ps sp:=by
 refine⟨len,λA outer s H args us vs Q E hr e0 hb r hsp=>?_⟩
 have hl:=len _ _ _ _ hsp;have KX:K.In s.heap:=e0.mod.kin.keeps λb o e=>(e0.bs b o e).1
 have lim:s.heap.NoLimit:=e0.mod.nolimit.keeps λb o e=>(e0.bs b o e).1
 have hkind:∀ y∈ps.zip us,scope.names.lookup y.1=some .local\/(scope.names.lookup y.1=some .cell/\((cellsFrom (s.heap.objs.size+1) scope.names []).lookup y.1).isSome=true):=λ⟨n,v⟩ hy=>by
  rcases S.par n (List.of_mem_zip hy).1 with q | q
  ·exact .inl q
  ·exact .inr ⟨q,PySem.W.cellsFrom_some _ _ _ (.inl q)⟩
 refine codeAny_call_function hr.depth (KX _ _ lk) rfl S.co S.gen rfl (PySem.W.codeRec_of KX hcd) (hb _ _ _ _ ?_);refine wpAny_newFunctionEnv_cells S.kind hkind λenv he s1 x=>?_
 subst he;refine⟨lim.keeps x.toInCall.keep,codeAny_func ?_⟩;obtain⟨t,ht,hq⟩:=hbody A outer s H vs Q E (hr.deeper _) hsp;have I:az (dF CX P w K mg base N Hn scope f cdv A outer s H E) [] (start N vs) H s1:=vM S hr.hd e0 hl r x;refine GM (ht [] s1 (start N vs) H _ I hq) (λfl s' hs=>?_) λe s' hs=>hs
 have fin:∀ {σ':St} {H':Hp} {v:V} {u:G9},az (dF CX P w K mg base N Hn scope f cdv A outer s H E) [] σ' H' s'->bi v u->Q v H'->CE outer P w H s Q u s':=
  λ{σ' H' v u} J rv q=>⟨v,H',J.os,J.bare,J.base,J.hok,rv,q⟩
 cases fl with
 | ret u=>
  obtain⟨v,σ',H',J,rv,q⟩:=hs;exact fin J rv q
 | next=>
  obtain⟨σ',H',J,q⟩:=hs;exact fin (v:=V.non) (u:=Value.none) J rfl q
 | brk=>
  obtain⟨_,_,_,q⟩:=hs;exact False.elim q
 | cont=>
  obtain⟨_,_,_,q⟩:=hs;exact False.elim q
section
variable {X:Cx} {x:Str} {p pos:Pos} {e:Hb} {es:List Hb} {t:TA} {id T:Hj} {r:List V->Hp->VK->Prop}
def EL (r:List V->Hp->VK->Prop) (t:TA):TE:=fun σ H Q=>t σ H λvs H1=>r vs H1 Q
theorem xl (hc:cb X (.builtin id) r) (hg:Gl X x) (hm:X.mg x=none) (hv:bootBuiltins x=some (.builtin id)) (ha:PA X (e::es) t) (hn:x≠"__name__":=by decide) (hdb:(x == ("__debug__":Str))=false:=by decide)
  (he:starEach (e::es) X.env=(false,eval e X.env)::starEach es X.env:=by rfl) (hpl:(backTo pos (starEach es X.env)).any (·.1)=false:=by rfl):PE X (.Call (.Name x p) (e::es) [] pos) (EL r t):=by
 intro Hm s σ H Q I h;refine wpAny_Call_Name_kw (nh I hg hm hv ?_ hn hdb);exact PyProof.Rows.callWith_builtin1 (bX (ha pos Hm s σ H _ I h) λus s1 z9=>by obtain⟨vs,H1,I1,r1,q1⟩:=z9; exact hc Hm s1 σ H1 vs us Q I1 r1 q1) he hpl
theorem vL (hc:cb X (.type T) r) (hg:Gl X x) (hm:X.mg x=none) (hv:bootBuiltins x=some (.type T)) (ha:PA X (e::es) t) (hn:x≠"__name__":=by decide) (hdb:(x == ("__debug__":Str))=false:=by decide)
  (he:starEach (e::es) X.env=(false,eval e X.env)::starEach es X.env:=by rfl) (hpl:(backTo pos (starEach es X.env)).any (·.1)=false:=by rfl):PE X (.Call (.Name x p) (e::es) [] pos) (EL r t):=by
 intro Hm s σ H Q I h;refine wpAny_Call_Name_kw (nh I hg hm hv ?_ hn hdb);exact PyProof.Rows.callWith_type1 (bX (ha pos Hm s σ H _ I h) λus s1 z9=>by obtain⟨vs,H1,I1,r1,q1⟩:=z9; exact hc Hm s1 σ H1 vs us Q I1 r1 q1) he hpl
end
end L2
namespace HT
open PySem PyProof.Rows
section
variable {prog:Hc} {w:He} {A:Hd} {E:G9->G8->Prop} {s:G8}
theorem yU {t b:G_} {vs ws:List G9} {Q:G9->G8->Prop} (ht:IsTup s.heap t vs.toArray) (hb:IsTup s.heap b ws.toArray) (hv:vs≠[])
  (h1:ws=[]->Q (.ref t) s) (h2:ws≠[]->Q (.ref s.heap.objs.size) {s with heap:=s.heap.push {cls:=.type "tuple",data:=.seq (vs++ws).toArray}})
  (hsz:vs.length+ws.length<=sizeLine):wpAny (model prog w) A (binaryOp .Add (.ref t) (.ref b)) Q E s:=by
 obtain⟨⟨cls,dd,data,sl⟩,ho,hc,n,hd⟩:=id ht;obtain⟨⟨cls2,dd2,data2,sl2⟩,ho2,hc2,n2,hd2⟩:=id hb;simp only at hc hd hc2 hd2
 subst hc hd hc2 hd2;have e:vs.toArray++ws.toArray=(vs++ws).toArray:=by simp
 by_cases hw:ws=[]
 ·exact concat_meets ⟨_,ho,rfl⟩ ⟨_,ho2,rfl⟩ noFill_tuple_add seq_tuple_add PySem.F.slot_tuple_add PySem.F.entry_tuple_add (PySem.F.args_tuple_add_2 _ _)
   (tuple_addW1 t b vs.toArray ws.toArray n n2 dd dd2 sl sl2 (by simpa using hv) (by simp [hw])) ⟨ho,ho2,h1 hw⟩
 ·refine concat_meets ⟨_,ho,rfl⟩ ⟨_,ho2,rfl⟩ noFill_tuple_add seq_tuple_add PySem.F.slot_tuple_add PySem.F.entry_tuple_add (PySem.F.args_tuple_add_2 _ _)
   (tuple_addW2 t b vs.toArray ws.toArray n n2 dd dd2 sl sl2 (by simpa using hv) (by simpa using hw) (by rw [Gj,Gj]; exact hsz)) ⟨ho,ho2,?_⟩
  rw [e];exact h2 hw
def d_ (n d:Nat):Ha Int->Nat
 | none=>d
 | some v=>if v < 0 then(v+(n:Int)).toNat else min v.toNat n
theorem BM (n d:Nat) (hd:d<=n) (o:Ha Int):d_ n d o<=n:=by
 cases o with
 | none=>exact hd
 | some v=>
  show(if v < 0 then(v+(n:Int)).toNat else min v.toNat n)<=n
  by_cases hv:v < 0
  ·rw [if_pos hv]; omega
  ·rw [if_neg hv]; exact Nat.min_le_right _ _
theorem ud (v:Int) (n d:Nat):(if v < 0 then max (v+(n:Int)) 0 else min v (n:Int))=((d_ n d (some v):Nat):Int):=by
 show(if v < 0 then max (v+(n:Int)) 0 else min v (n:Int))=(((if v < 0 then(v+(n:Int)).toNat else min v.toNat n):Nat):Int)
 by_cases hv:v < 0
 ·simp only [if_pos hv]; omega
 ·simp only [if_neg hv]; omega
theorem tj (lo hi:Ha Int) (n:Nat):Builtin.Slice.sliceAdjust lo hi 1 (n:Int)=(((d_ n 0 lo:Nat):Int),((d_ n n hi:Nat):Int)):=by
 have h1:¬ ((1:Int) < 0):=by omega
 unfold Builtin.Slice.sliceAdjust;simp only [h1,if_false];refine Gw ?_ ?_
 ·cases lo with
  | none=>rfl
  | some v=>exact ud v n 0
 ·cases hi with
  | none=>rfl
  | some v=>exact ud v n n
theorem sM (i j:Nat):Builtin.Slice.slicePlaces (i:Int) (j:Int) 1=j - i:=by
 unfold Builtin.Slice.slicePlaces;have h1:(1:Int) > 0:=by omega
 simp only [h1,if_true,Int.ediv_one]
 split <;> omega
theorem nJ {v:G9} {o:Ha Int} {Q:Ha Int->G8->Prop} (p:IsPart v o) (h:Q o s):wpAny (model prog w) A (Builtin.Slice.slicePartIndex v) Q E s:=by
 cases p with
 | none=>exact slicePart_none h
 | int i t=>exact slicePart_int h
theorem lm {sl:G_} {vl vu:G9} {lo hi:Ha Int} {n:Nat} {Q:Int×Int×Nat->G8->Prop} (hs:s.heap.IsSliceOf sl vl vu .none) (pl:IsPart vl lo) (pu:IsPart vu hi)
  (h:Q (((d_ n 0 lo:Nat):Int),1,d_ n n hi - d_ n 0 lo) s):wpAny (model prog w) A (Builtin.Slice.sliceApplied (.ref sl) (pure (n:Int))) Q E s:=by
 obtain⟨os,hos,hcs,hds⟩:=id hs;unfold Builtin.Slice.sliceApplied Builtin.Slice.sliceFields;refine gt (gt (GN hos hds (x:=vl) rfl (gt (GN hos hds (x:=vu) rfl (gt (GN hos hds (x:=.none) rfl (Gb ?_)))))));refine gt (slicePart_none ?_)
 show wpAny _ _ (if ((1:Int) == 0)=true then _ else _) _ _ s
 rw [if_neg (by decide)]
 refine gt (nJ pl (gt (nJ pu (gt (Gb ?_)))))
 show wpAny _ _ (match Builtin.Slice.sliceAdjust lo hi 1 (n:Int) with | (lo,hi)=>pure (lo,(1:Int),Builtin.Slice.slicePlaces lo hi 1)) _ _ s
 rw [tj lo hi n]
 show wpAny _ _ (pure (((d_ n 0 lo:Nat):Int),(1:Int),Builtin.Slice.slicePlaces ((d_ n 0 lo:Nat):Int) ((d_ n n hi:Nat):Int) 1)) _ _ s
 rw [sM];exact Gb h
theorem xH (xs:Hh G9) (i k:Nat):((List.range k).filterMap fun(m:Nat)=>xs[((i:Int)+(m:Int)*1).toNat]?).toArray=((xs.toList.drop i).take k).toArray:=by
 have e:(λ(m:Nat)=>xs[((i:Int)+(m:Int)*1).toNat]?)=λm=>xs[i+m]?:=by
  funext m
  have:((i:Int)+(m:Int)*1).toNat=i+m:=by omega
  rw [this]
 rw [e];have:=pick_run xs i k;rw [List.filterMap_map] at this;have e2:((λx=>xs[x]?) ∘ λx=>i+x)=λm=>xs[i+m]?:=rfl
 rw [e2] at this;rw [this]
theorem kH {t sl:G_} {items:Hh G9} {vl vu:G9} {lo hi:Ha Int} {Q:G9->G8->Prop} (ht:IsTup s.heap t items) (hs:s.heap.IsSliceOf sl vl vu .none) (pl:IsPart vl lo) (pu:IsPart vu hi)
  (hw:¬ (d_ items.size 0 lo=0/\d_ items.size items.size hi=items.size))
  (h:Q (.ref s.heap.objs.size) {s with heap:=s.heap.push {cls:=.type "tuple",data:=.seq ((items.toList.drop (d_ items.size 0 lo)).take (d_ items.size items.size hi - d_ items.size 0 lo)).toArray}})
  (hsz:items.size<=sizeLine):wpAny (model prog w) A (getItem (.ref t) (.ref sl)) Q E s:=by
 have htake:sizeOk (.seq ((items.toList.drop (d_ items.size 0 lo)).take (d_ items.size items.size hi - d_ items.size 0 lo)).toArray):=by
  show((items.toList.drop (d_ items.size 0 lo)).take (d_ items.size items.size hi - d_ items.size 0 lo)).toArray.size<=sizeLine
  rw [Gj,List.length_take,List.length_drop,Array.length_toList];omega
 have hj:d_ items.size items.size hi<=items.size:=BM _ _ (Gg _) hi;obtain⟨os,hos,hcs,hds⟩:=id hs;have hTs:s.TypeIs (.ref sl) "slice":=⟨os,hos,hcs⟩
 unfold getItem
 try with_reducible refine wpAny_holding ?_
 first | refine gt (Gb ?_) | skip
 refine gt (wpAny_sequenceKey ht.typeIs (by decide) ?_)
 refine gt (GZ (name:=Str.ofString "__getitem__") ht.typeIs PyProof.Rows.slot_tuple_getitem
  (wpAny_call_entry PyProof.Rows.slot_tuple_getitem ht.typeIs entry_tuple_getitem ?_ (args_tuple_getitem _ _)))
 show wpAny _ _ (Builtin.Tuple.tupleItemsOf (.ref t) >>= _) _ _ s
 refine gt (tupleItemsOf_ ht ?_);refine gt (wpAny_typeOf hTs ?_);rw [if_pos (by decide)]
 refine gt (lm hs pl pu ?_);have hno:¬ ((((d_ items.size 0 lo:Nat):Int) == 0 && (1:Int) == 1 && (d_ items.size items.size hi - d_ items.size 0 lo) == items.size)=true):=by
  intro q;rw [GP,GP] at q;have q1:((d_ items.size 0 lo:Nat):Int)=0:=eq_of_beq q.1.1;have q2:d_ items.size items.size hi - d_ items.size 0 lo=items.size:=eq_of_beq q.2;exact hw ⟨by omega,by omega⟩
 show wpAny _ _ (if (((d_ items.size 0 lo:Nat):Int) == 0 && (1:Int) == 1 && (d_ items.size items.size hi - d_ items.size 0 lo) == items.size)=true then _ else _) _ _ s
 rw [if_neg hno,xH]
 first
  | exact gt (m:=Builtin.Tuple.tupleExact _) (GC (Gb ⟨_,rfl,Gb h⟩) htake)
  | exact gt (m:=Builtin.Tuple.tupleExact _) (GC (gt (Gb (Gb ⟨_,rfl,Gb h⟩))) htake)
  | exact gt (gt (m:=Builtin.Tuple.tupleExact _) (GC (Gb (Gb ⟨_,rfl,Gb h⟩)) htake))
  | exact gt (gt (m:=Builtin.Tuple.tupleExact _) (GC (Gb ⟨_,rfl,Gb h⟩) htake))
end
end HT
namespace L2
open PySem PySem.Spec PyProof.Rows
abbrev TO:=St->Hp->(Ha Int->Hp->Prop)->Prop
def PO (X:Cx) (e:Ha Hb) (t:TO):Prop:=
 ∀ (Hm:List (G_×Hl)) (s:G8) (σ:St) (H:Hp) (Q:Ha Int->Hp->Prop),az X Hm σ H s->t σ H Q->
  wpAny (model X.prog X.w) X.A (evalPart e X.env) (λu s'=>∃ o H',az X Hm σ H' s'/\IsPart u o/\Q o H') X.xe s
def yX:TO:=λ_ H Q=>Q none H
def DU (t:TE):TO:=fun σ H Q=>t σ H λx H1=>∃ i,x=.int i/\Q (some i) H1
theorem tP {ns:List Int}:∀ {us:List G9},aW (ns.map V.int) us->IntsAre us ns:=by
 induction ns with
 | nil=>intro us r; rw [List.map_nil] at r; cases r; exact .nil
 | cons n ns ih=>
  intro us r;rw [List.map_cons] at r;cases r with
  | cons r1 r2=>
   obtain⟨t,e⟩:=r1;subst e;exact .cons n t (ih r2)
section
variable {X:Cx} {e:Hb} {te:TE} {lo hi:Ha Hb} {tl th:TO} {pos p2:Pos}
theorem zf:PO X none yX:=by
 intro Hm s σ H Q I h;rw [evalPart_none];exact Gb ⟨none,H,I,.none,h⟩
theorem zl (h:PE X e te):PO X (some e) (DU te):=by
 intro Hm s σ H Q I hw;rw [evalPart_some];refine bX (h Hm s σ H _ I hw) λu s1 z9=>?_
 obtain⟨x,H1,I1,r1,q1⟩:=z9;obtain⟨i,rfl,q⟩:=q1;obtain⟨t,rfl⟩:=r1;exact⟨some i,H1,I1,.int i t,q⟩
def Ab (X:Cx) (r:V->Ha Int->Ha Int->Hp->VK->Prop):Prop:=
 ∀ (Hm:List (G_×Hl)) (s:G8) (σ:St) (H:Hp) (x:V) (v vl vu:G9) (lo hi:Ha Int) (sl:G_) (Q:VK),az X Hm σ H s->bi x v->s.heap.IsSliceOf sl vl vu .none->IsPart vl lo->IsPart vu hi->r x lo hi H Q->
  ∃ T id,typeLookup (.type T) "__getitem__"=pure (some (.builtin id))/\s.TypeIs v T/\wpAny (model X.prog X.w) X.A (getItem v (.ref sl)) (EP X Hm σ Q) X.xe s
theorem Ab.or {r r':V->Ha Int->Ha Int->Hp->VK->Prop} (h:Ab X r) (h':Ab X r'):Ab X (λx lo hi H Q=>r x lo hi H Q\/r' x lo hi H Q):=by
 intro Hm s σ H x v vl vu lo hi sl Q I rx hs pl pu q;rcases q with q | q
 ·exact h Hm s σ H x v vl vu lo hi sl Q I rx hs pl pu q
 ·exact h' Hm s σ H x v vl vu lo hi sl Q I rx hs pl pu q
def F5 (r:V->Ha Int->Ha Int->Hp->VK->Prop) (te:TE) (tl th:TO):TE:=fun σ H Q=>te σ H λx H1=>tl σ H1 λl H2=>th σ H2 λu H3=>r x l u H3 Q
theorem si {r:V->Ha Int->Ha Int->Hp->VK->Prop} (hr:Ab X r) (he:PE X e te) (hl:PO X lo tl) (hu:PO X hi th):PE X (.Subscript e (.Slice lo hi none p2) pos) (F5 r te tl th):=by
 intro Hm s σ H Q I h;refine Subscript_ (bX (he Hm s σ H _ I h) λv s1 z9=>?_)
 obtain⟨x,H1,I1,r1,q1⟩:=z9;refine wpAny_Slice (bX (hl Hm s1 σ H1 _ I1 q1) λvl s2 ⟨l,H2,I2,pl,q2⟩=>bX (hu Hm s2 σ H2 _ I2 q2) λvu s3 z9=>?_)
 obtain⟨u,H3,I3,pu,q3⟩:=z9;rw [evalPart_none];refine Gb ?_;have I4:az X Hm σ H3 {s3 with heap:=s3.heap.push {cls:=.type "slice",data:=.fields #[vl,vu,.none]}}:=I3.kept (t':=s3.toks) λb ob q=>Ga _ q
 obtain⟨T,id,hT,ht,hg⟩:=hr Hm {s3 with heap:=s3.heap.push {cls:=.type "slice",data:=.fields #[vl,vu,.none]}} σ H3 x v vl vu l u s3.heap.objs.size Q I4 r1 (Heap.IsSliceOf.new ..) pl pu q3
 show wpAny (model X.prog X.w) X.A (subscriptTail e (.Slice lo hi none p2) v (.ref s3.heap.objs.size)) (EP X Hm σ Q) X.xe {s3 with heap:=s3.heap.push {cls:=.type "slice",data:=.fields #[vl,vu,.none]}}
 exact tail_any (ops:=[.ref s3.heap.objs.size,v]) ht hT hg (by with_unfolding_all rfl)
def mR (xs:List V) (lo hi:Ha Int):List V:=(xs.drop (HT.d_ xs.length 0 lo)).take (HT.d_ xs.length xs.length hi - HT.d_ xs.length 0 lo)
theorem lZ (xs:List V) (lo hi:Ha Int):(mR xs lo hi).length<=xs.length:=by
 unfold mR;rw [List.length_take,List.length_drop];omega
def EG (K:PySem.W.Frag):V->Ha Int->Ha Int->Hp->VK->Prop:=λx lo hi H Q=>∃ a xs,x=.ref a/\kU K H a xs/\
 ¬ (HT.d_ xs.length 0 lo=0/\HT.d_ xs.length xs.length hi=xs.length)/\∀ p,H p=none->Q (.ref p) (bI H p (.tup (mR xs lo hi)))
theorem AH:Ab X (EG X.K):=by
 intro Hm s σ H x v vl vu lo hi sl Q I rx hs pl pu h;obtain⟨a,xs,rfl,hx,hw,q⟩:=h;cases rx;obtain⟨its,r,ht,hz⟩:=I.tuple hx;have hlen:its.toArray.size=xs.length:=by rw [Gj]; exact r.length.symm
 refine⟨"tuple",_,PyProof.Rows.slot_tuple_getitem.lookup,ht.typeIs,?_⟩
 refine HT.kH ht hs pl pu (by rw [hlen]; exact hw) ?_ (by rw [hlen]; exact hz)
 rw [hlen];refine⟨.ref s.heap.objs.size,_,I.laid (t':=s.toks) (o:=.tup (mR xs lo hi)) (λb ob q=>Ga _ q) (Gg _) ?_,rfl,q _ (I.hok.fresh (Gg _))⟩
 exact⟨GO (lZ xs lo hi) hz,_,(r.drop (HT.d_ xs.length 0 lo)).take (HT.d_ xs.length xs.length hi - HT.d_ xs.length 0 lo),IsTup.new _ _⟩
def Dd (K:PySem.W.Frag):R2:=λx y H Q=>∃ a b xs ys,x=.ref a/\y=.ref b/\kU K H a xs/\kU K H b ys/\xs≠[]/\xs.length+ys.length<=sizeLine/\
 (ys=[]->Q (.ref a) H)/\(ys≠[]->∀ p,H p=none->Q (.ref p) (bI H p (.tup (xs++ys))))
theorem aW.nil_iff {xs:List V} {us:List G9} (r:aW xs us):us=[]↔xs=[]:=by
 cases r with
 | nil=>simp
 | cons _ _=>simp
theorem yH:eU X (binaryOp .Add) (Dd X.K):=by
 intro Hm s σ H x y v u Q I rx ry h;obtain⟨a,b,xs,ys,rfl,rfl,ha,hb,hx,hz,q1,q2⟩:=h;cases rx;cases ry;obtain⟨its,r1,p1,_⟩:=I.tuple ha;obtain⟨its2,r2,p2,_⟩:=I.tuple hb;refine HT.yU p1 p2 (λz=>hx (r1.nil_iff.mp z)) (λz=>⟨.ref a,H,I,rfl,q1 (r2.nil_iff.mp z)⟩) (λz=>?_) (by rw [<- r1.length,<- r2.length]; exact hz)
 refine⟨.ref s.heap.objs.size,_,I.laid (t':=s.toks) (o:=.tup (xs++ys)) (λb ob q=>Ga _ q) (Gg _) ?_,rfl,q2 (λw=>z (r2.nil_iff.mpr w)) _ (I.hok.fresh (Gg _))⟩
 exact⟨by rw [Gx]; exact hz,_,r1.append r2,IsTup.new _ _⟩
end
def yg (n:Nat) (i:Int):Ha Nat:=if 0<=i then(if i < n then some i.toNat else none) else if -(n:Int)<=i then some (i+n).toNat else none
def atI {α:Type} (xs:List α) (i:Int):Ha α:=(yg xs.length i).bind λj=>xs[j]?
theorem uF {n:Nat} {i:Int} {j:Nat} (h:yg n i=some j):seqIndex? i n=some j/\j < n/\-(n:Int)<=i/\i < n:=by
 unfold yg at h
 by_cases h0:0<=i
 ·rw [if_pos h0] at h
  by_cases h1:i < n
  ·rw [if_pos h1] at h;have e:i.toNat=j:=GF h;exact⟨by rw [seqIndex_of h0 h1,e],by omega,by omega,h1⟩
  ·rw [if_neg h1] at h; cases h
 ·rw [if_neg h0] at h
  by_cases h1:-(n:Int)<=i
  ·rw [if_pos h1] at h;have e:(i+n).toNat=j:=GF h;exact⟨by rw [seqIndex_neg (by omega) h1,e],by omega,h1,by omega⟩
  ·rw [if_neg h1] at h; cases h
theorem uJ {α:Type} {xs:List α} {i:Int} {v:α} (h:atI xs i=some v):∃ j,seqIndex? i xs.length=some j/\xs[j]?=some v/\j < xs.length/\-(xs.length:Int)<=i/\i < xs.length:=by
 unfold atI at h;cases e:yg xs.length i with
 | none=>rw [e] at h; cases h
 | some j=>
  rw [e] at h;obtain⟨h1,h2,h3,h4⟩:=uF e;exact⟨j,h1,h,h2,h3,h4⟩
theorem jF {α:Type} {xs:List α} {j:Nat} {v:α} (h:xs[j]?=some v):atI xs (j:Int)=some v:=by
 have hj:j < xs.length:=(GL.mp h).1;have e:yg xs.length (j:Int)=some j:=by
  unfold yg;rw [if_pos (by omega),if_pos (by omega)]; simp
 unfold atI; rw [e]; exact h
def pZ (b:Hb):Prop:=∀ o i,subscripted b false o i=operate [o,i] (getItem o i)
def vH (X:Cx) (r:R2):Prop:=
 ∀ (value slice:Hb) (Hm:List (G_×Hl)) (s:G8) (σ:St) (H:Hp) (x y:V) (v u:G9) (Q:VK),az X Hm σ H s->bi x v->bi y u->r x y H Q->
  subscripted slice false v u=operate [v,u] (getItem v u)->wpAny (model X.prog X.w) X.A (subscriptTail value slice v u) (EP X Hm σ Q) X.xe s
def FA (X:Cx) (id:Hj) (r:V->List V->Hp->VK->Prop):Prop:=
 ∀ (Hm:List (G_×Hl)) (s:G8) (σ:St) (H:Hp) (x:V) (xs:List V) (v:G9) (us:List G9) (Q:VK),az X Hm σ H s->bi x v->aW xs us->r x xs H Q->
  wpAny (model X.prog X.w) X.A (call (.builtin id) (v::us)) (EP X Hm σ Q) X.xe s
section
variable {X:Cx} {a b:Hb} {ta tb:TE} {pos:Pos}
theorem Ae {r:R2} (hr:vH X r) (ha:PE X a ta) (hb:PE X b tb) (hs:pZ b):PE X (.Subscript a b pos) (Dm r ta tb):=by
 intro Hm s σ H Q I h;exact Subscript_ (AI ha hb I h λv u s2 x y H2 I2 rx ry q=>hr a b Hm s2 σ H2 x y v u Q I2 rx ry q (hs _ _))
def EA (K:PySem.W.Frag):R2:=λx y H Q=>∃ p xs i v,x=.ref p/\y=.int i/\eu K H p xs/\atI xs i=some v/\Q v H
def Fq (K:PySem.W.Frag):R2:=λx y H Q=>∃ p xs i v,x=.ref p/\y=.int i/\kU K H p xs/\atI xs i=some v/\Q v H
theorem uh:vH X (EA X.K):=by
 intro value slice Hm s σ H x y v u Q I rx ry h hs;obtain⟨p,xs,i,z,rfl,rfl,hq,he,q⟩:=h;cases rx;obtain⟨t,rfl⟩:=ry;obtain⟨its,r,pl,hz⟩:=I.list hq;obtain⟨j,h1,h2,h3,h4,h5⟩:=uJ he;obtain⟨w,ew,rw'⟩:=r.get h2;have hl:=r.length;have hn:=mP;have fin:EP X Hm σ Q w s:=⟨z,H,I,rw',q⟩
 by_cases h0:0<=i
 ·have hj:i.toNat=j:=by
   rw [seqIndex_of h0 h5] at h1;exact GF h1
  exact item_listR pl.isList h0 (by omega) (by rw [hj]; simpa using ew) fin hs
 ·have hj:(i+(its.toArray.size:Int)).toNat=j:=by
   rw [seqIndex_neg (by omega) h4] at h1
   rw [Gj,<- hl];exact GF h1
  exact subscriptTail_builtinR (x:=w) pl.isList.typeIs slot_list_getitem.lookup
   (wpAny_getItem_list_neg (Q:=λr s'=>r=w/\EP X Hm σ Q r s') pl.isList (by omega) (by rw [Gj] <;> omega) (by omega) (by rw [hj]; simpa using ew) ⟨rfl,fin⟩) hs
theorem A':vH X (Fq X.K):=by
 intro value slice Hm s σ H x y v u Q I rx ry h hs;obtain⟨p,xs,i,z,rfl,rfl,hq,he,q⟩:=h;cases rx;obtain⟨t,rfl⟩:=ry;obtain⟨its,r,pl,hz⟩:=I.tuple hq;obtain⟨j,h1,h2,h3,h4,h5⟩:=uJ he;obtain⟨w,ew,rw'⟩:=r.get h2;have hl:=r.length;have hn:=mP;have fin:EP X Hm σ Q w s:=⟨z,H,I,rw',q⟩;exact subscriptTail_builtinR (x:=w) pl.typeIs slot_tuple_getitem.lookup
  (getItem_tuple (j:=j) (Q:=λr s'=>r=w/\EP X Hm σ Q r s') pl (by omega) (by omega) (by rw [Gj,<- hl]; exact h1) (by simpa using ew) ⟨rfl,fin⟩) hs
theorem tF (its:List G9) (n j:Nat) (u:G9):Obj.mapSeq (·.setIfInBounds j u) {cls:=.type "list",data:=.seq its.toArray n}={cls:=.type "list",data:=.seq (its.set j u).toArray n}:=by
 simp [Obj.mapSeq]
theorem az.lst {Hm:List (G_×Hl)} {σ:St} {H:Hp} {s:G8} {p:G_} {xs:List V} (I:az X Hm σ H s) (h:H p=some (.lst xs)):
  ∃ (its:List G9) (n:Nat),aW xs its/\s.heap.get? p=some {cls:=.type "list",data:=.seq its.toArray n}/\xs.length<=sizeLine:=by
 obtain⟨z,its,n,r,e⟩:=I.hok p _ h;exact⟨its,n,r,e,z⟩
theorem az.lstUpd {Hm:List (G_×Hl)} {σ:St} {H:Hp} {s:G8} {p:G_} {xs ys:List V} {its its':List G9} {n n':Nat} {f:Hl->Hl} (I:az X Hm σ H s) (h:H p=some (.lst xs))
  (ho:s.heap.get? p=some {cls:=.type "list",data:=.seq its.toArray n}) (hf:f {cls:=.type "list",data:=.seq its.toArray n}={cls:=.type "list",data:=.seq its'.toArray n'}) (r:aW ys its') (hz:ys.length<=sizeLine) (t:Nat):
  az X Hm σ (bI H p (.lst ys)) {s with heap:=s.heap.update p f,toks:=t}:=by
 have e:(s.heap.update p f).get? p=some {cls:=.type "list",data:=.seq its'.toArray n'}:=by
  rw [Heap.get?_update_self f ho (by rw [hf] <;> rfl),hf]
 refine I.write (x:=p) (e:=p) (by rw [h]; trivial) (.inl rfl) (λb u hb q=>(GE _ _ (Ne.symm hb)).trans q) ⟨_,e⟩ ?_
 exact⟨hz,its',n',r,e⟩
def Dg:V->V->V->Hp->(Hp->Prop)->Prop:=λo i v H Q=>∃ p xs k j,o=.ref p/\i=.int k/\H p=some (.lst xs)/\yg xs.length k=some j/\Q (bI H p (.lst (xs.set j v)))
theorem xk:DX X Dg:=by
 intro Hm s σ H o i v ov iv u Q I ro ri rv h;obtain⟨p,xs,k,j,rfl,rfl,hp,hj,q⟩:=h;cases ro;obtain⟨t,rfl⟩:=ri;obtain⟨its,n,r,ho,hz⟩:=I.lst hp;obtain⟨h1,h2,h3,h4⟩:=uF hj;have hl:=r.length;have hn:=mP;have I':az X Hm σ (bI H p (.lst (xs.set j v))) {s with heap:=s.heap.update p (Obj.mapSeq (·.setIfInBounds j u))}:=
  I.lstUpd hp ho (tF its n j u) (r.set rv j) (by rw [List.length_set]; exact hz) s.toks
 by_cases h0:0<=k
 ·have hk:k.toNat=j:=by
   rw [seqIndex_of h0 h4] at h1;exact GF h1
  exact PySem.W.ki_setAt ho h0 (by omega) (by rw [Gj,<- hl]; exact h4) (by rw [hk]; exact⟨_,I',q⟩)
 ·have hk:(k+(its.toArray.size:Int)).toNat=j:=by
   rw [seqIndex_neg (by omega) h3] at h1
   rw [Gj,<- hl];exact GF h1
  exact PySem.W.ki_setBack ho (by omega) (by rw [Gj,<- hl]; exact h3) (by omega) (by rw [hk]; exact⟨_,I',q⟩)
theorem qr (lo hi:Ha Int) (n:Nat):(sliceBounds lo hi none n).1=((HT.d_ n 0 lo:Nat):Int)/\(sliceBounds lo hi none n).2.1=((HT.d_ n n hi:Nat):Int)/\(sliceBounds lo hi none n).2.2=1:=by
 refine⟨?_,?_,rfl⟩
 ·cases lo with
  | none=>simp [sliceBounds,HT.d_]
  | some i=>
   simp only [sliceBounds,HT.d_,Option.getD_none,show(1:Int) > 0 by decide,if_true]
   by_cases h:i < 0
   ·simp only [h,if_true] <;> omega
   ·simp only [h,if_false] <;> omega
 ·cases hi with
  | none=>simp [sliceBounds,HT.d_]
  | some i=>
   simp only [sliceBounds,HT.d_,Option.getD_none,show(1:Int) > 0 by decide,if_true]
   by_cases h:i < 0
   ·simp only [h,if_true] <;> omega
   ·simp only [h,if_false] <;> omega
theorem n5 (its:List G9) (lo hi:Ha Int):slicePick its.toArray lo hi none=((its.drop (HT.d_ its.length 0 lo)).take (HT.d_ its.length its.length hi - HT.d_ its.length 0 lo)).toArray:=by
 obtain⟨h1,h2,h3⟩:=qr lo hi its.toArray.size;unfold slicePick;rw [h1,h2,h3];simp only [sliceRange_one,pick_run,Gj] <;> rfl
def E3 (K:PySem.W.Frag):V->Ha Int->Ha Int->Hp->VK->Prop:=λx lo hi H Q=>∃ a xs,x=.ref a/\eu K H a xs/\∀ p,H p=none->Q (.ref p) (bI H p (.lst (mR xs lo hi)))
theorem uB:Ab X (E3 X.K):=by
 intro Hm s σ H x v vl vu lo hi sl Q I rx hs pl pu h;obtain⟨a,xs,rfl,hx,q⟩:=h;cases rx;obtain⟨its,r,ht,hz⟩:=I.list hx;have hlen:=r.length;refine⟨"list",_,slot_list_getitem.lookup,ht.isList.typeIs,?_⟩
 refine wpAny_getItem_list_slice ht.isList hs pl pu .none (by simp) ?_ (by rw [Gj] <;> omega)
 rw [n5,<- hlen];refine⟨.ref s.heap.objs.size,_,I.laid (t':=s.toks) (o:=.lst (mR xs lo hi)) (λb ob q=>Ga _ q) (Gg _) ?_,rfl,q _ (I.hok.fresh (Gg _))⟩
 exact⟨GO (lZ xs lo hi) hz,_,0,(r.drop (HT.d_ xs.length 0 lo)).take (HT.d_ xs.length xs.length hi - HT.d_ xs.length 0 lo),Gc _ rfl⟩
theorem ir:cb X (.builtin "len") (λxs H Q=>∃ p ys,xs=[.ref p]/\(eu X.K H p ys\/kU X.K H p ys)/\Q (.int ys.length) H):=by
 intro Hm s σ H xs us Q I r h;obtain⟨p,ys,rfl,hq,q⟩:=h;obtain⟨u,rfl,rx⟩:=mW r;cases rx;have hn:=mP;rcases hq with hq | hq
 ·obtain⟨its,r',pl,hz⟩:=I.list hq;have hlen:=r'.length;exact Calls.call_len_list pl.isList (by simp only [Gj] <;> omega) ⟨.int ys.length,H,I.tok _,⟨s.toks+1,by rw [Gj,hlen]⟩,q⟩
 ·obtain⟨its,r',pl,hz⟩:=I.tuple hq;have hlen:=r'.length;exact len_tuple pl (by simp only [Gj] <;> omega) ⟨.int ys.length,H,I.tok _,⟨s.toks+1,by rw [Gj,hlen]⟩,q⟩
theorem jW:cb X (.type "tuple") (λxs H Q=>∃ p ys,xs=[.ref p]/\((eu X.K H p ys/\∀ l,H l=none->Q (.ref l) (bI H l (.tup ys)))\/(kU X.K H p ys/\Q (.ref p) H))):=by
 intro Hm s σ H xs us Q I r h;obtain⟨p,ys,rfl,h⟩:=h;obtain⟨u,rfl,rx⟩:=mW r;cases rx;rcases h with ⟨hq,q⟩ | ⟨hq,q⟩
 ·obtain⟨its,r',pl,hz⟩:=I.list hq;have hlen:=r'.length;refine call_tuple_list pl.isList (λh' kp=>?_) (by simp only [Gj] <;> omega)
  have I1:az X Hm σ H {s with heap:=h'}:=I.kept (t':=s.toks) kp
  have I2:az X Hm σ (bI H h'.objs.size (.tup ys)) {s with heap:=h'.push {cls:=.type "tuple",data:=.seq its.toArray}}:=
   I1.laid (t':=s.toks) (λb o e=>Ga _ e) (Gg _) (show en X.prog X.w _ _ _ (.tup ys) from⟨hz,its,r',IsTup.new _ _⟩)
  exact⟨.ref h'.objs.size,_,I2,rfl,q _ (I1.hok.fresh (Gg _))⟩
 ·obtain⟨its,r',pl,hz⟩:=I.tuple hq;exact call_tuple_same pl ⟨.ref p,H,I,rfl,q⟩
def EO (K:PySem.W.Frag) (T:Hj) (x:V) (H:Hp):Prop:=match x with
 | .str _=>T="str"
 | .int _=>T="int"
 | .ref p=>(T="list"/\∃ xs,eu K H p xs)\/(T="tuple"/\∃ o,K.lookup p=some o/\o.cls=.type "tuple"/\o.dict=none)\/
   (T="dict"/\((∃ kvs,H p=some (.dK kvs))\/∃ kvs,H p=some (.dT kvs)))\/(T="set"/\∃ S n,H p=some (.set S n))
 | _=>False
theorem wJ {Hm:List (G_×Hl)} {σ:St} {H:Hp} {s:G8} {T:Hj} {x:V} {v:G9} (I:az X Hm σ H s) (r:bi x v) (ty:EO X.K T x H):
  s.TypeIs v T/\∀ a,v=.ref a->∃ ob,s.heap.get? a=some ob/\ob.dict=none:=by
 cases x with
 | str z=>
  obtain⟨t,rfl⟩:=r;cases (show T="str" from ty)
  exact⟨typeIs_str s z t,λ_ e=>nomatch e⟩
 | int i=>
  obtain⟨t,rfl⟩:=r;cases (show T="int" from ty)
  exact⟨typeIs_int s i t,λ_ e=>nomatch e⟩
 | ref p=>
  cases r;rcases ty with ⟨rfl,xs,hq⟩ | ⟨rfl,o,hk,hc,hd⟩ | ⟨rfl,hk⟩ | ⟨rfl,S,n,hk⟩
  ·obtain⟨its,_,pl,_⟩:=I.list hq;refine⟨pl.isList.typeIs,λa e=>?_⟩
   cases e;obtain⟨o,n,e,c,hd,_⟩:=pl;exact⟨o,e,hd⟩
  ·refine⟨⟨o,I.kIn p o hk,hc⟩,λa e=>?_⟩
   cases e;exact⟨o,I.kIn _ o hk,hd⟩
  ·have z:∃ o,s.heap.get? p=some o/\o.ExactDict:=by
    rcases hk with ⟨kvs,hk⟩ | ⟨kvs,hk⟩
    ·obtain⟨_,_,_,_,o,_,_,e,ex,_⟩:=I.hok p _ hk;exact⟨o,e,ex⟩
    ·obtain⟨_,_,_,_,o,_,_,e,ex,_⟩:=I.hok p _ hk;exact⟨o,e,ex⟩
   obtain⟨o,e,ex⟩:=z;refine⟨⟨o,e,ex.1⟩,λa e2=>?_⟩
   cases e2;exact⟨o,e,ex.2.1⟩
  ·obtain⟨o,_,_,_,e,ex,_⟩:=I.hok p _ hk;refine⟨⟨o,e,ex.1⟩,λa e2=>?_⟩
   cases e2;exact⟨o,e,ex.2.1⟩
 | _=>exact False.elim ty
def E_ (K:PySem.W.Frag) (T:Hj) (r:V->List V->Hp->VK->Prop) (to:TE):TE:=fun σ H Q=>to σ H λx H1=>EO K T x H1/\r x [] H1 Q
def F7 (K:PySem.W.Frag) (T:Hj) (r:V->List V->Hp->VK->Prop) (to:TE) (t:TA):TE:=fun σ H Q=>to σ H λx H1=>EO K T x H1/\t σ H1 λxs H2=>r x xs H2 Q
variable {o e:Hb} {es:List Hb} {to:TE} {t:TA} {name:Str} {apos cpos:Pos} {T id:Hj} {r:V->List V->Hp->VK->Prop}
theorem B5 (pa:PlainAttrs T) (slot:Slot T name id) (hty:typeOf (.builtin id)=pure (.type "method_descriptor")) (hm:FA X id r) (ho:PE X o to)
  (hbase:attributeBase o name X.env (eval o X.env)=eval o X.env:=by rfl) (hline:(apos.endLine == cpos.line)=true:=by rfl):PE X (.Call (.Attribute o name apos) [] [] cpos) (E_ X.K T r to):=by
 intro Hm s σ H Q I h;refine wpAny_Call_method0_late hbase hline (bX (ho Hm s σ H _ I h) λv s1 z9=>?_)
 obtain⟨x,H1,I1,r1,ty,q1⟩:=z9;obtain⟨h1,h2⟩:=wJ I1 r1 ty;exact⟨T,id,pa,slot,hty,h1,h2,Calls.callWith_builtin rfl (PySem.evalArgs_none (hm Hm s1 σ H1 x [] v [] Q I1 r1 .nil q1))⟩
theorem wo (pa:PlainAttrs T) (slot:Slot T name id) (hty:typeOf (.builtin id)=pure (.type "method_descriptor")) (hm:FA X id r) (ho:PE X o to) (ha:PA X (e::es) t)
  (hbase:attributeBase o name X.env (eval o X.env)=eval o X.env:=by rfl)
  (hfew:((backTo cpos (starEach (e::es) X.env)).all (λx=>!x.1) && (backToKw cpos (keywordEach [] X.env)).all (λx=>x.1.isSome)
   && decide ((e::es).length+([]:List Keyword).length+(if ([]:List Keyword).isEmpty then 0 else 1) < 30))=true:=by rfl)
  (hline:(apos.endLine == cpos.line)=true:=by rfl) (hs:starEach (e::es) X.env=(false,eval e X.env)::starEach es X.env:=by rfl) (hplain:(backTo cpos (starEach es X.env)).any (·.1)=false:=by rfl):
  PE X (.Call (.Attribute o name apos) (e::es) [] cpos) (F7 X.K T r to t):=by
 intro Hm s σ H Q I h;refine wpAny_Call_method_late hbase hfew hline rfl (bX (ho Hm s σ H _ I h) λv s1 z9=>?_)
 obtain⟨x,H1,I1,r1,ty,q1⟩:=z9;obtain⟨h1,h2⟩:=wJ I1 r1 ty;refine⟨T,id,pa,slot,hty,h1,h2,?_⟩;have hA:=ha cpos Hm s1 σ H1 _ I1 q1;rw [hs] at hA ⊢;refine Calls.callWith_builtin (by show(false || (backTo cpos (starEach es X.env)).any (·.1))=false; rw [hplain] <;> rfl) (Calls.evalArgs_plain ?_)
 exact bX hA λus s2 z9=>by obtain⟨vs,H2,I2,r2,q2⟩:=z9; exact hm Hm s2 σ H2 x vs v us Q I2 r1 r2 q2
end
def Fe (X:Cx) (id:Hj) (r:V->List V->Hp->VK->Prop):Prop:=
 ∀ (Hm:List (G_×Hl)) (s:G8) (σ:St) (H:Hp) (x:V) (xs:List V) (v:G9) (us:List G9) (Q:VK),az X Hm σ H s->bi x v->aW xs us->r x xs H Q->
  wpAny (model X.prog X.w) X.A (call (.builtin id) (v::us)) (EP X Hm σ Q) X.xe s
theorem aW.one:∀ {x:V} {us:List G9},aW [x] us->∃ u,us=[u]/\bi x u
 | _,_,.cons r .nil=>⟨_,rfl,r⟩
theorem aW.rep {xs:List V} {us:List G9} (h:aW xs us):∀ k:Nat,aW (List.replicate k xs).flatten (List.replicate k us).flatten
 | 0=>.nil
 | k+1=>by
  rw [List.replicate_succ,List.replicate_succ,List.flatten_cons,List.flatten_cons];exact aW.append h (aW.rep h k)
theorem oI (its:List G9):∀ (k:Nat) (acc:List G9),
  List.foldl (λx1 x2=>x1++x2) acc.toArray (List.replicate k its.toArray)=(acc++(List.replicate k its).flatten).toArray
 | 0,acc=>by simp
 | k+1,acc=>by
  have e:acc.toArray++its.toArray=(acc++its).toArray:=by simp
  have e2:(acc++its)++(List.replicate k its).flatten=acc++(List.replicate (k+1) its).flatten:=by
   rw [List.replicate_succ,List.flatten_cons,List.append_assoc]
  rw [<- e2,<- oI its k (acc++its),<- e,List.replicate_succ,List.foldl_cons]
section
variable {X:Cx} {Hm:List (G_×Hl)} {σ:St} {H:Hp} {s:G8} {l b:G_} {xs ys zs:List V}
theorem az.lset {its its':List G9} {n:Nat} {f:Hh G9->Hh G9} {t':Nat} (I:az X Hm σ H s) (hH:H l=some (.lst xs))
  (e:s.heap.get? l=some {cls:=.type "list",data:=.seq its.toArray n}) (hf:f its.toArray=its'.toArray) (hv:aW ys its') (hz:ys.length<=sizeLine):
  az X Hm σ (bI H l (.lst ys)) {s with heap:=s.heap.update l (Obj.mapSeq f),toks:=t'}:=by
 have q:=PySem.IsL.update e f;rw [hf] at q;refine I.write (x:=l) (e:=l) (by rw [hH]; exact trivial) (.inl rfl) (λb' u hb hu=>(GE s.heap (Obj.mapSeq f) (Ne.symm hb)).trans hu) ⟨_,q⟩ ?_
 exact⟨hz,its',_,hv,q⟩
theorem az.lnew {its:List G9} {t':Nat} (I:az X Hm σ H s) (hv:aW ys its) (hz:ys.length<=sizeLine):
  az X Hm σ (bI H s.heap.objs.size (.lst ys)) {s with heap:=s.heap.push {cls:=.type "list",data:=.seq its.toArray},toks:=t'}:=
 I.laid (λ_ _ q=>Ga _ q) (Gg _) ⟨hz,its,0,hv,Gc _ rfl⟩
theorem az.fresh (I:az X Hm σ H s):H s.heap.objs.size=none:=I.hok.fresh (Gg _)
theorem az.lstM (I:az X Hm σ H s) (hH:H l=some (.lst xs)):xs.length<=sizeLine/\∃ (its:List G9) (n:Nat),aW xs its/\xs.length=its.length/\s.heap.get? l=some {cls:=.type "list",data:=.seq its.toArray n}:=by
 obtain⟨z,its,n,r,e⟩:=I.hok l _ hH;exact⟨z,its,n,r,r.length,e⟩
theorem rO {n:Nat} (h:n<=sizeLine):Builtin.List.listTooLong n=false:=by
 unfold Builtin.List.listTooLong;exact GU (by omega)
end
section
variable {X:Cx}
def yT:V->List V->Hp->VK->Prop:=λx vs H Q=>∃ l xs y,x=.ref l/\vs=[y]/\H l=some (.lst xs)/\xs.length < sizeLine/\Q .non (bI H l (.lst (xs++[y])))
theorem jD:Fe X "list.append" yT:=by
 intro Hm s σ H x vs v us Q I rx rv h;obtain⟨l,xs,y,rfl,rfl,hH,hz,q⟩:=h;cases rx;obtain⟨u,rfl,ru⟩:=rv.one;obtain⟨z,its,n,r,hl,e⟩:=I.lstM hH;refine call_meets F.slot_list_append ⟨_,e,rfl⟩ F.entry_list_append (F.args_list_append_2 _ _) (PySem.list_append l its.toArray n u (by rw [Gj]; omega)) ⟨e,?_⟩
 refine⟨.non,_,I.lset (its':=its++[u]) hH e (by simp) (r.append (.cons ru .nil)) ?_,rfl,q⟩
 rw [Gx,List.length_singleton];omega
def zE:V->List V->Hp->VK->Prop:=λx vs H Q=>∃ l b xs zs,x=.ref l/\vs=[.ref b]/\H l=some (.lst xs)/\H b=some (.lst zs)/\xs.length+zs.length<=sizeLine/\Q .non (bI H l (.lst (xs++zs)))
theorem vA:Fe X "list.extend" zE:=by
 intro Hm s σ H x vs v us Q I rx rv h;obtain⟨l,b,xs,zs,rfl,rfl,hH,hB,hz,q⟩:=h;cases rx;obtain⟨u,rfl,ru⟩:=rv.one;cases ru;obtain⟨z,its,n,r,hl,e⟩:=I.lstM hH;obtain⟨z2,its2,n2,r2,hl2,e2⟩:=I.lstM hB;have hsz:its.toArray.size+its2.toArray.size<=sizeLine:=by rw [Gj,Gj]; omega
 have hlong:¬ (!its.toArray.isEmpty && Builtin.List.listTooLong (its.toArray.size+its2.toArray.size))=true:=by
  rw [rO hsz,Bool.and_false];exact Gi
 refine call_meets F.slot_list_extend ⟨_,e,rfl⟩ F.entry_list_extend (F.args_list_extend_2 _ _)
  (AutoSeq1.list_extend_list_list_0 l its.toArray n b its2.toArray n2 hlong (by rw [Gj]; omega) (by omega)) ⟨e,e2,?_⟩
 refine⟨.non,_,I.lset (its':=its++its2) hH e (by simp) (r.append r2) ?_,rfl,q⟩
 rw [Gx];omega
def EB:R2:=λx y H Q=>∃ l b xs zs,x=.ref l/\y=.ref b/\H l=some (.lst xs)/\H b=some (.lst zs)/\xs.length+zs.length<=sizeLine/\∀ p,H p=none->Q (.ref p) (bI H p (.lst (xs++zs)))
theorem BP:eU X (binaryOp .Add) EB:=by
 intro Hm s σ H x y v u Q I rx ry h;obtain⟨l,b,xs,zs,rfl,rfl,hH,hB,hz,q⟩:=h;cases rx;cases ry;obtain⟨z,its,n,r,hl,e⟩:=I.lstM hH;obtain⟨z2,its2,n2,r2,hl2,e2⟩:=I.lstM hB;refine PySem.P.add_list e e2 ?_ (by rw [Gj,Gj]; omega)
 have ea:its.toArray++its2.toArray=(its++its2).toArray:=by simp
 rw [ea];exact⟨.ref _,_,I.lnew (t':=s.toks) (r.append r2) (by rw [Gx]; omega),rfl,q _ I.fresh⟩
def Fi:R2:=λx y H Q=>∃ l k xs,x=.ref l/\y=.int k/\H l=some (.lst xs)/\-(2 ^ 63)<=k/\k < 2 ^ 63/\xs.length*k.toNat<=sizeLine/\
 ∀ p,H p=none->Q (.ref p) (bI H p (.lst (List.replicate k.toNat xs).flatten))
theorem zC {α:Type} (xs:List α) (k:Nat):(List.replicate k xs).flatten.length=k*xs.length:=by
 induction k with
 | zero=>simp
 | succ k ih=>rw [List.replicate_succ,List.flatten_cons,Gx,ih,Nat.succ_mul,Nat.add_comm]
theorem AB:eU X (binaryOp .Mult) Fi:=by
 intro Hm s σ H x y v u Q I rx ry h;obtain⟨l,k,xs,rfl,rfl,hH,h1,h2,hz,q⟩:=h;cases rx;obtain⟨t,rfl⟩:=ry;obtain⟨z,its,n,r,hl,e⟩:=I.lstM hH;have hlen:its.toArray.size*k.toNat<=sizeLine:=by rw [Gj,<- hl]; exact hz
 have hcap:¬ its.toArray.size*k.toNat > (2 ^ 63 - 1) / 8:=by
  have:(sizeLine:Nat)<=(2 ^ 63 - 1) / 8:=by decide
  omega
 have hfit:¬ (!Builtin.List.listFitsIndex k)=true:=by
  rw [fitsIndex_both h1 h2];exact Gi
 have hlong:¬ Builtin.List.listTooLong (its.toArray.size*k.toNat)=true:=by
  rw [rO hlen];exact Gi
 have hnew:List.foldl (λx1 x2=>x1++x2) #[] (List.replicate (if its.toArray.isEmpty=true then 0 else k.toNat) its.toArray)=(List.replicate k.toNat its).flatten.toArray:=by
  have f0:∀ m:Nat,List.foldl (λx1 x2=>x1++x2) #[] (List.replicate m its.toArray)=(List.replicate m its).flatten.toArray:=λm=>by
   have:=oI its m [];rw [List.nil_append] at this;exact this
  rw [f0];cases its with
  | nil=>simp
  | cons a r'=>rw [if_neg (by simp)]
 refine wpAny_binaryOp_repeat_ref (T:="list") (U:="int") (by decide) ⟨_,e,rfl⟩ (λs'=>typeIs_int s' k t) noFill_list_mul F.fills_int_mul F.slot_int_rmul repeat_list F.slot_int_index.lookup
  (call_meets F.slot_int_rmul (typeIs_int s k t) F.entry_int_rmul (F.args_int_rmul_2 _ _) (int___rmul___int_list k t l its.toArray n)
   ⟨e,rfl,⟨_,e,rfl⟩,call_meets F.slot_list_mul ⟨_,e,rfl⟩ F.entry_list_mul (F.args_list_mul_2 _ _) (AutoListH.list___mul___list_int_3 l its.toArray n k t hfit hcap hlong) ⟨e,?_⟩⟩)
 rw [hnew];exact⟨.ref _,_,I.lnew (t':=s.toks) (r.rep k.toNat) (by rw [zC,Nat.mul_comm]; exact hz),rfl,q _ I.fresh⟩
end
def bJ (H:Hp) (a:G_):Prop:=(∃ kvs,Rd H a (.dK kvs))\/∃ kvs,Rd H a (.dT kvs)
end L2
namespace Att
open PySem PySem.W PySem.Calls PyProof.Rows
theorem mf {P:Params} {h:Hf}:∀ (ns:List Int) (vs:List G9),WellAll P h vs (ns.map WData.int)->IntsAre vs ns:=by
 intro ns
 induction ns with
 | nil=>
  intro vs w;rw [List.map_nil] at w;cases w;exact .nil
 | cons n ns ih=>
  intro vs w;rw [List.map_cons] at w;cases w with
  | cons a b=>
   cases a;exact .cons _ _ (ih _ b)
theorem vy {l:OpenLaw} {n:Nat} (hn:l.most=some n) {P:Params} {h:Hf} {args:List WData} {vals:List G9}
  (hpre:l.row.toRowW.claim.pre args=true) (hwl:WellAll P h vals args):
  ∃ a vs ns,vals=[Value.ref a]/\args=[WData.list (ns.map WData.int)]/\h.get? a=some {cls:=.type "list",data:=.seq vs.toArray}/\IntsAre vs ns/\ns.length<=n:=by
 have hsh:WShape.hasAll [] args [.list .int]=true:=(pre_splitW hpre).1;have hc:l.pre.holds [] {args:=args}=true:=(pre_splitW hpre).2;obtain⟨d,r,rfl,h1,h2⟩:=hasAllW_cons hsh;obtain rfl:=hasAllW_nil h2;obtain⟨xs,rfl,h3⟩:=hasW_list h1;obtain⟨ns,rfl⟩:=items_int h3;have hlen:ns.length<=n:=by
  unfold OpenLaw.pre at hc;have h4:(WTm.not (.lt (.lit (.int (n:Int))) (.len (.arg 0)))).holds [] {args:=[.list (ns.map .int)]}=true:=by
   have h4:=(holds_andW hc).1;rw [hn] at h4;exact h4
  have h5:=condW_of h4 (w_not (w_lt w_lit (w_len_list (w_arg rfl))));rw [Gh] at h5;refine Nat.le_of_not_lt λq=>?_
  have q':(n:Int) < ((ns.length:Nat):Int):=by omega
  first
   | (rw [decide_eq_true q'] at h5; exact absurd h5 (by decide))
   | (simp at h5; omega)
 cases hwl with
 | cons w1 w2=>
  cases w2;cases w1 with
  | list ho hall=>exact⟨_,_,ns,rfl,rfl,ho,mf ns _ hall,hlen⟩
theorem vJ (l:OpenLaw) (args:List WData):l.row.toRowW.claim.post args (.bool true) args=true:=
 postW_of (r:=l.row.toRowW) (X:=(true == true))
  (show WShape.has [] (.bool true) .bool=true by first | rfl | decide | simp [WShape.has,WShape.arms,WShape.armsAll])
  (show (WTm.eq .res (.lit (.bool true))).value [] {args:=args,res:=some (.bool true),after:=args}=some (.bool (true == true)) from w_eq_bool (w_res rfl) w_lit) rfl
theorem attach_call {l:OpenLaw} {n:Nat} {q:Hc} {loose:List Str} {XP:(Str->Ha G9)->Hf->Prop} {YP:He->Hf->Prop} {d:DefRec}
  (hn:l.most=some n) (hdf:d.params.defaults=[])
  (call:∀ (w:He) (s₀ s₁:G8) (mg mb:Str->Ha G9) (fa:G_) (o:Hl) (pm cd doc:G9) (a:G_) (vs:List G9) (ns:List Int),
   Ground q loose [] XP w s₀ mg mb s₁.heap->YP w s₁.heap->
   s₁.heap.get? fa=some o->o.data=.func (docDef d.name d.params d.body d.scope pm cd doc)->s₁.heap.CodeRec cd d.name->mg d.name=some (.ref fa)->
   s₁.heap.get? a=some {cls:=.type "list",data:=.seq vs.toArray}->IntsAre vs ns->ns.length<=n->s₁.gens=#[]->
   codeAny (model l.prog w) callerA (.call (.ref fa) ⟨[.ref a],[]⟩) (λr s'=>r=.ok (.ret (.bool true))/\OldK s₁.heap s'.heap/\s'.os=s₁.os/\AllBare s'.gens) s₁):
  WalkO q loose XP YP l.row.toRowW d [] (λf vs=>PySem.call f vs):=by
 intro w s₀ s₁ mg mb G Y fa o pm cd doc dV kV ho hd hcd hD hmg hg args vals as hpre hlay hrd hwl hlo;obtain rfl:dV=.none:=Dflts.none hD hdf;obtain rfl:kV=.none:=Dflts.noKw hD;obtain⟨a,vs,ns,rfl,rfl,hobj,hints,hlen⟩:=vy hn hpre hwl;refine enter_call (codeAny_mono (call w s₀ s₁ mg mb fa o pm cd doc a vs ns G Y ho (fd_plain hd) hcd hmg hobj hints hlen hg) λr s' hq=>?_)
 obtain⟨rfl,h2,h3,h4⟩:=hq;exact⟨.inl ⟨.bool true,.bool true,[],rfl,λ_=>rfl,.bool true,vJ l _,λ_=>⟨List.Pairwise.nil,λ_ hm=>(nomatch hm)⟩⟩,h2,h3,h4⟩
section
variable {prog:Hc} {w:He} {A:Hd} {E:G9->G8->Prop} {s:G8} {K:Frag}
def ER (h:Hf) (L d:G_):List (G_×Hl):=(List.range h.objs.size).filterMap λa=>if a=L\/a=d then none else(h.get? a).map λo=>(a,o)
end
end Att
namespace L2
open PySem PySem.Spec PyProof.Rows
theorem pi:∀ {vs:List G9} {ns:List Int},IntsAre vs ns->aW (ns.map V.int) vs
 | _,_,.nil=>.nil
 | _,_,.cons n t h=>.cons ⟨t,rfl⟩ (pi h)
def yD (H:Hp):Prop:=∀ b,H b=none\/∃ o xs,H b=some (.frz o (.lst xs))
theorem wZ {P:Hc} {w:He} {K:PySem.W.Frag} {mg mb:Str->Ha G9} {CX:xS} {k:Nat} {fa a:G_} {fd:FuncData} {x:Str} {sp:Sp} {s₁:G8} {vs:List G9} {ns:List Int}
  (KX:K.In s₁.heap) (hns:s₁.heap.Ns mainGlobals mg) (hb:s₁.heap.Ns builtinsNs mb) (hbb:∀ x:Str,x≠"__name__"->mb x=bootBuiltins x) (hlim:s₁.heap.NoLimit) (hg:s₁.gens=#[])
  (ha:s₁.heap.get? a=some {cls:=.type "list",data:=.seq vs.toArray}) (hi:IntsAre vs ns) (hl:ns.length<=sizeLine) (hr:dE k callerA)
  (F:∀ base:Hf,K.In base->base.Ns mainGlobals mg->aH P w K mg base CX k fa fd [x] sp) (hbind:∀ (s:G8) (u:G9),BindsTo s fd ⟨[u],[]⟩ [(x,u)])
  (hsp:∀ H:Hp,yD H->eu K H a (ns.map V.int)->sp [.ref a] H (λv _=>v=.bl true) λ_ _ _=>False)
  (hCX:∀ H e s',CX [] H s₁ (λ_ _ _=>False) e s'->False):
  codeAny (model P w) callerA (.call (.ref fa) ⟨[.ref a],[]⟩) (λr s'=>r=.ok (.ret (.bool true))/\OldK s₁.heap s'.heap/\s'.os=s₁.os/\AllBare s'.gens) s₁:=by
 have rv:=pi hi;have lenV:=hi.length;have core:∀ H:Hp,yD H->eu K H a (ns.map V.int)->k8 P w H s₁.heap->(∀ b,H b≠none->b=a)->(H a≠none->K.lookup a=none)->
   codeAny (model P w) callerA (.call (.ref fa) ⟨[.ref a],[]⟩) (λr s'=>r=.ok (.ret (.bool true))/\OldK s₁.heap s'.heap/\s'.os=s₁.os/\AllBare s'.gens) s₁:=by
  intro H hO hS hok hA hK;have base_of:∀ {b:G_} {o:Hl},s₁.heap.get? b=some o->H b=none->(qO s₁.heap H).get? b=some o:=λe n=>xC e n
  have noA:∀ {b:G_} {o:Hl} {es:Hh Hk} {ep:Nat},s₁.heap.get? b=some o->o.data=.dict es ep->H b=none:=λ{b o es ep} e d=>by
   cases q:H b with
   | none=>rfl
   | some u=>
    have e':b=a:=hA b (by rw [q]; simp)
    subst e';rw [ha] at e; cases e
    have d':Data.seq vs.toArray _=Data.dict es ep:=d;cases d'
  have nsK:∀ {b:G_} {m:Str->Ha G9},s₁.heap.Ns b m->(qO s₁.heap H).Ns b m:=λ{b m} ⟨o,es,ep,e,d,r⟩=>⟨o,es,ep,base_of e (noA e d),d,r⟩
  have hKb:K.In (qO s₁.heap H):=λb o e=>base_of (KX b o e) (by
   cases q:H b with
   | none=>rfl
   | some u=>
    have e':b=a:=hA b (by rw [q]; simp)
    subst e';rw [hK (by rw [q]; simp)] at e; cases e)
  have hM:Mod K mg (qO s₁.heap H):=⟨hKb,nsK hns,⟨mb,nsK hb,hbb⟩,let ⟨mc,h1,h2⟩:=hlim; ⟨mc,nsK h1,h2⟩⟩
  have e0:yQ P w K mg (qO s₁.heap H) callerA [] s₁ H:=⟨rfl,hM,λb o e=>zu e,Nat.le_of_eq (vh _ _),trivial,λb hb=>absurd (show b∈([]:List G_) from hb) (by simp),hok,.of_eq hg⟩
  refine codeAny_mono ((F _ hKb (nsK hns)).run callerA [] s₁ H ⟨[.ref a],[]⟩ [.ref a] [.ref a] _ _ hr e0 (hbind s₁ (.ref a)) (.cons rfl .nil) (hsp H hO hS)) λr s' h=>?_
  cases r with
  | error e=>exact(hCX H e s' h).elim
  | ok fl=>
   cases fl with
   | next=>exact False.elim h
   | brk=>exact False.elim h
   | cont=>exact False.elim h
   | ret u=>
    obtain⟨v,H',os,bare,un,hok',r',q⟩:=h;have q':v=.bl true:=q;subst q';obtain rfl:u=Value.bool true:=r';refine⟨rfl,OldK.of_keep λb o e=>?_,os,bare⟩
    cases q:H b with
    | none=>exact un.keep b o e q (by intro z; exact absurd (show b∈([]:List G_) from z) (by simp)) (by simp)
    | some u=>
     rcases hO b with z | ⟨ob,xs,z⟩
     ·rw [q] at z; cases z
     ·have z2:=un.frzs b ob _ z;obtain⟨e1,_⟩:=hok b _ z;obtain⟨e2,_⟩:=hok' b _ z2;rw [e] at e1; cases e1
      exact e2
 cases hk:K.lookup a with
 | some o=>
  have e:=KX a o hk;rw [ha] at e;cases e;refine core (λ_=>none) (λ_=>.inl rfl) (.inr ⟨_,vs.toArray,_,hk,rfl,rfl,rfl,by rw [Gj,lenV]; exact hl,by simpa using rv⟩) (λb u z=>by have z':(none:Ha HO)=some u:=z; cases z') (λb z=>absurd rfl z) λz=>absurd rfl z
 | none=>
  refine core (λb=>if b=a then some (.frz {cls:=.type "list",data:=.seq vs.toArray} (.lst (ns.map V.int))) else none) (λb=>?_) (.inl (.inr ⟨{cls:=.type "list",data:=.seq vs.toArray},if_pos rfl⟩)) (λb u z=>?_) (λb z=>?_) λ_=>hk
  ·by_cases hb:b=a
   ·exact .inr ⟨_,_,if_pos hb⟩
   ·exact .inl (if_neg hb)
  ·by_cases hb:b=a
   ·have z':=(if_pos hb).symm.trans z;cases z';subst hb;exact⟨ha,by rw [Gh]; exact hl,vs,_,rv,ha⟩
   ·have z':=(if_neg hb).symm.trans z;cases z'
  ·by_cases hb:b=a
   ·exact hb
   ·exact absurd (if_neg hb) z
abbrev F' {K:PySem.W.Frag} {h:Hf} (_:K.In h):PySem.W.Frag:=K
theorem y_ {l:PySem.W.OpenLaw} {n k:Nat} {q:Hc} {loose:List Str} {XP:(Str->Ha G9)->Hf->Prop} {YP:He->Hf->Prop} {d:DefRec} {K:Params->PySem.W.Frag} {CX:He->xS} {sp:He->Sp} {x:Str}
  (hn:l.most=some n) (hn2:n<=sizeLine) (hdf:d.params.defaults=[]) (hr:dE k callerA)
  (hY:∀ (w:He) (h:Hf),YP w h->(K w.params).In h)
  (F:∀ (w:He) (mg:Str->Ha G9) (fa:G_) (h:Hf),(K w.params).In h->h.Ns mainGlobals mg->mg d.name=some (.ref fa)->
   ∃ fd:FuncData,(∀ (s:G8) (u:G9),BindsTo s fd ⟨[u],[]⟩ [(x,u)])/\
    ∀ base:Hf,(K w.params).In base->base.Ns mainGlobals mg->aH l.prog w (K w.params) mg base (CX w) k fa fd [x] (sp w))
  (hsp:∀ (w:He) (H:Hp) (a:G_) (ns:List Int),ns.length<=n->yD H->eu (K w.params) H a (ns.map V.int)->sp w [.ref a] H (λv _=>v=.bl true) λ_ _ _=>False)
  (hCX:∀ (w:He) (H:Hp) (s:G8) (e:G9) (s':G8),CX w [] H s (λ_ _ _=>False) e s'->False):
  PySem.W.WalkO q loose XP YP l.row.toRowW d [] (λf vs=>PySem.call f vs):=by
 refine Att.attach_call hn hdf λw s₀ s₁ mg mb fa o pm cd doc a vs ns G Y ho hd hcd hmg hobj hints hlen hg=>?_
 have KX:=hY w _ Y;obtain⟨fd,hb,hF⟩:=F w mg fa _ KX G.T.g hmg;exact wZ KX G.T.g G.T.b G.T.builtins G.T.nolimit hg hobj hints (GO hlen hn2) hr hF hb (λH hO hS=>hsp w H a ns hlen hO hS) λH e s'=>hCX w H s₁ e s'
def cK (s:Hg):Arguments:=match s with
 | .FunctionDef _ a _ _ _ _ _ _ _ _=>a
 | _=>{posonlyargs:=[],args:=[],vararg:=none,kwonlyargs:=[],kw_defaults:=[],kwarg:=none,defaults:=[]}
def bV (s:Hg):List Hg:=match s with
 | .FunctionDef _ _ b _ _ _ _ _ _ _=>b
 | _=>[]
def ai (s:Hg):Scope:=match s with
 | .FunctionDef _ _ _ _ _ _ sc _ _ _=>sc
 | _=>{kind:=.function,names:=[],isGenerator:=false,isCoroutine:=false}
abbrev cm:xS:=λ_ _ _ _ _ _=>False
abbrev E0:XK:=λ_ _ _=>False
theorem CG {X:Cx}:pT cm X E0:=λ_ _ _ _ _ _ _ h=>h.elim
structure r_ (K:PySem.W.Frag) (x Hn:Str) (st:Hg) (f:G_) (fd:FuncData):Prop where
 ex:∃ (oc:G9) (od:Ha G_) (kV doc pm:G9) (an:Ha G_) (cdv ct:G9) (osl:Hh (Ha G9)),
  fd=PySem.W.fnOf x Hn (cK st) (bV st) (ai st) .none kV doc pm an cdv ct/\K.lookup f=some ⟨oc,od,.func fd,osl⟩/\PySem.W.codeIn K cdv Hn=true
 kp:PySem.W.keepIn K (.ref f)=true
section
variable {P:Hc} {w:He} {K:PySem.W.Frag} {mg:Str->Ha G9} {base:Hf}
theorem r_.ok {x Hn:Str} {st:Hg} {f:G_} {fd:FuncData} {N ps:List Str} {k:Nat} {sp:Sp} (F:r_ K x Hn st f fd) (S:aq N ps (ai st)) (len:∀ vs H Q E,sp vs H Q E->vs.length=ps.length)
  (hbody:∀ (cdv:G9) (A:Hd) (outer:List Env) (s:G8) (H:Hp) (vs:List V) (Q:VK) (E:XK),dE k (A.deeper (envOfC Hn (ai st) s.heap.objs.size f cdv))->sp vs H Q E->
   ∃ t,mV (dF cm P w K mg base N Hn (ai st) f cdv A outer s H E).nox (bV st) t/\t {nx:=λ_ H'=>Q .non H',rt:=Q} (start N vs) H):aH P w K mg base cm (k+1) f fd ps sp:=by
 obtain⟨oc,od,kV,doc,pm,an,cdv,ct,osl,rfl,lk,hcd⟩:=F.ex;refine At lk hcd S len λA outer s H vs Q E hr hsp=>?_
 obtain⟨t,h,q⟩:=hbody cdv A outer s H vs Q E hr hsp;exact⟨t,h.nox,q⟩
theorem r_.binds {x Hn:Str} {st:Hg} {f:G_} {fd:FuncData} {ps:List Str} (F:r_ K x Hn st f fd)
  (h:∀ (kV doc pm:G9) (an:Ha G_) (cdv ct:G9) (us:List G9),us.length=ps.length->bindArgs (PySem.W.fnOf x Hn (cK st) (bV st) (ai st) .none kV doc pm an cdv ct) ⟨us,[]⟩=pure (ps.zip us)):jT K fd ps []:=by
 obtain⟨oc,od,kV,doc,pm,an,cdv,ct,osl,rfl,lk,hcd⟩:=F.ex;exact .all (h kV doc pm an cdv ct)
theorem sZ {x Hn:Str} {st:Hg} {f:G_} {oc:G9} {od an:Ha G_} {osl:Hh (Ha G9)} {kV doc pm cdv ct:G9} (l:K.lookup f=some ⟨oc,od,.func (PySem.W.fnOf x Hn (cK st) (bV st) (ai st) .none kV doc pm an cdv ct),osl⟩)
  (c:PySem.W.codeIn K cdv Hn=true) (k:PySem.W.keepIn K (.ref f)=true):r_ K x Hn st f (PySem.W.fnOf x Hn (cK st) (bV st) (ai st) .none kV doc pm an cdv ct):=⟨⟨oc,od,kV,doc,pm,an,cdv,ct,osl,rfl,l,c⟩,k⟩
end
theorem xE {A B:Prop} (h:B):if false=true then A else B:=by
 rw [if_neg Gi];exact h
theorem CM {A B:Prop} (h:A):if true=true then A else B:=by
 rw [if_pos rfl];exact h
end L2
set_option linter.all false
namespace HM
theorem rg (a b:Int):Int.gcd b (a.fmod b)=Int.gcd a b:=by
 have h:=Int.gcd_sub_mul_right_right b a (a.fdiv b);rw [Int.fmod_def,Int.mul_comm b,h,Int.gcd_comm]
theorem uL (a b:Int) (h:b≠0):(a.fmod b).natAbs < b.natAbs:=by
 rcases Int.lt_or_gt_of_ne h with hb | hb
 ·have e:a.fmod b=-((-a).fmod (-b)):=by rw [Int.neg_fmod_neg,Int.neg_neg]
  have h1:=GS (-a) (show 0 < -b by omega)
  have h2:=G5 (-a) (show 0 < -b by omega)
  omega
 ·have h1:=GS a hb;have h2:=G5 a hb;omega
theorem rL (a:Int):((Int.gcd a 0:Nat):Int)=if a < 0 then -a else a:=by
 rw [Int.gcd_zero_right]
 split <;> omega
def uS (t b:Int):Int:=if b < 0 then -((Int.gcd t b:Nat):Int) else((Int.gcd t b:Nat):Int)
theorem yh {t b:Int} (h:b≠0):uS t b≠0:=by
 have h1:Int.gcd t b≠0:=λe=>h (Int.gcd_eq_zero_iff.mp e).2
 unfold uS
 split <;> omega
theorem km {t b:Int} (h:b≠0):t.fdiv (uS t b)=(Rat.divInt t b).num:=by
 have hg:((Int.gcd t b:Nat):Int) ∣ t:=Int.gcd_dvd_left t b;rw [Rat.num_divInt,Int.gcd_comm b t];unfold uS;rcases Int.lt_or_gt_of_ne h with hb | hb
 ·rw [if_pos hb,Int.sign_eq_neg_one_of_neg hb,Int.fdiv_eq_ediv_of_dvd (Int.neg_dvd.mpr hg),Int.ediv_neg,Int.neg_mul,Int.one_mul,Int.neg_ediv_of_dvd hg]
 ·rw [if_neg (by omega),Int.sign_eq_one_of_pos hb,Int.fdiv_eq_ediv_of_dvd hg,Int.one_mul]
theorem kN {t b:Int} (h:b≠0):b.fdiv (uS t b)=((Rat.divInt t b).den:Int):=by
 have hg:((Int.gcd t b:Nat):Int) ∣ b:=Int.gcd_dvd_right t b;rw [Rat.den_divInt,Int.gcd_comm b t,if_neg h];unfold uS;rcases Int.lt_or_gt_of_ne h with hb | hb
 ·rw [if_pos hb,Int.fdiv_eq_ediv_of_dvd (Int.neg_dvd.mpr hg),Int.ediv_neg,Int.natCast_ediv];rw [show ((b.natAbs:Nat):Int)=-b by omega,Int.neg_ediv_of_dvd hg]
 ·rw [if_neg (by omega),Int.fdiv_eq_ediv_of_dvd hg,Int.natCast_ediv]
  rw [show ((b.natAbs:Nat):Int)=b by omega]
theorem kc (a b:Rat):Rat.divInt (a.num*b.den+b.num*a.den) (a.den*b.den)=a+b:=by
 rw [Rat.add_def',Rat.mkRat_eq_div,GK]; simp [Rat.intCast_natCast]
theorem s9 (a b:Rat):Rat.divInt (a.num*b.den - b.num*a.den) (a.den*b.den)=a - b:=by
 rw [Rat.sub_def',Rat.mkRat_eq_div,GK]; simp [Rat.intCast_natCast]
theorem yr (a b:Rat):Rat.divInt (a.num*b.num) (a.den*b.den)=a*b:=by
 rw [Rat.mul_def',Rat.mkRat_eq_div,GK]; simp [Rat.intCast_natCast]
theorem xN (a b:Rat):Rat.divInt (a.num*b.den) (a.den*b.num)=a / b:=by
 rw [Rat.div_def,<- Rat.num_divInt_den b,Rat.inv_divInt]
 conv=>rhs; rw [<- Rat.num_divInt_den a]
 rw [Rat.divInt_mul_divInt,Rat.num_divInt_den]
def g_:Nat->Nat
 | 0=>0
 | n+1=>if (g_ n+1)*(g_ n+1)<=n+1 then g_ n+1 else g_ n
theorem oF:∀ n,g_ n*g_ n<=n/\n < (g_ n+1)*(g_ n+1)
 | 0=>by decide
 | n+1=>by
  obtain⟨h1,h2⟩:=oF n;unfold g_
  split
  ·rename_i h
   refine⟨h,?_⟩;have:(g_ n+1+1)*(g_ n+1+1)=(g_ n+1)*(g_ n+1)+2*(g_ n+1)+1:=by grind
   omega
  ·rename_i h
   exact⟨Nat.le_succ_of_le h1,Nat.lt_of_not_le h⟩
def iI (n:Int):Int:=(g_ n.toNat:Nat)
structure Rt (n r:Int):Prop where
 nn:0<=r
 le:r*r<=n
 lt:n < (r+1)*(r+1)
theorem jv {n:Int} (h:0<=n):Rt n (iI n):=by
 obtain⟨h1,h2⟩:=oF n.toNat;refine⟨by unfold iI; omega,?_,?_⟩
 ·unfold iI;have:((g_ n.toNat*g_ n.toNat:Nat):Int)<=(n.toNat:Int):=Int.ofNat_le.mpr h1;rw [Int.natCast_mul] at this;omega
 ·unfold iI;have:((n.toNat:Nat):Int) < (((g_ n.toNat+1)*(g_ n.toNat+1):Nat):Int):=Int.ofNat_lt.mpr h2;rw [Int.natCast_mul,Int.natCast_add] at this;rw [show ((n.toNat:Nat):Int)=n by omega] at this
  exact this
theorem kr {a b:Int} (ha:0<=a) (h:a<=b):a*a<=b*b:=Int.mul_le_mul h h ha (by omega)
theorem Rt.le_of {n r x:Int} (h:Rt n r) (hx:x*x<=n):x<=r:=by
 apply Int.not_lt.mp;intro hl;have:=kr (a:=r+1) (b:=x) (by have:=h.nn; omega) (by omega)
 have:=h.lt;omega
theorem Rt.uniq {n r q:Int} (h:Rt n r) (h':Rt n q):r=q:=Int.le_antisymm (h'.le_of h.le) (h.le_of h'.le)
theorem wL {n r:Int} (h:Rt n r):iI n=r:=(jv (Int.le_trans (by have:=kr (Int.le_refl 0) h.nn; omega) h.le)).uniq h
theorem wI {n x:Int} (e:x*x=n):iI n*iI n=n:=by
 have h:Rt n x.natAbs:=by
  refine⟨by omega,?_,?_⟩
  ·rw [Int.natAbs_mul_self' x]; omega
  ·have:((x.natAbs:Int)+1)*((x.natAbs:Int)+1)=(x.natAbs:Int)*(x.natAbs:Int)+2*x.natAbs+1:=by grind
   rw [Int.natAbs_mul_self' x] at this;omega
 rw [wL h,Int.natAbs_mul_self' x];exact e
theorem uO {n g r:Int} (hg:0 < g) (hr:0<=r) (h:r*r<=n):r<=(g+n / g) / 2:=by
 apply Int.not_lt.mp;intro hl;have h1:g+n / g+1<=2*r:=by omega
 have hn:0<=n:=by have:=kr (Int.le_refl 0) hr; omega
 have hq:0<=n / g:=Int.ediv_nonneg hn (by omega)
 have h2:=kr (a:=g+n / g+1) (b:=2*r) (by omega) h1
 have h3:n < (n / g+1)*g:=by
  have:=Int.lt_ediv_add_one_mul_self n hg;exact this
 have h4:0<=(g - (n / g+1))*(g - (n / g+1)):=by
  rw [<- Int.natAbs_mul_self' (g - (n / g+1))]; exact Int.natCast_nonneg _
 generalize n / g=q at*
 grind
theorem uX {n g r:Int} (hn:0<=n) (h:Rt n r) (hg:r < g):(g+n / g) / 2 < g:=by
 have h0:=h.nn;have h1:n / g < r+1:=by
  apply Int.ediv_lt_of_lt_mul (by omega)
  have:=h.lt;have h2:(r+1)*(r+1)<=(r+1)*g:=Int.mul_le_mul_of_nonneg_left (by omega) (by omega)
  omega
 omega
def Bt (n:Nat) (x:Int):Prop:=x.natAbs < 2 ^ n
theorem nk {m n:Nat} (h:m<=n):2 ^ m<=2 ^ n:=Nat.pow_le_pow_right (by decide) h
theorem Bt.mono {m n:Nat} {x:Int} (h:Bt m x) (hm:m<=n):Bt n x:=Gp h (nk hm)
theorem Bt.mul {m n:Nat} {x y:Int} (hx:Bt m x) (hy:Bt n y):Bt (m+n) (x*y):=by
 unfold Bt at*
 rw [GY,Nat.pow_add];exact Nat.mul_lt_mul'' hx hy
theorem Bt.add {m n:Nat} {x y:Int} (hx:Bt m x) (hy:Bt n y):Bt (max m n+1) (x+y):=by
 have h1:=hx.mono (Nat.le_max_left m n);have h2:=hy.mono (Nat.le_max_right m n);unfold Bt at*
 have:=Int.natAbs_add_le x y;rw [Nat.pow_succ];omega
theorem Bt.neg {m:Nat} {x:Int} (hx:Bt m x):Bt m (-x):=by unfold Bt at *; omega
theorem Bt.sub {m n:Nat} {x y:Int} (hx:Bt m x) (hy:Bt n y):Bt (max m n+1) (x - y):=by
 rw [Int.sub_eq_add_neg]; exact hx.add hy.neg
theorem Bt.le {m:Nat} {x y:Int} (hx:Bt m x) (h:y.natAbs<=x.natAbs):Bt m y:=Nat.lt_of_le_of_lt h hx
structure Sz (n:Nat) (q:Rat):Prop where
 num:Bt n q.num
 den:Bt n q.den
theorem Sz.mono {m n:Nat} {q:Rat} (h:Sz m q) (hm:m<=n):Sz n q:=⟨h.num.mono hm,h.den.mono hm⟩
theorem bz:∀ a b:Int,(a.fdiv b).natAbs<=a.natAbs
 | .ofNat 0,b=>by
  have e:Int.fdiv (.ofNat 0) b=0:=Int.zero_fdiv b;rw [e]; exact Nat.zero_le _
 | .ofNat (k+1),.ofNat j=>Nat.div_le_self (k+1) j
 | .ofNat (k+1),.negSucc j=>Nat.succ_le_succ (Nat.div_le_self k (j+1))
 | .negSucc _,.ofNat 0=>Nat.zero_le _
 | .negSucc k,.ofNat (j+1)=>Nat.succ_le_succ (Nat.div_le_self k (j+1))
 | .negSucc k,.negSucc j=>Nat.div_le_self (k+1) (j+1)
theorem Sz.divInt {n:Nat} {t b:Int} (ht:Bt n t) (hb:Bt n b) (h:b≠0):Sz n (Rat.divInt t b):=
 ⟨by rw [<- km h]; exact ht.le (bz _ _),by rw [<- kN h]; exact hb.le (bz _ _)⟩
theorem lf (q:Rat):(q.den:Int)≠0:=by have:=q.den_nz; omega
theorem bH (p q:Rat):(p.den:Int)*q.den≠0:=Int.mul_ne_zero (lf p) (lf q)
theorem Sz.add {m n:Nat} {a b:Rat} (ha:Sz m a) (hb:Sz n b):Sz (m+n+1) (a+b):=by
 rw [<- kc];refine .divInt ?_ ?_ (bH a b)
 ·exact((ha.num.mul hb.den).add (hb.num.mul ha.den)).mono (by omega)
 ·exact(ha.den.mul hb.den).mono (by omega)
theorem Sz.sub {m n:Nat} {a b:Rat} (ha:Sz m a) (hb:Sz n b):Sz (m+n+1) (a - b):=by
 rw [<- s9];refine .divInt ?_ ?_ (bH a b)
 ·exact((ha.num.mul hb.den).sub (hb.num.mul ha.den)).mono (by omega)
 ·exact(ha.den.mul hb.den).mono (by omega)
theorem Sz.mul {m n:Nat} {a b:Rat} (ha:Sz m a) (hb:Sz n b):Sz (m+n) (a*b):=by
 rw [<- yr];exact .divInt (ha.num.mul hb.num) (ha.den.mul hb.den) (bH a b)
theorem nK {q:Rat} (h:q≠0):q.num≠0:=λe=>h (Rat.num_eq_zero.mp e)
theorem Sz.div {m n:Nat} {a b:Rat} (ha:Sz m a) (hb:Sz n b) (h:b≠0):Sz (m+n) (a / b):=by
 rw [<- xN];exact .divInt (ha.num.mul hb.den) (ha.den.mul hb.num) (Int.mul_ne_zero (lf a) (nK h))
theorem Sz.neg {m:Nat} {a:Rat} (ha:Sz m a):Sz m (-a):=⟨by rw [Rat.neg_num]; exact ha.num.neg,by rw [Rat.neg_den]; exact ha.den⟩
theorem ki (r:Rat):(r*r).num=r.num*r.num:=by
 have h:=Rat.num_pow r 2;rw [show r ^ 2=r*r by grind,show r.num ^ 2=r.num*r.num by grind] at h
 exact h
theorem lE (r:Rat):(r*r).den=r.den*r.den:=by
 have h:=Rat.den_pow r 2;rw [show r ^ 2=r*r by grind,show r.den ^ 2=r.den*r.den by grind] at h
 exact h
def lv (u:Rat):Prop:=∀ r:Rat,r*r≠u
theorem AQ {n:Int} (h:0<=n):iI n<=n:=by
 have rt:=jv h;have h0:=rt.nn;have h1:=rt.le;rcases Int.lt_or_le (iI n) 1 with h2 | h2
 ·omega
 ·have:iI n*1<=iI n*iI n:=Int.mul_le_mul_of_nonneg_left h2 h0;omega
theorem Bo {n:Int} {m:Nat} (h:0<=n) (hb:Bt m n):Bt m (iI n):=hb.le (by have:=AQ h; have:=(jv h).nn; omega)
theorem wF:iI 0=0:=by decide
structure Gd (n g:Int):Prop where
 pos:0 < g
 ge:iI n<=g
 bt:Bt 2002 g
theorem pe (a:Int) {b:Int} (h:0 < b):a.fdiv b=a / b:=Int.fdiv_eq_ediv_of_nonneg a (by omega)
theorem Gd.next {n g:Int} (h0:1<=n) (h:Gd n g) (hl:(g+n.fdiv g).fdiv 2 < g):Gd n ((g+n.fdiv g).fdiv 2):=by
 have rt:=jv (n:=n) (by omega)
 have r1:1<=iI n:=rt.le_of (by omega)
 rw [pe _ (by decide),pe _ h.pos] at hl ⊢
 have h1:=uO h.pos rt.nn rt.le;exact⟨by omega,h1,h.bt.le (by have:=h.pos; omega)⟩
theorem Gd.last {n g:Int} (h0:1<=n) (h:Gd n g) (hl:¬ (g+n.fdiv g).fdiv 2 < g):g=iI n:=by
 have rt:=jv (n:=n) (by omega)
 rw [pe _ (by decide),pe _ h.pos] at hl
 have h1:=h.ge;rcases Int.lt_or_le (iI n) g with h2 | h2
 ·exact absurd (uX (by omega) rt h2) hl
 ·omega
theorem Gd.first {n:Int} {b:Nat} (h0:1<=n) (hn:n.natAbs < 2 ^ b) (hb:b<=4000):Gd n ((1:Int)*2 ^ ((((b:Nat):Int)+1).fdiv 2).toNat):=by
 have e:((((b:Nat):Int)+1).fdiv 2).toNat=(b+1) / 2:=by rw [pe _ (by decide)]; omega
 rw [e,Int.one_mul];have hp:(0:Int) < 2 ^ ((b+1) / 2):=Int.pow_pos (by decide)
 have rt:=jv (n:=n) (by omega)
 refine⟨hp,?_,?_⟩
 ·apply Int.not_lt.mp;intro hl;have h1:=kr (Int.le_of_lt hp) (Int.le_of_lt hl);have h2:=rt.le;have h3:(2:Int) ^ ((b+1) / 2)*2 ^ ((b+1) / 2)=2 ^ ((b+1) / 2+(b+1) / 2):=(Int.pow_add _ _ _).symm;have h4:2 ^ b<=2 ^ ((b+1) / 2+(b+1) / 2):=nk (by omega)
  have h5:((2 ^ ((b+1) / 2+(b+1) / 2):Nat):Int)=(2:Int) ^ ((b+1) / 2+(b+1) / 2):=by rw [Int.natCast_pow]; rfl
  have h6:((2 ^ b:Nat):Int)<=((2 ^ ((b+1) / 2+(b+1) / 2):Nat):Int):=Int.ofNat_le.mpr h4;have h7:(n.natAbs:Int) < ((2 ^ b:Nat):Int):=Int.ofNat_lt.mpr hn;rw [h3] at h1;rw [h5] at h6;omega
 ·unfold Bt;rw [Int.natAbs_pow];exact Nat.pow_lt_pow_right (by decide) (by omega)
abbrev jM (a:Int):Int:=if a < 0 then -a else a
theorem ua (a:Int):0<=jM a:=by unfold jM; split <;> omega
theorem bf (r:Rat):0<=r*r:=by
 rcases Rat.le_total (a:=0) (b:=r) with h | h
 ·exact Gz h h
 ·have:0<=-r:=by grind
  have:=Gz this this;grind
theorem rF (w:Rat):(w.num:Rat)=w*(w.den:Rat):=by
 have h:=Rat.num_divInt_den w;rw [GK,Rat.intCast_natCast] at h;have hd:(w.den:Rat)≠0:=by
  have:=w.den_nz;exact λe=>this (by exact_mod_cast e)
 grind
theorem tR (w:Rat):(w.den:Rat)≠0:=by
 have:=w.den_nz;exact λe=>this (by exact_mod_cast e)
def ab (b:Rat):Rat:=if b < 0 then -b else b
theorem iG (b:Rat):0<=ab b:=by unfold ab; split <;> grind
theorem jV (b:Rat):ab b*ab b=b*b:=by unfold ab; split <;> grind
def ss (b:Rat):Rat:=b*ab b
theorem cq (q:Rat):q.num < 0↔q < 0:=by
 have:=Rat.num_nonneg (q:=q)
 constructor
 ·intro h;apply Rat.not_le.mp;intro h2;have:=this.mpr h2;omega
 ·intro h;apply Int.not_le.mp;intro h2;exact absurd (this.mp h2) (Rat.not_le.mpr h)
theorem Ce (q:Rat):(ab q).num=jM q.num:=by
 unfold ab jM
 by_cases h:q < 0
 ·rw [if_pos h,if_pos ((cq q).mpr h),Rat.neg_num]
 ·rw [if_neg h,if_neg (λe=>h ((cq q).mp e))]
theorem BU (q:Rat):(ab q).den=q.den:=by
 unfold ab
 split
 ·exact Rat.neg_den _
 ·rfl
theorem rz {x:Int} (h:0<=x):iI (x*x)=x:=wL ⟨h,Int.le_refl _,by grind⟩
theorem jH {b u:Rat} (hu:0 < u):ss b*u=0↔b=0:=by
 unfold ss ab
 constructor
 ·intro h;have hu':u≠0:=by grind
  split at h <;> grind
 ·intro h;subst h;grind
theorem DR {b u:Rat} (hu:0 < u):ab (ss b*u)=b*b*u:=by
 have h2:=bf b;have h3:=Gz h2 (Rat.le_of_lt hu);unfold ss
 by_cases h:b < 0
 ·have e:b*ab b*u=-(b*b*u):=by unfold ab; rw [if_pos h]; grind
  rw [e];have hp:0 < b*b*u:=by
   have h4:0 < -b:=by grind
   have h5:=GD h4 h4;have h6:=GD h5 hu;grind
  unfold ab;rw [if_pos (by grind)]
  grind
 ·have e:b*ab b*u=b*b*u:=by unfold ab; rw [if_neg h]
  rw [e];unfold ab;rw [if_neg (by grind)]
theorem sT {b u:Rat} (hu:0 < u):ss b*u < 0↔b < 0:=by
 have h2:=bf b;have h3:=Gz h2 (Rat.le_of_lt hu);unfold ss ab
 constructor
 ·intro h
  split at h
  ·assumption
  ·exfalso; grind
 ·intro h;rw [if_pos h];have h4:0 < -b:=by grind
  have h5:=GD h4 h4;have h6:=GD h5 hu;grind
theorem Cd (a b:Rat):ss (a*b)=ss a*ss b:=by
 have e:ab (a*b)=ab a*ab b:=by
  unfold ab
  by_cases ha:a < 0 <;> by_cases hb:b < 0
  ·have:=GD (show 0 < -a by grind) (show 0 < -b by grind)
   rw [if_neg (by grind),if_pos ha,if_pos hb]; grind
  ·rw [if_pos ha,if_neg hb]
   by_cases h0:b=0
   ·subst h0; grind
   ·have:=GD (show 0 < -a by grind) (show 0 < b by grind)
    rw [if_pos (by grind)]; grind
  ·rw [if_neg ha,if_pos hb]
   by_cases h0:a=0
   ·subst h0; grind
   ·have:=GD (show 0 < a by grind) (show 0 < -b by grind)
    rw [if_pos (by grind)]; grind
  ·have:=Gz (show 0<=a by grind) (show 0<=b by grind)
   rw [if_neg (by grind),if_neg ha,if_neg hb]
 unfold ss;rw [e];grind
theorem pC (b:Rat):ss (-b)=-ss b:=by
 unfold ss ab
 by_cases h:b < 0
 ·rw [if_neg (by grind),if_pos h]; grind
 ·by_cases h0:b=0
  ·subst h0; grind
  ·rw [if_pos (by grind),if_neg h]; grind
theorem vK {b:Rat} (h:0<=b):ss b=b*b:=by unfold ss ab; rw [if_neg (by grind)]
def sg (p q:Rat):Rat:=if q < 0 then -p else p
theorem zw {a b u:Rat} (hu:lv u) (h:¬ (a=0/\b=0)):a*a - b*b*u≠0:=by
 intro e
 by_cases hb:b=0
 ·subst hb;apply h;exact⟨by grind,rfl⟩
 ·exact hu (a / b) (by grind)
def sG (q:Rat):Int:=if 0 < q then 1 else if q < 0 then -1 else 0
theorem h_ {q:Rat} (h:0 < q):sG q=1:=if_pos h
theorem gr {q:Rat} (h:q < 0):sG q=-1:=by unfold sG; rw [if_neg (by grind),if_pos h]
theorem xt:sG 0=0:=by decide
theorem yS (q:Rat):0 < q\/q < 0\/q=0:=by
 rcases Rat.le_total (a:=0) (b:=q) with h | h
 ·by_cases e:q=0
  ·exact .inr (.inr e)
  ·exact .inl (by grind)
 ·by_cases e:q=0
  ·exact .inr (.inr e)
  ·exact .inr (.inl (by grind))
theorem mU (q:Rat):sG (-q)=- sG q:=by
 rcases yS q with h | h | h
 ·rw [h_ h,gr (by grind)]
 ·rw [gr h,h_ (by grind)]; rfl
 ·subst h; decide
def j5 (a b u:Rat):Int:=if 0 < a*a - b*b*u then sG a else sG b
theorem uA (a b u:Rat):j5 (-a) (-b) u=- j5 a b u:=by
 unfold j5;rw [show -a*-a - -b*-b*u=a*a - b*b*u by grind]
 split
 ·exact mU a
 ·exact mU b
theorem wE {a b u:Rat} (hu:lv u):(a=0/\b=0)\/0 < a*a - b*b*u\/a*a - b*b*u < 0:=by
 by_cases h:a=0/\b=0
 ·exact .inl h
 ·rcases yS (a*a - b*b*u) with h1 | h1 | h1
  ·exact .inr (.inl h1)
  ·exact .inr (.inr h1)
  ·exact absurd h1 (zw hu h)
theorem vY {q:Rat} (h:q≠0):sG q≠0:=by
 rcases yS q with h1 | h1 | h1
 ·rw [h_ h1]; decide
 ·rw [gr h1]; decide
 ·exact absurd h1 h
theorem xG {a b u:Rat} (u0:0 < u) (hu:lv u):j5 a b u=0↔a=0/\b=0:=by
 constructor
 ·intro h;unfold j5 at h;rcases wE (a:=a) (b:=b) hu with h1 | h1 | h1
  ·exact h1
  ·rw [if_pos h1] at h
   by_cases e:a=0
   ·exfalso
    subst e;have:=Gz (bf b) (Rat.le_of_lt u0);grind
   ·exact absurd h (vY e)
  ·rw [if_neg (by grind)] at h
   by_cases e:b=0
   ·exfalso
    subst e;have:=bf a;grind
   ·exact absurd h (vY e)
 ·rintro⟨rfl,rfl⟩;unfold j5;rw [if_neg (by grind)]
  exact xt
theorem Di {a b u:Rat} (h:0 < a*a - b*b*u):j5 a b u=sG a:=if_pos h
theorem mL {x y:Rat} (hx:0<=x) (hy:0<=y):0<=x / y:=by
 by_cases h:y=0
 ·subst h;rw [show x / 0=0 by grind]
  exact Rat.le_refl
 ·apply Rat.not_lt.mp;intro hl;have h1:=GD (show 0 < -(x / y) by grind) (show 0 < y by grind)
  have h2:x / y*y=x:=by grind
  grind
theorem kf:ss 0=0:=by unfold ss; grind
theorem nO {q:Rat} (h:0<=q):0<=q.num:=Rat.num_nonneg.mpr h
theorem j7 {q r:Rat} (h0:0<=r) (e:r*r=q):iI q.num=r.num/\iI (q.den:Int)=(r.den:Int):=by
 subst e;rw [ki,lE];refine⟨rz (nO h0),?_⟩;rw [Int.natCast_mul];exact rz (by omega)
theorem tx {q:Rat} (h0:0<=q) (s1:iI q.num*iI q.num=q.num) (s2:iI (q.den:Int)*iI (q.den:Int)=(q.den:Int)):∃ r:Rat,0<=r/\r*r=q:=by
 have n1:=(jv (nO h0)).nn;have n2:=(jv (n:=(q.den:Int)) (by omega)).nn
 generalize iI q.num=x at s1 n1
 generalize iI (q.den:Int)=y at s2 n2
 have t1:(x:Rat)*x=(q.num:Rat):=by
  have:=congrArg (λz:Int=>(z:Rat)) s1
  simpa [Ge] using this
 have t2:(y:Rat)*y=(q.den:Rat):=by
  have:=congrArg (λz:Int=>(z:Rat)) s2
  simpa [Ge,Rat.intCast_natCast] using this
 have hd:=tR q;have hy0:(y:Rat)≠0:=by intro e; rw [e] at t2; exact hd (by grind)
 have hwn:=rF q;have x0:(0:Rat)<=x:=by exact_mod_cast n1
 have y0:(0:Rat)<=y:=by exact_mod_cast n2
 refine⟨(x:Rat) / y,?_,by grind⟩
 exact mL x0 y0
theorem oK {e:Rat} (h:e≠0):ab e≠0:=by unfold ab; split <;> grind
theorem xX {e:Rat} (h:e≠0):0 < ab e:=by have:=iG e; have:=oK h; grind
theorem Da {r s:Rat} (hr:0<=r) (hs:0<=s) (e:r*r=s*s):r=s:=by
 by_cases h:r+s=0
 ·grind
 ·have:(r - s)*(r+s)=0:=by grind
  grind
theorem tV {b e u r:Rat} (u0:0 < u) (he:e≠0) (hr:0<=r) (h:r*r=(b*b*u) / (e*e*u)):r=ab b / ab e:=by
 have u1:u≠0:=by grind
 have e1:=jV e;have b1:=jV b;have e2:=oK he;apply Da hr (mL (iG b) (iG e));rw [h];have:ab b / ab e*(ab b / ab e)=(ab b*ab b) / (ab e*ab e):=by grind
 rw [this,e1,b1];grind
theorem nQ {b e u:Rat} (u0:0 < u) (he:e≠0):(ab b / ab e)*(ab b / ab e)=(b*b*u) / (e*e*u):=by
 have u1:u≠0:=by grind
 have e1:=jV e;have b1:=jV b;have e2:=oK he;have:ab b / ab e*(ab b / ab e)=(ab b*ab b) / (ab e*ab e):=by grind
 rw [this,e1,b1];grind
theorem w_ {b e u:Rat} (u0:0 < u):sg (ab b / ab e) (ss b*u)=b / ab e:=by
 unfold sg
 by_cases h:b < 0
 ·rw [if_pos ((sT u0).mpr h)];unfold ab;rw [if_pos h];grind
 ·rw [if_neg (λz=>h ((sT u0).mp z))]
  unfold ab;rw [if_neg h]
theorem BK {x y:Rat} (hy:0 < y):ss (x / y)=ss x / (y*y):=by
 have h1:x / y=x*(1 / y):=by grind
 have h2:0<=1 / y:=mL (by decide) (Rat.le_of_lt hy)
 rw [h1,Cd,vK h2];grind
theorem uG {x e u:Rat} (he:e≠0):ss (x / ab e)*(e*e*u)=ss x*u:=by
 have e1:=jV e;rw [BK (xX he),e1];grind
theorem xh (p base:Rat):sg (p*p*base) p=ss p*base:=by
 unfold sg ss ab
 by_cases h:p < 0
 ·rw [if_pos h,if_pos h]; grind
 ·rw [if_neg h,if_neg h]
def pick (b d:Rat):Rat:=if b=0 then d else b
theorem wW {b d:Rat}:b=0\/pick b d≠0:=by
 unfold pick
 by_cases h:b=0
 ·exact .inl h
 ·rw [if_neg h]; exact .inr h
theorem xI {b d:Rat}:d=0\/pick b d≠0:=by
 unfold pick
 by_cases h:b=0
 ·rw [if_pos h]
  by_cases h2:d=0
  ·exact .inl h2
  ·exact .inr h2
 ·rw [if_neg h]; exact .inr h
theorem lD {b d:Rat} (h:pick b d=0):b=0/\d=0:=by
 unfold pick at h
 by_cases h2:b=0
 ·rw [if_pos h2] at h; exact⟨h2,h⟩
 ·rw [if_neg h2] at h; exact absurd h h2
theorem vF {b d u:Rat}:ss (b / ab (pick b d)+d / ab (pick b d))*(pick b d*pick b d*u)=ss (b+d)*u:=by
 by_cases h:pick b d=0
 ·obtain⟨rfl,rfl⟩:=lD h;rw [h];have:ss ((0:Rat)+0)=0:=by rw [show (0:Rat)+0=0 by grind]; exact kf
  rw [this];grind
 ·rw [<- uG (x:=b+d) h]
  congr 2
  have:=oK h;grind
theorem tT {a b c d u:Rat}:a*c+(b / ab (pick b d))*(d / ab (pick b d))*(pick b d*pick b d*u)=a*c+b*d*u:=by
 by_cases h:pick b d=0
 ·obtain⟨rfl,rfl⟩:=lD h;rw [h];grind
 ·have e1:=jV (pick b d);have e2:=oK h;rw [<- e1];grind
theorem sJ {a b c d u:Rat}:ss (a*(d / ab (pick b d))+c*(b / ab (pick b d)))*(pick b d*pick b d*u)=ss (a*d+b*c)*u:=by
 by_cases h:pick b d=0
 ·obtain⟨rfl,rfl⟩:=lD h;rw [h,show a*(0 / ab (0:Rat))+c*(0 / ab 0)=0 by grind,show a*0+0*c=0 by grind,kf]
  grind
 ·rw [<- uG (x:=a*d+b*c) h]
  congr 2
  have:=oK h;grind
theorem l8 {b u:Rat} (u0:0 < u):ab (ss b*u)=b*b*u:=DR u0
theorem Sz.ab {n:Nat} {q:Rat} (h:Sz n q):Sz n (HM.ab q):=by
 unfold HM.ab
 split
 ·exact h.neg
 ·exact h
theorem Sz.ss {n:Nat} {q:Rat} (h:Sz n q):Sz (n+n) (HM.ss q):=h.mul h.ab
theorem Sz.sg {n:Nat} {p q:Rat} (h:Sz n p):Sz n (HM.sg p q):=by
 unfold HM.sg
 split
 ·exact h.neg
 ·exact h
theorem Sz.zero:Sz 1 0:=⟨by show(0:Int).natAbs < 2 ^ 1; decide,by show((1:Nat):Int).natAbs < 2 ^ 1; decide⟩
theorem Sz.pick {n:Nat} {b d:Rat} (hb:Sz n b) (hd:Sz n d):Sz n (HM.pick b d):=by
 unfold HM.pick
 split
 ·exact hd
 ·exact hb
theorem Sz.div' {m n:Nat} {a b:Rat} (ha:Sz m a) (hb:Sz n b):Sz (m+n+1) (a / b):=by
 by_cases h:b=0
 ·subst h;rw [show a / 0=0 by grind]
  exact Sz.zero.mono (by omega)
 ·exact(ha.div hb h).mono (by omega)
theorem ui (q:Rat):(if q.num=0 then(0:Int) else if q.num > 0 then 1 else -1)=sG q:=by
 rcases yS q with h | h | h
 ·have:=nO (Rat.le_of_lt h);have n0:q.num≠0:=nK (by grind)
  rw [if_neg n0,if_pos (by omega),h_ h]
 ·have:=(cq q).mpr h;rw [if_neg (by omega),if_neg (by omega),gr h]
 ·subst h; decide
theorem vS {b u:Rat} (u0:0 < u):sG (ss b*u)=sG b:=by
 rcases yS b with h | h | h
 ·have:=GD (GD h (xX (show b≠0 by grind))) u0
  unfold ss;rw [h_ h,h_ this]
 ·rw [gr h,gr ((sT u0).mpr h)]
 ·subst h;rw [kf,show(0:Rat)*u=0 by grind]
theorem ji (q:Rat):q.num > 0↔0 < q:=by
 constructor
 ·intro h;rcases yS q with h1 | h1 | h1
  ·exact h1
  ·have:=(cq q).mpr h1; omega
  ·subst h1; exact absurd h (by decide)
 ·intro h;have:=nO (Rat.le_of_lt h);have n0:q.num≠0:=nK (by grind)
  omega
end HM
namespace L2
open PySem PySem.Spec PyProof.Rows
theorem qt (elt target iter:Hb) (scope:Scope) (pos:Pos) (it acc:G9) (env:Env):
  compTurn (.ListComp elt [⟨target,iter,[],0⟩] scope pos) 0 it acc env=(standAt iter.pos >>= λ_=>pyNext it >>= λr=>match r with
   | none=>pure (.done .next)
   | some v=>letOwnedTupleGo target it v >>= λ_=>assign target env v >>= λ_=>
    (eval elt env >>= λx=>call (.builtin "list.append") [acc,x] >>= λ_=>pure ()) >>= λ_=>
     again (.compLoop (.ListComp elt [⟨target,iter,[],0⟩] scope pos) 0 it acc env)):=by rfl
section
variable {prog:Hc} {w:He} {A:Hd} {R:Result->G8->Prop} {s:G8}
abbrev k7:G9->G8->Prop:=λ_ _=>False
theorem vP {α:Type} {M:Model} {A:Hd} {t:Sem α} {Q:α->G8->Prop} {E:G9->G8->Prop} {s:G8} (h:wpAny M A t Q k7 s):wpAny M A t Q E s:=GM h (λ_ _ q=>q) λ_ _ z=>z.elim
theorem kq {elt target iter:Hb} {scope:Scope} {pos:Pos} {it acc:G9} {env:Env} (I:Nat->G8->Prop)
  (turn:∀ n s,I n s->wpAny (model prog w) A (pyNext it) (λr s1=>match r with
   | none=>R (.ok .next) s1
   | some v=>wpAny (model prog w) A (letOwnedTupleGo target it v) (λ_ s2=>wpAny (model prog w) A (assign target env v) (λ_ s3=>wpAny (model prog w) A (eval elt env) (λx s4=>
     wpAny (model prog w) A (call (.builtin "list.append") [acc,x]) (λ_ s5=>∃ m,m < n/\I m s5) k7 s4) k7 s3) k7 s2) k7 s1) k7 s)
  (n:Nat) (h:I n s):codeAny (model prog w) A (.compLoop (.ListComp elt [⟨target,iter,[],0⟩] scope pos) 0 it acc env) R s:=by
 refine codeAny_loop rfl I (λn s hI=>?_) n h
 show wpAny _ _ ((compTurn (.ListComp elt [⟨target,iter,[],0⟩] scope pos) 0 it acc env).onRaise (λx=>do noteFrame x env; theTreesLotGoes x)) _ _ s
 refine wpAny_noted ?_;rw [qt];refine gt (wpAny_standAt (gt (vP (GM (turn n s hI) (λr s1 h1=>?_) λ_ _ z=>z))))
 cases r with
 | none=>exact Gb h1
 | some v=>
  exact gt (vP (bX h1 λ_ s2 h2=>gt (vP (bX h2 λ_ s3 h3=>gt (gt (vP (bX h3 λx s4 h4=>gt (vP (bX h4 λ_ s5 h5=>Gb (Gb ⟨rfl,h5⟩))))))))))
theorem ml {M:Model} {A:Hd} {E:G9->G8->Prop} {c:Hb} {env:Env} {Q:Hi->G8->Prop} {s:G8} (h:wpAny M A (PySem.isTrue c env (eval c env)) Q E s):
  wpAny M A (forIn [c] true λc r=>if r=true then do let ok <- PySem.isTrue c env (eval c env); pure (ForInStep.yield ok) else pure (ForInStep.yield r)) Q E s:=by
 rw [List.forIn_cons];refine gt ?_;rw [if_pos rfl];refine gt (bX h λok s1 q=>Gb ?_)
 show wpAny M A (forIn [] ok _) Q E s1
 rw [List.forIn_nil];exact Gb q
theorem pY {elt target iter c:Hb} {scope:Scope} {pos:Pos} {it acc:G9} {env:Env} (I:Nat->G8->Prop)
  (turn:∀ n s,I n s->wpAny (model prog w) A (pyNext it) (λr s1=>match r with
   | none=>R (.ok .next) s1
   | some v=>wpAny (model prog w) A (letOwnedTupleGo target it v) (λ_ s2=>wpAny (model prog w) A (assign target env v) (λ_ s3=>wpAny (model prog w) A (isTrue c env (eval c env)) (λb s3'=>
     if b=true then wpAny (model prog w) A (eval elt env) (λx s4=>wpAny (model prog w) A (call (.builtin "list.append") [acc,x]) (λ_ s5=>∃ m,m < n/\I m s5) k7 s4) k7 s3'
     else ∃ m,m < n/\I m s3') k7 s3) k7 s2) k7 s1) k7 s)
  (n:Nat) (h:I n s):codeAny (model prog w) A (.compLoop (.ListComp elt [⟨target,iter,[c],0⟩] scope pos) 0 it acc env) R s:=by
 refine codeAny_loop rfl I (λn s hI=>?_) n h
 show wpAny _ _ ((compTurn (.ListComp elt [⟨target,iter,[c],0⟩] scope pos) 0 it acc env).onRaise (λx=>do noteFrame x env; theTreesLotGoes x)) _ _ s
 refine wpAny_noted ?_;rw [compTurn_list];refine gt (wpAny_standAt (gt (vP (GM (turn n s hI) (λr s1 h1=>?_) λ_ _ z=>z))))
 cases r with
 | none=>exact Gb h1
 | some v=>
  refine gt (vP (bX h1 λ_ s2 h2=>gt (vP (bX h2 λ_ s3 h3=>gt (ml (vP (bX h3 λb s3' h3'=>?_)))))))
  cases b with
  | true=>
   rw [if_pos rfl] at h3' ⊢;exact gt (gt (vP (bX h3' λx s4 h4=>gt (vP (bX h4 λ_ s5 h5=>Gb (Gb ⟨rfl,h5⟩))))))
  | false=>
   rw [if_neg Gi] at h3' ⊢;exact Gb ⟨rfl,h3'⟩
end
def iO (X:Cx) (scope:Scope) (cl:List (Str×G_)) (N:List Str) (s0:G8) (H0:Hp) (ex:List G_) (C:G_):Cx where
 prog:=X.prog
 w:=X.w
 K:=X.K
 mg:=X.mg
 base:=X.base
 A:=X.A
 N:=N
 s₀:=s0
 H₀:=H0
 env:=compEnvC scope cl C X.env
 outer:=X.stack
 stack:=X.stack
 ex:=ex
 fn:=λ_=>false
 calm:=X.calm
 pn:=[]
 xe:=k7
structure fJ (X:Cx) (scope:Scope) (cl:List (Str×G_)) (N:List Str) (cap:List (Ha Nat)):Prop where
 kind:scope.kind=.function
 clos:closureFor scope X.env=pure cl
 nocell:(scope.names.all λy=>y.2 != NameKind.cell)=true
 names:(scope.names.all λy=>y.2 != NameKind.local || scope.names.lookup y.1 == some NameKind.local)=true
 sub:∀ p∈cl,X.env.cells.lookup p.1=some p.2
 has:((relabel scope X.env).names.all λy=>(y.2 != NameKind.cell && y.2 != NameKind.free) || (cl.lookup y.1).isSome)=true
 len:cap.length=N.length
 caps:∀ (i j:Nat) (x:Str),cap[i]?=some (some j)->N[i]?=some x->X.N[j]?=some x/\(X.env.scope.names.lookup x=some .cell\/X.env.scope.names.lookup x=some .free)/\((relabel scope X.env).names.lookup x=some .cell\/(relabel scope X.env).names.lookup x=some .free)
def kS (cap:List (Ha Nat)) (σ:St):St:=cap.map λo=>match o with
 | some j=>(σ[j]?).join
 | none=>none
theorem u8 {cap:List (Ha Nat)} {σ:St} {i:Nat} {v:V} (h:(kS cap σ)[i]?=some (some v)):∃ j,cap[i]?=some (some j)/\σ[j]?=some (some v):=by
 unfold kS at h;rw [List.getElem?_map] at h;cases e:cap[i]? with
 | none=>rw [e] at h; cases h
 | some o=>
  rw [e] at h;cases o with
  | none=>cases h
  | some j=>
   refine⟨j,rfl,?_⟩;have h:(σ[j]?).join=some v:=GF h;cases e2:σ[j]? with
   | none=>rw [e2] at h; cases h
   | some q=>rw [e2] at h; exact congrArg some h
theorem ev {X:Cx} {cl:List (Str×G_)} (h:∀ p∈cl,X.env.cells.lookup p.1=some p.2) {x:Str} {c:G_} (e:cl.lookup x=some c):X.env.cells.lookup x=some c:=h (x,c) (GQ e)
theorem nM {X:Cx} {scope:Scope} {cl:List (Str×G_)} {N:List Str} {cap:List (Ha Nat)} (Sc:fJ X scope cl N cap) {Hm:List (G_×Hl)} {σ:St} {H:Hp} {s:G8} {fp:List G_} (I:az X Hm σ H s)
  (hf:∀ b∈fp,mv X Hm H b) (ho:∀ b∈fp,∃ o,s.heap.get? b=some o) {h1 h1':Hf} {m:Str->Ha G9} {tk:Nat} {ob:Hl}
  (hD:s.heap.push {cls:=.type "list",data:=.seq ([]:List G9).toArray}=h1') (hns:h1.Ns h1'.objs.size m) (hsb:Heap.SameBut h1'.objs.size (h1'.push ob) h1):
  az (iO X scope cl N {s with heap:=h1'} (bI H s.heap.objs.size (.lst [])) fp h1'.objs.size) [] (kS cap σ) (bI H s.heap.objs.size (.lst [])) {s with heap:=h1,toks:=tk}/\
   Un (gP X.stack) fp H (bI H s.heap.objs.size (.lst [])) s.heap h1':=by
 have hC:h1'.objs.size=s.heap.objs.size+1:=by rw [<- hD,GW]
 have k1:∀ b o,s.heap.get? b=some o->h1'.get? b=some o:=λb o e=>by rw [<- hD]; exact Ga _ e
 have k2:∀ b o,h1'.get? b=some o->h1.get? b=some o:=λb o e=>(hsb.2 b (Gm (Gf e))).trans (Ga _ e)
 have hHn:H s.heap.objs.size=none:=I.hok.fresh (Gg _);have neD:∀ b o,s.heap.get? b=some o->b≠s.heap.objs.size:=λb o e=>Gm (Gf e)
 have un1:Un (gP X.stack) fp H (bI H s.heap.objs.size (.lst [])) s.heap h1':=Un.laid k1 (Gg _) hHn;have new:en X.prog X.w (bI H s.heap.objs.size (.lst [])) h1' s.heap.objs.size (.lst []):=⟨Nat.zero_le _,[],0,.nil,by rw [<- hD]; exact Gc _ rfl⟩
 have hok1:k8 X.prog X.w (bI H s.heap.objs.size (.lst [])) h1':=I.hok.laid k1 (Gg _) new;have fsub:∀ b∈fp,b∉gP X.stack:=λb hb z=>by
  obtain⟨_,f1,f2,_⟩:=hf b hb;rcases Gk.mp (I.stkSub b z) with e | e
  ·exact f1 e
  ·exact f2 e
 have cellK:∀ x c,cl.lookup x=some c->∃ v,s.heap.IsCell c v:=λx c e=>I.cell x c (ev Sc.sub e)
 refine⟨⟨⟨I.ok.mod,?_,I.ok.glob,I.ok.blt,Gg _,λx y c e1 e2=>I.ok.inj x y c (ev Sc.sub e1) (ev Sc.sub e2),λx hx=>?_,λx c z=>(by cases z),I.ok.hd,I.ok.frames,.inl rfl,λb hb=>⟨?_,λx c e=>?_⟩,λb o e=>⟨?_,?_⟩,?_,λb o e hb=>?_,fsub,?_,λb hb=>?_⟩,
  rfl,I.bare,Un.kept k2,⟨m,hns,λi x v e1 e2 e3=>?_⟩,λx c e=>?_,?_,λx c e=>?_,λp hp=>absurd hp (by simp [iO]),hok1.kept k2,?_⟩,un1⟩
 ·exact Sc.kind
 ·have hx:(relabel scope X.env).names.lookup x=some .cell\/(relabel scope X.env).names.lookup x=some .free:=hx;have ha:=GX.mp Sc.has
  show ∃ c,cl.lookup x=some c
  rcases hx with hx | hx
  ·have:=ha _ (GQ hx);exact G6.mp (by simpa using this)
  ·have:=ha _ (GQ hx);exact G6.mp (by simpa using this)
 ·obtain⟨o,e⟩:=ho b hb;have:=Gf e
  show b≠h1'.objs.size
  rw [hC];exact Gm (Nat.lt_succ_of_lt this)
 ·exact(hf b hb).2.2.2.2.1 x c (ev Sc.sub e)
 ·exact k1 b o (I.bk b o e)
 ·show bI H s.heap.objs.size (.lst []) b=none
  rw [aD (neD b o (I.bk b o e))];exact(I.bs b o e).2
 ·show X.base.objs.size<=h1'.objs.size
  rw [hC];exact Nat.le_succ_of_le (GO I.ok.bsz I.sz)
 ·obtain⟨_,_,_,f3,_⟩:=hf b hb;rcases f3 with f3 | f3
  ·exact I.ok.noex b o e f3
  ·have q1:=Gf e;have q2:=I.ok.bsz;exact absurd (Gp q1 (GO q2 f3)) (GV _)
 ·exact I.stack.of_keeps λb o e _=>⟨o,k1 b o e,rfl⟩
 ·show bI H s.heap.objs.size (.lst []) b=none
  obtain⟨_,o,e,_⟩:=I.stack.mem hb;rw [aD (neD b o e)];exact I.stkFree b hb
 ·obtain⟨j,c1,c2⟩:=u8 e2;obtain⟨d1,d2,d3⟩:=Sc.caps i j x c1 e1;obtain⟨m0,_,l0⟩:=I.loc;obtain⟨u,ru,lk⟩:=l0 j x v d1 c2 (d2.elim (λz=>.inr (.inl z)) λz=>.inr (.inr z))
  refine⟨u,ru,.inr ⟨d3,?_⟩⟩;rcases lk with ⟨z,_⟩ | ⟨_,c,z1,z2⟩
  ·have z:X.env.scope.names.lookup x=some .local:=z;rcases d2 with q | q <;> (rw [q] at z; cases z)
  ·have ha:=GX.mp Sc.has;have hs:∃ c',cl.lookup x=some c':=by
    rcases d3 with q | q
    ·exact G6.mp (by simpa using ha _ (GQ q))
    ·exact G6.mp (by simpa using ha _ (GQ q))
   obtain⟨c',q⟩:=hs;have q2:=ev Sc.sub q;rw [z1] at q2;cases q2;obtain⟨o,e,d⟩:=z2;exact⟨c,q,o,k2 _ _ (k1 _ _ e),d⟩
 ·obtain⟨v,o,e1,d⟩:=cellK x c e;exact⟨v,o,k2 _ _ (k1 _ _ e1),d⟩
 ·show bI H s.heap.objs.size (.lst []) h1'.objs.size=none
  rw [hC,aD (Nat.succ_ne_self _)];exact I.hok.fresh (Nat.le_succ _)
 ·obtain⟨v,o,e1,d⟩:=cellK x c e
  show bI H s.heap.objs.size (.lst []) c=none
  rw [aD (neD c o e1)];exact I.freeC x c (ev Sc.sub e)
 ·show(kS cap σ).length=N.length
  unfold kS;rw [Gh];exact Sc.len
def Al (cap:List (Ha Nat)) (wi:TI) (g:TG) (te:TE):TE:=fun σ H Q=>wi σ H λJ H1=>∀ D,H1 D=none->∃ W:Nat->Nat->St->Hp->Prop,(∃ m,W 0 m (kS cap σ) (bI H1 D (.lst [])))/\∀ i m σ' H',W i m σ' H'->
 (J.stop i H'/\Q (.ref D) H')\/(J.go i H'/\∃ N:St->Hp->Prop,(∀ σ2 H2,N σ2 H2->∃ m',m' < m/\W (i+1) m' σ2 H2)/\∀ x H2,J.yld i H' x H2->g x σ' H2 fun σ3 H3=>te σ3 H3 λv H4=>∃ ys,H4 D=some (.lst ys)/\ys.length < sizeLine/\N σ3 (bI H4 D (.lst (ys++[v]))))
def za (cap:List (Ha Nat)) (wi:TI) (g:TG) (tc:TT) (te:TE):TE:=fun σ H Q=>wi σ H λJ H1=>∀ D,H1 D=none->∃ W:Nat->Nat->St->Hp->Prop,(∃ m,W 0 m (kS cap σ) (bI H1 D (.lst [])))/\∀ i m σ' H',W i m σ' H'->
 (J.stop i H'/\Q (.ref D) H')\/(J.go i H'/\∃ N:St->Hp->Prop,(∀ σ2 H2,N σ2 H2->∃ m',m' < m/\W (i+1) m' σ2 H2)/\∀ x H2,J.yld i H' x H2->g x σ' H2 fun σ3 H3=>tc σ3 H3 λb H3'=>if b=true then te σ3 H3' λv H4=>∃ ys,H4 D=some (.lst ys)/\ys.length < sizeLine/\N σ3 (bI H4 D (.lst (ys++[v]))) else N σ3 H3')
section
variable {X:Cx} {elt tg iter c:Hb} {scope:Scope} {cl:List (Str×G_)} {N:List Str} {cap:List (Ha Nat)} {pos:Pos} {wi:TI} {g:TG} {te:TE} {tc:TT}
theorem nu (Sc:fJ X scope cl N cap) {Hm:List (G_×Hl)} {σ σ3:St} {H2 H3:Hp} {s2 s4:G8} {fp:List G_} {h1':Hf} {C:G_} (I2:az X Hm σ H2 s2) (f2:∀ b∈fp,mv X Hm H2 b) {H1:Hp}
  (un3:Un (gP X.stack) fp H2 H1 s2.heap h1') (I4:az (iO X scope cl N {s2 with heap:=h1'} H1 fp C) [] σ3 H3 s4) {h':Hf} (hC:s2.heap.objs.size<=C) (sb:Heap.SameBut C s4.heap h'):az X Hm σ H3 {s4 with heap:=h'}:=by
 have u:Un (gP X.stack) fp H2 H3 s2.heap s4.heap:=un3.trans I4.base;have ne:∀ b o,s2.heap.get? b=some o->b≠C:=λb o e=>Gm (Gp (Gf e) hC)
 have u':Un (gP X.stack) fp H2 H3 s2.heap h':=⟨λb o e n hb hx=>(sb.2 b (ne b o e)).trans (u.keep b o e n hb hx),λb o e n hb hx=>by
   obtain⟨sl,q⟩:=u.slot b o e n hb hx;exact⟨sl,(sb.2 b (ne b o e)).trans q⟩,u.free,λb o e hx=>by
   obtain⟨o',q⟩:=u.there b o e hx;exact⟨o',(sb.2 b (ne b o e)).trans q⟩,u.tups,u.frzs,u.tbls⟩
 have hok:k8 X.prog X.w H3 h':=λb ob e=>by
  refine(I4.hok b ob e).stay (λc w' hc q=>(sb.2 c ?_).trans q) (λ_ q=>q) λ_ _ q=>q
  rintro rfl;have hfree:H3 c=none:=I4.free;rcases hc with rfl | hc
  ·rw [hfree] at e; cases e
  ·rw [hfree] at hc; cases hc
 refine I2.call' (s':={s4 with heap:=h'}) (ch:=fp) I4.os u' hok I4.bare λb hb=>?_
 obtain⟨_,f1,_,f3,f4,f5⟩:=f2 b hb;exact⟨f3,f1,f4,f5⟩
theorem fG {s0:G8} {H0:Hp} {C:G_} {fp:List G_} {σ:St} {H:Hp} {s:G8} (I:az (iO X scope cl N s0 H0 fp C) [] σ H s) (hn:∀ b∈fp,H b=none):∀ b∈fp,mv (iO X scope cl N s0 H0 fp C) [] H b:=λb hb=>
 ⟨hn b hb,(I.ok.exf b hb).1,I.ok.exfs b hb,.inl hb,(I.ok.exf b hb).2,λp hp=>absurd hp (by simp [iO])⟩
theorem yW (hc:X.calm=true) (Sc:fJ X scope cl N cap) (hi:PI X tg iter wi) (hg:∀ s0 H0 ex C,PG (iO X scope cl N s0 H0 ex C) tg g) (he:∀ s0 H0 ex C,PE (iO X scope cl N s0 H0 ex C) elt te)
  (hs:∀ x,foldedSetIterable iter X.env x=pure x:=by intro _; rfl):PE X (.ListComp elt [⟨tg,iter,[],0⟩] scope pos) (Al cap wi g te):=by
 intro Hm s σ H Q I h;rw [eval_ListComp];have hcell:∀ y∈scope.names,y.2≠.cell:=λy hy=>by simpa using GX.mp Sc.nocell y hy
 have hnames:∀ y∈scope.names,y.2=.local->scope.names.lookup y.1=some .local:=λy hy e=>by
  have:=GX.mp Sc.names y hy;rw [e] at this
  simpa using this
 refine wpAny_comprehension_free (use:=none) rfl hs Sc.clos Sc.kind hnames (bX (hi Hm s σ H _ I h) λv s1 h1=>bX h1 λitv s2 h2=>?_)
 obtain⟨it,fp,tn,J,H2,e,I2,T,st2,f2,hW⟩:=h2;subst e;refine GC (wpAny_newFunctionEnv hcell (by intro y hy; simp at hy) (λh1 hns hsb=>?_) Sc.kind)
 obtain⟨W,⟨m0,w0⟩,turn⟩:=hW s2.heap.objs.size I2.fresh;dsimp only at hns hsb ⊢
 generalize hD:s2.heap.push {cls:=.type "list",dict:=none,data:=.seq ([]:List G9).toArray}=h1' at hns hsb ⊢
 obtain⟨I3,un3⟩:=nM (tk:=s2.toks+([]:List (Str×G9)).length) Sc I2 f2 (λb hb=>let ⟨o,e,_⟩:=T.obj 0 _ st2 b hb; ⟨o,e⟩) hD hns hsb
 have hC:s2.heap.objs.size<=h1'.objs.size:=by rw [<- hD,GW]; exact Nat.le_succ _
 have k1:∀ b o,s2.heap.get? b=some o->h1.get? b=some o:=λb o e=>by
  have e1:h1'.get? b=some o:=by rw [<- hD]; exact Ga _ e
  exact(hsb.2 b (Gm (Gf e1))).trans (Ga _ e1)
 have st3:tn 0 h1:=T.keep 0 _ _ st2 λb _ o e=>k1 b o e
 have fr3:∀ b∈fp,(bI H2 s2.heap.objs.size (.lst [])) b=none:=λb hb=>by
  obtain⟨o,e,_⟩:=T.obj 0 _ st2 b hb;rw [aD (Gm (Gf e))];exact(f2 b hb).1
 have loop:∀ s3:G8,s3={s2 with heap:=h1,toks:=s2.toks+([]:List (Str×G9)).length}->
   codeAny (model X.prog X.w) X.A (.compLoop (.ListComp elt [⟨tg,iter,[],0⟩] scope pos) 0 (.ref it) (.ref s2.heap.objs.size) (compEnvC scope cl h1'.objs.size X.env))
    (compPost (model X.prog X.w) X.A X.xe none (EP X Hm σ Q) (.ref s2.heap.objs.size) h1'.objs.size) s3:=by
  rintro s3 rfl;refine kq (λn s'=>∃ i σ' H',az (iO X scope cl N {s2 with heap:=h1'} (bI H2 s2.heap.objs.size (.lst [])) fp h1'.objs.size) [] σ' H' s'/\tn i s'.heap/\(∀ b∈fp,H' b=none)/\W i n σ' H') ?_ m0 ⟨0,_,_,I3,st3,fr3,w0⟩
  rintro n s3 ⟨i,σ3,H3,I3,st3,fr3,w3⟩;rcases turn i n σ3 H3 w3 with ⟨stop,qn⟩ | ⟨go,Nn,hN,step⟩
  ·refine bX (T.done (iO X scope cl N {s2 with heap:=h1'} (bI H2 s2.heap.objs.size (.lst [])) fp h1'.objs.size) rfl rfl rfl hc i [] s3 σ3 H3 k7 I3 (fG I3 fr3) st3 stop) λr s4 z9=>?_
   obtain⟨hr,I4⟩:=z9;subst hr;obtain⟨m,hm,_⟩:=I4.loc;exact⟨m,hm,λh' sb=>⟨.ref _,H3,nu Sc I2 f2 un3 I4 hC sb,rfl,qn⟩⟩
  ·refine bX (T.item (iO X scope cl N {s2 with heap:=h1'} (bI H2 s2.heap.objs.size (.lst [])) fp h1'.objs.size) rfl rfl rfl hc i [] s3 σ3 H3 k7 I3 (fG I3 fr3) st3 go) λr s4 z9=>?_
   obtain⟨u,hr,h4⟩:=z9;subst hr;refine bX h4 λ_ s5 z9=>?_
   obtain⟨x,H5,I5,r5,y5,st5,fr5⟩:=z9;have I5':=I5.pinned (fG I5 fr5) (T.obj _ _ st5);refine bX (hg _ _ _ _ _ s5 σ3 H5 x u _ I5' r5 (step x H5 y5)) λ_ s6 z9=>?_
   obtain⟨σ6,H6,I6,q6⟩:=z9;refine bX (he _ _ _ _ _ s6 σ6 H6 _ I6 q6) λuv s7 z9=>?_
   obtain⟨v,H7,I7,r7,ys,hy,hl,q7⟩:=z9;refine bX (jD (X:=iO X scope cl N {s2 with heap:=h1'} (bI H2 s2.heap.objs.size (.lst [])) fp h1'.objs.size) _ s7 σ6 H7 (.ref s2.heap.objs.size) [v] (.ref s2.heap.objs.size) [uv] (λ_ H8=>Nn σ6 H8) I7 rfl (.cons r7 .nil) ⟨_,ys,v,rfl,rfl,hy,hl,q7⟩) λ_ s8 z9=>?_
   obtain⟨_,H8,I8,_,n8⟩:=z9;obtain⟨m',hm,w8⟩:=hN σ6 H8 n8;refine⟨m',hm,i+1,σ6,H8,I8.unpinned,T.keep _ _ _ st5 λb hb o e=>(I8.pin (b,o) (Gq _ (Gq _ (cS hb e)))).1,λb hb=>?_,w8⟩
   obtain⟨o,e,d⟩:=T.obj _ _ st5 b hb;exact(I8.pin (b,o) (Gq _ (Gq _ (cS hb e)))).2.1
 exact codeAny_compStart_list (loop _ rfl) (T.self _ 0 _ _ _ st3 (loop _ rfl))
theorem uY (hc:X.calm=true) (Sc:fJ X scope cl N cap) (hi:PI X tg iter wi) (hg:∀ s0 H0 ex C,PG (iO X scope cl N s0 H0 ex C) tg g) (hcnd:∀ s0 H0 ex C,PT (iO X scope cl N s0 H0 ex C) c tc) (he:∀ s0 H0 ex C,PE (iO X scope cl N s0 H0 ex C) elt te)
  (hs:∀ x,foldedSetIterable iter X.env x=pure x:=by intro _; rfl):PE X (.ListComp elt [⟨tg,iter,[c],0⟩] scope pos) (za cap wi g tc te):=by
 intro Hm s σ H Q I h;rw [eval_ListComp];have hcell:∀ y∈scope.names,y.2≠.cell:=λy hy=>by simpa using GX.mp Sc.nocell y hy
 have hnames:∀ y∈scope.names,y.2=.local->scope.names.lookup y.1=some .local:=λy hy e=>by
  have:=GX.mp Sc.names y hy;rw [e] at this
  simpa using this
 refine wpAny_comprehension_free (use:=none) rfl hs Sc.clos Sc.kind hnames (bX (hi Hm s σ H _ I h) λv s1 h1=>bX h1 λitv s2 h2=>?_)
 obtain⟨it,fp,tn,J,H2,e,I2,T,st2,f2,hW⟩:=h2;subst e;refine GC (wpAny_newFunctionEnv hcell (by intro y hy; simp at hy) (λh1 hns hsb=>?_) Sc.kind)
 obtain⟨W,⟨m0,w0⟩,turn⟩:=hW s2.heap.objs.size I2.fresh;dsimp only at hns hsb ⊢
 generalize hD:s2.heap.push {cls:=.type "list",dict:=none,data:=.seq ([]:List G9).toArray}=h1' at hns hsb ⊢
 obtain⟨I3,un3⟩:=nM (tk:=s2.toks+([]:List (Str×G9)).length) Sc I2 f2 (λb hb=>let ⟨o,e,_⟩:=T.obj 0 _ st2 b hb; ⟨o,e⟩) hD hns hsb
 have hC:s2.heap.objs.size<=h1'.objs.size:=by rw [<- hD,GW]; exact Nat.le_succ _
 have k1:∀ b o,s2.heap.get? b=some o->h1.get? b=some o:=λb o e=>by
  have e1:h1'.get? b=some o:=by rw [<- hD]; exact Ga _ e
  exact(hsb.2 b (Gm (Gf e1))).trans (Ga _ e1)
 have st3:tn 0 h1:=T.keep 0 _ _ st2 λb _ o e=>k1 b o e
 have fr3:∀ b∈fp,(bI H2 s2.heap.objs.size (.lst [])) b=none:=λb hb=>by
  obtain⟨o,e,_⟩:=T.obj 0 _ st2 b hb;rw [aD (Gm (Gf e))];exact(f2 b hb).1
 have loop:∀ s3:G8,s3={s2 with heap:=h1,toks:=s2.toks+([]:List (Str×G9)).length}->
   codeAny (model X.prog X.w) X.A (.compLoop (.ListComp elt [⟨tg,iter,[c],0⟩] scope pos) 0 (.ref it) (.ref s2.heap.objs.size) (compEnvC scope cl h1'.objs.size X.env))
    (compPost (model X.prog X.w) X.A X.xe none (EP X Hm σ Q) (.ref s2.heap.objs.size) h1'.objs.size) s3:=by
  rintro s3 rfl;refine pY (λn s'=>∃ i σ' H',az (iO X scope cl N {s2 with heap:=h1'} (bI H2 s2.heap.objs.size (.lst [])) fp h1'.objs.size) [] σ' H' s'/\tn i s'.heap/\(∀ b∈fp,H' b=none)/\W i n σ' H') ?_ m0 ⟨0,_,_,I3,st3,fr3,w0⟩
  rintro n s3 ⟨i,σ3,H3,I3,st3,fr3,w3⟩;rcases turn i n σ3 H3 w3 with ⟨stop,qn⟩ | ⟨go,Nn,hN,step⟩
  ·refine bX (T.done (iO X scope cl N {s2 with heap:=h1'} (bI H2 s2.heap.objs.size (.lst [])) fp h1'.objs.size) rfl rfl rfl hc i [] s3 σ3 H3 k7 I3 (fG I3 fr3) st3 stop) λr s4 z9=>?_
   obtain⟨hr,I4⟩:=z9;subst hr;obtain⟨m,hm,_⟩:=I4.loc;exact⟨m,hm,λh' sb=>⟨.ref _,H3,nu Sc I2 f2 un3 I4 hC sb,rfl,qn⟩⟩
  ·refine bX (T.item (iO X scope cl N {s2 with heap:=h1'} (bI H2 s2.heap.objs.size (.lst [])) fp h1'.objs.size) rfl rfl rfl hc i [] s3 σ3 H3 k7 I3 (fG I3 fr3) st3 go) λr s4 z9=>?_
   obtain⟨u,hr,h4⟩:=z9;subst hr;refine bX h4 λ_ s5 z9=>?_
   obtain⟨x,H5,I5,r5,y5,st5,fr5⟩:=z9;have I5':=I5.pinned (fG I5 fr5) (T.obj _ _ st5);refine bX (hg _ _ _ _ _ s5 σ3 H5 x u _ I5' r5 (step x H5 y5)) λ_ s6 z9=>?_
   obtain⟨σ6,H6,I6,q6⟩:=z9;have again:∀ {s8:G8} {H8:Hp},az (iO X scope cl N {s2 with heap:=h1'} (bI H2 s2.heap.objs.size (.lst [])) fp h1'.objs.size) ([]++nC fp s5.heap) σ6 H8 s8->Nn σ6 H8->
     ∃ m,m < n/\∃ i σ' H',az (iO X scope cl N {s2 with heap:=h1'} (bI H2 s2.heap.objs.size (.lst [])) fp h1'.objs.size) [] σ' H' s8/\tn i s8.heap/\(∀ b∈fp,H' b=none)/\W i m σ' H':=λ{s8 H8} I8 n8=>by
    obtain⟨m',hm,w8⟩:=hN σ6 H8 n8;refine⟨m',hm,i+1,σ6,H8,I8.unpinned,T.keep _ _ _ st5 λb hb o e=>(I8.pin (b,o) (Gq _ (Gq _ (cS hb e)))).1,λb hb=>?_,w8⟩
    obtain⟨o,e,d⟩:=T.obj _ _ st5 b hb;exact(I8.pin (b,o) (Gq _ (Gq _ (cS hb e)))).2.1
   refine bX (hcnd _ _ _ _ _ s6 σ6 H6 _ I6 q6) λb s6' z9=>?_
   obtain⟨H6',I6',q6'⟩:=z9;cases b with
   | true=>
    rw [if_pos rfl] at q6' ⊢;refine bX (he _ _ _ _ _ s6' σ6 H6' _ I6' q6') λuv s7 z9=>?_
    obtain⟨v,H7,I7,r7,ys,hy,hl,q7⟩:=z9;refine bX (jD (X:=iO X scope cl N {s2 with heap:=h1'} (bI H2 s2.heap.objs.size (.lst [])) fp h1'.objs.size) _ s7 σ6 H7 (.ref s2.heap.objs.size) [v] (.ref s2.heap.objs.size) [uv] (λ_ H8=>Nn σ6 H8) I7 rfl (.cons r7 .nil) ⟨_,ys,v,rfl,rfl,hy,hl,q7⟩) λ_ s8 z9=>?_
    obtain⟨_,H8,I8,_,n8⟩:=z9;exact again I8 n8
   | false=>
    rw [if_neg Gi] at q6' ⊢;exact again I6' q6'
 exact codeAny_compStart_list (loop _ rfl) (T.self _ 0 _ _ _ st3 (loop _ rfl))
end
end L2
namespace DL
open PySem PySem.Spec PyProof.Rows L2
abbrev Fg:=PySem.W.Frag
inductive Ty where
 | non | bool | int | str | tup | lst | dic | verr
def Ty.name:Ty->Hj
 | .non=>"NoneType" | .bool=>"bool" | .int=>"int" | .str=>"str" | .tup=>"tuple" | .lst=>"list" | .dic=>"dict" | .verr=>"ValueError"
inductive D where
 | non | bl (b:Hi) | int (i:Int) | str (x:Str) | tup (ds:List D) | rl (ds:List D) | ref (a:G_) | ty (n:Ty)
def Cs (K:Fg) (H:Hp) (a:G_) (xs:List V):Prop:=
 (∃ o,H a=some (.frz o (.lst xs)))\/∃ (o:Hl) (its:Hh G9) (n:Nat),K.lookup a=some o/\o.cls=.type "list"/\o.dict=none/\o.data=.seq its n/\its.size<=sizeLine/\aW xs its.toList
theorem Cs.sq {K:Fg} {H:Hp} {a:G_} {xs:List V} (h:Cs K H a xs):eu K H a xs:=by
 rcases h with h | h
 ·exact .inl (.inr h)
 ·exact .inr h
mutual
def bJ (K:Fg) (H:Hp):D->V->Prop
 | .non,v=>v=.non
 | .bl b,v=>v=.bl b
 | .int i,v=>v=.int i
 | .str x,v=>v=.str x
 | .tup ds,v=>∃ a xs,v=.ref a/\kU K H a xs/\IsDs K H ds xs
 | .rl ds,v=>∃ a xs,v=.ref a/\Cs K H a xs/\IsDs K H ds xs
 | .ref a,v=>v=.ref a
 | .ty n,v=>v=.ty n.name
def IsDs (K:Fg) (H:Hp):List D->List V->Prop
 | [],vs=>vs=[]
 | d::ds,vs=>∃ v r,vs=v::r/\bJ K H d v/\IsDs K H ds r
end
def Ev:HO->Prop
 | .tup _=>True
 | .frz _ _=>True
 | _=>False
def Kp (H H':Hp):Prop:=∀ a o,H a=some o->Ev o->H' a=some o
theorem Kp.refl (H:Hp):Kp H H:=λ_ _ h _=>h
theorem Kp.trans {H H1 H2:Hp} (a:Kp H H1) (b:Kp H1 H2):Kp H H2:=λc o h i=>b c o (a c o h i) i
theorem Kp.tup {K:Fg} {H H':Hp} {a:G_} {xs:List V} (k:Kp H H') (h:kU K H a xs):kU K H' a xs:=by
 rcases h with (h | ⟨o,h⟩) | h
 ·exact .inl (.inl (k _ _ h trivial))
 ·exact .inl (.inr ⟨o,k _ _ h trivial⟩)
 ·exact .inr h
theorem Kp.fro {K:Fg} {H H':Hp} {a:G_} {xs:List V} (k:Kp H H') (h:Cs K H a xs):Cs K H' a xs:=by
 rcases h with ⟨o,h⟩ | h
 ·exact .inl ⟨o,k _ _ h trivial⟩
 ·exact .inr h
theorem Kp.new {H:Hp} {p:G_} {o:HO} (h:H p=none):Kp H (bI H p o):=λb u e _=>by rw [aD (a8 e h)]; exact e
theorem Kp.mut {H:Hp} {p:G_} {o u:HO} (h:H p=some u) (n:¬ Ev u):Kp H (bI H p o):=λb z e i=>by
 rw [aD (λq=>by subst q; rw [h] at e; cases e; exact n i)]; exact e
mutual
theorem bJ.kp {K:Fg} {H H':Hp} (k:Kp H H'):∀ {d:D} {v:V},bJ K H d v->bJ K H' d v
 | .non,_,h=>by unfold bJ at *; exact h
 | .bl _,_,h=>by unfold bJ at *; exact h
 | .int _,_,h=>by unfold bJ at *; exact h
 | .str _,_,h=>by unfold bJ at *; exact h
 | .ref _,_,h=>by unfold bJ at *; exact h
 | .ty _,_,h=>by unfold bJ at *; exact h
 | .tup ds,_,h=>by
  unfold bJ at*
  obtain⟨a,xs,e,t,r⟩:=h;exact⟨a,xs,e,k.tup t,IsDs.kp k r⟩
 | .rl ds,_,h=>by
  unfold bJ at*
  obtain⟨a,xs,e,t,r⟩:=h;exact⟨a,xs,e,k.fro t,IsDs.kp k r⟩
theorem IsDs.kp {K:Fg} {H H':Hp} (k:Kp H H'):∀ {ds:List D} {vs:List V},IsDs K H ds vs->IsDs K H' ds vs
 | [],_,h=>by unfold IsDs at *; exact h
 | d::ds,_,h=>by
  unfold IsDs at*
  obtain⟨v,r,e,h1,h2⟩:=h;exact⟨v,r,e,bJ.kp k h1,IsDs.kp k h2⟩
end
section
variable {K:Fg} {H:Hp}
theorem isInt {i:Int} {v:V}:bJ K H (.int i) v↔v=.int i:=by unfold bJ; exact Iff.rfl
theorem bE {b:Hi} {v:V}:bJ K H (.bl b) v↔v=.bl b:=by unfold bJ; exact Iff.rfl
theorem gl {b:Str} {v:V}:bJ K H (.str b) v↔v=.str b:=by unfold bJ; exact Iff.rfl
theorem b8 {v:V}:bJ K H .non v↔v=.non:=by unfold bJ; exact Iff.rfl
theorem a_ {a:G_} {v:V}:bJ K H (.ref a) v↔v=.ref a:=by unfold bJ; exact Iff.rfl
theorem Fo {a:Ty} {v:V}:bJ K H (.ty a) v↔v=.ty a.name:=by unfold bJ; exact Iff.rfl
theorem ci {ds:List D} {v:V}:bJ K H (.tup ds) v↔∃ a xs,v=.ref a/\kU K H a xs/\IsDs K H ds xs:=by unfold bJ; exact Iff.rfl
theorem sC {ds:List D} {v:V}:bJ K H (.rl ds) v↔∃ a xs,v=.ref a/\Cs K H a xs/\IsDs K H ds xs:=by unfold bJ; exact Iff.rfl
theorem iE {vs:List V}:IsDs K H [] vs↔vs=[]:=by unfold IsDs; exact Iff.rfl
theorem cy {d:D} {ds:List D} {vs:List V}:IsDs K H (d::ds) vs↔∃ v r,vs=v::r/\bJ K H d v/\IsDs K H ds r:=by
 constructor
 ·intro h; unfold IsDs at h; exact h
 ·intro h; unfold IsDs; exact h
theorem IsDs.nil:IsDs K H [] []:=iE.mpr rfl
theorem IsDs.cons {d:D} {ds:List D} {v:V} {vs:List V} (h1:bJ K H d v) (h2:IsDs K H ds vs):IsDs K H (d::ds) (v::vs):=cy.mpr ⟨v,vs,rfl,h1,h2⟩
theorem IsDs.length:∀ {ds:List D} {vs:List V},IsDs K H ds vs->ds.length=vs.length
 | [],_,h=>by rw [iE.mp h]; rfl
 | d::ds,_,h=>by
  obtain⟨v,r,rfl,_,h2⟩:=cy.mp h;rw [List.length_cons,List.length_cons,IsDs.length h2]
theorem IsDs.get:∀ {ds:List D} {vs:List V} {i:Nat} {d:D},IsDs K H ds vs->ds[i]?=some d->∃ v,vs[i]?=some v/\bJ K H d v
 | [],_,_,_,_,e=>by simp at e
 | c::ds,_,0,d,h,e=>by
  obtain⟨v,r,rfl,h1,h2⟩:=cy.mp h;simp at e;subst e;exact⟨v,rfl,h1⟩
 | c::ds,_,i+1,d,h,e=>by
  obtain⟨v,r,rfl,h1,h2⟩:=cy.mp h;obtain⟨u,q1,q2⟩:=IsDs.get (i:=i) (d:=d) h2 (by simpa using e)
  exact⟨u,by simpa using q1,q2⟩
theorem IsDs.set:∀ {ds:List D} {vs:List V} {d:D} {v:V} (i:Nat),IsDs K H ds vs->bJ K H d v->IsDs K H (ds.set i d) (vs.set i v)
 | [],_,_,_,_,h,_=>by rw [iE.mp h]; exact IsDs.nil
 | c::ds,_,d,v,0,h,hd=>by
  obtain⟨u,r,rfl,h1,h2⟩:=cy.mp h;exact IsDs.cons hd h2
 | c::ds,_,d,v,i+1,h,hd=>by
  obtain⟨u,r,rfl,h1,h2⟩:=cy.mp h;exact IsDs.cons h1 (IsDs.set i h2 hd)
theorem IsDs.append:∀ {ds es:List D} {vs us:List V},IsDs K H ds vs->IsDs K H es us->IsDs K H (ds++es) (vs++us)
 | [],_,_,_,h,h'=>by rw [iE.mp h]; exact h'
 | c::ds,_,_,_,h,h'=>by
  obtain⟨u,r,rfl,h1,h2⟩:=cy.mp h;exact IsDs.cons h1 (IsDs.append h2 h')
theorem IsDs.drop:∀ {ds:List D} {vs:List V} (n:Nat),IsDs K H ds vs->IsDs K H (ds.drop n) (vs.drop n)
 | _,_,0,h=>h
 | [],_,n+1,h=>by rw [iE.mp h]; exact IsDs.nil
 | c::ds,_,n+1,h=>by
  obtain⟨u,r,rfl,h1,h2⟩:=cy.mp h;exact IsDs.drop n h2
theorem IsDs.take:∀ {ds:List D} {vs:List V} (n:Nat),IsDs K H ds vs->IsDs K H (ds.take n) (vs.take n)
 | _,_,0,h=>by simpa using IsDs.nil
 | [],_,n+1,h=>by rw [iE.mp h]; exact IsDs.nil
 | c::ds,_,n+1,h=>by
  obtain⟨u,r,rfl,h1,h2⟩:=cy.mp h;exact IsDs.cons h1 (IsDs.take n h2)
end
def Dc (ks:List Int):Int:=reduceHash (Builtin.Tuple.tupleHashOf (ks.map hashInt))
def eT (x:List Int×G_×G9):Hk:=⟨Dc x.1,.ref x.2.1,x.2.2⟩
def FO (es:Hh Hk) (ep:Nat):Hl:={cls:=.type "dict",dict:=none,data:=.dict es ep,slots:=#[]}
def FJ (a:G_) (xs:List (List Int×G_×G9)) (ep:Nat):Hf->Prop:=λh=>(a == sysModules)=false/\xs.length<=sizeLine/\(xs.map (·.1)).Nodup/\h.get? a=some (FO (xs.map eT).toArray ep)
inductive Em where
 | dT (kvs:List (List Int×D)) (ep:Nat)
 | dK (kvs:List (pJ×D))
abbrev Er (K:Fg) (H:Hp):List (List Int×D)->List (List Int×G_×G9)->Prop:=Paired λp q=>p.1=q.1/\kU K H q.2.1 (p.1.map V.int)/\∃ v,bi v q.2.2/\bJ K H p.2 v
def qc (K:Fg) (H:Hp) (a:G_):Em->Prop
 | .dT kvs ep=>∃ xs,H a=some (.ext (FJ a xs ep))/\Er K H kvs xs
 | .dK kvs=>∃ ys,H a=some (.dK ys)/\Paired (λ(p:pJ×D) (q:pJ×V)=>p.1=q.1/\bJ K H p.2 q.2) kvs ys
theorem Er.kp {K:Fg} {H H':Hp} {kvs:List (List Int×D)} {xs:List (List Int×G_×G9)} (r:Er K H kvs xs) (k:Kp H H'):Er K H' kvs xs:=
 Paired.mapP r λ_ _ z9=>by obtain⟨a,b,v,c,d⟩:=z9; exact⟨a,k.tup b,v,c,d.kp k⟩
theorem qc.there {K:Fg} {H:Hp} {a:G_} {g:Em} (h:qc K H a g):∃ o,H a=some o/\¬ Ev o:=by
 cases g with
 | dT kvs ep=>obtain⟨xs,e,_⟩:=h; exact⟨_,e,λz=>z⟩
 | dK kvs=>obtain⟨xs,e,_⟩:=h; exact⟨_,e,λz=>z⟩
theorem qc.step {K:Fg} {H H':Hp} {a:G_} {g:Em} (h:qc K H a g) (k:Kp H H') (s:H' a=H a):qc K H' a g:=by
 cases g with
 | dT kvs ep=>obtain⟨xs,e,r⟩:=h; exact⟨xs,s.trans e,r.kp k⟩
 | dK kvs=>obtain⟨xs,e,r⟩:=h; exact⟨xs,s.trans e,Paired.mapP r λ_ _ z=>⟨z.1,z.2.kp k⟩⟩
inductive DO where
 | lst (ds:List D)
 | dic
 | exc (C:G_)
 | fn (φ:Hp->Prop)
 | tbl (ψ:Hp->Hh G9->Prop)
 | gen (g:Em)
abbrev DH:=G_->Ha DO
def put (S:DH) (a:G_) (o:DO):DH:=λb=>if b=a then some o else S b
theorem ao {S:DH} {a:G_} {o:DO}:put S a o a=some o:=by unfold put; rw [if_pos rfl]
theorem dQ {S:DH} {a b:G_} {o:DO} (h:b≠a):put S a o b=S b:=by unfold put; rw [if_neg h]
theorem uC {S:DH} {a:G_} {o u:DO}:put (put S a o) a u=put S a u:=by funext b; unfold put; split <;> rfl
theorem sK {S:DH} {a p:G_} {o:DO} (h:S a=some o) (h':S p=none):a≠p:=by intro e; subst e; rw [h] at h'; cases h'
def Fc (K:Fg) (H:Hp) (a:G_):DO->Prop
 | .lst ds=>∃ xs,H a=some (.lst xs)/\IsDs K H ds xs
 | .dic=>∃ kvs,H a=some (.dK kvs)
 | .exc C=>∃ o u,H a=some (.frz o u)/\o.cls=.ref C
 | .fn φ=>(∃ o u,H a=some (.frz o u))/\∀ H',Kp H H'->φ H'
 | .tbl ψ=>∃ ps,H a=some (.tbl ps)/\∀ H',Kp H H'->ψ H' ps
 | .gen g=>qc K H a g
def Hs (K:Fg) (H:Hp) (S:DH):Prop:=∀ a o,S a=some o->Fc K H a o
section
variable {K:Fg} {H H':Hp} {S:DH} {p:G_}
theorem Hs.lst {ds:List D} (h:Hs K H S) (e:S p=some (.lst ds)):∃ xs,H p=some (.lst xs)/\IsDs K H ds xs:=h p _ e
theorem Hs.free (h:Hs K H S) (e:H p=none):S p=none:=by
 cases q:S p with
 | none=>rfl
 | some o=>
  have z:=h p o q;cases o with
  | lst ds=>obtain⟨xs,z,_⟩:=z; rw [e] at z; cases z
  | dic=>obtain⟨xs,z⟩:=z; rw [e] at z; cases z
  | exc C=>obtain⟨_,_,z,_⟩:=z; rw [e] at z; cases z
  | fn φ=>obtain⟨⟨_,_,z⟩,_⟩:=z; rw [e] at z; cases z
  | tbl ψ=>obtain⟨_,z,_⟩:=z; rw [e] at z; cases z
  | gen g=>obtain⟨_,z,_⟩:=qc.there z; rw [e] at z; cases z
theorem Hs.step (h:Hs K H S) (k:Kp H H') (s:∀ a o,S a=some o->H' a=H a):Hs K H' S:=λa o e=>by
 have z:=h a o e;cases o with
 | lst ds=>obtain⟨xs,z,r⟩:=z; exact⟨xs,by rw [s a _ e]; exact z,r.kp k⟩
 | dic=>obtain⟨xs,z⟩:=z; exact⟨xs,by rw [s a _ e]; exact z⟩
 | exc C=>obtain⟨x,y,z,r⟩:=z; exact⟨x,y,by rw [s a _ e]; exact z,r⟩
 | fn φ=>obtain⟨⟨x,y,z⟩,r⟩:=z; exact⟨⟨x,y,by rw [s a _ e]; exact z⟩,λH2 k2=>r H2 (k.trans k2)⟩
 | tbl ψ=>obtain⟨ps,z,r⟩:=z; exact⟨ps,by rw [s a _ e]; exact z,λH2 k2=>r H2 (k.trans k2)⟩
 | gen g=>exact qc.step z k (s a _ e)
theorem Hs.new {o:HO} (h:Hs K H S) (e:H p=none):Hs K (bI H p o) S:=h.step (Kp.new e) λa u q=>by
 rw [aD]; intro z; subst z; rw [h.free e] at q; cases q
theorem Hs.newL {xs:List V} {ds:List D} (h:Hs K H S) (e:H p=none) (r:IsDs K H ds xs):Hs K (bI H p (.lst xs)) (put S p (.lst ds)):=λa o q=>by
 by_cases z:a=p
 ·subst z;rw [ao] at q;cases q;exact⟨xs,cA,r.kp (Kp.new e)⟩
 ·rw [dQ z] at q;exact(h.new e) a o q
theorem Hs.setL {xs ys:List V} {ds:List D} (h:Hs K H S) (e:H p=some (.lst xs)) (r:IsDs K H ds ys):Hs K (bI H p (.lst ys)) (put S p (.lst ds)):=λa o q=>by
 have k:Kp H (bI H p (.lst ys)):=Kp.mut e (λz=>z)
 by_cases z:a=p
 ·subst z;rw [ao] at q;cases q;exact⟨ys,cA,r.kp k⟩
 ·rw [dQ z] at q;have w:=h a o q;cases o with
  | lst ds=>obtain⟨xs,w,r⟩:=w; exact⟨xs,by rw [aD z]; exact w,r.kp k⟩
  | dic=>obtain⟨xs,w⟩:=w; exact⟨xs,by rw [aD z]; exact w⟩
  | exc C=>obtain⟨x,y,w,r⟩:=w; exact⟨x,y,by rw [aD z]; exact w,r⟩
  | fn φ=>obtain⟨⟨x,y,w⟩,r⟩:=w; exact⟨⟨x,y,by rw [aD z]; exact w⟩,λH2 k2=>r H2 (k.trans k2)⟩
  | tbl ψ=>obtain⟨ps,w,r⟩:=w; exact⟨ps,by rw [aD z]; exact w,λH2 k2=>r H2 (k.trans k2)⟩
  | gen g=>exact qc.step w k (aD z)
end
abbrev Lo:=List (Ha D)
def Lc (K:Fg) (H:Hp):Lo->L2.St->Prop
 | [],σ=>σ=[]
 | none::L,σ=>∃ x r,σ=x::r/\Lc K H L r
 | some d::L,σ=>∃ v r,σ=some v::r/\bJ K H d v/\Lc K H L r
section
variable {K:Fg} {H H':Hp}
theorem Lc.kp (k:Kp H H'):∀ {L:Lo} {σ:L2.St},Lc K H L σ->Lc K H' L σ
 | [],_,h=>h
 | none::L,_,h=>by
  obtain⟨x,r,e,h⟩:=h;exact⟨x,r,e,Lc.kp k h⟩
 | some d::L,_,h=>by
  obtain⟨v,r,e,h1,h⟩:=h;exact⟨v,r,e,h1.kp k,Lc.kp k h⟩
theorem Lc.get:∀ {L:Lo} {σ:L2.St} {i:Nat} {d:D},Lc K H L σ->L[i]?=some (some d)->∃ v,σ[i]?=some (some v)/\bJ K H d v
 | [],_,_,_,_,e=>by simp at e
 | none::L,_,0,_,_,e=>by simp at e
 | some c::L,_,0,d,h,e=>by
  obtain⟨v,r,rfl,h1,h⟩:=h;simp at e;subst e;exact⟨v,rfl,h1⟩
 | none::L,_,i+1,d,h,e=>by
  obtain⟨x,r,rfl,h⟩:=h;obtain⟨u,q1,q2⟩:=Lc.get (i:=i) (d:=d) h (by simpa using e)
  exact⟨u,by simpa using q1,q2⟩
 | some c::L,_,i+1,d,h,e=>by
  obtain⟨v,r,rfl,_,h⟩:=h;obtain⟨u,q1,q2⟩:=Lc.get (i:=i) (d:=d) h (by simpa using e)
  exact⟨u,by simpa using q1,q2⟩
theorem Lc.set {d:D} {v:V} (hd:bJ K H d v):∀ {L:Lo} {σ:L2.St} (i:Nat),Lc K H L σ->Lc K H (L.set i (some d)) (σ.set i (some v))
 | [],_,_,h=>by
  have e:_=[]:=h;subst e;exact rfl
 | none::L,_,0,h=>by
  obtain⟨x,r,rfl,h⟩:=h;exact⟨v,r,rfl,hd,h⟩
 | some c::L,_,0,h=>by
  obtain⟨x,r,rfl,_,h⟩:=h;exact⟨v,r,rfl,hd,h⟩
 | none::L,_,i+1,h=>by
  obtain⟨x,r,rfl,h⟩:=h;exact⟨x,r.set i (some v),rfl,Lc.set hd i h⟩
 | some c::L,_,i+1,h=>by
  obtain⟨x,r,rfl,h1,h⟩:=h;exact⟨x,r.set i (some v),rfl,h1,Lc.set hd i h⟩
theorem Lc.none:∀ (n:Nat),Lc K H (List.replicate n .none) (List.replicate n .none)
 | 0=>rfl
 | n+1=>⟨_,_,rfl,Lc.none n⟩
theorem Lc.start:∀ {ds:List D} {vs:List V} (n:Nat),IsDs K H ds vs->Lc K H (ds.map some++List.replicate n .none) (vs.map some++List.replicate n .none)
 | [],_,n,h=>by rw [iE.mp h]; exact Lc.none n
 | d::ds,_,n,h=>by
  obtain⟨v,r,rfl,h1,h2⟩:=cy.mp h;exact⟨v,_,rfl,h1,Lc.start n h2⟩
end
abbrev DK:=D->DH->Prop
abbrev DE:=Lo->DH->DK->Prop
abbrev DT:=Lo->DH->(Hi->DH->Prop)->Prop
abbrev DA:=Lo->DH->(List D->DH->Prop)->Prop
structure jd where
 nx:Lo->DH->Prop
 rt:DK
 bk:Lo->DH->Prop:=λ_ _=>False
 ct:Lo->DH->Prop:=λ_ _=>False
abbrev DS:=jd->Lo->DH->Prop
def up (K:Fg) (g:DE):TE:=fun σ H Q=>∃ L S k,Lc K H L σ/\Hs K H S/\g L S k/\∀ d S' v H',k d S'->Kp H H'->Hs K H' S'->bJ K H' d v->Q v H'
def tI (K:Fg) (g:DT):TT:=fun σ H Q=>∃ L S k,Lc K H L σ/\Hs K H S/\g L S k/\∀ b S' H',k b S'->Kp H H'->Hs K H' S'->Q b H'
def sh (K:Fg) (g:DA):TA:=fun σ H Q=>∃ L S k,Lc K H L σ/\Hs K H S/\g L S k/\∀ ds S' vs H',k ds S'->Kp H H'->Hs K H' S'->IsDs K H' ds vs->Q vs H'
structure yu (K:Fg) (H:Hp) (M:jd) (N:fo):Prop where
 nx:∀ L S σ H',M.nx L S->Kp H H'->Lc K H' L σ->Hs K H' S->N.nx σ H'
 rt:∀ d S v H',M.rt d S->Kp H H'->Hs K H' S->bJ K H' d v->N.rt v H'
 bk:∀ L S σ H',M.bk L S->Kp H H'->Lc K H' L σ->Hs K H' S->N.bk σ H'
 ct:∀ L S σ H',M.ct L S->Kp H H'->Lc K H' L σ->Hs K H' S->N.ct σ H'
theorem yu.kp {K:Fg} {H H1:Hp} {M:jd} {N:fo} (r:yu K H M N) (k:Kp H H1):yu K H1 M N:=
 ⟨λL S σ H' h k'=>r.nx L S σ H' h (k.trans k'),λd S v H' h k'=>r.rt d S v H' h (k.trans k'),λL S σ H' h k'=>r.bk L S σ H' h (k.trans k'),λL S σ H' h k'=>r.ct L S σ H' h (k.trans k')⟩
def xz (K:Fg) (g:DS):TS:=λN σ H=>∃ L S M,Lc K H L σ/\Hs K H S/\g M L S/\yu K H M N
theorem PE.imp {X:Cx} {e:Hb} {t t':TE} (h:PE X e t) (i:∀ σ H Q,t' σ H Q->t σ H Q):PE X e t':=λHm s σ H Q I q=>h Hm s σ H Q I (i σ H Q q)
theorem PT.imp {X:Cx} {e:Hb} {t t':TT} (h:PT X e t) (i:∀ σ H Q,t' σ H Q->t σ H Q):PT X e t':=λHm s σ H Q I q=>h Hm s σ H Q I (i σ H Q q)
theorem PW.imp {X:Cx} {e:Hb} {t t':TT} (h:PW X e t) (i:∀ σ H Q,t' σ H Q->t σ H Q):PW X e t':=λw Hm s σ H Q I q=>h w Hm s σ H Q I (i σ H Q q)
theorem PA.imp {X:Cx} {e:List Hb} {t t':TA} (h:PA X e t) (i:∀ σ H Q,t' σ H Q->t σ H Q):PA X e t':=λpos Hm s σ H Q I q=>h pos Hm s σ H Q I (i σ H Q q)
theorem PS.imp {X:Cx} {e:Hg} {t t':TS} (h:PS X e t) (i:∀ N σ H,t' N σ H->t N σ H):PS X e t':=λHm s σ H Q I q=>h Hm s σ H Q I (i Q σ H q)
theorem mV.imp {X:Cx} {e:List Hg} {t t':TS} (h:mV X e t) (i:∀ N σ H,t' N σ H->t N σ H):mV X e t':=λHm s σ H Q I q=>h Hm s σ H Q I (i Q σ H q)
theorem up.go {K:Fg} {g:DE} {σ:L2.St} {H:Hp} {Q:VK} {L:Lo} {S:DH} {k:DK} (hL:Lc K H L σ) (hS:Hs K H S) (h:g L S k)
  (n:∀ d S' v H',k d S'->Kp H H'->Lc K H' L σ->Hs K H' S'->bJ K H' d v->Q v H'):up K g σ H Q:=
 ⟨L,S,k,hL,hS,h,λd S' v H' a b c e=>n d S' v H' a b (hL.kp b) c e⟩
theorem tI.go {K:Fg} {g:DT} {σ:L2.St} {H:Hp} {Q:Hi->Hp->Prop} {L:Lo} {S:DH} {k:Hi->DH->Prop} (hL:Lc K H L σ) (hS:Hs K H S) (h:g L S k)
  (n:∀ b S' H',k b S'->Kp H H'->Lc K H' L σ->Hs K H' S'->Q b H'):tI K g σ H Q:=
 ⟨L,S,k,hL,hS,h,λb S' H' a c e=>n b S' H' a c (hL.kp c) e⟩
theorem sh.go {K:Fg} {g:DA} {σ:L2.St} {H:Hp} {Q:List V->Hp->Prop} {L:Lo} {S:DH} {k:List D->DH->Prop} (hL:Lc K H L σ) (hS:Hs K H S) (h:g L S k)
  (n:∀ ds S' vs H',k ds S'->Kp H H'->Lc K H' L σ->Hs K H' S'->IsDs K H' ds vs->Q vs H'):sh K g σ H Q:=
 ⟨L,S,k,hL,hS,h,λd S' v H' a b c e=>n d S' v H' a b (hL.kp b) c e⟩
section
variable {X:Cx} {a b c:Hb} {ga gb gc:DE} {pos:Pos}
def oC (i:Nat):DE:=λL S k=>match L[i]? with
 | some (some d)=>k d S
 | _=>False
def dC (d:D):DE:=λ_ S k=>k d S
theorem Cv {e:Hb} {d:D} {v:V} (h:PE X e (tC v)) (hd:∀ H,bJ X.K H d v):PE X e (up X.K (dC d)):=
 PE.imp h fun σ H Q z9=>by obtain⟨L,S,k,hL,hS,h,n⟩:=z9; exact n d S v H h (Kp.refl H) hS (hd H)
def Af:Hb->Hi
 | .Starred _ _=>true
 | _=>false
theorem ck {a:Hb} {es:List Hb} {env:Env} (h:Af a=false):starEach (a::es) env=(false,eval a env)::starEach es env:=by
 cases a <;> first | rfl | cases h
theorem eQ {pos:Pos} {env:Env}:∀ {es:List Hb},(es.all λe=>!Af e)=true->(backTo pos (starEach es env)).any (·.1)=false
 | [],_=>rfl
 | e::es,h=>by
  rw [List.all_cons,GP] at h;rw [ck (by simpa using h.1)]
  exact eQ h.2
def zD:DA:=λ_ S k=>k [] S
def lX (g:DE) (t:DA):DA:=λL S k=>g L S λd S1=>t L S1 λds S2=>k (d::ds) S2
def Dp (t:DA):DE:=λL S k=>t L S λds S1=>ds.length<=sizeLine/\k (.tup ds) S1
def Fa (t:DA):DE:=λL S k=>t L S λds S1=>ds.length<=sizeLine/\∀ p,S1 p=none->k (.ref p) (put S1 p (.lst ds))
abbrev D2:=D->D->DH->DK->Prop
def iM (K:Fg) (r:D2):R2:=λx y H Q=>∃ d e S k,bJ K H d x/\bJ K H e y/\Hs K H S/\r d e S k/\∀ d' S' v H',k d' S'->Kp H H'->Hs K H' S'->bJ K H' d' v->Q v H'
def BJ (r:D2) (ga gb:DE):DE:=λL S k=>ga L S λx S1=>gb L S1 λy S2=>r x y S2 k
theorem pQ {K:Fg} {r:D2}:∀ σ H Q,up K (BJ r ga gb) σ H Q->Dm (iM K r) (up K ga) (up K gb) σ H Q:=fun σ H Q ⟨L,S,k,hL,hS,h,n⟩=>
 up.go hL hS h λd S1 v H1 h1 k1 hL1 hS1 i1=>up.go hL1 hS1 h1 λe S2 u H2 h2 k2 hL2 hS2 i2=>
  ⟨d,e,S2,k,i1.kp k2,i2,hS2,h2,λd' S' v H' q k3 z1 z2=>n d' S' v H' q (k1.trans (k2.trans k3)) z1 z2⟩
abbrev D1:=D->DH->DK->Prop
def FE (K:Fg) (r:D1):V->Hp->VK->Prop:=λx H Q=>∃ d S k,bJ K H d x/\Hs K H S/\r d S k/\∀ d' S' v H',k d' S'->Kp H H'->Hs K H' S'->bJ K H' d' v->Q v H'
def Fs (r:D1) (ga:DE):DE:=λL S k=>ga L S λx S1=>r x S1 k
def w9 (g:DE):DT:=λL S k=>g L S λd S1=>match d with
 | .bl c=>k c S1
 | _=>False
theorem sj {K:Fg} {g:DE}:∀ σ H Q,tI K (w9 g) σ H Q->Am (up K g) σ H Q:=fun σ H Q ⟨L,S,k,hL,hS,h,n⟩=>
 up.go hL hS h λd S1 v H1 h1 k1 hL1 hS1 i1=>by
  cases d with
  | bl c=>
   have e:=bE.mp i1;subst e;exact⟨c,rfl,n c S1 H1 h1 k1 hS1⟩
  | _=>exact(show False from h1).elim
variable {tA tB':DT} {bY:List Hb}
def CL (t u:DT):DT:=λL S k=>t L S λc S1=>if c=true then u L S1 k else k false S1
def ES (t u:DT):DT:=λL S k=>t L S λc S1=>if c=true then k true S1 else u L S1 k
def CY (t:DT):DT:=λL S k=>t L S λc S1=>k (!c) S1
def CS (ga gb:DE):DE:=λL S k=>ga L S λx S1=>match x with
 | .bl c=>if c=true then gb L S1 k else k (.bl false) S1
 | _=>False
def F3 (t:DT) (ga gb:DE):DE:=λL S k=>t L S λc S1=>if c=true then ga L S1 k else gb L S1 k
end
section
variable {X:Cx}
theorem kj {K:Fg} {H:Hp} {S:DH} {k:DK} {Q:VK} {d:D} {v:V} (n:∀ d' S' v H',k d' S'->Kp H H'->Hs K H' S'->bJ K H' d' v->Q v H') (hS:Hs K H S) (h:k d S) (i:bJ K H d v):Q v H:=n d S v H h (Kp.refl H) hS i
def Cu (C:Int->Int->Prop) (g:Int->Int->D):D2:=λd e S k=>match d,e with
 | .int i,.int j=>C i j/\k (g i j) S
 | _,_=>False
theorem xQ {f:G9->G9->Sem G9} {C:Int->Int->Prop} {g:Int->Int->D} {gV:Int->Int->V} (ho:eU X f (rI C gV)) (hg:∀ i j H,bJ X.K H (g i j) (gV i j)):eU X f (iM X.K (Cu C g)):=by
 intro Hm s σ H x y v u Q I rx ry h;obtain⟨d,e,S,k,i1,i2,hS,r,n⟩:=h;cases d with
 | int i=>
  cases e with
  | int j=>
   have e1:=isInt.mp i1;have e2:=isInt.mp i2;subst e1;subst e2;exact ho Hm s σ H _ _ v u Q I rx ry ⟨i,j,rfl,rfl,r.1,kj n hS r.2 (hg i j H)⟩
  | _=>exact(show False from r).elim
 | _=>exact(show False from r).elim
def vI (g:Int->Int->D):D2:=λd e S k=>match d,e with
 | .int i,.int j=>k (g i j) S
 | _,_=>False
theorem rW {f:G9->G9->Sem G9} {g:Int->Int->D} {gV:Int->Int->V} (ho:eU X f (yC gV)) (hg:∀ i j H,bJ X.K H (g i j) (gV i j)):eU X f (iM X.K (vI g)):=by
 intro Hm s σ H x y v u Q I rx ry h;obtain⟨d,e,S,k,i1,i2,hS,r,n⟩:=h;cases d with
 | int i=>
  cases e with
  | int j=>
   have e1:=isInt.mp i1;have e2:=isInt.mp i2;subst e1;subst e2;exact ho Hm s σ H _ _ v u Q I rx ry ⟨i,j,rfl,rfl,kj n hS r (hg i j H)⟩
  | _=>exact(show False from r).elim
 | _=>exact(show False from r).elim
def mZ (i j:Int):Prop:=j≠0/\j.natAbs.log2 < 9000
abbrev Fl:D2:=vI λi j=>.int (i - j)
abbrev Du:D2:=Cu IntMulOk λi j=>.int (i*j)
abbrev EF:D2:=Cu mZ λi j=>.int (i.fdiv j)
abbrev EW:D2:=Cu (λ_ j=>j≠0) λi j=>.int (i.fmod j)
abbrev EI:D2:=Cu vD λi j=>.int (i ^ j.toNat)
abbrev Ey:D2:=Cu vD λi j=>.int (i*2 ^ j.toNat)
abbrev FW:D2:=vI λi j=>.bl (decide (i < j))
abbrev FT:D2:=vI λi j=>.bl (decide (i<=j))
abbrev FQ:D2:=vI λi j=>.bl (decide (j < i))
abbrev FU:D2:=vI λi j=>.bl (decide (j<=i))
theorem kR:eU X (binaryOp .Sub) (iM X.K Fl):=rW AV λ_ _ _=>isInt.mpr rfl
theorem b5:eU X (binaryOp .Mult) (iM X.K Du):=xQ (C:=IntMulOk) (gV:=λi j=>.int (i*j)) (Dx λ_ _ _ _ _ _ _ hc q=>mul_int q hc) λ_ _ _=>isInt.mpr rfl
theorem iF:eU X (binaryOp .FloorDiv) (iM X.K EF):=xQ (C:=mZ) (gV:=λi j=>.int (i.fdiv j)) (Dx λ_ _ _ _ _ _ _ hc q=>floordiv_int hc.1 q (.inl (PyProof.noPylong_of_log2 hc.2))) λ_ _ _=>isInt.mpr rfl
theorem lS:eU X (binaryOp .Mod) (iM X.K EW):=xQ yA λ_ _ _=>isInt.mpr rfl
theorem z_:eU X (binaryOp .Pow) (iM X.K EI):=xQ Co λ_ _ _=>isInt.mpr rfl
theorem DM:eU X (binaryOp .LShift) (iM X.K Ey):=xQ BE λ_ _ _=>isInt.mpr rfl
theorem qG:eU X (compareOp .Lt) (iM X.K FW):=rW DW λ_ _ _=>bE.mpr rfl
theorem Ei:eU X (compareOp .LtE) (iM X.K FT):=rW Dv λ_ _ _=>bE.mpr rfl
theorem xf:eU X (compareOp .Gt) (iM X.K FQ):=rW CI λ_ _ _=>bE.mpr rfl
theorem Bx:eU X (compareOp .GtE) (iM X.K FU):=rW C_ λ_ _ _=>bE.mpr rfl
def Eu:D2:=λd e S k=>match d,e with
 | .int i,.int j=>k (.int (i+j)) S
 | .str x,.str y=>x.length+y.length<=sizeLine/\k (.str (x++y)) S
 | .tup xs,.tup ys=>xs≠[]/\ys≠[]/\xs.length+ys.length<=sizeLine/\k (.tup (xs++ys)) S
 | .ref a,.ref b=>∃ xs ys,S a=some (.lst xs)/\S b=some (.lst ys)/\xs.length+ys.length<=sizeLine/\∀ p,S p=none->k (.ref p) (put S p (.lst (xs++ys)))
 | _,_=>False
theorem o7 {K:Fg} {H:Hp} {ds:List D} {vs:List V} (i:IsDs K H ds vs) (h:ds≠[]):vs≠[]:=by
 intro e;subst e;have:=i.length;exact h (G7.mp this)
theorem dJ:eU X (binaryOp .Add) (iM X.K Eu):=by
 intro Hm s σ H x y v u Q I rx ry h;obtain⟨d,e,S,k,i1,i2,hS,r,n⟩:=h;cases d with
 | int i=>
  cases e with
  | int j=>
   have e1:=isInt.mp i1;have e2:=isInt.mp i2;subst e1;subst e2;exact BN Hm s σ H _ _ v u Q I rx ry ⟨i,j,rfl,rfl,kj n hS r (isInt.mpr rfl)⟩
  | _=>exact(show False from r).elim
 | str i=>
  cases e with
  | str j=>
   have e1:=gl.mp i1;have e2:=gl.mp i2;subst e1;subst e2;exact tS Hm s σ H _ _ v u Q I rx ry ⟨i,j,rfl,rfl,r.1,kj n hS r.2 (gl.mpr rfl)⟩
  | _=>exact(show False from r).elim
 | tup xs=>
  cases e with
  | tup ys=>
   obtain⟨a,vs,rfl,t1,j1⟩:=ci.mp i1;obtain⟨b,us,rfl,t2,j2⟩:=ci.mp i2;obtain⟨h1,h2,h3,r⟩:=r;refine yH Hm s σ H _ _ v u Q I rx ry ⟨a,b,vs,us,rfl,rfl,t1,t2,o7 j1 h1,by rw [<- j1.length,<- j2.length]; exact h3,λz=>absurd z (o7 j2 h2),λ_ p hp=>?_⟩
   have kp:Kp H (bI H p (.tup (vs++us))):=Kp.new hp;exact n _ S _ _ r kp (hS.new hp) (ci.mpr ⟨p,_,rfl,kU.of cA,(j1.append j2).kp kp⟩)
  | _=>exact(show False from r).elim
 | ref a=>
  cases e with
  | ref b=>
   have e1:=a_.mp i1;have e2:=a_.mp i2;subst e1;subst e2;obtain⟨xs,ys,h1,h2,h3,r⟩:=r;obtain⟨vs,q1,j1⟩:=hS.lst h1;obtain⟨us,q2,j2⟩:=hS.lst h2;refine BP Hm s σ H _ _ v u Q I rx ry ⟨a,b,vs,us,rfl,rfl,q1,q2,by rw [<- j1.length,<- j2.length]; exact h3,λp hp=>?_⟩
   exact n _ _ _ _ (r p (hS.free hp)) (Kp.new hp) (hS.newL hp (j1.append j2)) (a_.mpr rfl)
  | _=>exact(show False from r).elim
 | _=>exact(show False from r).elim
def Ct:D->D->Ha Hi
 | .int i,.int j=>some (decide (i=j))
 | .bl i,.bl j=>some (decide (i=j))
 | .str i,.str j=>some (decide (i=j))
 | _,_=>none
def FG:D2:=λd e S k=>match Ct d e with
 | some b=>k (.bl b) S
 | none=>False
def Fv:D2:=λd e S k=>match Ct d e with
 | some b=>k (.bl (!b)) S
 | none=>False
theorem Aa {K:Fg} {H:Hp} {d e:D} {x y:V} {b:Hi} (h:Ct d e=some b) (i1:bJ K H d x) (i2:bJ K H e y):Cq x y=true/\decide (x=y)=b:=by
 unfold Ct at h
 split at h
 ·have e1:=isInt.mp i1;have e2:=isInt.mp i2;subst e1; subst e2
  cases h;exact⟨rfl,by simp⟩
 ·have e1:=bE.mp i1;have e2:=bE.mp i2;subst e1; subst e2
  cases h;exact⟨rfl,by simp⟩
 ·have e1:=gl.mp i1;have e2:=gl.mp i2;subst e1; subst e2
  cases h;exact⟨rfl,by simp⟩
 ·cases h
theorem kZ:eU X (compareOp .Eq) (iM X.K FG):=by
 intro Hm s σ H x y v u Q I rx ry h;obtain⟨d,e,S,k,i1,i2,hS,r,n⟩:=h;unfold FG at r;cases q:Ct d e with
 | none=>rw [q] at r; exact r.elim
 | some b=>
  rw [q] at r;obtain⟨h1,h2⟩:=Aa q i1 i2;exact CO Hm s σ H _ _ v u Q I rx ry ⟨h1,by rw [h2]; exact kj n hS r (bE.mpr rfl)⟩
theorem D_:eU X (compareOp .NotEq) (iM X.K Fv):=by
 intro Hm s σ H x y v u Q I rx ry h;obtain⟨d,e,S,k,i1,i2,hS,r,n⟩:=h;unfold Fv at r;cases q:Ct d e with
 | none=>rw [q] at r; exact r.elim
 | some b=>
  rw [q] at r;obtain⟨h1,h2⟩:=Aa q i1 i2;exact Ef Hm s σ H _ _ v u Q I rx ry ⟨h1,by rw [h2]; exact kj n hS r (bE.mpr rfl)⟩
def td:D->Hi
 | .non=>true
 | _=>false
def Fp:D2:=λd e S k=>match d,e with
 | .bl c,.bl b=>k (.bl (c == b)) S
 | d,.non=>k (.bl (td d)) S
 | _,_=>False
def yj:D2:=λd e S k=>match d,e with
 | .bl c,.bl b=>k (.bl (!(c == b))) S
 | d,.non=>k (.bl (!td d)) S
 | _,_=>False
theorem sr {K:Fg} {H:Hp} {d:D} {x:V} (i:bJ K H d x):decide (x=.non)=td d:=by
 cases d with
 | non=>rw [b8.mp i]; rfl
 | bl b=>rw [bE.mp i]; rfl
 | int b=>rw [isInt.mp i]; rfl
 | str b=>rw [gl.mp i]; rfl
 | ref b=>rw [a_.mp i]; rfl
 | ty b=>rw [Fo.mp i]; rfl
 | tup b=>obtain⟨a,xs,rfl,_⟩:=ci.mp i; rfl
 | rl b=>obtain⟨a,xs,rfl,_⟩:=sC.mp i; rfl
theorem sP:eU X (compareOp .Is) (iM X.K Fp):=by
 intro Hm s σ H x y v u Q I rx ry h;obtain⟨d,e,S,k,i1,i2,hS,r,n⟩:=h;unfold Fp at r
 split at r
 ·rename_i c b
  have e1:=bE.mp i1;have e2:=bE.mp i2;subst e1; subst e2
  cases rx; cases ry
  exact is_bool ⟨.bl _,H,I,rfl,kj n hS r (bE.mpr rfl)⟩
 ·have e2:=b8.mp i2;exact Bm Hm s σ H _ _ v u Q I rx ry ⟨e2,by rw [sr i1]; exact kj n hS r (bE.mpr rfl)⟩
 ·exact r.elim
theorem pW:eU X (compareOp .IsNot) (iM X.K yj):=by
 intro Hm s σ H x y v u Q I rx ry h;obtain⟨d,e,S,k,i1,i2,hS,r,n⟩:=h;unfold yj at r
 split at r
 ·rename_i c b
  have e1:=bE.mp i1;have e2:=bE.mp i2;subst e1; subst e2
  cases rx; cases ry
  exact isnot_bool ⟨.bl _,H,I,rfl,kj n hS r (bE.mpr rfl)⟩
 ·have e2:=b8.mp i2;exact yz Hm s σ H _ _ v u Q I rx ry ⟨e2,by rw [sr i1]; exact kj n hS r (bE.mpr rfl)⟩
 ·exact r.elim
def Fb:D1:=λd S k=>match d with
 | .int i=>k (.int (-i)) S
 | _=>False
theorem v_:DV X (unaryOp .USub) (FE X.K Fb):=by
 intro Hm s σ H x v Q I rx h;obtain⟨d,S,k,i1,hS,r,n⟩:=h;cases d with
 | int i=>
  have e1:=isInt.mp i1;subst e1;exact B3 Hm s σ H _ v Q I rx ⟨i,rfl,kj n hS r (isInt.mpr rfl)⟩
 | _=>exact(show False from r).elim
def qX:D2:=λd e S k=>match d,e with
 | .tup ds,.int i=>(match atI ds i with
  | some c=>k c S
  | none=>False)
 | .rl ds,.int i=>(match atI ds i with
  | some c=>k c S
  | none=>False)
 | .ref a,.int i=>(match S a with
  | some (.lst ds)=>(match atI ds i with
   | some c=>k c S
   | none=>False)
  | _=>False)
 | _,_=>False
theorem IsDs.atI {K:Fg} {H:Hp} {ds:List D} {vs:List V} {i:Int} {d:D} (r:IsDs K H ds vs) (h:atI ds i=some d):∃ v,L2.atI vs i=some v/\bJ K H d v:=by
 unfold L2.atI at h ⊢;rw [<- r.length];cases q:yg ds.length i with
 | none=>rw [q] at h; cases h
 | some j=>
  rw [q] at h;exact r.get h
theorem CP:vH X (iM X.K qX):=by
 intro value slice Hm s σ H x y v u Q I rx ry h hs;obtain⟨d,e,S,k,i1,i2,hS,r,n⟩:=h;cases e with
 | int i=>
  have e2:=isInt.mp i2;subst e2;cases d with
  | tup ds=>
   obtain⟨a,vs,rfl,t,j⟩:=ci.mp i1;cases q:atI ds i with
   | none=>simp only [qX,q] at r
   | some c=>
    simp only [qX,q] at r;obtain⟨w,e1,e2⟩:=j.atI q;exact A' value slice Hm s σ H _ _ v u Q I rx ry ⟨a,vs,i,w,rfl,rfl,t,e1,kj n hS r e2⟩ hs
  | rl ds=>
   obtain⟨a,vs,rfl,t,j⟩:=sC.mp i1;cases q:atI ds i with
   | none=>simp only [qX,q] at r
   | some c=>
    simp only [qX,q] at r;obtain⟨w,e1,e2⟩:=j.atI q;exact uh value slice Hm s σ H _ _ v u Q I rx ry ⟨a,vs,i,w,rfl,rfl,t.sq,e1,kj n hS r e2⟩ hs
  | ref a=>
   have e1:=a_.mp i1;subst e1;cases z:S a with
   | none=>simp only [qX,z] at r
   | some o=>
    cases o with
    | dic=>simp only [qX,z] at r
    | exc _=>simp only [qX,z] at r
    | fn _=>simp only [qX,z] at r
    | tbl _=>simp only [qX,z] at r
    | gen _=>simp only [qX,z] at r
    | lst ds=>
     obtain⟨vs,hl,j⟩:=hS.lst z;cases q:atI ds i with
     | none=>simp only [qX,z,q] at r
     | some c=>
      simp only [qX,z,q] at r;obtain⟨w,e1,e2⟩:=j.atI q;exact uh value slice Hm s σ H _ _ v u Q I rx ry ⟨a,vs,i,w,rfl,rfl,eu.of hl,e1,kj n hS r e2⟩ hs
  | _=>exact(show False from r).elim
 | _=>
  cases d <;> exact(show False from r).elim
end
abbrev bO:=List D->DH->DK->Prop
def qY (K:Fg) (r:bO):List V->Hp->VK->Prop:=λxs H Q=>∃ ds S k,IsDs K H ds xs/\Hs K H S/\r ds S k/\∀ d' S' v H',k d' S'->Kp H H'->Hs K H' S'->bJ K H' d' v->Q v H'
def lU (r:bO) (t:DA):DE:=λL S k=>t L S λds S1=>r ds S1 k
section
variable {X:Cx} {x:Str} {p pos:Pos} {e:Hb} {es:List Hb} {t:DA} {id T:Hj} {r:bO}
theorem rR {K:Fg}:∀ σ H Q,up K (lU r t) σ H Q->EL (qY K r) (sh K t) σ H Q:=fun σ H Q ⟨L,S,k,hL,hS,h,n⟩=>
 sh.go hL hS h λds S1 vs H1 h1 k1 hL1 hS1 i1=>⟨ds,S1,k,i1,hS1,h1,λd' S' v H' q k3 z1 z2=>n d' S' v H' q (k1.trans k3) z1 z2⟩
def cn (K:Fg) (F:bO):Sp:=λvs H Q _=>qY K F vs H Q
structure aM (P:Hc) (w:He) (K:Fg) (mg:Str->Ha G9) (base:Hf) (x:Str) (n:Nat) (F:bO):Prop where
 ex:∃ f fd ps,aH P w K mg base cm n f fd ps (cn K F)/\mg x=some (.ref f)/\PySem.W.keepIn K (.ref f)=true/\jT K fd ps []
theorem BS {n:Nat} {F:bO} (c:aM X.prog X.w X.K X.mg X.base x n F) (hr:dE n X.A) (hg:Gl X x) (ha:PA X (e::es) (sh X.K t)) (hdb:(x == ("__debug__":Str))=false:=by decide)
  (he:starEach (e::es) X.env=(false,eval e X.env)::starEach es X.env:=by exact ck rfl) (hpl:(backTo pos (starEach es X.env)).any (·.1)=false:=by exact eQ rfl):
  PE X (.Call (.Name x p) (e::es) [] pos) (up X.K (lU F t)):=by
 obtain⟨f,fd,ps,F1,h1,h2,h3⟩:=c.ex;refine PE.imp (uE F1 hr hg h1 h2 h3 .nil CG ha hdb he hpl) fun σ H Q z9=>?_
 obtain⟨L,S,k,hL,hS,h,n⟩:=z9;refine sh.go hL hS h λds S1 vs H1 h1 k1 hL1 hS1 i1=>?_
 show cn X.K F (vs++[]) H1 Q E0
 rw [Gy];exact⟨ds,S1,k,i1,hS1,h1,λd' S' v H' q k3 z1 z2=>n d' S' v H' q (k1.trans k3) z1 z2⟩
def C5:bO:=λds S k=>match ds with
 | [.int i]=>k (.int (if i < 0 then -i else i)) S
 | _=>False
theorem gf {K:Fg} {H:Hp} {d:D} {xs:List V} (h:IsDs K H [d] xs):∃ x,xs=[x]/\bJ K H d x:=by
 obtain⟨v,r,rfl,h1,h2⟩:=cy.mp h;rw [iE.mp h2];exact⟨v,rfl,h1⟩
theorem uz {K:Fg} {H:Hp} {d e:D} {xs:List V} (h:IsDs K H [d,e] xs):∃ x y,xs=[x,y]/\bJ K H d x/\bJ K H e y:=by
 obtain⟨v,r,rfl,h1,h2⟩:=cy.mp h;obtain⟨y,rfl,h3⟩:=gf h2;exact⟨v,y,rfl,h1,h3⟩
theorem o0:cb X (.builtin "abs") (qY X.K C5):=by
 intro Hm s σ H xs us Q I rs h;obtain⟨ds,S,k,i,hS,r,n⟩:=h;unfold C5 at r
 split at r
 ·obtain⟨x,rfl,i1⟩:=gf i;have e1:=isInt.mp i1;subst e1;exact yb Hm s σ H _ us Q I rs ⟨_,rfl,kj n hS r (isInt.mpr rfl)⟩
 ·exact r.elim
def A9:bO:=λds S k=>match ds with
 | [.tup xs]=>k (.int xs.length) S
 | [.rl xs]=>k (.int xs.length) S
 | [.ref a]=>(match S a with
  | some (.lst xs)=>k (.int xs.length) S
  | _=>False)
 | _=>False
theorem CA:cb X (.builtin "len") (qY X.K A9):=by
 intro Hm s σ H xs us Q I rs h;obtain⟨ds,S,k,i,hS,r,n⟩:=h;unfold A9 at r
 split at r
 ·obtain⟨x,rfl,i1⟩:=gf i;obtain⟨a,vs,rfl,t,j⟩:=ci.mp i1;exact ir Hm s σ H _ us Q I rs ⟨a,vs,rfl,.inr t,by rw [<- j.length]; exact kj n hS r (isInt.mpr rfl)⟩
 ·obtain⟨x,rfl,i1⟩:=gf i;obtain⟨a,vs,rfl,t,j⟩:=sC.mp i1;exact ir Hm s σ H _ us Q I rs ⟨a,vs,rfl,.inl t.sq,by rw [<- j.length]; exact kj n hS r (isInt.mpr rfl)⟩
 ·obtain⟨x,rfl,i1⟩:=gf i;have e1:=a_.mp i1;subst e1
  split at r
  ·rename_i z
   obtain⟨vs,hl,j⟩:=hS.lst z;exact ir Hm s σ H _ us Q I rs ⟨_,vs,rfl,.inl (eu.of hl),by rw [<- j.length]; exact kj n hS r (isInt.mpr rfl)⟩
  ·exact r.elim
 ·exact r.elim
def BD:bO:=λds S k=>match ds with
 | [.int i,.int j]=>k (.int (if j > i then j else i)) S
 | _=>False
def Ck:bO:=λds S k=>match ds with
 | [.int i,.int j]=>k (.int (if j < i then j else i)) S
 | _=>False
theorem Ay (hc:X.calm=true:=by rfl):cb X (.builtin "max") (qY X.K BD):=by
 intro Hm s σ H xs us Q I rs h;obtain⟨ds,S,k,i,hS,r,n⟩:=h;unfold BD at r
 split at r
 ·obtain⟨x,y,rfl,i1,i2⟩:=uz i;have e1:=isInt.mp i1;have e2:=isInt.mp i2;subst e1; subst e2
  exact vn hc Hm s σ H _ us Q I rs ⟨_,_,rfl,kj n hS r (isInt.mpr rfl)⟩
 ·exact r.elim
theorem we (hc:X.calm=true:=by rfl):cb X (.builtin "min") (qY X.K Ck):=by
 intro Hm s σ H xs us Q I rs h;obtain⟨ds,S,k,i,hS,r,n⟩:=h;unfold Ck at r
 split at r
 ·obtain⟨x,y,rfl,i1,i2⟩:=uz i;have e1:=isInt.mp i1;have e2:=isInt.mp i2;subst e1; subst e2
  exact uR hc Hm s σ H _ us Q I rs ⟨_,_,rfl,kj n hS r (isInt.mpr rfl)⟩
 ·exact r.elim
def Cy:D1:=λd S k=>match d with
 | .int i=>k (.int ((Builtin.Int.intBits i:Nat):Int)) S
 | _=>False
def mK (xs:List D) (lo hi:Ha Int):List D:=(xs.drop (HT.d_ xs.length 0 lo)).take (HT.d_ xs.length xs.length hi - HT.d_ xs.length 0 lo)
abbrev Az:=Lo->DH->(Ha Int->DH->Prop)->Prop
def F0 (K:Fg) (g:Az):TO:=fun σ H Q=>∃ L S k,Lc K H L σ/\Hs K H S/\g L S k/\∀ i S' H',k i S'->Kp H H'->Hs K H' S'->Q i H'
def DQ:Az:=λ_ S k=>k none S
def D6 (g:DE):Az:=λL S k=>g L S λd S1=>match d with
 | .int i=>k (some i) S1
 | _=>False
end
section
variable {X:Cx} {st:Hg} {bY:List Hg} {g h:DS} {e:Hb} {ge:DE} {pos:Pos}
def Aj:DS:=λM L S=>M.nx L S
def yJ (g h:DS):DS:=λM L S=>g {M with nx:=h M} L S
theorem yP {K:Fg}:∀ N σ H,xz K (yJ g h) N σ H->DF (xz K g) (xz K h) N σ H:=λN σ H ⟨L,S,M,hL,hS,q,r⟩=>
 ⟨L,S,{M with nx:=h M},hL,hS,q,⟨λL' S' σ' H' q' k' hL' hS'=>⟨L',S',M,hL',hS',q',r.kp k'⟩,r.rt,r.bk,r.ct⟩⟩
def Ds (ge:DE):DS:=λM L S=>ge L S λ_ S1=>M.nx L S1
def EX (ge:DE):DS:=λM L S=>ge L S M.rt
def Cb (c:DT) (g h:DS):DS:=λM L S=>c L S λb S1=>if b=true then g M L S1 else h M L S1
def BL:DS:=λ_ _ _=>False
def zB (i:Nat) (ge:DE):DS:=λM L S=>ge L S λd S1=>M.nx (L.set i (some d)) S1
def EK (i j:Nat) (ta:DA):DS:=λM L S=>ta L S λds S1=>match ds with
 | [d,e]=>M.nx ((L.set i (some d)).set j (some e)) S1
 | _=>False
abbrev DG:=D->Lo->DH->(Lo->DH->Prop)->Prop
def C2 (K:Fg) (g:DG):TG:=λv σ H Q=>∃ d L S k,bJ K H d v/\Lc K H L σ/\Hs K H S/\g d L S k/\∀ L' S' σ' H',k L' S'->Kp H H'->Lc K H' L' σ'->Hs K H' S'->Q σ' H'
theorem PG.imp {e:Hb} {t t':TG} (h:PG X e t) (i:∀ v σ H Q,t' v σ H Q->t v σ H Q):PG X e t':=λHm s σ H v u Q I rv q=>h Hm s σ H v u Q I rv (i v σ H Q q)
def jm (i:Nat):DG:=λd L S k=>k (L.set i (some d)) S
abbrev yw:=List D->Lo->DH->(Lo->DH->Prop)->Prop
def Ez (K:Fg) (g:yw):xA:=λv σ H Q=>∃ d L S k,IsDs K H d v/\Lc K H L σ/\Hs K H S/\g d L S k/\∀ L' S' σ' H',k L' S'->Kp H H'->Lc K H' L' σ'->Hs K H' S'->Q σ' H'
theorem wP.imp {e:List Hb} {t t':xA} (h:wP X e t) (i:∀ v σ H Q,t' v σ H Q->t v σ H Q):wP X e t':=λHm s σ H v u Q I rv q=>h Hm s σ H v u Q I rv (i v σ H Q q)
def DN:yw:=λds L S k=>ds=[]/\k L S
def A5 (t:DG) (u:yw):yw:=λds L S k=>match ds with
 | d::r=>t d L S λL1 S1=>u r L1 S1 k
 | []=>False
def E7 (ge:DE) (g:DG):DS:=λM L S=>ge L S λd S1=>g d L S1 M.nx
def BF (c:DT) (b:DS):DS:=λM L S=>∃ W:Nat->Lo->DH->Prop,(∃ m,W m L S)/\∀ m L S,W m L S->
 c L S λt S1=>if t=true then ∃ N:Lo->DH->Prop,(∀ L' S',N L' S'->∃ m',m' < m/\W m' L' S')/\b {M with nx:=N,ct:=N,bk:=M.nx} L S1 else M.nx L S1
def gm (ok:DH->Prop) (g:DG) (b:DS) (M:jd):List D->Lo->DH->Prop
 | [],L,S=>ok S/\M.nx L S
 | d::r,L,S=>ok S/\g d L S λL1 S1=>b {M with nx:=λL2 S2=>gm ok g b M r L2 S2,ct:=λL2 S2=>gm ok g b M r L2 S2,bk:=M.nx} L1 S1
theorem mJ {K:Fg} {ok:DH->Prop} {gg:DG} {b:DS} {M:jd} {ds:List D} {L:Lo} {S:DH} {N:fo} {σ:L2.St} {H:Hp} {J:It} (hL:Lc K H L σ) (hS:Hs K H S) (h:gm ok gg b M ds L S) (r:yu K H M N)
  (hgo:∀ i d S1 H1,ds[i]?=some d->Kp H H1->Hs K H1 S1->ok S1->J.go i H1/\∀ x H',J.yld i H1 x H'->H'=H1/\bJ K H1 d x)
  (hst:∀ S1 H1,Kp H H1->Hs K H1 S1->ok S1->J.stop ds.length H1):
  ∃ W:Nat->Nat->L2.St->Hp->Prop,(∃ m,W 0 m σ H)/\∀ i m σ H,W i m σ H->
   (J.stop i H/\N.nx σ H)\/(J.go i H/\∃ N':L2.St->Hp->Prop,(∀ σ' H',N' σ' H'->∃ m',m' < m/\W (i+1) m' σ' H')/\∀ x H',J.yld i H x H'->C2 K gg x σ H' fun σ2 H2=>xz K b {N with nx:=N',ct:=N',bk:=N.nx} σ2 H2):=by
 refine⟨λi m σ1 H1=>m=ds.length - i/\i<=ds.length/\∃ L1 S1,Lc K H1 L1 σ1/\Hs K H1 S1/\Kp H H1/\gm ok gg b M (ds.drop i) L1 S1,⟨ds.length,by simp,Nat.zero_le _,L,S,hL,hS,Kp.refl H,h⟩,?_⟩
 rintro i m σ1 H1 ⟨rfl,hi,L1,S1,hL1,hS1,k1,w1⟩
 by_cases hlt:i < ds.length
 ·have e:ds.drop i=ds[i]::ds.drop (i+1):=GT hlt;rw [e] at w1;obtain⟨o1,w1⟩:=w1;obtain⟨g1,y1⟩:=hgo i ds[i] S1 H1 (by simp [hlt]) k1 hS1 o1
  refine .inr ⟨g1,fun σ' H'=>i+1<=ds.length/\∃ L' S',Lc K H' L' σ'/\Hs K H' S'/\Kp H H'/\gm ok gg b M (ds.drop (i+1)) L' S',fun σ' H' z9=>by obtain⟨q1,q2⟩:=z9; exact⟨ds.length - (i+1),by omega,rfl,q1,q2⟩,λx H' y=>?_⟩
  obtain⟨rfl,ix⟩:=y1 x H' y;refine⟨ds[i],L1,S1,_,ix,hL1,hS1,w1,λL2 S2 σ2 H2 q k2 hL2 hS2=>⟨L2,S2,_,hL2,hS2,q,?_⟩⟩
  have r2:=r.kp (k1.trans k2);exact⟨λL3 S3 σ3 H3 q3 k3 hL3 hS3=>⟨hlt,L3,S3,hL3,hS3,(k1.trans k2).trans k3,q3⟩,r2.rt,r2.nx,λL3 S3 σ3 H3 q3 k3 hL3 hS3=>⟨hlt,L3,S3,hL3,hS3,(k1.trans k2).trans k3,q3⟩⟩
 ·have e:i=ds.length:=by omega
  subst e;rw [List.drop_length] at w1;obtain⟨o1,w1⟩:=w1;exact .inl ⟨hst S1 H1 k1 hS1 o1,r.nx L1 S1 σ1 H1 w1 k1 hL1 hS1⟩
def aQ (S:DH):D->Ha (List D×Ha G_)
 | .tup ds=>some (ds,none)
 | .rl ds=>some (ds,none)
 | .ref a=>(match S a with
  | some (.lst ds)=>some (ds,some a)
  | _=>none)
 | _=>none
def cU:List D×Ha G_->DH->Prop
 | (_,none)=>λ_=>True
 | (ds,some a)=>λS=>S a=some (.lst ds)
def ED (K:Fg) (t:TE):TI:=fun σ H R=>t σ H λx H1=>∃ a,x=.ref a/\(((∃ xs,eu K H1 a xs)/\R (Df K a) H1)\/((∃ xs,kU K H1 a xs)/\R (Dt K a) H1))
theorem qf {tg l:Hb} {tl:TE} (hl:PE X l tl):PI X tg l (ED X.K tl):=by
 intro Hm s σ H R I h;refine bX (hl Hm s σ H _ I h) λv s1 z9=>?_
 obtain⟨x,H1,I1,r1,q1⟩:=z9;obtain⟨a,e,q1⟩:=q1;subst e;cases r1;rcases q1 with ⟨⟨xs,hq⟩,q⟩ | ⟨⟨xs,hq⟩,q⟩
 ·obtain⟨its,rv,p,hz⟩:=I1.list hq;refine wpAny_pyIter_list p.isList ?_;refine⟨s1.heap.objs.size,[s1.heap.objs.size],_,_,H1,rfl,I1.kept (t':=s1.toks) λb o e=>Ga _ e,vp a _,⟨_,Gc _ rfl,rfl,rfl⟩,λb hb=>?_,q⟩
  have e:b=s1.heap.objs.size:=by simpa using hb
  subst e;exact I1.fpOk (Gg _) (I1.hok.fresh (Gg _))
 ·obtain⟨its,rv,p,hz⟩:=I1.tuple hq;refine wpAny_pyIter_tuple (show s1.heap.IsTuple a its.toArray from p) ?_
  refine⟨s1.heap.objs.size,[s1.heap.objs.size],_,_,H1,rfl,I1.kept (t':=s1.toks) λb o e=>Ga _ e,tM a _,⟨_,Gc _ rfl,rfl,rfl⟩,λb hb=>?_,q⟩
  have e:b=s1.heap.objs.size:=by simpa using hb
  subst e;exact I1.fpOk (Gg _) (I1.hok.fresh (Gg _))
def Dl (ta:DA) (g:DG) (b:DS):DS:=λM L S=>ta L S λds S1=>match ds with
 | [.int n]=>(-(2 ^ 62)<=n/\n < 2 ^ 62)/\gm (λ_=>True) g b M ((List.range n.toNat).map λi=>D.int (i:Nat)) L S1
 | _=>False
end
section
variable {P:Hc} {w:He} {K:Fg} {mg:Str->Ha G9} {base:Hf}
theorem _root_.L2.r_.okD {x Hn:Str} {st:Hg} {f:G_} {fd:FuncData} {N ps:List Str} {k:Nat} {F:bO} (Fn:r_ K x Hn st f fd) (Sc:aq N ps (ai st)) (len:∀ ds S k,F ds S k->ds.length=ps.length)
  (hbody:∀ (cdv:G9) (A:Hd) (outer:List Env) (s:G8) (H:Hp) (E:XK),dE k (A.deeper (envOfC Hn (ai st) s.heap.objs.size f cdv))->
   ∃ g,mV (dF cm P w K mg base N Hn (ai st) f cdv A outer s H E).nox (bV st) (xz K g)/\
    ∀ ds S k,F ds S k->g {nx:=λ_ S'=>k .non S',rt:=k} (ds.map some++List.replicate (N.length - ps.length) none) S):aH P w K mg base cm (k+1) f fd ps (cn K F):=by
 refine Fn.ok Sc (λvs H Q E h=>?_) (λcdv A outer s H vs Q E hr h=>?_)
 ·obtain⟨ds,S,k,i,_,q,_⟩:=h;rw [<- i.length];exact len ds S k q
 ·obtain⟨g,hg,q⟩:=hbody cdv A outer s H E hr;obtain⟨ds,S,k',i,hS,h,n⟩:=h;refine⟨_,hg,ds.map some++List.replicate (N.length - ps.length) none,S,_,?_,hS,q ds S k' h,?_⟩
  ·unfold L2.start;rw [<- i.length,len ds S k' h];exact Lc.start _ i
  ·exact⟨λL S' σ H' h1 k1 _ hS'=>n _ S' _ H' h1 k1 hS' (b8.mpr rfl),λd S' v H' h1 k1 hS' i1=>n d S' v H' h1 k1 hS' i1,λ_ _ _ _ h1=>h1.elim,λ_ _ _ _ h1=>h1.elim⟩
theorem aM.mk' {x Hn:Str} {st:Hg} {f:G_} {fd:FuncData} {ps:List Str} {n:Nat} {F:bO} (Fn:r_ K x Hn st f fd) (h:aH P w K mg base cm n f fd ps (cn K F)) (hm:mg x=some (.ref f)) (hb:jT K fd ps []):aM P w K mg base x n F:=
 ⟨f,fd,ps,h,hm,Fn.kp,hb⟩
end
end DL
namespace DL
open PySem PySem.Spec PyProof.Rows L2 HM
theorem Cm {K:Fg} {H:Hp} {a:G_} {ns:List Int} {F:bO} {E:XK} (ho:yD H) (hS:eu K H a (ns.map V.int)) (h:F [.rl (ns.map D.int)] (λ_=>none) (λd _=>d=.bl true)):cn K F [.ref a] H (λv _=>v=.bl true) E:=by
 refine⟨[.rl (ns.map D.int)],λ_=>none,λd _=>d=.bl true,IsDs.cons (sC.mpr ⟨a,ns.map V.int,rfl,?_,?_⟩) IsDs.nil,λa o e=>(by cases e),h,λd' S' v H' e _ _ i=>?_⟩
 ·rcases hS with (h1 | h1) | h1
  ·rcases ho a with z | ⟨o,xs,z⟩
   ·rw [z] at h1; cases h1
   ·rw [z] at h1; cases h1
  ·exact .inl h1
  ·exact .inr h1
 ·clear h hS
  induction ns with
  | nil=>exact IsDs.nil
  | cons n ns ih=>exact IsDs.cons (isInt.mpr rfl) ih
 ·subst e;exact bE.mp i
theorem jz {m n:Nat} {x y:Int} (hx:Bt m x) (hy:Bt n y) (h:m+n<=134217728:=by decide):IntMulOk x y:=IntMulOk.of_le (intBits_le_iff.mpr hx) (intBits_le_iff.mpr hy) h
theorem yt {m:Nat} {y:Int} (h0:y≠0) (hy:Bt m y) (h:m<=9000:=by decide):mZ x y:=⟨h0,(Nat.log2_lt (by omega)).mpr (hy.mono h)⟩
def pr (a b:Int):D:=.tup [.int a,.int b]
def fr (q:Rat):D:=pr q.num (q.den:Int)
end DL
namespace DL
theorem eG {x:D} {r:List D}:L2.atI (x::r) 0=some x:=L2.jF (j:=0) rfl
theorem iN {x y:D} {r:List D}:L2.atI (x::y::r) 1=some y:=L2.jF (j:=1) rfl
theorem lN {x y z:D} {r:List D}:L2.atI (x::y::z::r) 2=some z:=L2.jF (j:=2) rfl
theorem sN {x y z u:D} {r:List D}:L2.atI (x::y::z::u::r) 3=some u:=L2.jF (j:=3) rfl
theorem D9 {n:Nat}:L2.yg (n+1) 0=some 0:=by
 unfold L2.yg;rw [if_pos (by decide),if_pos (by omega)]
 rfl
end DL
namespace DL
open PySem PySem.Spec PyProof.Rows L2
def yB:D->D->Ha Hi
 | .int i,.int j=>some (i == j)
 | .bl i,.bl j=>some (i == j)
 | .str i,.str j=>some (i == j)
 | .non,.non=>some true
 | .non,.int _=>some false
 | .int _,.non=>some false
 | .non,.bl _=>some false
 | .bl _,.non=>some false
 | .bl a,.int j=>some ((if a then 1 else 0) == j)
 | .int i,.bl b=>some (i == (if b then 1 else 0))
 | _,_=>none
def gD (f:D->D->Ha Hi):List D->List D->Ha Hi
 | [],[]=>some true
 | [],_::_=>some false
 | _::_,[]=>some false
 | x::xs,y::ys=>match f x y,gD f xs ys with
  | some a,some b=>some (a && b)
  | _,_=>none
def iP:Nat->D->D->Ha Hi
 | 0,d,e=>yB d e
 | n+1,.tup xs,.tup ys=>gD (iP n) xs ys
 | _+1,d,e=>yB d e
theorem nI (n:Nat) (d e:D):iP (n+1) d e=(match d,e with | .tup xs,.tup ys=>gD (iP n) xs ys | d,e=>yB d e):=by
 cases d <;> cases e <;> rfl
def gK (f:D->D->Ha Hi):List D->List D->Nat->Hi
 | x::_,y::_,0=>(f x y).getD false
 | _::xs,_::ys,j+1=>gK f xs ys j
 | _,_,_=>false
theorem xV (e:Nat->Hi) (m:Nat):(List.range (m+1)).all e=(e 0 && (List.range m).all λj=>e (j+1)):=by
 rw [List.range_succ_eq_map,List.all_cons,List.all_map]
 rfl
theorem kl {f:D->D->Ha Hi}:∀ {xs ys:List D} {b:Hi},gD f xs ys=some b->((List.range (min xs.length ys.length)).all (gK f xs ys) && xs.length == ys.length)=b
 | [],[],b,h=>by unfold gD at h; cases h; rfl
 | [],_::_,b,h=>by unfold gD at h; cases h; simp
 | _::_,[],b,h=>by unfold gD at h; cases h; simp
 | x::xs,y::ys,b,h=>by
  unfold gD at h
  split at h
  ·rename_i a c e1 e2
   cases h;have ih:=kl e2;rw [List.length_cons,List.length_cons,Nat.succ_min_succ,xV];have e3:gK f (x::xs) (y::ys) 0=a:=by unfold gK; rw [e1]; rfl
   rw [e3,Bool.and_assoc];have e4:(λj=>gK f (x::xs) (y::ys) (j+1))=gK f xs ys:=by funext j; rfl
   rw [e4];have e5:(xs.length+1 == ys.length+1)=(xs.length == ys.length):=by simp
   rw [e5,ih]
  ·cases h
theorem mF {f:D->D->Ha Hi}:∀ {xs ys:List D} {b:Hi} {j:Nat} {x y:D},gD f xs ys=some b->xs[j]?=some x->ys[j]?=some y->f x y=some (gK f xs ys j)
 | [],_,_,_,_,_,_,e,_=>by simp at e
 | _::_,[],_,_,_,_,_,_,e=>by simp at e
 | x::xs,y::ys,b,0,x',y',h,e1,e2=>by
  simp at e1 e2
  subst e1; subst e2
  unfold gD at h
  split at h
  ·rename_i a c q1 q2
   unfold gK;rw [q1]
   rfl
  ·cases h
 | x::xs,y::ys,b,j+1,x',y',h,e1,e2=>by
  unfold gD at h
  split at h
  ·rename_i a c q1 q2
   unfold gK;exact mF q2 (by simpa using e1) (by simpa using e2)
  ·cases h
section
variable {X:Cx} {Hm:List (G_×Hl)} {σ:L2.St} {H:Hp} {s:G8}
theorem qB {K:Fg} {ds es:List D} {xs ys:List V} {us ws:List G9} {j:Nat} (i1:IsDs K H ds xs) (i2:IsDs K H es ys) (r1:aW xs us) (r2:aW ys ws) (h1:j < us.length) (h2:j < ws.length):
  ∃ d e x y,ds[j]?=some d/\es[j]?=some e/\bJ K H d x/\bJ K H e y/\bi x us[j]/\bi y ws[j]:=by
 have l1:=i1.length;have l2:=i2.length;have l3:=r1.length;have l4:=r2.length;have e1:ds[j]?=some ds[j]:=by simp [show j < ds.length by omega]
 have e2:es[j]?=some es[j]:=by simp [show j < es.length by omega]
 obtain⟨x,q1,d1⟩:=i1.get e1;obtain⟨y,q2,d2⟩:=i2.get e2;obtain⟨u,q3,rx⟩:=r1.get q1;obtain⟨w,q4,ry⟩:=r2.get q2;have f1:us[j]=u:=(GL.mp q3).2;have f2:ws[j]=w:=(GL.mp q4).2;exact⟨_,_,x,y,e1,e2,d1,d2,by rw [f1]; exact rx,by rw [f2]; exact ry⟩
theorem wY {K:Fg} {A:Hd} {d e:D} {x y:V} {u w:G9} {b:Hi} (h:yB d e=some b) (i1:bJ K H d x) (i2:bJ K H e y) (rx:bi x u) (ry:bi y w):SeqAt.EqAt A s u w b/\SeqAt.RcAt A s u w b:=by
 unfold yB at h
 split at h
 ·cases h; rw [isInt.mp i1] at rx; rw [isInt.mp i2] at ry; obtain⟨t,rfl⟩:=rx; obtain⟨t',rfl⟩:=ry; exact⟨(SeqAt.EqAt.int_int _ _ _ _),(SeqAt.RcAt.int_int _ _ _ _)⟩
 ·cases h; rw [bE.mp i1] at rx; rw [bE.mp i2] at ry; cases rx; cases ry; exact⟨(SeqAt.EqAt.bool_bool _ _),(SeqAt.RcAt.bool_bool _ _)⟩
 ·cases h; rw [gl.mp i1] at rx; rw [gl.mp i2] at ry; obtain⟨t,rfl⟩:=rx; obtain⟨t',rfl⟩:=ry; exact⟨(SeqAt.EqAt.str_str _ _ _ _),(SeqAt.RcAt.str_str _ _ _ _)⟩
 ·cases h; rw [b8.mp i1] at rx; rw [b8.mp i2] at ry; cases rx; cases ry; exact⟨SeqAt.EqAt.same _,SeqAt.RcAt.none_none⟩
 ·cases h; rw [b8.mp i1] at rx; rw [isInt.mp i2] at ry; cases rx; obtain⟨t',rfl⟩:=ry; exact⟨(SeqAt.EqAt.none_int _ _),(SeqAt.RcAt.none_int _ _)⟩
 ·cases h; rw [isInt.mp i1] at rx; rw [b8.mp i2] at ry; obtain⟨t,rfl⟩:=rx; cases ry; exact⟨(SeqAt.EqAt.int_none _ _),(SeqAt.RcAt.int_none _ _)⟩
 ·cases h; rw [b8.mp i1] at rx; rw [bE.mp i2] at ry; cases rx; cases ry; exact⟨(SeqAt.EqAt.none_bool _),(SeqAt.RcAt.none_bool _)⟩
 ·cases h; rw [bE.mp i1] at rx; rw [b8.mp i2] at ry; cases rx; cases ry; exact⟨(SeqAt.EqAt.bool_none _),(SeqAt.RcAt.bool_none _)⟩
 ·cases h; rw [bE.mp i1] at rx; rw [isInt.mp i2] at ry; cases rx; obtain⟨t',rfl⟩:=ry; exact⟨(SeqAt.EqAt.bool_int _ _ _),(SeqAt.RcAt.bool_int _ _ _)⟩
 ·cases h; rw [isInt.mp i1] at rx; rw [bE.mp i2] at ry; obtain⟨t,rfl⟩:=rx; cases ry; exact⟨(SeqAt.EqAt.int_bool _ _ _),(SeqAt.RcAt.int_bool _ _ _)⟩
 ·cases h
theorem rj {K:Fg} {d e:D} {x:V} {b:Hi} (h:yB d e=some b) (i1:bJ K H d x) (i2:bJ K H e x):b=true:=by
 unfold yB at h
 split at h
 ·cases h; have e1:=isInt.mp i1; have e2:=isInt.mp i2; rw [e1] at e2; cases e2; simp
 ·cases h; have e1:=bE.mp i1; have e2:=bE.mp i2; rw [e1] at e2; cases e2; simp
 ·cases h; have e1:=gl.mp i1; have e2:=gl.mp i2; rw [e1] at e2; cases e2; simp
 ·cases h; rfl
 ·have e1:=b8.mp i1; have e2:=isInt.mp i2; rw [e1] at e2; cases e2
 ·have e1:=isInt.mp i1; have e2:=b8.mp i2; rw [e1] at e2; cases e2
 ·have e1:=b8.mp i1; have e2:=bE.mp i2; rw [e1] at e2; cases e2
 ·have e1:=bE.mp i1; have e2:=b8.mp i2; rw [e1] at e2; cases e2
 ·have e1:=bE.mp i1; have e2:=isInt.mp i2; rw [e1] at e2; cases e2
 ·have e1:=isInt.mp i1; have e2:=bE.mp i2; rw [e1] at e2; cases e2
 ·cases h
theorem o8 {K:Fg} {f:D->D->Ha Hi} (hf:∀ d e x b,f d e=some b->bJ K H d x->bJ K H e x->b=true):∀ {ds es:List D} {xs:List V} {b:Hi},gD f ds es=some b->IsDs K H ds xs->IsDs K H es xs->b=true
 | [],[],_,_,h,_,_=>by unfold gD at h; cases h; rfl
 | [],_::_,_,_,_,i1,i2=>by
  have e1:=iE.mp i1;obtain⟨v,r,e2,_⟩:=cy.mp i2;rw [e1] at e2; cases e2
 | _::_,[],_,_,_,i1,i2=>by
  have e1:=iE.mp i2;obtain⟨v,r,e2,_⟩:=cy.mp i1;rw [e1] at e2; cases e2
 | d::ds,e::es,xs,b,h,i1,i2=>by
  obtain⟨v,r,e1,h1,h2⟩:=cy.mp i1;obtain⟨v',r',e2,h3,h4⟩:=cy.mp i2;rw [e1] at e2;cases e2;unfold gD at h
  split at h
  ·rename_i a c q1 q2
   cases h;rw [hf _ _ _ _ q1 h1 h3,o8 hf q2 h2 h4]
   rfl
  ·cases h
theorem sk (I:az X Hm σ H s):∀ (n:Nat) (d e:D) (x:V) (b:Hi),iP n d e=some b->bJ X.K H d x->bJ X.K H e x->b=true
 | 0,d,e,x,b,h,i1,i2=>rj (by unfold iP at h; exact h) i1 i2
 | n+1,d,e,x,b,h,i1,i2=>by
  rw [nI] at h
  split at h
  ·rename_i xs ys
   obtain⟨a,vs,e1,t1,j1⟩:=ci.mp i1;obtain⟨a',vs',e2,t2,j2⟩:=ci.mp i2;rw [e1] at e2;cases e2;have q:=I.tuple_inj t1 t2;subst q;exact o8 (λd e x b=>sk I n d e x b) h j1 j2
  ·exact rj h i1 i2
theorem p_ (I:az X Hm σ H s):∀ (n:Nat) (A:Hd) (d e:D) (x y:V) (u w:G9) (b:Hi),A.units+n < cLine->iP n d e=some b->bJ X.K H d x->bJ X.K H e y->bi x u->bi y w->SeqAt.EqAt A s u w b/\SeqAt.RcAt A s u w b
 | 0,A,d,e,x,y,u,w,b,hu,h,i1,i2,rx,ry=>wY (by unfold iP at h; exact h) i1 i2 rx ry
 | n+1,A,d,e,x,y,u,w,b,hu,h,i1,i2,rx,ry=>by
  have h0:=h;rw [nI] at h
  split at h
  ·rename_i xs ys
   obtain⟨p,vs,rfl,t1,j1⟩:=ci.mp i1;obtain⟨q,vs',rfl,t2,j2⟩:=ci.mp i2;cases rx;cases ry;obtain⟨us,r1,p1,_⟩:=I.tuple t1;obtain⟨ws,r2,p2,_⟩:=I.tuple t2;have l1:=j1.length;have l2:=j2.length;have l3:=r1.length;have l4:=r2.length;have rc:SeqAt.RcAt A s (.ref p) (.ref q) b:=by
    have e:=kl h;have z:=SeqAt.RcAt.tuples (A:=A) (s:=s) (items:=us.toArray) (items2:=ws.toArray) (e:=gK (iP n) xs ys) (show s.heap.IsTuple p us.toArray from p1) (show s.heap.IsTuple q ws.toArray from p2) (by omega) (λj h1 h2=>by
     simp only [Gj] at h1 h2
     obtain⟨d,e,x,y,q1,q2,d1,d2,rx,ry⟩:=qB j1 j2 r1 r2 h1 h2;have:=(p_ I n A.in1 d e x y us[j] ws[j] _ (by show A.units+1+n < cLine; omega) (mF h q1 q2) d1 d2 rx ry).1
     simpa using this)
    simp only [Gj] at z;rw [<- l3,<- l4,<- l1,<- l2,e] at z;exact z
   refine⟨?_,rc⟩
   by_cases hpq:p=q
   ·subst hpq;have:=sk I (n+1) _ _ _ _ h0 i1 i2;subst this;exact SeqAt.EqAt.same _
   ·exact SeqAt.EqAt.of_refs hpq rc
  ·exact wY h i1 i2 rx ry
theorem xj {K:Fg} {A:Hd} {d e:D} {x y:V} {u w:G9} {b:Hi} (h:yB d e=some b) (i1:bJ K H d x) (i2:bJ K H e y) (rx:bi x u) (ry:bi y w):SeqAt.RcNeAt A s u w (!b):=by
 unfold yB at h
 split at h
 ·cases h; rw [isInt.mp i1] at rx; rw [isInt.mp i2] at ry; obtain⟨t,rfl⟩:=rx; obtain⟨t',rfl⟩:=ry; exact(SeqAt.RcNeAt.int_int _ _ _ _)
 ·cases h; rw [bE.mp i1] at rx; rw [bE.mp i2] at ry; cases rx; cases ry; exact(SeqAt.RcNeAt.bool_bool _ _)
 ·cases h; rw [gl.mp i1] at rx; rw [gl.mp i2] at ry; obtain⟨t,rfl⟩:=rx; obtain⟨t',rfl⟩:=ry; exact(SeqAt.RcNeAt.str_str _ _ _ _)
 ·cases h; rw [b8.mp i1] at rx; rw [b8.mp i2] at ry; cases rx; cases ry; exact SeqAt.RcNeAt.none_none
 ·cases h; rw [b8.mp i1] at rx; rw [isInt.mp i2] at ry; cases rx; obtain⟨t',rfl⟩:=ry; exact(SeqAt.RcNeAt.none_int _ _)
 ·cases h; rw [isInt.mp i1] at rx; rw [b8.mp i2] at ry; obtain⟨t,rfl⟩:=rx; cases ry; exact(SeqAt.RcNeAt.int_none _ _)
 ·cases h; rw [b8.mp i1] at rx; rw [bE.mp i2] at ry; cases rx; cases ry; exact(SeqAt.RcNeAt.none_bool _)
 ·cases h; rw [bE.mp i1] at rx; rw [b8.mp i2] at ry; cases rx; cases ry; exact(SeqAt.RcNeAt.bool_none _)
 ·cases h; rw [bE.mp i1] at rx; rw [isInt.mp i2] at ry; cases rx; obtain⟨t',rfl⟩:=ry; exact(SeqAt.RcNeAt.bool_int _ _ _)
 ·cases h; rw [isInt.mp i1] at rx; rw [bE.mp i2] at ry; obtain⟨t,rfl⟩:=rx; cases ry; exact(SeqAt.RcNeAt.int_bool _ _ _)
 ·cases h
theorem ya (I:az X Hm σ H s) (n:Nat) (A:Hd) (d e:D) (x y:V) (u w:G9) (b:Hi) (hu:A.units+n < cLine) (h:iP n d e=some b) (i1:bJ X.K H d x) (i2:bJ X.K H e y) (rx:bi x u) (ry:bi y w):SeqAt.RcNeAt A s u w (!b):=by
 cases n with
 | zero=>exact xj (by unfold iP at h; exact h) i1 i2 rx ry
 | succ n=>
  rw [nI] at h
  split at h
  ·rename_i xs ys
   obtain⟨p,vs,rfl,t1,j1⟩:=ci.mp i1;obtain⟨q,vs',rfl,t2,j2⟩:=ci.mp i2;cases rx;cases ry;obtain⟨us,r1,p1,_⟩:=I.tuple t1;obtain⟨ws,r2,p2,_⟩:=I.tuple t2;have l1:=j1.length;have l2:=j2.length;have l3:=r1.length;have l4:=r2.length;have e:=kl h;have z:=SeqAt.RcNeAt.tuples (A:=A) (s:=s) (items:=us.toArray) (items2:=ws.toArray) (e:=gK (iP n) xs ys) (show s.heap.IsTuple p us.toArray from p1) (show s.heap.IsTuple q ws.toArray from p2) (by omega) (λj h1 h2=>by
    simp only [Gj] at h1 h2
    obtain⟨d,e,x,y,q1,q2,d1,d2,rx,ry⟩:=qB j1 j2 r1 r2 h1 h2;have:=(p_ I n A.in1 d e x y us[j] ws[j] _ (by show A.units+1+n < cLine; omega) (mF h q1 q2) d1 d2 rx ry).1
    simpa using this)
   simp only [Gj] at z;rw [<- l3,<- l4,<- l1,<- l2,e] at z;exact z
  ·exact xj h i1 i2 rx ry
end
structure EJ (X:Cx) (e:Hb) (g:DE):Prop where
 h:PE X e (up X.K g)
structure TJ (X:Cx) (e:Hb) (g:DT):Prop where
 h:PT X e (tI X.K g)
structure WJ (X:Cx) (e:Hb) (g:DT):Prop where
 h:PW X e (tI X.K g)
structure AJ (X:Cx) (e:List Hb) (g:DA):Prop where
 h:PA X e (sh X.K g)
structure SJ (X:Cx) (e:Hg) (g:DS):Prop where
 h:PS X e (xz X.K g)
structure tL (X:Cx) (e:List Hg) (g:DS):Prop where
 h:mV X e (xz X.K g)
structure GJ (X:Cx) (e:Hb) (g:DG):Prop where
 h:PG X e (C2 X.K g)
structure Dq (X:Cx) (e:List Hb) (g:yw):Prop where
 h:wP X e (Ez X.K g)
structure OJ (X:Cx) (e:Ha Hb) (g:Az):Prop where
 h:PO X e (F0 X.K g)
theorem WJ.pt {X:Cx} {e:Hb} {g:DT} (h:WJ X e g):TJ X e g:=⟨PW.pt h.h⟩
section
variable {X:Cx} {a b c:Hb} {ga gb gc:DE} {pos:Pos}
theorem ak (i:Nat) {x:Str} (hN:X.N[i]?=some x:=by rfl) (hv:C8 X.env.scope x:=by first | exact Or.inl rfl | exact Or.inr (Or.inl rfl) | exact Or.inr (Or.inr rfl)) (hd:(x == ("__debug__":Str))=false:=by decide) (hcd:(x == ("__classdict__":Str))=false:=by decide):EJ X (.Name x pos) (oC i):=⟨PE.imp (Bv hN hv hd hcd) fun σ H Q ⟨L,S,k,hL,hS,h,n⟩=>by
  unfold oC at h
  split at h
  ·rename_i d e
   obtain⟨v,e1,e2⟩:=hL.get e;exact⟨v,e1,n d S v H h (Kp.refl H) hS e2⟩
  ·exact h.elim⟩
theorem am {i j pos}:EJ X (.Constant (.int i) j pos) (dC (.int i)):=⟨Cv B4 λ_=>isInt.mpr rfl⟩
theorem ek {i j pos}:EJ X (.Constant (.bool i) j pos) (dC (.bl i)):=⟨Cv C0 λ_=>bE.mpr rfl⟩
theorem cQ {j pos}:EJ X (.Constant .none j pos) (dC .non):=⟨Cv Bc λ_=>b8.mpr rfl⟩
theorem ke {i j pos}:EJ X (.Constant (.str i) j pos) (dC (.str i)):=⟨Cv Ca λ_=>gl.mpr rfl⟩
theorem ac:AJ X [] zD:=⟨PA.imp qT fun σ H Q z9=>by obtain⟨L,S,k,hL,hS,h,n⟩:=z9; exact n [] S [] H h (Kp.refl H) hS IsDs.nil⟩
theorem aa {es:List Hb} {t:DA} (ha:EJ X a ga) (hr:AJ X es t) (hs:starEach (a::es) X.env=(false,eval a X.env)::starEach es X.env:=by exact ck rfl):AJ X (a::es) (lX ga t):=⟨have ha:=ha.h; have hr:=hr.h; PA.imp (kW ha hr hs) fun σ H Q ⟨L,S,k,hL,hS,h,n⟩=>up.go hL hS h λd S1 v H1 h1 k1 hL1 hS1 i1=>sh.go hL1 hS1 h1 λds S2 vs H2 h2 k2 hL2 hS2 i2=>
  n (d::ds) S2 (v::vs) H2 h2 (k1.trans k2) hS2 (IsDs.cons (i1.kp k2) i2)⟩
theorem ar {X:Cx} {x:Str} {pos:Pos} {es:List Hb} {t:DA} (n:Nat) (hr:AJ X es t) (hN:X.N[n]?=some x:=by rfl) (hv:C8 X.env.scope x:=by first | exact Or.inl rfl | exact Or.inr (Or.inl rfl) | exact Or.inr (Or.inr rfl)) (hd:(x == ("__debug__":Str))=false:=by decide) (hcd:(x == ("__classdict__":Str))=false:=by decide) (hs:starEach (.Name x pos::es) X.env=(false,eval (.Name x pos) X.env)::starEach es X.env:=by exact ck rfl):AJ X (.Name x pos::es) (lX (oC n) t):=aa (ak n hN hv hd hcd) hr hs
theorem aC {es:List Hb} {x1} {t:DA} (h:AJ X es t):EJ X (.Tuple es x1 pos) (Dp t):=⟨have h:=h.h; PE.imp (Ch h) fun σ H Q ⟨L,S,k,hL,hS,h,n⟩=>sh.go hL hS h λds S1 vs H1 h1 k1 hL1 hS1 i1=>by
  refine⟨by rw [<- i1.length]; exact h1.1,λp hp=>?_⟩
  have k2:Kp H1 (bI H1 p (.tup vs)):=Kp.new hp;exact n (.tup ds) S1 _ _ h1.2 (k1.trans k2) (hS1.new hp) (ci.mpr ⟨p,vs,rfl,kU.of cA,i1.kp k2⟩)⟩
theorem b6 {es:List Hb} {t:DA} (h:AJ X es t):EJ X (.List es pos) (Fa t):=⟨have h:=h.h; PE.imp (Cc h) fun σ H Q ⟨L,S,k,hL,hS,h,n⟩=>sh.go hL hS h λds S1 vs H1 h1 k1 hL1 hS1 i1=>by
  refine⟨by rw [<- i1.length]; exact h1.1,λp hp=>?_⟩
  exact n (.ref p) _ _ _ (h1.2 p (hS1.free hp)) (k1.trans (Kp.new hp)) (hS1.newL hp i1) (a_.mpr rfl)⟩
theorem av {op:Operator} {r:D2} (ho:eU X (binaryOp op) (iM X.K r)) (ha:EJ X a ga) (hb:EJ X b gb):EJ X (.BinOp a op b pos) (BJ r ga gb):=⟨have ha:=ha.h; have hb:=hb.h; PE.imp (C3 ho ha hb) pQ⟩
theorem fc {op:CmpOp} {r:D2} (ho:eU X (compareOp op) (iM X.K r)) (ha:EJ X a ga) (hb:EJ X b gb) (hm:behindInMarks op b=false):EJ X (.Compare a [op] [b] pos) (BJ r ga gb):=⟨have ha:=ha.h; have hb:=hb.h; PE.imp (yG ho ha hb hm) pQ⟩
theorem cN {r:D2} (hr:vH X (iM X.K r)) (ha:EJ X a ga) (hb:EJ X b gb) (hs:pZ b):EJ X (.Subscript a b pos) (BJ r ga gb):=⟨have ha:=ha.h; have hb:=hb.h; PE.imp (Ae hr ha hb hs) pQ⟩
theorem wG {op:UnaryOp} {r:D1} (ho:DV X (unaryOp op) (FE X.K r)) (ha:EJ X a ga):EJ X (.UnaryOp op a pos) (Fs r ga):=⟨have ha:=ha.h; PE.imp (Dk ho ha) fun σ H Q z9=>by obtain⟨L,S,k,hL,hS,h,n⟩:=z9; exact up.go hL hS h λd S1 v H1 h1 k1 hL1 hS1 i1=>⟨d,S1,k,i1,hS1,h1,λd' S' v H' q k3 z1 z2=>n d' S' v H' q (k1.trans k3) z1 z2⟩⟩
theorem au {op:CmpOp} {r:D2} (ho:eU X (compareOp op) (iM X.K r)) (ha:EJ X a ga) (hb:EJ X b gb) (hm:behindInMarks op b=false):TJ X (.Compare a [op] [b] pos) (w9 (BJ r ga gb)):=⟨have ha:=ha.h; have hb:=hb.h; PT.imp (PT.imp (zx ho ha hb hm) fun σ H Q h=>pQ σ H _ h) sj⟩
theorem dz {e:Hb} {g:DE} (h:EJ X e g) (he:∀ whole,isTrue e X.env whole=(do let v <- whole; standAt e.pos; holding [v] (truthy v)):=by intro _; rfl):TJ X e (w9 g):=⟨have h:=h.h; PT.imp (BH h he) sj⟩
end
section
variable {X:Cx} {a b c:Hb} {ga gb gc:DE} {pos:Pos}
variable {tA tB':DT} {bY:List Hb}
theorem nq (ha:TJ X a tA):WJ X (.BoolOp .And [a] pos) tA:=⟨have ha:=ha.h; y9 ha⟩
theorem mG (ha:TJ X a tA):WJ X (.BoolOp .Or [a] pos) tA:=⟨have ha:=ha.h; AU ha⟩
theorem qF (ha:TJ X a tA) (hb:WJ X (.BoolOp .And (b::bY) pos) tB'):WJ X (.BoolOp .And (a::b::bY) pos) (CL tA tB'):=⟨have ha:=ha.h; have hb:=hb.h; PW.imp (AF ha hb) fun σ H Q ⟨L,S,k,hL,hS,h,n⟩=>tI.go hL hS h λc S1 H1 h1 k1 hL1 hS1=>by
  cases c with
  | true=>
   rw [if_pos rfl] at h1 ⊢;exact tI.go hL1 hS1 h1 λc2 S2 H2 h2 k2 _ hS2=>n c2 S2 H2 h2 (k1.trans k2) hS2
  | false=>
   rw [if_neg Gi] at h1 ⊢;exact n false S1 H1 h1 k1 hS1⟩
theorem pK (ha:TJ X a tA) (hb:WJ X (.BoolOp .Or (b::bY) pos) tB'):WJ X (.BoolOp .Or (a::b::bY) pos) (ES tA tB'):=⟨have ha:=ha.h; have hb:=hb.h; PW.imp (Db ha hb) fun σ H Q ⟨L,S,k,hL,hS,h,n⟩=>tI.go hL hS h λc S1 H1 h1 k1 hL1 hS1=>by
  cases c with
  | true=>
   rw [if_pos rfl] at h1 ⊢;exact n true S1 H1 h1 k1 hS1
  | false=>
   rw [if_neg Gi] at h1 ⊢;exact tI.go hL1 hS1 h1 λc2 S2 H2 h2 k2 _ hS2=>n c2 S2 H2 h2 (k1.trans k2) hS2⟩
theorem kx (ha:TJ X a tA):TJ X (.UnaryOp .Not a pos) (CY tA):=⟨have ha:=ha.h; PT.imp (Bu ha) fun σ H Q z9=>by obtain⟨L,S,k,hL,hS,h,n⟩:=z9; exact tI.go hL hS h λc S1 H1 h1 k1 hL1 hS1=>n _ S1 H1 h1 k1 hS1⟩
theorem tU {op} (h:EJ X a ga):EJ X (.BoolOp op [a] pos) ga:=⟨have h:=h.h; Be h⟩
theorem wl (ha:EJ X a ga) (hb:EJ X (.BoolOp .And (b::bY) pos) gb):EJ X (.BoolOp .And (a::b::bY) pos) (CS ga gb):=⟨have ha:=ha.h; have hb:=hb.h; PE.imp (B_ ha hb) fun σ H Q ⟨L,S,k,hL,hS,h,n⟩=>up.go hL hS h λd S1 v H1 h1 k1 hL1 hS1 i1=>by
  cases d with
  | bl c=>
   have e:=bE.mp i1;subst e;refine⟨c,rfl,?_⟩;have h1:if c=true then _ else _:=h1
   cases c with
   | true=>
    rw [if_pos rfl] at h1 ⊢;exact up.go hL1 hS1 h1 λd2 S2 v2 H2 h2 k2 _ hS2 i2=>n d2 S2 v2 H2 h2 (k1.trans k2) hS2 i2
   | false=>
    rw [if_neg Gi] at h1 ⊢;exact n _ S1 _ H1 h1 k1 hS1 (bE.mpr rfl)
  | _=>exact(show False from h1).elim⟩
theorem oU {c:Hb} (hc:TJ X c tA) (ha:EJ X a ga) (hb:EJ X b gb):EJ X (.IfExp c a b pos) (F3 tA ga gb):=⟨have hc:=hc.h; have ha:=ha.h; have hb:=hb.h; PE.imp (wn hc ha hb) fun σ H Q ⟨L,S,k,hL,hS,h,n⟩=>tI.go hL hS h λd S1 H1 h1 k1 hL1 hS1=>by
  cases d with
  | true=>
   rw [if_pos rfl] at h1 ⊢;exact up.go hL1 hS1 h1 λd2 S2 v2 H2 h2 k2 _ hS2 i2=>n d2 S2 v2 H2 h2 (k1.trans k2) hS2 i2
  | false=>
   rw [if_neg Gi] at h1 ⊢;exact up.go hL1 hS1 h1 λd2 S2 v2 H2 h2 k2 _ hS2 i2=>n d2 S2 v2 H2 h2 (k1.trans k2) hS2 i2⟩
end
section
variable {X:Cx} {x:Str} {p pos:Pos} {e:Hb} {es:List Hb} {t:DA} {id T:Hj} {r:bO}
theorem bw (hc:cb X (.builtin id) (qY X.K r)) (hg:Gl X x) (hm:X.mg x=none) (hv:bootBuiltins x=some (.builtin id)) (ha:AJ X (e::es) t) (hn:x≠"__name__":=by decide) (hdb:(x == ("__debug__":Str))=false:=by decide) (he:starEach (e::es) X.env=(false,eval e X.env)::starEach es X.env:=by exact ck rfl) (hpl:(backTo pos (starEach es X.env)).any (·.1)=false:=by exact eQ rfl):EJ X (.Call (.Name x p) (e::es) [] pos) (lU r t):=⟨have ha:=ha.h; PE.imp (xl hc hg hm hv ha hn hdb he hpl) rR⟩
theorem sF (hc:cb X (.type T) (qY X.K r)) (hg:Gl X x) (hm:X.mg x=none) (hv:bootBuiltins x=some (.type T)) (ha:AJ X (e::es) t) (hn:x≠"__name__":=by decide) (hdb:(x == ("__debug__":Str))=false:=by decide) (he:starEach (e::es) X.env=(false,eval e X.env)::starEach es X.env:=by exact ck rfl) (hpl:(backTo pos (starEach es X.env)).any (·.1)=false:=by exact eQ rfl):EJ X (.Call (.Name x p) (e::es) [] pos) (lU r t):=⟨have ha:=ha.h; PE.imp (vL hc hg hm hv ha hn hdb he hpl) rR⟩
theorem zd {n:Nat} {F:bO} (c:aM X.prog X.w X.K X.mg X.base x n F) (hr:dE n X.A) (hg:Gl X x) (ha:AJ X (e::es) t) (hdb:(x == ("__debug__":Str))=false:=by decide) (he:starEach (e::es) X.env=(false,eval e X.env)::starEach es X.env:=by exact ck rfl) (hpl:(backTo pos (starEach es X.env)).any (·.1)=false:=by exact eQ rfl):EJ X (.Call (.Name x p) (e::es) [] pos) (lU F t):=⟨BS (c:=c) (hr:=hr) (hg:=hg) (ha:=ha.h) (hdb:=hdb) (he:=he) (hpl:=hpl)⟩
theorem dq {n m:Nat} {F:bO} (c:aM X.prog X.w X.K X.mg X.base x n F) (hr:dE m X.A) (ha:AJ X (e::es) t) (hg:Gl X x:=by exact rfl) (le:n<=m:=by decide) (hdb:(x == ("__debug__":Str))=false:=by decide) (he:starEach (e::es) X.env=(false,eval e X.env)::starEach es X.env:=by exact ck rfl) (hpl:(backTo pos (starEach es X.env)).any (·.1)=false:=by exact eQ rfl):EJ X (.Call (.Name x p) (e::es) [] pos) (lU F t):=zd c (hr.mono le) hg ha hdb he hpl
theorem zk {o:Hb} {g:DE} {apos cpos:Pos} (ho:EJ X o g) (hbase:attributeBase o "bit_length" X.env (eval o X.env)=eval o X.env:=by rfl) (hline:(apos.endLine == cpos.line)=true:=by rfl):EJ X (.Call (.Attribute o "bit_length" apos) [] [] cpos) (Fs Cy g):=⟨by
 have ho:=ho.h;refine PE.imp (B5 PySem.F.plainAttrs_int PySem.F.slot_int_bit_length PySem.F.type_int_bit_length (r:=λx xs H Q=>∃ i,x=.int i/\xs=[]/\Q (.int ((Builtin.Int.intBits i:Nat):Int)) H) ?_ ho hbase hline) fun σ H Q ⟨L,S,k,hL,hS,h,n⟩=>?_
 ·intro Hm s σ H x xs v us Q I rx rs h;obtain⟨i,rfl,rfl,q⟩:=h;obtain⟨t,rfl⟩:=rx;cases rs;exact call_int_bit_length ⟨.int _,H,I.tok _,⟨_,rfl⟩,q⟩
 ·refine up.go hL hS h λd S1 v H1 h1 k1 hL1 hS1 i1=>?_
  cases d with
  | int i=>
   have e1:=isInt.mp i1;subst e1;exact⟨rfl,i,rfl,rfl,n _ S1 _ H1 h1 k1 hS1 (isInt.mpr rfl)⟩
  | _=>exact(show False from h1).elim⟩
theorem kE:OJ X none DQ:=⟨by
 intro Hm s σ H Q I h;obtain⟨L,S,k,hL,hS,h,n⟩:=h;exact zf Hm s σ H Q I (n none S H h (Kp.refl H) hS)⟩
theorem kT {e:Hb} {g:DE} (he:EJ X e g):OJ X (some e) (D6 g):=⟨by
 have he:=he.h;intro Hm s σ H Q I h;obtain⟨L,S,k,hL,hS,h,n⟩:=h;refine zl he Hm s σ H Q I (up.go hL hS h λd S1 v H1 h1 k1 hL1 hS1 i1=>?_)
 cases d with
 | int i=>
  have e1:=isInt.mp i1;subst e1;exact⟨i,rfl,n (some i) S1 H1 h1 k1 hS1⟩
 | _=>exact(show False from h1).elim⟩
end
section
variable {X:Cx} {st:Hg} {bY:List Hg} {g h:DS} {e:Hb} {ge:DE} {pos:Pos}
theorem aB:tL X [] Aj:=⟨mV.imp zQ λN σ H z9=>by obtain⟨L,S,M,hL,hS,h,r⟩:=z9; exact r.nx L S σ H h (Kp.refl H) hL hS⟩
theorem ae (h1:SJ X st g) (h2:tL X bY h):tL X (st::bY) (yJ g h):=⟨have h1:=h1.h; have h2:=h2.h; mV.imp (vR h1 h2) yP⟩
theorem af (h1:SJ X st g):tL X [st] g:=⟨have h1:=h1.h; zF h1⟩
theorem dO (he:EJ X e ge) (hs:swapsWith e none pos.line X.env=pure false:=by rfl):SJ X (.Expr e pos) (Ds ge):=⟨have he:=he.h; PS.imp (y8 he hs) λN σ H z9=>by obtain⟨L,S,M,hL,hS,h,r⟩:=z9; exact up.go hL hS h λd S1 v H1 h1 k1 hL1 hS1 _=>r.nx L S1 σ H1 h1 k1 hL1 hS1⟩
theorem ah (he:EJ X e ge):SJ X (.Return (some e) pos) (EX ge):=⟨have he:=he.h; PS.imp (BW he) λN σ H z9=>by obtain⟨L,S,M,hL,hS,h,r⟩:=z9; exact up.go hL hS h λd S1 v H1 h1 k1 _ hS1 i1=>r.rt d S1 v H1 h1 k1 hS1 i1⟩
theorem aA {c:Hb} {a b:List Hg} {gc:DT} (hc:TJ X c gc) (ha:tL X a g) (hb:tL X b h):SJ X (.If c a b pos) (Cb gc g h):=⟨have hc:=hc.h; have ha:=ha.h; have hb:=hb.h; PS.imp (CN hc ha hb) λN σ H ⟨L,S,M,hL,hS,q,r⟩=>tI.go hL hS q λt S1 H1 h1 k1 hL1 hS1=>by
  cases t with
  | true=>
   rw [if_pos rfl] at h1 ⊢;exact⟨L,S1,M,hL1,hS1,h1,r.kp k1⟩
  | false=>
   rw [if_neg Gi] at h1 ⊢;exact⟨L,S1,M,hL1,hS1,h1,r.kp k1⟩⟩
theorem ie:SJ X st BL:=⟨PS.imp xo λN σ H z9=>by obtain⟨L,S,M,hL,hS,h,r⟩:=z9; exact h.elim⟩
theorem aj {i:Nat} {x:Str} {pos':Pos} (hN:X.N.Nodup) (he:EJ X e ge) (hi:X.N[i]?=some x:=by rfl) (hx:Aw X.env.scope x:=by first | exact Or.inl rfl | exact Or.inr rfl) (hs:swapsWith e (some (.Name x pos')) pos.line X.env=pure false:=by rfl) (hf:X.fn x=true\/X.env.scope.names.lookup x=some .local:=by first | exact .inl rfl | exact .inr rfl | assumption):SJ X (.Assign [.Name x pos'] e pos) (zB i ge):=⟨have he:=he.h; PS.imp (Bw hN hi hx he hs hf) λN σ H z9=>by obtain⟨L,S,M,hL,hS,h,r⟩:=z9; exact up.go hL hS h λd S1 v H1 h1 k1 hL1 hS1 i1=>r.nx _ S1 _ H1 h1 k1 (hL1.set i1 i) hS1⟩
theorem xP {i j:Nat} {x y:Str} {a b:Hb} {ta:DA} {px py pt:Pos} {kt k2 pt2} (hc:X.calm=true) (hN:X.N.Nodup) (hij:i≠j) (ha:AJ X [a,b] ta) (hi:X.N[i]?=some x:=by rfl) (hj:X.N[j]?=some y:=by rfl) (hx:X.env.scope.names.lookup x=some .local:=by rfl) (hy:X.env.scope.names.lookup y=some .local:=by rfl) (hw:swappedStores [.Tuple [.Name x px,.Name y py] kt pt] (.Tuple [a,b] k2 pt2) X.env=pure (some [x,y]):=by rfl) (hs:swapsWithSole [.Tuple [.Name x px,.Name y py] kt pt] (.Tuple [a,b] k2 pt2) pos.line X.env=pure false:=by rfl):SJ X (.Assign [.Tuple [.Name x px,.Name y py] kt pt] (.Tuple [a,b] k2 pt2) pos) (EK i j ta):=⟨have ha:=ha.h; PS.imp (BR hc hN hi hj hij hx hy ha hw hs) λN σ H ⟨L,S,M,hL,hS,h,r⟩=>sh.go hL hS h λds S1 vs H1 h1 k1 hL1 hS1 i1=>by
  split at h1
  ·obtain⟨v,u,rfl,j1,j2⟩:=uz i1;exact⟨v,u,rfl,r.nx _ S1 _ H1 h1 k1 ((hL1.set j1 i).set j2 j) hS1⟩
  ·exact h1.elim⟩
theorem aI {i:Nat} {x:Str} (hN:X.N.Nodup) (hi:X.N[i]?=some x:=by rfl) (hx:Aw X.env.scope x:=by first | exact Or.inl rfl | exact Or.inr rfl) (hf:X.fn x=true\/X.env.scope.names.lookup x=some .local:=by first | exact .inl rfl | exact .inr rfl | assumption):GJ X (.Name x pos) (jm i):=⟨PG.imp (uM hN hi hx hf) λv σ H Q z9=>by obtain⟨d,L,S,k,i1,hL,hS,h,n⟩:=z9; exact n _ S _ H h (Kp.refl H) (hL.set i1 i) hS⟩
theorem js:Dq X [] DN:=⟨wP.imp y7 λv σ H Q ⟨d,L,S,k,i1,hL,hS,h,n⟩=>by
 obtain⟨rfl,h⟩:=h;exact⟨iE.mp i1,n L S σ H h (Kp.refl H) hL hS⟩⟩
theorem cj {es:List Hb} {t:DG} {u:yw} (h1:GJ X e t) (h2:Dq X es u) (hs:(assignEach (e::es) X.env).map (·.2)=assign e X.env::(assignEach es X.env).map (·.2):=by rfl):Dq X (e::es) (A5 t u):=⟨have h1:=h1.h; have h2:=h2.h; wP.imp (vT h1 h2 hs) λvs σ H Q ⟨ds,L,S,k,i1,hL,hS,h,n⟩=>by
  cases ds with
  | nil=>exact(show False from h).elim
  | cons d r=>
   obtain⟨v,vr,rfl,j1,j2⟩:=cy.mp i1;exact⟨v,vr,rfl,d,L,S,_,j1,hL,hS,h,λL1 S1 σ1 H1 q k1 hL1 hS1=>⟨r,L1,S1,k,j2.kp k1,hL1,hS1,q,λL' S' σ' H' q' k'=>n L' S' σ' H' q' (k1.trans k')⟩⟩⟩
theorem gM {tg e:Hb} {g:DG} (he:EJ X e ge) (hg:GJ X tg g) (hs:swapsWithSole [tg] e pos.line X.env=pure false:=by rfl) (hw:swappedStores [tg] e X.env=pure none:=by rfl) (h1:(assignEach [tg] X.env).map (·.2)=[assign tg X.env]:=by rfl):SJ X (.Assign [tg] e pos) (E7 ge g):=⟨have he:=he.h; have hg:=hg.h; PS.imp (Bh he hg hs hw h1) λN σ H z9=>by obtain⟨L,S,M,hL,hS,h,r⟩:=z9; exact up.go hL hS h λd S1 v H1 h1 k1 hL1 hS1 i1=>
  ⟨d,L,S1,M.nx,i1,hL1,hS1,h1,λL' S' σ' H' q k' hL' hS'=>r.nx L' S' σ' H' q (k1.trans k') hL' hS'⟩⟩
theorem j4 {c:Hb} {body:List Hg} {gc:DT} (hp:PassesOwn (model X.prog X.w) X.A X.env X.xe) (hc:TJ X c gc) (hb:tL X body g):SJ X (.While c body [] pos) (BF gc g):=⟨have hc:=hc.h; have hb:=hb.h; PS.imp (xZ hp hc hb) λN σ H ⟨L,S,M,hL,hS,⟨W,⟨m0,w0⟩,turn⟩,r⟩=>by
  refine⟨λm σ H1=>∃ L S,Lc X.K H1 L σ/\Hs X.K H1 S/\W m L S/\Kp H H1,⟨m0,L,S,hL,hS,w0,Kp.refl H⟩,?_⟩
  rintro m σ1 H1 ⟨L1,S1,hL1,hS1,w1,k1⟩;refine tI.go hL1 hS1 (turn m L1 S1 w1) λt S2 H2 h2 k2 hL2 hS2=>?_
  cases t with
  | true=>
   rw [if_pos rfl] at h2 ⊢;obtain⟨N',hN,hb⟩:=h2;refine⟨fun σ' H'=>∃ L' S',Lc X.K H' L' σ'/\Hs X.K H' S'/\N' L' S'/\Kp H H',?_,L1,S2,_,hL2,hS2,hb,?_⟩
   ·rintro σ' H' ⟨L',S',hL',hS',n',k'⟩;obtain⟨m',hm,w'⟩:=hN L' S' n';exact⟨m',hm,L',S',hL',hS',w',k'⟩
   ·have r2:=r.kp (k1.trans k2);exact⟨λL' S' σ' H' n' k' hL' hS'=>⟨L',S',hL',hS',n',(k1.trans k2).trans k'⟩,r2.rt,r2.nx,λL' S' σ' H' n' k' hL' hS'=>⟨L',S',hL',hS',n',(k1.trans k2).trans k'⟩⟩
  | false=>
   rw [if_neg Gi] at h2 ⊢;exact(r.kp (k1.trans k2)).nx L1 S2 σ1 H2 h2 (Kp.refl H2) hL2 hS2⟩
theorem vN {tg a:Hb} {body:List Hg} {ta:DA} {gg:DG} {p pos':Pos} (hp:PassesOwn (model X.prog X.w) X.A X.env X.xe) (hc:X.calm=true) (hgl:Gl X "range") (hm:X.mg "range"=none) (ha:AJ X [a] ta) (hg:GJ X tg gg) (hb:tL X body g) (hs1:starEach [a] X.env=[(false,eval a X.env)]:=by rfl) (hs:∀ x,foldedSetIterable (.Call (.Name "range" p) [a] [] pos') X.env x=pure x:=by intro _; rfl):SJ X (.For tg (.Call (.Name "range" p) [a] [] pos') body [] pos) (Dl ta gg g):=⟨have ha:=ha.h; have hg:=hg.h; have hb:=hb.h; PS.imp (pX hp hc (oJ hgl hm ha hs1) hg hb hs) λN σ H ⟨L,S,M,hL,hS,h,r⟩=>sh.go hL hS h λds S1 vs H1 h1 k1 hL1 hS1 i1=>by
  split at h1
  ·obtain⟨v,rfl,j⟩:=gf i1;have e:=isInt.mp j;subst e;obtain⟨⟨h2,h3⟩,h1⟩:=h1;refine⟨_,rfl,h2,h3,mJ hL1 hS1 h1 (r.kp k1) (λi d S2 H2 e k2 hS2 _=>?_) λS2 H2 k2 hS2 _=>?_⟩
   ·rw [List.getElem?_map] at e;cases q:(List.range (Int.toNat _))[i]? with
    | none=>rw [q] at e; cases e
    | some z=>
     rw [q] at e;cases e;have hz:=GL.mp q;obtain⟨hz1,hz2⟩:=hz;rw [List.length_range] at hz1;rw [List.getElem_range] at hz2;subst hz2;exact⟨hz1,λx H' y=>⟨y.1,by rw [y.2]; exact isInt.mpr (by rw [Int.zero_add])⟩⟩
   ·rw [Gh,List.length_range];exact Gg _
  ·exact h1.elim⟩
end
section
variable {P:Hc} {w:He} {K:Fg} {mg:Str->Ha G9} {base:Hf}
theorem _root_.L2.r_.okJ {x Hn:Str} {st:Hg} {f:G_} {fd:FuncData} {N ps:List Str} {k:Nat} {F:bO} (Fn:r_ K x Hn st f fd) (Sc:aq N ps (ai st)) (len:∀ ds S k,F ds S k->ds.length=ps.length)
  (hbody:∀ (cdv:G9) (A:Hd) (outer:List Env) (s:G8) (H:Hp) (E:XK),dE k (A.deeper (envOfC Hn (ai st) s.heap.objs.size f cdv))->
   ∃ g,tL (dF cm P w K mg base N Hn (ai st) f cdv A outer s H E).nox (bV st) g/\
    ∀ ds S k,F ds S k->g {nx:=λ_ S'=>k .non S',rt:=k} (ds.map some++List.replicate (N.length - ps.length) none) S):aH P w K mg base cm (k+1) f fd ps (cn K F):=
 Fn.okD Sc len λcdv A outer s H E hr=>let ⟨g,h,q⟩:=hbody cdv A outer s H E hr; ⟨g,h.h,q⟩
end
end DL
namespace L2
open PySem PySem.Spec PyProof.Rows
section
variable {X:Cx} {pos:Pos}
def E9 (K:PySem.W.Frag) (n:Nat) (t:xA):TG:=λv σ H Q=>∃ a xs,v=.ref a/\eu K H a xs/\xs.length=n/\t xs σ H Q
theorem A3 {es:List Hb} {k:Nat} {t:xA} {n:Nat} (hc:X.calm=true) (h:wP X es t)
  (hn:(assignEach es X.env).length=n:=by rfl) (hst:(assignEach es X.env).findIdx? (·.1)=none:=by rfl):PG X (.Tuple es k pos) (E9 X.K n t):=by
 intro Hm s σ H v u Q I r hw;obtain⟨a,xs,e1,hq,hl,hw⟩:=hw;subst e1;cases r;obtain⟨its,rv,ht,hz⟩:=I.list hq;have e2:(assignEach es X.env).length=its.toArray.size:=by simp [hn,<- hl,rv.length]
 rw [arm_assign_Tuple];refine gt (wpAny_standAt ?_);unfold unpack;rw [e2,hst];refine gt (wpAny_holding (PySem.W.kun_itemsOf (I.ok.hd hc) ht.isList λh' hx=>?_))
 have I1:az X Hm σ H {s with heap:=h'}:=I.kept (t':=s.toks) λb o e=>hx b o (Gm (Gf e)) e
 exact h Hm _ σ H xs _ Q I1 (by simpa using rv) hw
theorem PG.or {e:Hb} {t t':TG} (h:PG X e t) (h':PG X e t'):PG X e (λv σ H Q=>t v σ H Q\/t' v σ H Q):=by
 intro Hm s σ H v u Q I r q;rcases q with q | q
 ·exact h Hm s σ H v u Q I r q
 ·exact h' Hm s σ H v u Q I r q
end
def l5 (X:Cx) (scope:Scope):List (Ha Nat)->List Str->Prop
 | some j::r,x::xs=>(X.N[j]?=some x/\(X.env.scope.names.lookup x=some .cell\/X.env.scope.names.lookup x=some .free)/\((relabel scope X.env).names.lookup x=some .cell\/(relabel scope X.env).names.lookup x=some .free))/\l5 X scope r xs
 | none::r,_::xs=>l5 X scope r xs
 | _,_=>True
theorem l5.get {X:Cx} {scope:Scope}:∀ {cap:List (Ha Nat)} {N:List Str},l5 X scope cap N->∀ (i j:Nat) (x:Str),cap[i]?=some (some j)->N[i]?=some x->
  X.N[j]?=some x/\(X.env.scope.names.lookup x=some .cell\/X.env.scope.names.lookup x=some .free)/\((relabel scope X.env).names.lookup x=some .cell\/(relabel scope X.env).names.lookup x=some .free)
 | [],_,_,_,_,_,h,_=>by simp at h
 | _::_,[],_,_,_,_,_,h=>by simp at h
 | some _::_,_::_,h,0,j,x,h1,h2=>by
  simp at h1 h2
  subst h1 h2;exact h.1
 | none::_,_::_,_,0,j,x,h1,_=>by simp at h1
 | some _::_,_::_,h,i+1,j,x,h1,h2=>l5.get h.2 i j x (by simpa using h1) (by simpa using h2)
 | none::r,_::xs,h,i+1,j,x,h1,h2=>l5.get (show l5 X scope r xs from h) i j x (by simpa using h1) (by simpa using h2)
def rT (X:Cx):List (Str×G_)->Prop
 | []=>True
 | p::r=>X.env.cells.lookup p.1=some p.2/\rT X r
theorem rT.mem {X:Cx}:∀ {cl:List (Str×G_)},rT X cl->∀ p∈cl,X.env.cells.lookup p.1=some p.2
 | [],_,p,hp=>by simp at hp
 | q::r,h,p,hp=>by
  rcases Gk.mp hp with e | e
  ·subst e; exact h.1
  ·exact rT.mem h.2 p e
theorem eI {X:Cx} {scope:Scope} {cl:List (Str×G_)} {N:List Str} {cap:List (Ha Nat)} (h1:scope.kind=.function) (h2:closureFor scope X.env=pure cl) (h3:(scope.names.all λy=>y.2 != NameKind.cell)=true)
  (h4:(scope.names.all λy=>y.2 != NameKind.local || scope.names.lookup y.1 == some NameKind.local)=true) (h5:rT X cl)
  (h6:((relabel scope X.env).names.all λy=>(y.2 != NameKind.cell && y.2 != NameKind.free) || (cl.lookup y.1).isSome)=true) (h7:cap.length=N.length) (h8:l5 X scope cap N):fJ X scope cl N cap:=⟨h1,h2,h3,h4,h5.mem,h6,h7,h8.get⟩
end L2
namespace DL
open PySem PySem.Spec PyProof.Rows L2
section
variable {X:Cx} {pos:Pos}
def kv (n:Nat) (t:yw):DG:=λd L S k=>match aQ S d with
 | some p=>p.1.length=n/\t p.1 L S k
 | none=>False
theorem AD {es:List Hb} {k:Nat} {t:yw} {n:Nat} (hc:X.calm=true) (h:Dq X es t) (hn:(assignEach es X.env).length=n:=by rfl) (hst:(assignEach es X.env).findIdx? (·.1)=none:=by rfl):GJ X (.Tuple es k pos) (kv n t):=
 ⟨PG.imp (PG.or (AW hc h.h hn hst) (A3 hc h.h hn hst)) λv σ H Q ⟨d,L,S,k,i1,hL,hS,h,m⟩=>by
  cases d with
  | tup ds=>
   obtain⟨a,xs,rfl,t1,j⟩:=ci.mp i1;exact .inl ⟨a,xs,rfl,t1,by rw [<- j.length]; exact h.1,ds,L,S,k,j,hL,hS,h.2,m⟩
  | rl ds=>
   obtain⟨a,xs,rfl,t1,j⟩:=sC.mp i1;exact .inr ⟨a,xs,rfl,t1.sq,by rw [<- j.length]; exact h.1,ds,L,S,k,j,hL,hS,h.2,m⟩
  | ref a=>
   have e1:=a_.mp i1;subst e1;cases z:S a with
   | none=>simp only [kv,aQ,z] at h
   | some o=>
    cases o with
    | dic=>simp only [kv,aQ,z] at h
    | exc _=>simp only [kv,aQ,z] at h
    | fn _=>simp only [kv,aQ,z] at h
    | tbl _=>simp only [kv,aQ,z] at h
    | gen _=>simp only [kv,aQ,z] at h
    | lst ds=>
     simp only [kv,aQ,z] at h;obtain⟨xs,hl,j⟩:=hS.lst z;exact .inr ⟨a,xs,rfl,eu.of hl,by rw [<- j.length]; exact h.1,ds,L,S,k,j,hL,hS,h.2,m⟩
  | _=>exact(show False from h).elim⟩
end
def zz (cap:List (Ha Nat)) (L:Lo):Lo:=cap.map λo=>match o with
 | some j=>(L[j]?).join
 | none=>none
theorem Lc.cap {K:Fg} {H:Hp} {L:Lo} {σ:L2.St} (hL:Lc K H L σ):∀ cap:List (Ha Nat),Lc K H (zz cap L) (kS cap σ)
 | []=>rfl
 | Option.none::r=>⟨_,_,rfl,Lc.cap hL r⟩
 | Option.some j::r=>by
  show Lc K H ((L[j]?).join::zz r L) ((σ[j]?).join::kS r σ)
  cases e:L[j]? with
  | none=>exact⟨_,_,rfl,Lc.cap hL r⟩
  | some o=>
   cases o with
   | none=>exact⟨_,_,rfl,Lc.cap hL r⟩
   | some d=>
    obtain⟨v,e1,e2⟩:=hL.get e;rw [e1];exact⟨v,_,rfl,e2,Lc.cap hL r⟩
abbrev DB:=Lo->DH->(Ha D->DH->Prop)->Prop
def kJ (ge:DE):DB:=λL S k=>ge L S λv S1=>k (some v) S1
def zI (c:DT) (ge:DE):DB:=λL S k=>c L S λb S1=>if b=true then ge L S1 λv S2=>k (some v) S2 else k none S1
def cO (ok:DH->Prop) (p:G_) (g:DG) (bd:DB) (k:DK):List D->List D->Lo->DH->Prop
 | [],_,_,S=>ok S/\k (.ref p) S
 | d::r,acc,L,S=>ok S/\g d L S λL1 S1=>bd L1 S1 λo S2=>match o with
  | some v=>S2 p=some (.lst acc)/\acc.length < sizeLine/\cO ok p g bd k r (acc++[v]) L1 (put S2 p (.lst (acc++[v])))
  | none=>cO ok p g bd k r acc L1 S2
def BI (cap:List (Ha Nat)) (ta:DA) (g:DG) (bd:DB):DE:=λL S k=>ta L S λds S1=>match ds with
 | [.int n]=>(-(2 ^ 62)<=n/\n < 2 ^ 62)/\∀ p,S1 p=none->cO (λ_=>True) p g bd k ((List.range n.toNat).map λi=>D.int (i:Nat)) [] (zz cap L) (put S1 p (.lst []))
 | _=>False
section
variable {K:Fg} {ok:DH->Prop} {gg:DG} {ge:DE} {gc:DT} {k:DK} {ds:List D} {L:Lo} {S:DH} {σ:L2.St} {H:Hp} {J:It} {Q:VK} {p:G_}
theorem gO (hL:Lc K H L σ) (hS:Hs K H S) (hp:H p=none) (h:cO ok p gg (kJ ge) k ds [] L (put S p (.lst [])))
  (n:∀ d S' v H',k d S'->Kp H H'->Hs K H' S'->bJ K H' d v->Q v H')
  (hgo:∀ i d S1 H1,ds[i]?=some d->Kp H H1->Hs K H1 S1->ok S1->J.go i H1/\∀ x H',J.yld i H1 x H'->H'=H1/\bJ K H1 d x)
  (hst:∀ S1 H1,Kp H H1->Hs K H1 S1->ok S1->J.stop ds.length H1):
  ∃ W:Nat->Nat->L2.St->Hp->Prop,(∃ m,W 0 m σ (bI H p (.lst [])))/\∀ i m σ' H',W i m σ' H'->
   (J.stop i H'/\Q (.ref p) H')\/(J.go i H'/\∃ N:L2.St->Hp->Prop,(∀ σ2 H2,N σ2 H2->∃ m',m' < m/\W (i+1) m' σ2 H2)/\∀ x H2,J.yld i H' x H2->C2 K gg x σ' H2 fun σ3 H3=>up K ge σ3 H3 λv H4=>∃ ys,H4 p=some (.lst ys)/\ys.length < sizeLine/\N σ3 (bI H4 p (.lst (ys++[v])))):=by
 refine⟨λi m σ1 H1=>m=ds.length - i/\i<=ds.length/\∃ acc L1 S1,Lc K H1 L1 σ1/\Hs K H1 S1/\Kp H H1/\cO ok p gg (kJ ge) k (ds.drop i) acc L1 S1,⟨ds.length,by simp,Nat.zero_le _,[],L,_,hL.kp (Kp.new hp),hS.newL hp IsDs.nil,Kp.new hp,h⟩,?_⟩
 rintro i m σ1 H1 ⟨rfl,hi,acc,L1,S1,hL1,hS1,k1,w1⟩
 by_cases hlt:i < ds.length
 ·have e:ds.drop i=ds[i]::ds.drop (i+1):=GT hlt;rw [e] at w1;obtain⟨o1,w1⟩:=w1;obtain⟨g1,y1⟩:=hgo i ds[i] S1 H1 (by simp [hlt]) k1 hS1 o1
  refine .inr ⟨g1,fun σ' H'=>i+1<=ds.length/\∃ acc L' S',Lc K H' L' σ'/\Hs K H' S'/\Kp H H'/\cO ok p gg (kJ ge) k (ds.drop (i+1)) acc L' S',fun σ' H' z9=>by obtain⟨q1,q2⟩:=z9; exact⟨ds.length - (i+1),by omega,rfl,q1,q2⟩,λx H' y=>?_⟩
  obtain⟨rfl,ix⟩:=y1 x H' y;refine⟨ds[i],L1,S1,_,ix,hL1,hS1,w1,λL2 S2 σ2 H2 q k2 hL2 hS2=>up.go hL2 hS2 q λd S3 v H3 h3 k3 hL3 hS3 i3=>?_⟩
  obtain⟨z1,z2,z3⟩:=h3;obtain⟨xs,hl,j⟩:=hS3.lst z1;have k4:Kp H3 (bI H3 p (.lst (xs++[v]))):=Kp.mut hl (λz=>z)
  exact⟨xs,hl,by rw [<- j.length]; exact z2,hlt,_,L2,_,hL3.kp k4,hS3.setL hl (j.append (IsDs.cons i3 IsDs.nil)),((k1.trans k2).trans k3).trans k4,z3⟩
 ·have e:i=ds.length:=by omega
  subst e;rw [List.drop_length] at w1;obtain⟨o1,w1⟩:=w1;exact .inl ⟨hst S1 H1 k1 hS1 o1,n _ S1 _ H1 w1 k1 hS1 (a_.mpr rfl)⟩
theorem lW (hL:Lc K H L σ) (hS:Hs K H S) (hp:H p=none) (h:cO ok p gg (zI gc ge) k ds [] L (put S p (.lst [])))
  (n:∀ d S' v H',k d S'->Kp H H'->Hs K H' S'->bJ K H' d v->Q v H')
  (hgo:∀ i d S1 H1,ds[i]?=some d->Kp H H1->Hs K H1 S1->ok S1->J.go i H1/\∀ x H',J.yld i H1 x H'->H'=H1/\bJ K H1 d x)
  (hst:∀ S1 H1,Kp H H1->Hs K H1 S1->ok S1->J.stop ds.length H1):
  ∃ W:Nat->Nat->L2.St->Hp->Prop,(∃ m,W 0 m σ (bI H p (.lst [])))/\∀ i m σ' H',W i m σ' H'->
   (J.stop i H'/\Q (.ref p) H')\/(J.go i H'/\∃ N:L2.St->Hp->Prop,(∀ σ2 H2,N σ2 H2->∃ m',m' < m/\W (i+1) m' σ2 H2)/\∀ x H2,J.yld i H' x H2->C2 K gg x σ' H2 fun σ3 H3=>tI K gc σ3 H3 λb H3'=>if b=true then up K ge σ3 H3' λv H4=>∃ ys,H4 p=some (.lst ys)/\ys.length < sizeLine/\N σ3 (bI H4 p (.lst (ys++[v]))) else N σ3 H3'):=by
 refine⟨λi m σ1 H1=>m=ds.length - i/\i<=ds.length/\∃ acc L1 S1,Lc K H1 L1 σ1/\Hs K H1 S1/\Kp H H1/\cO ok p gg (zI gc ge) k (ds.drop i) acc L1 S1,⟨ds.length,by simp,Nat.zero_le _,[],L,_,hL.kp (Kp.new hp),hS.newL hp IsDs.nil,Kp.new hp,h⟩,?_⟩
 rintro i m σ1 H1 ⟨rfl,hi,acc,L1,S1,hL1,hS1,k1,w1⟩
 by_cases hlt:i < ds.length
 ·have e:ds.drop i=ds[i]::ds.drop (i+1):=GT hlt;rw [e] at w1;obtain⟨o1,w1⟩:=w1;obtain⟨g1,y1⟩:=hgo i ds[i] S1 H1 (by simp [hlt]) k1 hS1 o1
  refine .inr ⟨g1,fun σ' H'=>i+1<=ds.length/\∃ acc L' S',Lc K H' L' σ'/\Hs K H' S'/\Kp H H'/\cO ok p gg (zI gc ge) k (ds.drop (i+1)) acc L' S',fun σ' H' z9=>by obtain⟨q1,q2⟩:=z9; exact⟨ds.length - (i+1),by omega,rfl,q1,q2⟩,λx H' y=>?_⟩
  obtain⟨rfl,ix⟩:=y1 x H' y;refine⟨ds[i],L1,S1,_,ix,hL1,hS1,w1,λL2 S2 σ2 H2 q k2 hL2 hS2=>tI.go hL2 hS2 q λb S2' H2' h2 k2' hL2' hS2'=>?_⟩
  cases b with
  | true=>
   rw [if_pos rfl] at h2 ⊢;refine up.go hL2' hS2' h2 λd S3 v H3 h3 k3 hL3 hS3 i3=>?_
   obtain⟨z1,z2,z3⟩:=h3;obtain⟨xs,hl,j⟩:=hS3.lst z1;have k4:Kp H3 (bI H3 p (.lst (xs++[v]))):=Kp.mut hl (λz=>z)
   exact⟨xs,hl,by rw [<- j.length]; exact z2,hlt,_,L2,_,hL3.kp k4,hS3.setL hl (j.append (IsDs.cons i3 IsDs.nil)),(((k1.trans k2).trans k2').trans k3).trans k4,z3⟩
  | false=>
   rw [if_neg Gi] at h2 ⊢;exact⟨hlt,acc,L2,S2',hL2',hS2',(k1.trans k2).trans k2',h2⟩
 ·have e:i=ds.length:=by omega
  subst e;rw [List.drop_length] at w1;obtain⟨o1,w1⟩:=w1;exact .inl ⟨hst S1 H1 k1 hS1 o1,n _ S1 _ H1 w1 k1 hS1 (a_.mpr rfl)⟩
end
theorem xw {K:Fg} {H:Hp} {n:Int}:∀ i d (S1:DH) H1,((List.range n.toNat).map λi=>D.int (i:Nat))[i]?=some d->Kp H H1->Hs K H1 S1->(λ_=>True:DH->Prop) S1->(Dw 0 n.toNat).go i H1/\∀ x H',(Dw 0 n.toNat).yld i H1 x H'->H'=H1/\bJ K H1 d x:=by
 intro i d S1 H1 e _ _ _;rw [List.getElem?_map] at e;cases q:(List.range (Int.toNat _))[i]? with
 | none=>rw [q] at e; cases e
 | some z=>
  rw [q] at e;cases e;obtain⟨hz1,hz2⟩:=GL.mp q;rw [List.length_range] at hz1;rw [List.getElem_range] at hz2;subst hz2;exact⟨hz1,λx H' y=>⟨y.1,by rw [y.2]; exact isInt.mpr (by rw [Int.zero_add])⟩⟩
def lL (K:Fg) (mg:Str->Ha G9) (x:Str) (ns:List Int):Prop:=∃ p o its n,mg x=some (.ref p)/\K.lookup p=some o/\o.cls=.type "tuple"/\o.data=.seq its n/\its.size<=sizeLine/\aW (ns.map V.int) its.toList
theorem jI {K:Fg} {H:Hp}:∀ ns:List Int,IsDs K H (ns.map D.int) (ns.map V.int)
 | []=>IsDs.nil
 | _::ns=>IsDs.cons (isInt.mpr rfl) (jI ns)
theorem dP {X:Cx} {x:Str} {ns:List Int} {pos:Pos} (g:lL X.K X.mg x ns) (hg:Gl X x) (hd:(x == ("__debug__":Str))=false:=by decide):EJ X (.Name x pos) (dC (.tup (ns.map D.int))):=by
 obtain⟨p,o,its,n,hm,h1,h2,h3,h4,h5⟩:=g;exact⟨Cv (p8 (v:=.ref p) hg hm rfl hd) λH=>ci.mpr ⟨p,_,rfl,.inr ⟨o,its,n,h1,h2,h3,h4,h5⟩,jI ns⟩⟩
theorem iM.imp {K:Fg} {r r':D2} (i:∀ d e S k,r' d e S k->r d e S k):∀ x y H Q,iM K r' x y H Q->iM K r x y H Q:=λx y H Q z9=>by obtain⟨d,e,S,k,a,b,c,h,n⟩:=z9; exact⟨d,e,S,k,a,b,c,i d e S k h,n⟩
theorem qY.imp {K:Fg} {r r':bO} (i:∀ ds S k,r' ds S k->r ds S k):∀ xs H Q,qY K r' xs H Q->qY K r xs H Q:=λxs H Q z9=>by obtain⟨ds,S,k,a,b,h,n⟩:=z9; exact⟨ds,S,k,a,b,i ds S k h,n⟩
theorem vH.imp {X:Cx} {r r':R2} (h:vH X r) (i:∀ x y H Q,r' x y H Q->r x y H Q):vH X r':=λvalue slice Hm s σ H x y v u Q I rx ry q=>h value slice Hm s σ H x y v u Q I rx ry (i x y H Q q)
theorem cb.imp {X:Cx} {f:G9} {r r':List V->Hp->VK->Prop} (h:cb X f r) (i:∀ xs H Q,r' xs H Q->r xs H Q):cb X f r':=λHm s σ H xs us Q I rs q=>h Hm s σ H xs us Q I rs (i xs H Q q)
def Bj:D2:=λd e S k=>match d,e with
 | .tup ds,.int i=>(match L2.atI ds i with
  | some c=>k c S
  | none=>False)
 | .rl ds,.int i=>∃ c,L2.atI ds i=some c/\k c S
 | .ref a,.int i=>∃ ds c,S a=some (.lst ds)/\L2.atI ds i=some c/\k c S
 | _,_=>False
theorem eh {X:Cx}:vH X (iM X.K Bj):=vH.imp CP (iM.imp λd e S k h=>by
 unfold Bj at h
 split at h
 ·exact h
 ·obtain⟨c,h1,h2⟩:=h;simp only [qX,h1];exact h2
 ·obtain⟨ds,c,h0,h1,h2⟩:=h;simp only [qX,h0,h1];exact h2
 ·exact h.elim)
theorem aJ {X:Cx} {x:Str} {p1 p2 pos:Pos} {c:Int} {j} (n:Nat) (hN:X.N[n]?=some x:=by rfl) (hv:C8 X.env.scope x:=by first | exact Or.inl rfl | exact Or.inr (Or.inl rfl) | exact Or.inr (Or.inr rfl)) (hd:(x == ("__debug__":Str))=false:=by decide) (hcd:(x == ("__classdict__":Str))=false:=by decide):EJ X (.Subscript (.Name x p1) (.Constant (.int c) j p2) pos) (BJ Bj (oC n) (dC (.int c))):=cN eh (ak n hN hv hd hcd) am Zf
def Au:bO:=λds S k=>match ds with
 | [.tup xs]=>k (.int xs.length) S
 | [.rl xs]=>k (.int xs.length) S
 | [.ref a]=>∃ xs,S a=some (.lst xs)/\k (.int xs.length) S
 | _=>False
theorem pV {X:Cx}:cb X (.builtin "len") (qY X.K Au):=cb.imp CA (qY.imp λds S k h=>by
 unfold Au at h
 split at h
 ·exact h
 ·exact h
 ·obtain⟨xs,h1,h2⟩:=h;simp only [A9,h1];exact h2
 ·exact h.elim)
def Ea (gi:DE) (g:DG) (b:DS):DS:=λM L S=>gi L S λd S1=>∃ p,aQ S1 d=some p/\gm (cU p) g b M p.1 L S1
def A2 (n:Nat) (t:yw):DG:=λd L S k=>∃ p,aQ S d=some p/\p.1.length=n/\t p.1 L S k
theorem GJ.imp {X:Cx} {e:Hb} {g g':DG} (h:GJ X e g) (i:∀ d L S k,g' d L S k->g d L S k):GJ X e g':=⟨PG.imp h.h λv σ H Q z9=>by obtain⟨d,L,S,k,a,hL,hS,q,n⟩:=z9; exact⟨d,L,S,k,a,hL,hS,i d L S k q,n⟩⟩
theorem kF {X:Cx} {pos:Pos} {es:List Hb} {k:Nat} {t:yw} {n:Nat} (hc:X.calm=true) (h:Dq X es t) (hn:(assignEach es X.env).length=n:=by rfl) (hst:(assignEach es X.env).findIdx? (·.1)=none:=by rfl):GJ X (.Tuple es k pos) (A2 n t):=
 GJ.imp (AD hc h hn hst) λd L S k ⟨p,h1,h2⟩=>by
  simp only [kv,h1];exact h2
section
variable {X:Cx} {pos:Pos}
def BB (go gi:DE):DG:=λd L S k=>go L S λo S1=>gi L S1 λi S2=>match o,i with
 | .ref a,.int j=>∃ ds n,S2 a=some (.lst ds)/\yg ds.length j=some n/\k L (put S2 a (.lst (ds.set n d)))
 | _,_=>False
theorem kK {o i:Hb} {go gi:DE} (ho:EJ X o go) (hi:EJ X i gi)
  (ha:∀ v,assign (.Subscript o i pos) X.env v=(do
   let ov <- holding [v] (eval o X.env)
   let iv <- holding [v,ov] (eval i X.env)
   standAt pos
   holding [v,ov,iv] (setItem ov iv v)
   release [v,ov,iv] []):=by intro _; rfl):GJ X (.Subscript o i pos) (BB go gi):=
 ⟨PG.imp (Br ho.h hi.h xk ha) λv σ H Q ⟨d,L,S,k,i1,hL,hS,h,n⟩=>up.go hL hS h λc S1 u H1 h1 k1 hL1 hS1 j1=>up.go hL1 hS1 h1 λc2 S2 u2 H2 h2 k2 hL2 hS2 j2=>by
  cases c with
  | ref a=>
   cases c2 with
   | int z=>
    have e1:=a_.mp j1;have e2:=isInt.mp j2;subst e1;subst e2;obtain⟨ds,m,w,q,h2⟩:=h2;obtain⟨vs,hl,j⟩:=hS2.lst w;refine⟨a,vs,z,m,rfl,rfl,hl,by rw [<- j.length]; exact q,?_⟩
    have k3:Kp H2 (bI H2 a (.lst (vs.set m v))):=Kp.mut hl (λz=>z)
    exact n L _ σ _ h2 (k1.trans (k2.trans k3)) (hL2.kp k3) (hS2.setL hl (j.set m (i1.kp (k1.trans k2))))
   | _=>exact(show False from h2).elim
  | _=>exact(show False from h2).elim⟩
theorem qu {K:Fg} {S1:DH} {H1:Hp} {d:D} {v:V} {p:List D×Ha G_} (hS1:Hs K H1 S1) (i1:bJ K H1 d v) (hp:aQ S1 d=some p):∃ a,v=.ref a/\
  (((∃ xs, eu K H1 a xs) ∧ (∀ i c S2 H2, p.1[i]? = some c → Kp H1 H2 → Hs K H2 S2 → cU p S2 → (Df K a).go i H2 ∧ ∀ x H', (Df K a).yld i H2 x H' → H' = H2 ∧ bJ K H2 c x) ∧ ∀ S2 H2, Kp H1 H2 → Hs K H2 S2 → cU p S2 → (Df K a).stop p.1.length H2) ∨
   ((∃ xs,kU K H1 a xs)/\(∀ i c S2 H2,p.1[i]?=some c->Kp H1 H2->Hs K H2 S2->cU p S2->(Dt K a).go i H2/\∀ x H',(Dt K a).yld i H2 x H'->H'=H2/\bJ K H2 c x)/\∀ S2 H2,Kp H1 H2->Hs K H2 S2->cU p S2->(Dt K a).stop p.1.length H2)):=by
 cases d with
 | tup ds=>
  cases hp;obtain⟨a,xs,rfl,t,j⟩:=ci.mp i1;refine⟨a,rfl,.inr ⟨⟨xs,t⟩,λi d S2 H2 e k2 hS2 _=>?_,λS2 H2 k2 hS2 _=>⟨xs,k2.tup t,by rw [<- j.length]; exact Gg _⟩⟩⟩
  obtain⟨w,e1,e2⟩:=j.get e;refine⟨⟨xs,w,k2.tup t,e1⟩,λx H' y=>⟨y.1,?_⟩⟩
  have z:=y.2 xs (k2.tup t);rw [e1] at z;cases z;exact e2.kp k2
 | rl ds=>
  cases hp;obtain⟨a,xs,rfl,t,j⟩:=sC.mp i1;refine⟨a,rfl,.inl ⟨⟨xs,t.sq⟩,λi d S2 H2 e k2 hS2 _=>?_,λS2 H2 k2 hS2 _=>⟨xs,(k2.fro t).sq,by rw [<- j.length]; exact Gg _⟩⟩⟩
  obtain⟨w,e1,e2⟩:=j.get e;refine⟨⟨xs,w,(k2.fro t).sq,e1⟩,λx H' y=>⟨y.1,?_⟩⟩
  have z:=y.2 xs (k2.fro t).sq;rw [e1] at z;cases z;exact e2.kp k2
 | ref a=>
  have e1:=a_.mp i1;subst e1;cases z:S1 a with
  | none=>simp only [aQ,z] at hp; cases hp
  | some o=>
   cases o with
   | dic=>simp only [aQ,z] at hp; cases hp
   | exc _=>simp only [aQ,z] at hp; cases hp
   | fn _=>simp only [aQ,z] at hp; cases hp
   | tbl _=>simp only [aQ,z] at hp; cases hp
   | gen _=>simp only [aQ,z] at hp; cases hp
   | lst ds=>
    simp only [aQ,z] at hp;cases hp;obtain⟨xs,hl,j⟩:=hS1.lst z;refine⟨a,rfl,.inl ⟨⟨xs,eu.of hl⟩,λi d S2 H2 e k2 hS2 o2=>?_,λS2 H2 k2 hS2 o2=>?_⟩⟩
    ·obtain⟨ys,hl2,j2⟩:=hS2.lst o2;obtain⟨w,e1,e2⟩:=j2.get e;refine⟨⟨ys,w,eu.of hl2,e1⟩,λx H' y=>⟨y.1,?_⟩⟩
     have q:=y.2 ys (eu.of hl2);rw [e1] at q;cases q;exact e2
    ·obtain⟨ys,hl2,j2⟩:=hS2.lst o2;exact⟨ys,eu.of hl2,by rw [<- j2.length]; exact Gg _⟩
 | _=>cases hp
theorem fH {tg iter:Hb} {body:List Hg} {gi:DE} {gg:DG} {g:DS} (hp:PassesOwn (model X.prog X.w) X.A X.env X.xe) (hc:X.calm=true) (hi:EJ X iter gi) (hg:GJ X tg gg) (hb:tL X body g)
  (hs:∀ x,foldedSetIterable iter X.env x=pure x:=by intro _; rfl):SJ X (.For tg iter body [] pos) (Ea gi gg g):=
 ⟨PS.imp (pX hp hc (qf hi.h) hg.h hb.h hs) λN σ H ⟨L,S,M,hL,hS,h,r⟩=>up.go hL hS h λd S1 v H1 h1 k1 hL1 hS1 i1=>by
  obtain⟨p,hp,h1⟩:=h1;obtain⟨a,e,q⟩:=qu hS1 i1 hp;refine⟨a,e,?_⟩;rcases q with ⟨q1,q2,q3⟩ | ⟨q1,q2,q3⟩
  ·exact .inl ⟨q1,mJ hL1 hS1 h1 (r.kp k1) q2 q3⟩
  ·exact .inr ⟨q1,mJ hL1 hS1 h1 (r.kp k1) q2 q3⟩⟩
def s_ (cap:List (Ha Nat)) (gi:DE) (g:DG) (bd:DB):DE:=λL S k=>gi L S λd S1=>∃ q,aQ S1 d=some q/\∀ p,S1 p=none->cO (cU q) p g bd k q.1 [] (zz cap L) (put S1 p (.lst []))
theorem eP {elt tg iter:Hb} {scope:Scope} {cl:List (Str×G_)} {N:List Str} {cap:List (Ha Nat)} {gg:DG} {ge gi:DE} (hc:X.calm=true) (Sc:fJ X scope cl N cap) (hi:EJ X iter gi) (hg:∀ s0 H0 ex C,GJ (iO X scope cl N s0 H0 ex C) tg gg) (he:∀ s0 H0 ex C,EJ (iO X scope cl N s0 H0 ex C) elt ge)
  (hs:∀ x,foldedSetIterable iter X.env x=pure x:=by intro _; rfl):EJ X (.ListComp elt [⟨tg,iter,[],0⟩] scope pos) (s_ cap gi gg (kJ ge)):=
 ⟨PE.imp (yW hc Sc (qf hi.h) (λs0 H0 ex C=>(hg s0 H0 ex C).h) (λs0 H0 ex C=>(he s0 H0 ex C).h) hs) fun σ H Q ⟨L,S,k,hL,hS,h,n⟩=>up.go hL hS h λd S1 v H1 h1 k1 hL1 hS1 i1=>by
  obtain⟨p,hp,h1⟩:=h1;obtain⟨a,e,q⟩:=qu hS1 i1 hp;refine⟨a,e,?_⟩;have n':∀ d S' v H',k d S'->Kp H1 H'->Hs X.K H' S'->bJ X.K H' d v->Q v H':=λd S' v H' q k3=>n d S' v H' q (k1.trans k3)
  rcases q with ⟨q1,q2,q3⟩ | ⟨q1,q2,q3⟩
  ·exact .inl ⟨q1,λD hD=>gO (hL1.cap cap) hS1 hD (h1 D (hS1.free hD)) n' q2 q3⟩
  ·exact .inr ⟨q1,λD hD=>gO (hL1.cap cap) hS1 hD (h1 D (hS1.free hD)) n' q2 q3⟩⟩
end
end DL
namespace L2
open PySem PySem.Spec PyProof.Rows
structure fO (P:Hc) (w:He) (it l:G_) (st:Nat->Hf->Prop) (sq:Hh G9->Hf->Prop):Prop where
 at_:∀ k h h',st k h->(∀ o,h.get? it=some o->h'.get? it=some o)->st k h'
 sqAt:∀ xs h h',sq xs h->(∀ o,h.get? l=some o->h'.get? l=some o)->sq xs h'
 obj:∀ k h,st k h->∃ o,h.get? it=some o/\∀ v,o.data≠.cell v
 item:∀ (A:Hd) (k:Nat) (s:G8) (xs:Hh G9) (x:G9) (Q:G9->G8->Prop) (E:G9->G8->Prop),st k s.heap->sq xs s.heap->xs[k]?=some x->
  (∀ h',st (k+1) h'->Heap.SameBut it s.heap h'->Q x {s with heap:=h'})->wpAny (model P w) A (Builtin.SmallTypes.nextOf (.ref it)) Q E s
 fin:∀ (A:Hd) (k:Nat) (s:G8) (xs:Hh G9) (Q:G9->G8->Prop) (E:G9->G8->Prop),A.handled=none->st k s.heap->sq xs s.heap->xs[k]?=none->
  (∀ h' e,Heap.ExtBut it s.heap h'->(∃ o,h'.get? e=some o/\o.cls=.type "StopIteration")->E (.ref e) {s with heap:=h'})->wpAny (model P w) A (Builtin.SmallTypes.nextOf (.ref it)) Q E s
theorem fO.list {P:Hc} {w:He} (it l:G_):fO P w it l (λk h=>h.IsListIter it l k) (λxs h=>h.IsList l xs) where
 at_:=λ_ _ _ x y=>x.at y
 sqAt:=λ_ _ _ x y=>x.at y
 obj:=λ_ _ z9=>by obtain⟨o,e,_,d⟩:=z9; exact⟨o,e,λv z=>by rw [d] at z; cases z⟩
 item:=λ_ _ _ _ _ _ _ a b c d=>wpAny_nextOf_list_item a b c d
 fin:=λ_ _ _ _ _ _ hh a b c d=>wpAny_nextOf_list_end hh a b c d
section
variable {prog:Hc} {w:He} {A:Hd} {E:G9->G8->Prop} {s:G8}
theorem ko {it t:G_} {i:Nat} {items} {x:G9} {Q:G9->G8->Prop} (hit:s.heap.IsTupleIter it t i) (ht:s.heap.IsTuple t items) (hx:items[i]?=some x)
  (hQ:∀ h',h'.IsTupleIter it t (i+1)->Heap.SameBut it s.heap h'->Q x {s with heap:=h'}):wpAny (model prog w) A (Builtin.SmallTypes.nextOf (.ref it)) Q E s:=by
 obtain⟨o,ho,hc,hd⟩:=id hit;obtain⟨ol,hol,_,nl,hdl⟩:=ht;unfold Builtin.SmallTypes.nextOf;refine gt (GZ (name:=Str.ofString "__next__") hit.typeIs F.slot_tuple_iterator_next (wpAny_call_entry F.slot_tuple_iterator_next hit.typeIs F.entry_tuple_iterator_next ?_ (F.args_tuple_iterator_next_1 _)))
 refine gt (m:=field (.ref it) 0) (GN ho hd (x:=.ref t) rfl ?_)
 show wpAny _ _ (if (Value.ref t == Value.none)=true then _ else _) _ _ s
 rw [if_neg (show ¬ ((Value.ref t == Value.none)=true) from Gi)]
 refine gt (m:=field (.ref it) 1) (GN ho hd (x:=.int i 0) rfl ?_);refine gt (m:=seqItems? (.ref t)) (GG hol hdl ?_);simp only [Int.toNat_natCast,hx];refine gt (wpAny_setField ho hd (by simp) (Gb ⟨x,rfl,Gb (hQ _ ⟨_,Heap.get?_update_self _ ho (Obj.isFreed_of_fields (Obj.data_mapFields hd _)),(Obj.cls_mapFields ..).trans hc,?_⟩ (Heap.SameBut.update ..))⟩))
 rw [Obj.data_mapFields hd];simp [rawInt]
theorem lB {it t:G_} {i:Nat} {items} {Q:G9->G8->Prop} (hh:A.handled=none) (hit:s.heap.IsTupleIter it t i) (ht:s.heap.IsTuple t items) (hx:items[i]?=none)
  (hE:∀ h' e,Heap.ExtBut it s.heap h'->(∃ o,h'.get? e=some o/\o.cls=.type "StopIteration")->E (.ref e) {s with heap:=h'}):wpAny (model prog w) A (Builtin.SmallTypes.nextOf (.ref it)) Q E s:=by
 obtain⟨o,ho,hc,hd⟩:=id hit;obtain⟨ol,hol,_,nl,hdl⟩:=ht;unfold Builtin.SmallTypes.nextOf;refine gt (GZ (name:=Str.ofString "__next__") hit.typeIs F.slot_tuple_iterator_next (wpAny_call_entry F.slot_tuple_iterator_next hit.typeIs F.entry_tuple_iterator_next ?_ (F.args_tuple_iterator_next_1 _)))
 refine gt (m:=field (.ref it) 0) (GN ho hd (x:=.ref t) rfl ?_)
 show wpAny _ _ (if (Value.ref t == Value.none)=true then _ else _) _ _ s
 rw [if_neg (show ¬ ((Value.ref t == Value.none)=true) from Gi)]
 refine gt (m:=field (.ref it) 1) (GN ho hd (x:=.int i 0) rfl ?_);refine gt (m:=seqItems? (.ref t)) (GG hol hdl ?_);simp only [Int.toNat_natCast,hx];refine gt (wpAny_rule (gt (wpAny_setField ho hd (by simp) ?_)))
 refine gt (m:=newExc (.type "StopIteration") []) ?_
 simp only [newExc,newTuple];refine gt (GC ?_ (by size_fits))
 refine gt (m:=firstArgMember _ _) (wpAny_of_eq (a:=Value.none) (by first | rfl | (simp only [firstArgMember]; rfl)) ?_)
 refine GC ?_ (by size_fits)
 simp only [raiseNew];refine gt (wpAny_handled ?_)
 first | rw [show A.in1.handled=none from hh] | rw [hh]
 exact gt (Gb (wpAny_throw (hE _ _ (((Heap.SameBut.update ..).extBut.push _).push _) ⟨_,Gc _ rfl,rfl⟩)))
end
theorem fO.tuple {P:Hc} {w:He} (it l:G_):fO P w it l (λk h=>h.IsTupleIter it l k) (λxs h=>h.IsTuple l xs) where
 at_:=λ_ _ _ x y=>x.at y
 sqAt:=λ_ _ _ x y=>x.at y
 obj:=λ_ _ z9=>by obtain⟨o,e,_,d⟩:=z9; exact⟨o,e,λv z=>by rw [d] at z; cases z⟩
 item:=λ_ _ _ _ _ _ _ a b c d=>ko a b c d
 fin:=λ_ _ _ _ _ _ hh a b c d=>lB hh a b c d
section
variable {prog:Hc} {w:He} {A:Hd} {E:G9->G8->Prop} {s:G8} {z TI TO i1 i2 l1 l2:G_} {st1 st2:Nat->Hf->Prop} {sq1 j5:Hh G9->Hf->Prop} {k1 k2:Nat} {xs ys:Hh G9} {x y a b:G9}
theorem yo {Q:G9->G8->Prop} (G1:fO prog w i1 l1 st1 sq1) (G2:fO prog w i2 l2 st2 j5) (D:ZipApart z TI TO i1 i2 l1 l2) (hz:IsZip s.heap z TI TO .none) (hTI:IsPair s.heap TI (.ref i1) (.ref i2)) (hTO:IsPair s.heap TO a b)
  (h1:st1 k1 s.heap) (h2:st2 k2 s.heap) (hl1:sq1 xs s.heap) (hl2:j5 ys s.heap) (hx:xs[k1]?=some x) (hy:ys[k2]?=some y)
  (hQ:∀ h',IsZip h' z TI TO (rawInt s.heap.objs.size)->IsPair h' TO x y->st1 (k1+1) h'->st2 (k2+1) h'->IsPair h' s.heap.objs.size x y->h'.objs.size=s.heap.objs.size+1->
   (∀ c o,c≠z->c≠TO->c≠i1->c≠i2->s.heap.get? c=some o->h'.get? c=some o)->Q (.ref s.heap.objs.size) {s with heap:=h'}):
  wpAny (model prog w) A (Builtin.«zip.__next__» ⟨[.ref z],[]⟩) (λfin s'=>∃ v,fin=.done (.ret v)/\Q v s') E s:=by
 refine gt (m:=field (.ref z) 2) (GN hz rfl (x:=.bool false) rfl ?_);refine gt (m:=field (.ref z) 3) (GN hz rfl (x:=.ref TI) rfl ?_);refine gt (GG hTI rfl ?_);refine gt (m:=Builtin.SmallTypes.ownedTupleIsFree (.ref z)) ?_;unfold Builtin.SmallTypes.ownedTupleIsFree;refine gt (GN hz rfl (x:=.none) rfl (Gb ?_));simp only [if_true];refine gt (wpAny_rule ?_);refine gt (GN hz rfl (x:=.ref TO) rfl ?_);refine gt (GA hz (by simp) λg1 z1 e1=>?_)
 replace z1:IsZip g1 z TI TO .ellipsis:=z1;refine gt ?_;simp only [List.zipIdx_cons,List.zipIdx_nil,List.forIn_cons,List.forIn_nil];refine gt (gt (wpAny_onRaise ?_));refine gt (m:=Builtin.SmallTypes.nextOf (.ref i1)) (G1.item _ _ _ _ _ _ _ (G1.at_ _ _ _ h1 λo q=>e1.extBut _ _ D.i1z q) (G1.sqAt _ _ _ hl1 λo q=>e1.extBut _ _ D.l1z q) hx λg2 t1 e2=>Gb ?_)
 have o2:IsPair g2 TO a b:=e2.extBut _ _ D.TOi1 (e1.extBut _ _ D.TOz hTO);refine gt (GG o2 rfl ?_);refine gt (wpAny_updateSeq_pair o2 λg3 o3 e3=>?_)
 replace o3:IsPair g3 TO x b:=o3;refine gt (wpAny_letGo (Gb ?_));refine gt (gt (wpAny_onRaise ?_));refine gt (m:=Builtin.SmallTypes.nextOf (.ref i2)) (G2.item _ _ _ _ _ _ _ (G2.at_ _ _ _ h2 λo q=>e3.extBut _ _ D.TOi2.symm (e2.extBut _ _ D.i12.symm (e1.extBut _ _ D.i2z q)))
  (G2.sqAt _ _ _ hl2 λo q=>e3.extBut _ _ D.l2TO (e2.extBut _ _ D.l2i1 (e1.extBut _ _ D.l2z q))) hy λg4 t2 e4=>Gb ?_)
 have o4:IsPair g4 TO x b:=e4.extBut _ _ D.TOi2 o3;refine gt (GG o4 rfl ?_);refine gt (wpAny_updateSeq_pair o4 λg5 o5 e5=>?_)
 replace o5:IsPair g5 TO x y:=o5;refine gt (wpAny_letGo (Gb (Gb ?_)));refine gt (GG o5 rfl ?_);refine gt (wpAny_newTuple ?_);have hsz:g5.objs.size=s.heap.objs.size:=by rw [e5.1,e4.1,e3.1,e2.1,e1.1]
 have z5:IsZip g5 z TI TO .ellipsis:=e5.extBut _ _ D.TOz.symm (e4.extBut _ _ D.i2z.symm (e3.extBut _ _ D.TOz.symm (e2.extBut _ _ D.i1z.symm z1)));have kk:∀ c o,c≠z->c≠TO->c≠i1->c≠i2->s.heap.get? c=some o->g5.get? c=some o:=λc o c1 c2 c3 c4 e=>
  e5.extBut _ _ c2 (e4.extBut _ _ c4 (e3.extBut _ _ c2 (e2.extBut _ _ c3 (e1.extBut _ _ c1 e))))
 have t15:st1 (k1+1) g5:=G1.at_ _ _ _ t1 λo q=>e5.extBut _ _ D.TOi1.symm (e4.extBut _ _ D.i12 (e3.extBut _ _ D.TOi1.symm q))
 have t25:st2 (k2+1) g5:=G2.at_ _ _ _ t2 λo q=>e5.extBut _ _ D.TOi2.symm q
 have hzlt:z < g5.objs.size:=Gf z5;refine gt (m:=Builtin.SmallTypes.ownedTupleHandOut (.ref z) (.ref g5.objs.size)) ?_;unfold Builtin.SmallTypes.ownedTupleHandOut;have z6:IsZip (g5.push {cls:=.type "tuple",data:=.seq #[x,y]}) z TI TO .ellipsis:=Ga _ z5
 refine gt (GA z6 (by simp) λg7 z7 e7=>?_)
 replace z7:IsZip g7 z TI TO (rawInt g5.objs.size):=z7;refine GA z7 (by simp) λg8 z8 e8=>?_
 replace z8:IsZip g8 z TI TO (rawInt g5.objs.size):=z8;have up:∀ c o,c≠z->g5.get? c=some o->g8.get? c=some o:=λc o c1 e=>e8.extBut _ _ c1 (e7.extBut _ _ c1 (Ga _ e))
 have t8:IsPair g8 g5.objs.size x y:=e8.extBut _ _ (Nat.ne_of_gt hzlt) (e7.extBut _ _ (Nat.ne_of_gt hzlt) (Gc _ rfl));have n8:g8.objs.size=g5.objs.size+1:=by rw [e8.1,e7.1,GW]
 rw [hsz] at z8 t8 n8
 refine Gb ⟨_,rfl,?_⟩
 show Q (.ref g5.objs.size) _
 rw [hsz];exact hQ g8 z8 (up _ _ D.TOz o5) (G1.at_ _ _ _ t15 λo e=>up _ o D.i1z e) (G2.at_ _ _ _ t25 λo e=>up _ o D.i2z e) t8 n8 λc o c1 c2 c3 c4 e=>up c o c1 (kk c o c1 c2 c3 c4 e)
theorem yF {Q:Fin->G8->Prop} (G1:fO prog w i1 l1 st1 sq1) (G2:fO prog w i2 l2 st2 j5) (hh:A.handled=none) (D:ZipApart z TI TO i1 i2 l1 l2) (hz:IsZip s.heap z TI TO .none) (hTI:IsPair s.heap TI (.ref i1) (.ref i2)) (hTO:IsPair s.heap TO a b)
  (h1:st1 k1 s.heap) (h2:st2 k2 s.heap) (hl1:sq1 xs s.heap) (hl2:j5 ys s.heap) (hend:xs[k1]?=none\/ys[k2]?=none)
  (hE:∀ h' e,(∀ c o,c≠z->c≠TO->c≠i1->c≠i2->s.heap.get? c=some o->h'.get? c=some o)->(∃ o,h'.get? e=some o/\o.cls=.type "StopIteration")->E (.ref e) {s with heap:=h'}):
  wpAny (model prog w) A (Builtin.«zip.__next__» ⟨[.ref z],[]⟩) Q E s:=by
 refine gt (m:=field (.ref z) 2) (GN hz rfl (x:=.bool false) rfl ?_);refine gt (m:=field (.ref z) 3) (GN hz rfl (x:=.ref TI) rfl ?_);refine gt (GG hTI rfl ?_);refine gt (m:=Builtin.SmallTypes.ownedTupleIsFree (.ref z)) ?_;unfold Builtin.SmallTypes.ownedTupleIsFree;refine gt (GN hz rfl (x:=.none) rfl (Gb ?_));simp only [if_true];refine gt (wpAny_rule ?_);refine gt (GN hz rfl (x:=.ref TO) rfl ?_);refine gt (GA hz (by simp) λg1 z1 e1=>?_)
 replace z1:IsZip g1 z TI TO .ellipsis:=z1;refine gt ?_;simp only [List.zipIdx_cons,List.zipIdx_nil,List.forIn_cons,List.forIn_nil];refine gt (gt (wpAny_onRaise ?_));have a1:=G1.at_ _ _ g1 h1 λo q=>e1.extBut _ _ D.i1z q
 have b1:=G1.sqAt _ _ g1 hl1 λo q=>e1.extBut _ _ D.l1z q
 cases hx:xs[k1]? with
 | none=>
  refine gt (m:=Builtin.SmallTypes.nextOf (.ref i1)) (G1.fin _ _ _ _ _ _ hh a1 b1 hx λg2 e e2 he=>?_)
  obtain⟨oe,hoe,hce⟩:=he;have z2:IsZip g2 z TI TO .ellipsis:=e2 _ _ D.i1z.symm z1;have hez:e≠z:=λx=>by subst x; rw [z2] at hoe; cases hoe; simp at hce
  exact GA z2 (by simp) λg3 _ e3=>hE g3 e (λc o c1 _ c3 _ x=>e3.extBut _ _ c1 (e2 _ _ c3 (e1.extBut _ _ c1 x))) ⟨oe,e3.extBut _ _ hez hoe,hce⟩
 | some x=>
  have hy:ys[k2]?=none:=by rcases hend with h | h; rw [hx] at h; cases h; exact h
  refine gt (m:=Builtin.SmallTypes.nextOf (.ref i1)) (G1.item _ _ _ _ _ _ _ a1 b1 hx λg2 t1 e2=>Gb ?_)
  have o2:IsPair g2 TO a b:=e2.extBut _ _ D.TOi1 (e1.extBut _ _ D.TOz hTO);refine gt (GG o2 rfl ?_);refine gt (wpAny_updateSeq_pair o2 λg3 o3 e3=>?_)
  refine gt (wpAny_letGo (Gb ?_));refine gt (gt (wpAny_onRaise ?_));refine gt (m:=Builtin.SmallTypes.nextOf (.ref i2)) (G2.fin _ _ _ _ _ _ hh (G2.at_ _ _ _ h2 λo q=>e3.extBut _ _ D.TOi2.symm (e2.extBut _ _ D.i12.symm (e1.extBut _ _ D.i2z q)))
   (G2.sqAt _ _ _ hl2 λo q=>e3.extBut _ _ D.l2TO (e2.extBut _ _ D.l2i1 (e1.extBut _ _ D.l2z q))) hy λg4 e e4 he=>?_)
  obtain⟨oe,hoe,hce⟩:=he;have z4:IsZip g4 z TI TO .ellipsis:=e4 _ _ D.i2z.symm (e3.extBut _ _ D.TOz.symm (e2.extBut _ _ D.i1z.symm z1));have hez:e≠z:=λx=>by subst x; rw [z4] at hoe; cases hoe; simp at hce
  exact GA z4 (by simp) λg5 _ e5=>hE g5 e (λc o c1 c2 c3 c4 x=>e5.extBut _ _ c1 (e4 _ _ c4 (e3.extBut _ _ c2 (e2.extBut _ _ c3 (e1.extBut _ _ c1 x))))) ⟨oe,e5.extBut _ _ hez hoe,hce⟩
theorem mi {Q:Ha G9->G8->Prop} (G1:fO prog w i1 l1 st1 sq1) (G2:fO prog w i2 l2 st2 j5) (D:ZipApart z TI TO i1 i2 l1 l2) (hz:IsZip s.heap z TI TO .none) (hTI:IsPair s.heap TI (.ref i1) (.ref i2)) (hTO:IsPair s.heap TO a b)
  (h1:st1 k1 s.heap) (h2:st2 k2 s.heap) (hl1:sq1 xs s.heap) (hl2:j5 ys s.heap) (hx:xs[k1]?=some x) (hy:ys[k2]?=some y)
  (hQ:∀ h',IsZip h' z TI TO (rawInt s.heap.objs.size)->IsPair h' TO x y->st1 (k1+1) h'->st2 (k2+1) h'->IsPair h' s.heap.objs.size x y->h'.objs.size=s.heap.objs.size+1->
   (∀ c o,c≠z->c≠TO->c≠i1->c≠i2->s.heap.get? c=some o->h'.get? c=some o)->Q (some (.ref s.heap.objs.size)) {s with heap:=h'}):wpAny (model prog w) A (pyNext (.ref z)) Q E s:=by
 have hT:s.TypeIs (.ref z) "zip":=⟨_,hz,rfl⟩
 unfold pyNext;exact gt (wpAny_attempt (GZ (name:=Str.ofString "__next__") hT F.slot_zip_next
  (wpAny_call_entry F.slot_zip_next hT F.entry_zip_next (yo G1 G2 D hz hTI hTO h1 h2 hl1 hl2 hx hy λh' a1 a2 a3 a4 a5 a6 a7=>Gb (hQ h' a1 a2 a3 a4 a5 a6 a7)) (F.args_zip_next_1 _))))
theorem nN {Q:Ha G9->G8->Prop} (G1:fO prog w i1 l1 st1 sq1) (G2:fO prog w i2 l2 st2 j5) (hh:A.handled=none) (D:ZipApart z TI TO i1 i2 l1 l2) (hz:IsZip s.heap z TI TO .none) (hTI:IsPair s.heap TI (.ref i1) (.ref i2)) (hTO:IsPair s.heap TO a b)
  (h1:st1 k1 s.heap) (h2:st2 k2 s.heap) (hl1:sq1 xs s.heap) (hl2:j5 ys s.heap) (hend:xs[k1]?=none\/ys[k2]?=none)
  (hQ:∀ h',(∀ c o,c≠z->c≠TO->c≠i1->c≠i2->s.heap.get? c=some o->h'.get? c=some o)->Q none {s with heap:=h'}):wpAny (model prog w) A (pyNext (.ref z)) Q E s:=by
 have hT:s.TypeIs (.ref z) "zip":=⟨_,hz,rfl⟩
 unfold pyNext;refine gt (wpAny_attempt (GZ (name:=Str.ofString "__next__") hT F.slot_zip_next
  (wpAny_call_entry F.slot_zip_next hT F.entry_zip_next (yF G1 G2 hh D hz hTI hTO h1 h2 hl1 hl2 hend λh' e hk he=>?_) (F.args_zip_next_1 _))))
 obtain⟨o,ho,hc⟩:=he;exact gt (wpAny_isInstance (T:="StopIteration") (b:=true) ⟨o,ho,hc⟩ isSubtype_stop (Gb (hQ _ hk)))
end
structure fX (l:G_) (nm:Hj) (sq:Hh G9->Hf->Prop):Prop where
 iter:∀ (P:Hc) (w:He) (A:Hd) (s:G8) (xs:Hh G9) (Q:G9->G8->Prop) (E:G9->G8->Prop),sq xs s.heap->
  Q (.ref s.heap.objs.size) {s with heap:=s.heap.push {cls:=.type nm,data:=.fields #[.ref l,.int 0 0]}}->wpAny (model P w) A (pyIter (.ref l)) Q E s
 sqAt:∀ xs h h',sq xs h->(∀ o,h.get? l=some o->h'.get? l=some o)->sq xs h'
theorem fX.list (l:G_):fX l "list_iterator" (λxs h=>h.IsList l xs):=⟨λ_ _ _ _ _ _ _ a b=>wpAny_pyIter_list a b,λ_ _ _ x y=>x.at y⟩
theorem fX.tuple (l:G_):fX l "tuple_iterator" (λxs h=>h.IsTuple l xs):=⟨λ_ _ _ _ _ _ _ a b=>wpAny_pyIter_tuple a b,λ_ _ _ x y=>x.at y⟩
section
variable {l1 l2:G_} {n1 n2:Hj} {sq1 j5:Hh G9->Hf->Prop}
abbrev zV (h:Hf) (n1:Hj) (l1:G_):Hf:=h.push {cls:=.type n1,data:=.fields #[.ref l1,.int 0 0]}
abbrev Ep (h:Hf) (n1 n2:Hj) (l1 l2:G_):Hf:=(zV h n1 l1).push {cls:=.type n2,data:=.fields #[.ref l2,.int 0 0]}
abbrev Eo (h:Hf) (n1 n2:Hj) (l1 l2:G_):Hf:=(Ep h n1 n2 l1 l2).push {cls:=.type "tuple",data:=.seq #[.ref h.objs.size,.ref (zV h n1 l1).objs.size]}
abbrev Es (h:Hf) (n1 n2:Hj) (l1 l2:G_):Hf:=(Eo h n1 n2 l1 l2).push {cls:=.type "tuple",data:=.seq #[.none,.none]}
abbrev Cw (h:Hf) (n1 n2:Hj) (l1 l2:G_):Hf:=(Es h n1 n2 l1 l2).push {cls:=.type "zip",data:=.fields #[.none,.bool false,.bool false,.ref (Ep h n1 n2 l1 l2).objs.size,.ref (Eo h n1 n2 l1 l2).objs.size]}
theorem vw (B1:fX l1 n1 sq1) (B2:fX l2 n2 j5) (xs ys:Hh G9):
  Meets (Builtin.«zip.__new__» ⟨[.type "zip",.ref l1,.ref l2],[]⟩) (λ_ R s=>sq1 xs s.heap/\j5 ys s.heap/\
   R (.ok (.ret (.ref (Es s.heap n1 n2 l1 l2).objs.size))) {s with heap:=Cw s.heap n1 n2 l1 l2}):=
 .of_wp λprog w A R s h=>by
  obtain⟨hp,g,d,tk,os⟩:=s;obtain⟨a,b,h⟩:=h;have hsub:=sub_zip;have b':j5 ys (Shared.heap ⟨hp.push {cls:=.type n1,data:=.fields #[.ref l1,.int 0 0]},g,d,tk,os⟩):=B2.sqAt _ _ _ b λo q=>Ga _ q
  have a':sq1 xs (Shared.heap ⟨hp,g,d,tk,os⟩):=a
  wp_walk using B1.iter _ _ _ _ _ _ _ a',B2.iter _ _ _ _ _ _ _ b'
  exact⟨_,rfl,h⟩
variable {prog:Hc} {w:He} {A:Hd} {E:G9->G8->Prop} {s:G8}
theorem vX (B1:fX l1 n1 sq1) (B2:fX l2 n2 j5) {xs ys:Hh G9} {Q:G9->G8->Prop} (hl1:sq1 xs s.heap) (hl2:j5 ys s.heap)
  (h:∀ h',IsZip h' (s.heap.objs.size+4) (s.heap.objs.size+2) (s.heap.objs.size+3) .none->IsPair h' (s.heap.objs.size+2) (.ref s.heap.objs.size) (.ref (s.heap.objs.size+1))->
   IsPair h' (s.heap.objs.size+3) .none .none->h'.get? s.heap.objs.size=some {cls:=.type n1,data:=.fields #[.ref l1,.int 0 0]}->h'.get? (s.heap.objs.size+1)=some {cls:=.type n2,data:=.fields #[.ref l2,.int 0 0]}->
   (∀ c o,s.heap.get? c=some o->h'.get? c=some o)->Q (.ref (s.heap.objs.size+4)) {s with heap:=h'}):
  wpAny (model prog w) A (call (.type "zip") [.ref l1,.ref l2]) Q E s:=by
 refine callType_new F.called_zip (by decide) (F.typeCall_zip_2 _ _) (F.newCall_zip_2 _ _) (λobj=>F.args_object_init_3 obj _ _) F.entry_zip_new (vw B1 B2 xs ys) ⟨hl1,hl2,?_⟩
 have z1:(zV s.heap n1 l1).objs.size=s.heap.objs.size+1:=GW ..;have z2:(Ep s.heap n1 n2 l1 l2).objs.size=s.heap.objs.size+2:=by rw [GW,z1]
 have z3:(Eo s.heap n1 n2 l1 l2).objs.size=s.heap.objs.size+3:=by rw [GW,z2]
 have z4:(Es s.heap n1 n2 l1 l2).objs.size=s.heap.objs.size+4:=by rw [GW,z3]
 have g5:(Cw s.heap n1 n2 l1 l2).get? (Es s.heap n1 n2 l1 l2).objs.size=some _:=Gc _ rfl;have g4:(Cw s.heap n1 n2 l1 l2).get? (Eo s.heap n1 n2 l1 l2).objs.size=some _:=Ga _ (Gc _ rfl);have g3:(Cw s.heap n1 n2 l1 l2).get? (Ep s.heap n1 n2 l1 l2).objs.size=some _:=Ga _ (Ga _ (Gc _ rfl));have g2:(Cw s.heap n1 n2 l1 l2).get? (zV s.heap n1 l1).objs.size=some _:=Ga _ (Ga _ (Ga _ (Gc _ rfl)));have g1:(Cw s.heap n1 n2 l1 l2).get? s.heap.objs.size=some _:=Ga _ (Ga _ (Ga _ (Ga _ (Gc _ rfl))))
 show _/\_
 rw [z2,z3,z4] at g5;rw [z1,z2] at g3;rw [z3] at g4;rw [z1] at g2;rw [z4];exact⟨⟨_,g5,rfl⟩,h _ g5 g3 g4 g1 g2 λc o x=>Ga _ (Ga _ (Ga _ (Ga _ (Ga _ x))))⟩
end
section
variable {X:Cx} {Hm:List (G_×Hl)} {σ:St} {H:Hp} {s:G8} {h':Hf}
theorem az.turnedL {t':Nat} (ch:List G_) (I:az X Hm σ H s) (k:∀ b o,b∉ch->s.heap.get? b=some o->h'.get? b=some o) (hf:∀ b∈ch,mv X Hm H b):az X Hm σ H {s with heap:=h',toks:=t'}:=by
 have nit:∀ b u,H b=some u->b∉ch:=λb u e z=>by rw [(hf b z).1] at e; cases e
 refine I.step (g':=s.gens) (d':=s.drawn) (ch:=ch) (λb hb=>⟨(hf b hb).2.2.2.1,(hf b hb).2.1,(hf b hb).2.2.2.2.1,(hf b hb).2.2.2.2.2⟩) (λb o _ _ hc e _=>k b o hc e) (λb o _ _ hc e _=>⟨o.slots,k b o hc e⟩) (λ_ _ _ _ n=>n)
  (λb o hc e=>⟨o,k b o hc e⟩) (λ_ _ e=>e) (λ_ _ _ e=>e) (λb ps e=>⟨#[],by rw [e]; simp⟩) (λm hm=>?_) (λb u e=>?_) I.bare
 ·obtain⟨o,es,ep,ho,r⟩:=hm;exact⟨o,es,ep,k _ o (λz=>(hf _ z).2.1 rfl) ho,r⟩
 ·refine(I.hok b u e).stay (λc v hc q=>k c v ?_ q) (λ_ q=>q) λ_ _ q=>q
  rcases hc with z | z
  ·rw [z]; exact nit b u e
  ·exact nit c _ z
theorem az.turnedNew {t':Nat} {T:G_} {xs:List V} (ch:List G_) (I:az X Hm σ H s) (k:∀ b o,b∉ch->s.heap.get? b=some o->h'.get? b=some o) (hf:∀ b∈ch,mv X Hm H b) (hT:s.heap.objs.size<=T)
  (new:en X.prog X.w (bI H T (.tup xs)) h' T (.tup xs)):az X Hm σ (bI H T (.tup xs)) {s with heap:=h',toks:=t'}:=by
 have hn:H T=none:=I.hok.fresh hT;have nit:∀ b u,H b=some u->b∉ch:=λb u e z=>by rw [(hf b z).1] at e; cases e
 have neT:∀ b o,s.heap.get? b=some o->b≠T:=λb o e z=>by subst z; exact absurd (Gp (Gf e) hT) (GV _)
 refine I.step (g':=s.gens) (d':=s.drawn) (ch:=ch) (λb hb=>⟨(hf b hb).2.2.2.1,(hf b hb).2.1,(hf b hb).2.2.2.2.1,(hf b hb).2.2.2.2.2⟩) (λb o _ _ hc e _=>k b o hc e) (λb o _ _ hc e _=>⟨o.slots,k b o hc e⟩) (λb o _ e n=>by rw [aD (neT b o e)]; exact n)
  (λb o hc e=>⟨o,k b o hc e⟩) (λb _ e=>by rw [aD (a8 e hn)]; exact e) (λb _ _ e=>by rw [aD (a8 e hn)]; exact e) (λb ps e=>⟨#[],by rw [aD (a8 e hn),e]; simp⟩) (λm hm=>?_) (λb u e=>?_) I.bare
 ·obtain⟨o,es,ep,ho,r⟩:=hm;exact⟨o,es,ep,k _ o (λz=>(hf _ z).2.1 rfl) ho,r⟩
 ·by_cases hb:b=T
  ·subst hb;rw [cA] at e;cases e;exact new
  ·rw [aD hb] at e;refine(I.hok b u e).stay (λc v hc q=>k c v ?_ q) (λc q=>by rw [aD (a8 q hn)]; exact q) λc _ q=>by rw [aD (a8 q hn)]; exact q
   rcases hc with z | z
   ·rw [z]; exact nit b u e
   ·exact nit c _ z
end
def oO (b:Hi) (K:PySem.W.Frag) (H:Hp) (a:G_) (xs:List V):Prop:=match b with | true=>eu K H a xs | false=>kU K H a xs
def BV (b:Hi) (it l:G_) (k:Nat) (h:Hf):Prop:=match b with | true=>h.IsListIter it l k | false=>h.IsTupleIter it l k
def sqB (b:Hi) (l:G_) (xs:Hh G9) (h:Hf):Prop:=match b with | true=>h.IsList l xs | false=>h.IsTuple l xs
def FF (b:Hi):Hj:=match b with | true=>"list_iterator" | false=>"tuple_iterator"
theorem bZ {P:Hc} {w:He} (b:Hi) (it l:G_):fO P w it l (BV b it l) (sqB b l):=match b with | true=>fO.list it l | false=>fO.tuple it l
theorem uH (b:Hi) (l:G_):fX l (FF b) (sqB b l):=match b with | true=>fX.list l | false=>fX.tuple l
theorem uu {b:Hi} {it l:G_} {h:Hf} (e:h.get? it=some {cls:=.type (FF b),data:=.fields #[.ref l,.int 0 0]}):BV b it l 0 h:=match b,e with | true,e=>⟨_,e,rfl,rfl⟩ | false,e=>⟨_,e,rfl,rfl⟩
section
variable {X:Cx} {Hm:List (G_×Hl)} {σ:St} {H:Hp} {s:G8} {a:G_} {xs ys:List V} {b:Hi}
theorem az.sqB (I:az X Hm σ H s) (h:oO b X.K H a xs):∃ its:List G9,aW xs its/\L2.sqB b a its.toArray s.heap:=by
 cases b with
 | true=>obtain⟨its,r,p,_⟩:=I.list h; exact⟨its,r,p.isList⟩
 | false=>obtain⟨its,r,p,_⟩:=I.tuple h; exact⟨its,r,p⟩
theorem az.sqB_inj (I:az X Hm σ H s) (h:oO b X.K H a xs) (h':oO b X.K H a ys):xs=ys:=by
 cases b with
 | true=>exact I.list_inj h h'
 | false=>exact I.tuple_inj h h'
theorem sW {its:Hh G9} {h:Hf} (e:L2.sqB b a its h):a < h.objs.size:=by
 cases b with
 | true=>obtain⟨o,e,_⟩:=e; exact Gf e
 | false=>obtain⟨o,e,_⟩:=e; exact Gf e
end
def CC (K:PySem.W.Frag) (b1 b2:Hi) (a1 a2:G_):It:=
 ⟨λi H => ∃ xs ys x y, oO b1 K H a1 xs ∧ oO b2 K H a2 ys ∧ xs[i]? = some x ∧ ys[i]? = some y,
  λi H v H'=>∃ T x y,v=.ref T/\H T=none/\H'=bI H T (.tup [x,y])/\∀ xs ys,oO b1 K H a1 xs->oO b2 K H a2 ys->xs[i]?=some x/\ys[i]?=some y,
  λi H=>∃ xs ys,oO b1 K H a1 xs/\oO b2 K H a2 ys/\(xs.length<=i\/ys.length<=i)⟩
def FP (b1 b2:Hi) (z TI TO i1 i2 a1 a2:G_) (i:Nat) (h:Hf):Prop:=
 IsZip h z TI TO .none/\IsPair h TI (.ref i1) (.ref i2)/\(∃ a b,IsPair h TO a b)/\BV b1 i1 a1 i h/\BV b2 i2 a2 i h
theorem wu {P:Hc} {w:He} {K:PySem.W.Frag} {es:List Hb} {k:Nat} {pos:Pos} (b1 b2:Hi) {z TI TO i1 i2 a1 a2:G_} (D:ZipApart z TI TO i1 i2 a1 a2):
  vz P w K (.Tuple es k pos) (CC K b1 b2 a1 a2) [z,TI,TO,i1,i2] z (FP b1 b2 z TI TO i1 i2 a1 a2) where
 mem:=by simp
 obj:=λi h st b hb=>by
  obtain⟨hz,hTI,⟨x,y,hTO⟩,h1,h2⟩:=st;have hb':b=z\/b=TI\/b=TO\/b=i1\/b=i2:=by simpa using hb
  rcases hb' with rfl | rfl | rfl | rfl | rfl
  ·exact⟨_,hz,λv q=>by cases q⟩
  ·exact⟨_,hTI,λv q=>by cases q⟩
  ·exact⟨_,hTO,λv q=>by cases q⟩
  ·exact(bZ (P:=P) (w:=w) b1 b a1).obj _ _ h1
  ·exact(bZ (P:=P) (w:=w) b2 b a2).obj _ _ h2
 keep:=λi h h' st q=>by
  obtain⟨hz,hTI,⟨x,y,hTO⟩,h1,h2⟩:=st;exact⟨q z (by simp) _ hz,q TI (by simp) _ hTI,⟨x,y,q TO (by simp) _ hTO⟩,(bZ (P:=P) (w:=w) b1 i1 a1).at_ _ _ _ h1 λo e=>q i1 (by simp) o e,(bZ (P:=P) (w:=w) b2 i2 a2).at_ _ _ _ h2 λo e=>q i2 (by simp) o e⟩
 item:=by
  intro X hP hw hK hc i Hm s σ H E I hf st hg;subst hP hw hK;obtain⟨xs,ys,x,y,q1,q2,hx,hy⟩:=hg;obtain⟨its,rv,p⟩:=I.sqB q1;obtain⟨jts,rw',p'⟩:=I.sqB q2;obtain⟨u,hu,ru⟩:=rv.get hx;obtain⟨u',hu',ru'⟩:=rw'.get hy;obtain⟨hz,hTI,⟨c,d,hTO⟩,h1,h2⟩:=st;have hn:H s.heap.objs.size=none:=I.hok.fresh (Gg _);have old:∀ b∈[z,TI,TO,i1,i2],b≠s.heap.objs.size:=λb hb e=>by
   have:∃ o,s.heap.get? b=some o:=by
    have hb':b=z\/b=TI\/b=TO\/b=i1\/b=i2:=by simpa using hb
    rcases hb' with rfl | rfl | rfl | rfl | rfl
    ·exact⟨_,hz⟩
    ·exact⟨_,hTI⟩
    ·exact⟨_,hTO⟩
    ·obtain⟨o,e,_⟩:=(bZ (P:=X.prog) (w:=X.w) b1 b a1).obj _ _ h1; exact⟨o,e⟩
    ·obtain⟨o,e,_⟩:=(bZ (P:=X.prog) (w:=X.w) b2 b a2).obj _ _ h2; exact⟨o,e⟩
   obtain⟨o,eo⟩:=this;exact absurd (Gf eo) (by rw [e]; exact GV _)
  refine mi (bZ b1 i1 a1) (bZ b2 i2 a2) D hz hTI hTO h1 h2 p p' (x:=u) (y:=u') (by simpa using hu) (by simpa using hu') λh' c1 c2 c3 c4 c5 c6 c7=>?_
  have I1:az X Hm σ (bI H s.heap.objs.size (.tup [x,y])) {s with heap:=h'}:=I.turnedNew (t':=s.toks) [z,TO,i1,i2] (λb o hb e=>c7 b o (λq=>hb (by simp [q])) (λq=>hb (by simp [q])) (λq=>hb (by simp [q])) (λq=>hb (by simp [q])) e)
   (λb hb=>hf b (by rcases(by simpa using hb:b=z\/b=TO\/b=i1\/b=i2) with rfl | rfl | rfl | rfl <;> simp)) (Gg _) ⟨Gu rfl,[u,u'],.cons ru (.cons ru' .nil),⟨_,c5,rfl,_,rfl⟩⟩
  refine⟨_,rfl,wpAny_letOwnedTupleGo_zip (s:={s with heap:=h'}) c1 λh2' g1 g2=>?_⟩
  refine⟨.ref s.heap.objs.size,bI H s.heap.objs.size (.tup [x,y]),?_,rfl,⟨_,x,y,rfl,hn,rfl,λxs' ys' e1 e2=>by rw [I.sqB_inj e1 q1,I.sqB_inj e2 q2]; exact⟨hx,hy⟩⟩,?_,λb hb=>?_⟩
  ·refine I1.turnedL (t':=s.toks) [z] (λb o hb e=>g2.extBut _ _ (λq=>hb (by simp [q])) e) λb hb=>?_
   have e:b=z:=by simpa using hb
   subst e;obtain⟨f0,f1,f2,f3,f4,f5⟩:=hf b (by simp)
   exact⟨by rw [aD (old b (by simp))]; exact f0,f1,f2,f3,f4,f5⟩
  ·exact⟨g1,g2.extBut _ _ D.TIz (c7 _ _ D.TIz D.TITO D.TIi1 D.TIi2 hTI),⟨_,_,g2.extBut _ _ D.TOz c2⟩,(bZ (P:=X.prog) (w:=X.w) b1 i1 a1).at_ _ _ _ c3 λo e=>g2.extBut _ _ D.i1z e,(bZ (P:=X.prog) (w:=X.w) b2 i2 a2).at_ _ _ _ c4 λo e=>g2.extBut _ _ D.i2z e⟩
  ·rw [aD (old b hb)];exact(hf b hb).1
 done:=by
  intro X hP hw hK hc i Hm s σ H E I hf st hg;subst hP hw hK;obtain⟨xs,ys,q1,q2,hx⟩:=hg;obtain⟨its,rv,p⟩:=I.sqB q1;obtain⟨jts,rw',p'⟩:=I.sqB q2;obtain⟨hz,hTI,⟨c,d,hTO⟩,h1,h2⟩:=st;have l1:=rv.length;have l2:=rw'.length;refine nN (bZ b1 i1 a1) (bZ b2 i2 a2) (I.ok.hd hc) D hz hTI hTO h1 h2 p p' (hx.imp (λhx=>by simp; omega) (λhx=>by simp; omega)) λh' kk=>⟨rfl,I.turnedL (t':=s.toks) [z,TO,i1,i2] (λb o hb e=>kk b o (λq=>hb (by simp [q])) (λq=>hb (by simp [q])) (λq=>hb (by simp [q])) (λq=>hb (by simp [q])) e) λb hb=>hf b ?_⟩
  have hb':b=z\/b=TO\/b=i1\/b=i2:=by simpa using hb
  rcases hb' with rfl | rfl | rfl | rfl <;> simp
 self:=λ_ _ _ _ _ st h=>wpAny_pyIter_zip st.1 h
theorem AM (n l1 l2:Nat) (h1:l1 < n) (h2:l2 < n):ZipApart (n+4) (n+2) (n+3) n (n+1) l1 l2:=by
 constructor <;> (intro e; simp only [Addr] at e; omega)
def EY (K:PySem.W.Frag) (ta:TA):TI:=fun σ H R=>ta σ H λvs H1=>∃ a1 a2 b1 b2,vs=[.ref a1,.ref a2]/\(∃ xs,oO b1 K H1 a1 xs)/\(∃ ys,oO b2 K H1 a2 ys)/\R (CC K b1 b2 a1 a2) H1
theorem AS {X:Cx} {a b:Hb} {ta:TA} {p pos tp:Pos} {es:List Hb} {k:Nat} (hg:Gl X "zip") (hm:X.mg "zip"=none) (ha:PA X [a,b] ta) (hs:starEach [a,b] X.env=[(false,eval a X.env),(false,eval b X.env)]:=by rfl) (hs2:starEach [b] X.env=[(false,eval b X.env)]:=by rfl):
  PI X (.Tuple es k tp) (.Call (.Name "zip" p) [a,b] [] pos) (EY X.K ta):=by
 intro Hm s σ H R I h;refine Call_ (nh I hg hm boot_zip (PyProof.Rows.callWith_type1 (bX (ha pos Hm s σ H _ I h) λus s1 ⟨vs,H1,I1,r1,q1⟩=>?_) (by rw [hs,hs2]) (by rw [hs2]; rfl)))
 obtain⟨a1,a2,b1,b2,e,⟨xs,e1⟩,⟨ys,e2⟩,q⟩:=q1;subst e;cases r1 with
 | cons r rr=>
  cases rr with
  | cons r' rr=>
   cases rr;cases r;cases r';obtain⟨its,rv,p1⟩:=I1.sqB e1;obtain⟨jts,rw',p2⟩:=I1.sqB e2;refine vX (uH b1 a1) (uH b2 a2) p1 p2 λh' c1 c2 c3 c4 c5 c6=>?_
   refine wpAny_pyIter_zip (s:={s1 with heap:=h'}) c1 ?_
   have fr:∀ j,H1 (s1.heap.objs.size+j)=none:=λj=>I1.hok.fresh (Nat.le_add_right _ _)
   refine⟨_,[s1.heap.objs.size+4,s1.heap.objs.size+2,s1.heap.objs.size+3,s1.heap.objs.size,s1.heap.objs.size+1],_,_,H1,rfl,I1.kept (t':=s1.toks) c6,wu b1 b2 (AM _ _ _ (sW p1) (sW p2)),⟨c1,c2,⟨_,_,c3⟩,uu c4,uu c5⟩,λb hb=>?_,q⟩
   have hb':b=s1.heap.objs.size+4\/b=s1.heap.objs.size+2\/b=s1.heap.objs.size+3\/b=s1.heap.objs.size\/b=s1.heap.objs.size+1:=by simpa using hb
   rcases hb' with rfl | rfl | rfl | rfl | rfl
   ·exact I1.fpOk (Nat.le_add_right _ _) (fr 4)
   ·exact I1.fpOk (Nat.le_add_right _ _) (fr 2)
   ·exact I1.fpOk (Nat.le_add_right _ _) (fr 3)
   ·exact I1.fpOk (Gg _) (fr 0)
   ·exact I1.fpOk (Nat.le_add_right _ _) (fr 1)
end L2
namespace DL
open PySem PySem.Spec PyProof.Rows L2
theorem tZ {K:Fg} {S1:DH} {H1:Hp} {d:D} {v:V} {p:List D×Ha G_} (hS1:Hs K H1 S1) (i1:bJ K H1 d v) (hp:aQ S1 d=some p):∃ a b,v=.ref a/\
  (∃ xs,oO b K H1 a xs)/\∀ S2 H2,Kp H1 H2->Hs K H2 S2->cU p S2->∃ xs,oO b K H2 a xs/\IsDs K H2 p.1 xs:=by
 cases d with
 | tup ds=>
  cases hp;obtain⟨a,xs,rfl,t,j⟩:=ci.mp i1;exact⟨a,false,rfl,⟨xs,t⟩,λS2 H2 k2 _ _=>⟨xs,k2.tup t,j.kp k2⟩⟩
 | rl ds=>
  cases hp;obtain⟨a,xs,rfl,t,j⟩:=sC.mp i1;exact⟨a,true,rfl,⟨xs,t.sq⟩,λS2 H2 k2 _ _=>⟨xs,(k2.fro t).sq,j.kp k2⟩⟩
 | ref a=>
  have e1:=a_.mp i1;subst e1;cases z:S1 a with
  | none=>simp only [aQ,z] at hp; cases hp
  | some o=>
   cases o with
   | dic=>simp only [aQ,z] at hp; cases hp
   | exc _=>simp only [aQ,z] at hp; cases hp
   | fn _=>simp only [aQ,z] at hp; cases hp
   | tbl _=>simp only [aQ,z] at hp; cases hp
   | gen _=>simp only [aQ,z] at hp; cases hp
   | lst ds=>
    simp only [aQ,z] at hp;cases hp;obtain⟨xs,hl,j⟩:=hS1.lst z;refine⟨a,true,rfl,⟨xs,eu.of hl⟩,λS2 H2 k2 hS2 o2=>?_⟩
    obtain⟨ys,hl2,j2⟩:=hS2.lst o2;exact⟨ys,eu.of hl2,j2⟩
 | _=>cases hp
def xR (xs ys:List D):List D:=List.zipWith (λa b=>D.tup [a,b]) xs ys
section
variable {X:Cx} {o e a b c:Hb} {go ge ga gb gc:DE} {apos cpos pos:Pos}
def EE (go ge:DE):DE:=λL S k=>go L S λd S1=>match d with
 | .ref a=>(∃ ds,S1 a=some (.lst ds))/\ge L S1 λe S2=>∃ ds,S2 a=some (.lst ds)/\ds.length < sizeLine/\k .non (put S2 a (.lst (ds++[e])))
 | _=>False
theorem AL (ho:EJ X o go) (he:EJ X e ge) (hbase:attributeBase o "append" X.env (eval o X.env)=eval o X.env:=by rfl)
  (hfew:((backTo cpos (starEach [e] X.env)).all (λx=>!x.1) && (backToKw cpos (keywordEach [] X.env)).all (λx=>x.1.isSome) && decide ([e].length+([]:List Keyword).length+(if ([]:List Keyword).isEmpty then 0 else 1) < 30))=true:=by rfl)
  (hline:(apos.endLine == cpos.line)=true:=by rfl) (hs:starEach [e] X.env=(false,eval e X.env)::starEach [] X.env:=by rfl) (hpl:(backTo cpos (starEach [] X.env)).any (·.1)=false:=by rfl):
  EJ X (.Call (.Attribute o "append" apos) [e] [] cpos) (EE go ge):=
 ⟨PE.imp (wo PySem.F.plainAttrs_list PySem.F.slot_list_append PySem.F.type_list_append jD ho.h (kW he.h qT hs) hbase hfew hline hs hpl) fun σ H Q ⟨L,S,k,hL,hS,h,n⟩=>up.go hL hS h λd S1 v H1 h1 k1 hL1 hS1 i1=>by
  cases d with
  | ref a=>
   have e1:=a_.mp i1;subst e1;obtain⟨⟨ds1,z1⟩,h1⟩:=h1;obtain⟨xs1,hl1,_⟩:=hS1.lst z1;refine⟨.inl ⟨rfl,xs1,eu.of hl1⟩,up.go hL1 hS1 h1 λd2 S2 v2 H2 h2 k2 hL2 hS2 i2=>?_⟩
   obtain⟨ds,z,hz,w⟩:=h2;obtain⟨xs,hl,j⟩:=hS2.lst z;have k3:Kp H2 (bI H2 a (.lst (xs++[v2]))):=Kp.mut hl (λz=>z)
   exact⟨a,xs,v2,rfl,rfl,hl,by rw [<- j.length]; exact hz,n _ _ _ _ w (k1.trans (k2.trans k3)) (hS2.setL hl (j.append (IsDs.cons i2 IsDs.nil))) (b8.mpr rfl)⟩
  | _=>exact(show False from h1).elim⟩
def E5 (go ge:DE):DE:=λL S k=>go L S λd S1=>match d with
 | .ref a=>(∃ ds,S1 a=some (.lst ds))/\ge L S1 λe S2=>match e with
  | .ref b=>∃ ds es,S2 a=some (.lst ds)/\S2 b=some (.lst es)/\ds.length+es.length<=sizeLine/\k .non (put S2 a (.lst (ds++es)))
  | _=>False
 | _=>False
theorem ww (ho:EJ X o go) (he:EJ X e ge) (hbase:attributeBase o "extend" X.env (eval o X.env)=eval o X.env:=by rfl)
  (hfew:((backTo cpos (starEach [e] X.env)).all (λx=>!x.1) && (backToKw cpos (keywordEach [] X.env)).all (λx=>x.1.isSome) && decide ([e].length+([]:List Keyword).length+(if ([]:List Keyword).isEmpty then 0 else 1) < 30))=true:=by rfl)
  (hline:(apos.endLine == cpos.line)=true:=by rfl) (hs:starEach [e] X.env=(false,eval e X.env)::starEach [] X.env:=by rfl) (hpl:(backTo cpos (starEach [] X.env)).any (·.1)=false:=by rfl):
  EJ X (.Call (.Attribute o "extend" apos) [e] [] cpos) (E5 go ge):=
 ⟨PE.imp (wo PySem.F.plainAttrs_list PySem.F.slot_list_extend PySem.F.type_list_extend vA ho.h (kW he.h qT hs) hbase hfew hline hs hpl) fun σ H Q ⟨L,S,k,hL,hS,h,n⟩=>up.go hL hS h λd S1 v H1 h1 k1 hL1 hS1 i1=>by
  cases d with
  | ref a=>
   have e1:=a_.mp i1;subst e1;obtain⟨⟨ds1,z1⟩,h1⟩:=h1;obtain⟨xs1,hl1,_⟩:=hS1.lst z1;refine⟨.inl ⟨rfl,xs1,eu.of hl1⟩,up.go hL1 hS1 h1 λd2 S2 v2 H2 h2 k2 hL2 hS2 i2=>?_⟩
   cases d2 with
   | ref b=>
    have e2:=a_.mp i2;subst e2;obtain⟨ds,es,z,y,hz,w⟩:=h2;obtain⟨xs,hl,j⟩:=hS2.lst z;obtain⟨ys,hm,i⟩:=hS2.lst y;have k3:Kp H2 (bI H2 a (.lst (xs++ys))):=Kp.mut hl (λz=>z)
    exact⟨a,b,xs,ys,rfl,rfl,hl,hm,by rw [<- j.length,<- i.length]; exact hz,n _ _ _ _ w (k1.trans (k2.trans k3)) (hS2.setL hl (j.append i)) (b8.mpr rfl)⟩
   | _=>exact(show False from h2).elim
  | _=>exact(show False from h1).elim⟩
end
theorem pD {K:Fg} {ok:DH->Prop} {gg:DG} {b:DS} {M:jd} {ds:List D} {L:Lo} {S:DH} {N:fo} {σ:L2.St} {H:Hp} {J:It} (hL:Lc K H L σ) (hS:Hs K H S) (h:gm ok gg b M ds L S) (r:yu K H M N)
  (hgo:∀ i d S1 H1,ds[i]?=some d->Kp H H1->Hs K H1 S1->ok S1->J.go i H1/\∀ x H',J.yld i H1 x H'->Kp H1 H'/\Hs K H' S1/\bJ K H' d x)
  (hst:∀ S1 H1,Kp H H1->Hs K H1 S1->ok S1->J.stop ds.length H1):
  ∃ W:Nat->Nat->L2.St->Hp->Prop,(∃ m,W 0 m σ H)/\∀ i m σ H,W i m σ H->
   (J.stop i H/\N.nx σ H)\/(J.go i H/\∃ N':L2.St->Hp->Prop,(∀ σ' H',N' σ' H'->∃ m',m' < m/\W (i+1) m' σ' H')/\∀ x H',J.yld i H x H'->C2 K gg x σ H' fun σ2 H2=>xz K b {N with nx:=N',ct:=N',bk:=N.nx} σ2 H2):=by
 refine⟨λi m σ1 H1=>m=ds.length - i/\i<=ds.length/\∃ L1 S1,Lc K H1 L1 σ1/\Hs K H1 S1/\Kp H H1/\gm ok gg b M (ds.drop i) L1 S1,⟨ds.length,by simp,Nat.zero_le _,L,S,hL,hS,Kp.refl H,h⟩,?_⟩
 rintro i m σ1 H1 ⟨rfl,hi,L1,S1,hL1,hS1,k1,w1⟩
 by_cases hlt:i < ds.length
 ·have e:ds.drop i=ds[i]::ds.drop (i+1):=GT hlt;rw [e] at w1;obtain⟨o1,w1⟩:=w1;obtain⟨g1,y1⟩:=hgo i ds[i] S1 H1 (by simp [hlt]) k1 hS1 o1
  refine .inr ⟨g1,fun σ' H'=>i+1<=ds.length/\∃ L' S',Lc K H' L' σ'/\Hs K H' S'/\Kp H H'/\gm ok gg b M (ds.drop (i+1)) L' S',fun σ' H' z9=>by obtain⟨q1,q2⟩:=z9; exact⟨ds.length - (i+1),by omega,rfl,q1,q2⟩,λx H' y=>?_⟩
  obtain⟨k0,hS0,ix⟩:=y1 x H' y;have k10:=k1.trans k0;refine⟨ds[i],L1,S1,_,ix,hL1.kp k0,hS0,w1,λL2 S2 σ2 H2 q k2 hL2 hS2=>⟨L2,S2,_,hL2,hS2,q,?_⟩⟩
  have r2:=r.kp (k10.trans k2);exact⟨λL3 S3 σ3 H3 q3 k3 hL3 hS3=>⟨hlt,L3,S3,hL3,hS3,(k10.trans k2).trans k3,q3⟩,r2.rt,r2.nx,λL3 S3 σ3 H3 q3 k3 hL3 hS3=>⟨hlt,L3,S3,hL3,hS3,(k10.trans k2).trans k3,q3⟩⟩
 ·have e:i=ds.length:=by omega
  subst e;rw [List.drop_length] at w1;obtain⟨o1,w1⟩:=w1;exact .inl ⟨hst S1 H1 k1 hS1 o1,r.nx L1 S1 σ1 H1 w1 k1 hL1 hS1⟩
theorem Cg {K:Fg} {H1:Hp} {q1 q2:List D×Ha G_} {a1 a2:G_} {b1 b2:Hi} (y1:∀ S2 H2,Kp H1 H2->Hs K H2 S2->cU q1 S2->∃ xs,oO b1 K H2 a1 xs/\IsDs K H2 q1.1 xs) (y2:∀ S2 H2,Kp H1 H2->Hs K H2 S2->cU q2 S2->∃ xs,oO b2 K H2 a2 xs/\IsDs K H2 q2.1 xs):
  (∀ i d S2 H2,(xR q1.1 q2.1)[i]?=some d->Kp H1 H2->Hs K H2 S2->(cU q1 S2/\cU q2 S2)->(CC K b1 b2 a1 a2).go i H2/\∀ x H',(CC K b1 b2 a1 a2).yld i H2 x H'->Kp H2 H'/\Hs K H' S2/\bJ K H' d x)/\
  ∀ S2 H2,Kp H1 H2->Hs K H2 S2->(cU q1 S2/\cU q2 S2)->(CC K b1 b2 a1 a2).stop (xR q1.1 q2.1).length H2:=by
 refine⟨λi c S2 H2 e k2 hS2 o2=>?_,λS2 H2 k2 hS2 o2=>?_⟩
 ·obtain⟨xs,w1,u1⟩:=y1 S2 H2 k2 hS2 o2.1;obtain⟨ys,w2,u2⟩:=y2 S2 H2 k2 hS2 o2.2;obtain⟨c1,c2,f1,f2,rfl⟩:∃ c1 c2,q1.1[i]?=some c1/\q2.1[i]?=some c2/\D.tup [c1,c2]=c:=by
   unfold xR at e;rw [List.getElem?_zipWith] at e;cases z1:q1.1[i]? with
   | none=>rw [z1] at e; cases e
   | some c1=>
    cases z2:q2.1[i]? with
    | none=>rw [z1,z2] at e; cases e
    | some c2=>rw [z1,z2] at e; exact⟨c1,c2,rfl,rfl,GF e⟩
  obtain⟨v1,g1,r1⟩:=u1.get f1;obtain⟨v2,g2,r2⟩:=u2.get f2;refine⟨⟨xs,ys,v1,v2,w1,w2,g1,g2⟩,?_⟩;rintro x H' ⟨T,x',y',rfl,hT,rfl,al⟩;obtain⟨l1,l2⟩:=al xs ys w1 w2;rw [g1] at l1;rw [g2] at l2;cases l1;cases l2;have kn:Kp H2 (bI H2 T (.tup [v1,v2])):=Kp.new hT;exact⟨kn,hS2.new hT,ci.mpr ⟨T,[v1,v2],rfl,kU.of cA,IsDs.cons (r1.kp kn) (IsDs.cons (r2.kp kn) IsDs.nil)⟩⟩
 ·obtain⟨xs,w1,u1⟩:=y1 S2 H2 k2 hS2 o2.1;obtain⟨ys,w2,u2⟩:=y2 S2 H2 k2 hS2 o2.2;refine⟨xs,ys,w1,w2,?_⟩;rw [<- u1.length,<- u2.length];unfold xR;rw [List.length_zipWith];omega
def D5 (ta:DA) (g:DG) (b:DS):DS:=λM L S=>ta L S λds S1=>match ds with
 | [d1,d2]=>∃ q1 q2,aQ S1 d1=some q1/\aQ S1 d2=some q2/\gm (λS=>cU q1 S/\cU q2 S) g b M (xR q1.1 q2.1) L S1
 | _=>False
section
variable {X:Cx} {a b:Hb} {es:List Hb} {kt:Nat} {tp p pos pos':Pos} {gg:DG} {ta:DA} {g:DS} {body:List Hg} {tg:Hb}
theorem uN (hp:PassesOwn (model X.prog X.w) X.A X.env X.xe) (hc:X.calm=true) (hgl:Gl X "zip") (hm:X.mg "zip"=none) (ha:AJ X [a,b] ta) (hg:GJ X (.Tuple es kt tp) gg) (hb:tL X body g)
  (hs1:starEach [a,b] X.env=[(false,eval a X.env),(false,eval b X.env)]:=by rfl) (hs2:starEach [b] X.env=[(false,eval b X.env)]:=by rfl) (hs:∀ x,foldedSetIterable (.Call (.Name "zip" p) [a,b] [] pos') X.env x=pure x:=by intro _; rfl):
  SJ X (.For (.Tuple es kt tp) (.Call (.Name "zip" p) [a,b] [] pos') body [] pos) (D5 ta gg g):=
 ⟨PS.imp (pX hp hc (AS hgl hm ha.h hs1 hs2) hg.h hb.h hs) λN σ H ⟨L,S,M,hL,hS,h,r⟩=>sh.go hL hS h λds S1 vs H1 h1 k1 hL1 hS1 i1=>by
  split at h1
  ·rename_i d1 d2
   obtain⟨v1,v2,rfl,j1,j2⟩:=uz i1;obtain⟨q1,q2,e1,e2,h1⟩:=h1;obtain⟨a1,b1,rfl,x1,y1⟩:=tZ hS1 j1 e1;obtain⟨a2,b2,rfl,x2,y2⟩:=tZ hS1 j2 e2;obtain⟨z1,z2⟩:=Cg y1 y2;exact⟨a1,a2,b1,b2,rfl,x1,x2,pD hL1 hS1 h1 (r.kp k1) z1 z2⟩
  ·exact h1.elim⟩
end
section
variable {X:Cx} {pos:Pos}
def Ec (g:DE) (tl th:Az):DE:=λL S k=>g L S λx S1=>tl L S1 λlo S2=>th L S2 λhi S3=>match x with
 | .tup xs=>¬ (HT.d_ xs.length 0 lo=0/\HT.d_ xs.length xs.length hi=xs.length)/\k (.tup (mK xs lo hi)) S3
 | .rl xs=>∀ p,S3 p=none->k (.ref p) (put S3 p (.lst (mK xs lo hi)))
 | .ref a=>∃ xs,S3 a=some (.lst xs)/\∀ p,S3 p=none->k (.ref p) (put S3 p (.lst (mK xs lo hi)))
 | _=>False
theorem qU {e:Hb} {g:DE} {lo hi:Ha Hb} {tl th:Az} {p2 pos:Pos} (he:EJ X e g) (hl:OJ X lo tl) (hu:OJ X hi th):EJ X (.Subscript e (.Slice lo hi none p2) pos) (Ec g tl th):=
 ⟨PE.imp (si (Ab.or AH uB) he.h hl.h hu.h) fun σ H Q ⟨L,S,k,hL,hS,h,n⟩=>up.go hL hS h λd S1 v H1 h1 k1 hL1 hS1 i1=>by
  refine⟨L,S1,_,hL1,hS1,h1,λlo' S2 H2 h2 k2 hS2=>⟨L,S2,_,hL1.kp k2,hS2,h2,λhi' S3 H3 h3 k3 hS3=>?_⟩⟩
  cases d with
  | tup xs=>
   obtain⟨a,vs,rfl,t,j⟩:=ci.mp i1;have j3:=j.kp (k2.trans k3);refine .inl ⟨a,vs,rfl,(k2.trans k3).tup t,by rw [<- j.length]; exact h3.1,λp hp=>?_⟩
   have k4:Kp H3 (bI H3 p (.tup (mR vs lo' hi'))):=Kp.new hp;refine n _ S3 _ _ h3.2 (k1.trans (k2.trans (k3.trans k4))) (hS3.new hp) (ci.mpr ⟨p,_,rfl,kU.of cA,?_⟩);unfold mK mR;rw [j.length];exact((j3.drop _).take _).kp k4
  | rl xs=>
   obtain⟨a,vs,rfl,t,j⟩:=sC.mp i1;have j3:=j.kp (k2.trans k3);refine .inr ⟨a,vs,rfl,((k2.trans k3).fro t).sq,λp hp=>?_⟩
   refine n _ _ _ _ (h3 p (hS3.free hp)) (k1.trans (k2.trans (k3.trans (Kp.new hp)))) (hS3.newL hp ?_) (a_.mpr rfl);unfold mK mR;rw [j.length];exact(j3.drop _).take _
  | ref a=>
   have e1:=a_.mp i1;subst e1;obtain⟨xs,z,h3⟩:=h3;obtain⟨vs,hl,j⟩:=hS3.lst z;refine .inr ⟨a,vs,rfl,eu.of hl,λp hp=>?_⟩
   refine n _ _ _ _ (h3 p (hS3.free hp)) (k1.trans (k2.trans (k3.trans (Kp.new hp)))) (hS3.newL hp ?_) (a_.mpr rfl);unfold mK mR;rw [j.length];exact(j.drop _).take _
  | _=>exact(show False from h3).elim⟩
theorem jX {elt tg iter c:Hb} {scope:Scope} {cl:List (Str×G_)} {N:List Str} {cap:List (Ha Nat)} {gg:DG} {ge gi:DE} {gc:DT} (hc:X.calm=true) (Sc:fJ X scope cl N cap) (hi:EJ X iter gi) (hg:∀ s0 H0 ex C,GJ (iO X scope cl N s0 H0 ex C) tg gg) (hcnd:∀ s0 H0 ex C,TJ (iO X scope cl N s0 H0 ex C) c gc) (he:∀ s0 H0 ex C,EJ (iO X scope cl N s0 H0 ex C) elt ge)
  (hs:∀ x,foldedSetIterable iter X.env x=pure x:=by intro _; rfl):EJ X (.ListComp elt [⟨tg,iter,[c],0⟩] scope pos) (s_ cap gi gg (zI gc ge)):=
 ⟨PE.imp (uY hc Sc (qf hi.h) (λs0 H0 ex C=>(hg s0 H0 ex C).h) (λs0 H0 ex C=>(hcnd s0 H0 ex C).h) (λs0 H0 ex C=>(he s0 H0 ex C).h) hs) fun σ H Q ⟨L,S,k,hL,hS,h,n⟩=>up.go hL hS h λd S1 v H1 h1 k1 hL1 hS1 i1=>by
  obtain⟨p,hp,h1⟩:=h1;obtain⟨a,e,q⟩:=qu hS1 i1 hp;refine⟨a,e,?_⟩;have n':∀ d S' v H',k d S'->Kp H1 H'->Hs X.K H' S'->bJ X.K H' d v->Q v H':=λd S' v H' q k3=>n d S' v H' q (k1.trans k3)
  rcases q with ⟨q1,q2,q3⟩ | ⟨q1,q2,q3⟩
  ·exact .inl ⟨q1,λD hD=>lW (hL1.cap cap) hS1 hD (h1 D (hS1.free hD)) n' q2 q3⟩
  ·exact .inr ⟨q1,λD hD=>lW (hL1.cap cap) hS1 hD (h1 D (hS1.free hD)) n' q2 q3⟩⟩
theorem wm {xs:List D} {lo hi:Ha Int} {d:D} (h:d∈mK xs lo hi):d∈xs:=List.mem_of_mem_drop (List.mem_of_mem_take h)
theorem mH {ok:DH->Prop} {g:DG} {b:DS} {M:jd} (Iv:List D->Lo->DH->Prop) (hok:∀ r L S,Iv r L S->ok S)
  (hs:∀ d r L S N,Iv (d::r) L S->(∀ L' S',Iv r L' S'->N L' S')->g d L S λL1 S1=>b {M with nx:=N,ct:=N,bk:=M.nx} L1 S1) (hd:∀ L S,Iv [] L S->M.nx L S):∀ r L S,Iv r L S->gm ok g b M r L S
 | [],L,S,i=>⟨hok [] L S i,hd L S i⟩
 | d::r,L,S,i=>⟨hok _ L S i,hs d r L S _ i λL' S' i'=>mH Iv hok hs hd r L' S' i'⟩
end
end DL
namespace L2
open PySem PySem.Spec PyProof.Rows
section
variable {X:Cx} {elt tg iter c:Hb} {scope:Scope} {cl:List (Str×G_)} {N:List Str} {cap:List (Ha Nat)} {pos:Pos} {wi:TI} {g:TG} {te:TE} {tc:TT}
theorem tY (Sc:fJ X scope cl N cap) {Hm:List (G_×Hl)} {σ σ3:St} {H2 H3:Hp} {s2 s4:G8} {fp:List G_} {h1':Hf} {C:G_} (I2:az X Hm σ H2 s2) (f2:∀ b∈fp,mv X Hm H2 b) {H1:Hp}
  (un3:Un (gP X.stack) fp H2 H1 s2.heap h1') (I4:az (iO X scope cl N {s2 with heap:=h1'} H1 fp C) [] σ3 H3 s4) (hC:s2.heap.objs.size<=C) {x:Str} {pos':Pos} {i:Nat} {D:fo} {a:G_} (pg:PG X (.Name x pos') (pw i)) (qn:D.nx (σ.set i (some (.ref a))) H3):
  wpAny (model X.prog X.w) X.A (assign (.Name x pos') X.env (.ref a)) (λ_ s''=>∃ m,s''.heap.Ns C m/\∀ h',Heap.SameBut C s''.heap h'->∃ σ' H',az X Hm σ' H' {s'' with heap:=h'}/\D.nx σ' H') X.xe s4:=by
 have J:az X Hm σ H3 s4:=nu Sc I2 f2 un3 I4 (h':=s4.heap) hC ⟨rfl,λ_ _=>rfl⟩
 obtain⟨m,⟨o,es,ep,ho,hd,hr⟩,_⟩:=I4.loc;have ltC:∀ b u,s2.heap.get? b=some u->b≠C:=λb u e=>Gm (Gp (Gf e) hC)
 have hL:C≠X.env.locals:=λz=>by
  have:=I2.lt;rw [<- z] at this;exact absurd (Gp this hC) (GV _)
 have hn:H3 C=none:=I4.free;have J':az X ((C,o)::Hm) σ H3 s4:=⟨J.ok,J.os,J.bare,J.base,J.loc,J.cell,J.free,J.freeC,λp hp=>by
  rcases List.mem_append.mp hp with hp | hp
  ·exact J.pin p (List.mem_append_left _ hp)
  ·rcases Gk.mp hp with rfl | hp
   ·exact⟨ho,hn,hL,I2.nofs hC,λv z=>by rw [hd] at z; cases z⟩
   ·exact J.pin p (Gq _ hp),J.hok,J.len⟩
 refine bX (pg _ s4 σ H3 (.ref a) (.ref a) (fun σ' H'=>σ'=σ.set i (some (.ref a))/\H'=H3) J' rfl ⟨rfl,rfl⟩) λ_ s5 h5=>?_
 obtain⟨_,_,I5,rfl,rfl⟩:=h5;have h6:=I5.pin (C,o) (Gq _ Gn);refine⟨m,⟨o,es,ep,h6.1,hd,hr⟩,λh' sb=>⟨_,_,?_,qn⟩⟩
 have I6:az X Hm (σ.set i (some (.ref a))) _ s5:=⟨I5.ok,I5.os,I5.bare,I5.base,I5.loc,I5.cell,I5.free,I5.freeC,λp hp=>I5.pin p (by
  rcases List.mem_append.mp hp with hp | hp
  ·exact List.mem_append_left _ hp
  ·exact Gq _ (Go _ hp)),I5.hok,I5.len⟩
 exact I6.turned (t':=s5.toks) (it:=C) (λb u hb e=>(sb.2 b hb).trans e) hn hL (.inr (GO I2.sz hC)) (λy c e=>by
  obtain⟨v,u,q,_⟩:=I2.cell y c e;exact ltC c u q) (λp hp=>ltC p.1 p.2 (I2.pin p hp).1)
theorem rP {x:Str} {i:Nat} {pos' spos:Pos} (hN:X.N.Nodup) (hi':X.N[i]?=some x) (hx':X.env.scope.names.lookup x=some .local) (hsw:swapsWith (.ListComp elt [⟨tg,iter,[],0⟩] scope pos) (some (.Name x pos')) spos.line X.env=pure true) (hc:X.calm=true) (Sc:fJ X scope cl N cap) (hi:PI X tg iter wi) (hg:∀ s0 H0 ex C,PG (iO X scope cl N s0 H0 ex C) tg g) (he:∀ s0 H0 ex C,PE (iO X scope cl N s0 H0 ex C) elt te)
  (hs:∀ x,foldedSetIterable iter X.env x=pure x:=by intro _; rfl):PS X (.Assign [.Name x pos'] (.ListComp elt [⟨tg,iter,[],0⟩] scope pos) spos) (y6 (Al cap wi g te) (pw i)):=by
 intro Hm s σ H D I h;have pg:PG X (.Name x pos') (pw i):=uM hN hi' (.inl hx') (.inr hx');rw [exec_Assign_Name_used _ _ _ _ hsw];refine gt (wpAny_standAt (gt ?_))
 show wpAny _ _ (evalThenUse _ X.env _) _ _ _
 unfold evalThenUse;have Q:=λv H1=>D.nx (σ.set i (some v)) H1
 refine gt (GM (Q:=λ_ s'=>∃ σ' H',az X Hm σ' H' s'/\D.nx σ' H') ?_ (λv s' q=>Gb (Gb q)) λ_ _ q=>q)
 have hcell:∀ y∈scope.names,y.2≠.cell:=λy hy=>by simpa using GX.mp Sc.nocell y hy
 have hnames:∀ y∈scope.names,y.2=.local->scope.names.lookup y.1=some .local:=λy hy e=>by
  have:=GX.mp Sc.names y hy;rw [e] at this
  simpa using this
 refine wpAny_comprehension_free (use:=some (assign (.Name x pos') X.env)) rfl hs Sc.clos Sc.kind hnames (bX (hi Hm s σ H _ I h) λv s1 h1=>bX h1 λitv s2 h2=>?_)
 obtain⟨it,fp,tn,J,H2,e,I2,T,st2,f2,hW⟩:=h2;subst e;refine GC (wpAny_newFunctionEnv hcell (by intro y hy; simp at hy) (λh1 hns hsb=>?_) Sc.kind)
 obtain⟨W,⟨m0,w0⟩,turn⟩:=hW s2.heap.objs.size I2.fresh;dsimp only at hns hsb ⊢
 generalize hD:s2.heap.push {cls:=.type "list",dict:=none,data:=.seq ([]:List G9).toArray}=h1' at hns hsb ⊢
 obtain⟨I3,un3⟩:=nM (tk:=s2.toks+([]:List (Str×G9)).length) Sc I2 f2 (λb hb=>let ⟨o,e,_⟩:=T.obj 0 _ st2 b hb; ⟨o,e⟩) hD hns hsb
 have hC:s2.heap.objs.size<=h1'.objs.size:=by rw [<- hD,GW]; exact Nat.le_succ _
 have k1:∀ b o,s2.heap.get? b=some o->h1.get? b=some o:=λb o e=>by
  have e1:h1'.get? b=some o:=by rw [<- hD]; exact Ga _ e
  exact(hsb.2 b (Gm (Gf e1))).trans (Ga _ e1)
 have st3:tn 0 h1:=T.keep 0 _ _ st2 λb _ o e=>k1 b o e
 have fr3:∀ b∈fp,(bI H2 s2.heap.objs.size (.lst [])) b=none:=λb hb=>by
  obtain⟨o,e,_⟩:=T.obj 0 _ st2 b hb;rw [aD (Gm (Gf e))];exact(f2 b hb).1
 have loop:∀ s3:G8,s3={s2 with heap:=h1,toks:=s2.toks+([]:List (Str×G9)).length}->
   codeAny (model X.prog X.w) X.A (.compLoop (.ListComp elt [⟨tg,iter,[],0⟩] scope pos) 0 (.ref it) (.ref s2.heap.objs.size) (compEnvC scope cl h1'.objs.size X.env))
    (compPost (model X.prog X.w) X.A X.xe (some (assign (.Name x pos') X.env)) (λ_ s'=>∃ σ' H',az X Hm σ' H' s'/\D.nx σ' H') (.ref s2.heap.objs.size) h1'.objs.size) s3:=by
  rintro s3 rfl;refine kq (λn s'=>∃ i σ' H',az (iO X scope cl N {s2 with heap:=h1'} (bI H2 s2.heap.objs.size (.lst [])) fp h1'.objs.size) [] σ' H' s'/\tn i s'.heap/\(∀ b∈fp,H' b=none)/\W i n σ' H') ?_ m0 ⟨0,_,_,I3,st3,fr3,w0⟩
  rintro n s3 ⟨i,σ3,H3,I3,st3,fr3,w3⟩;rcases turn i n σ3 H3 w3 with ⟨stop,qn⟩ | ⟨go,Nn,hN,step⟩
  ·refine bX (T.done (iO X scope cl N {s2 with heap:=h1'} (bI H2 s2.heap.objs.size (.lst [])) fp h1'.objs.size) rfl rfl rfl hc i [] s3 σ3 H3 k7 I3 (fG I3 fr3) st3 stop) λr s4 z9=>?_
   obtain⟨hr,I4⟩:=z9;subst hr;exact tY Sc I2 f2 un3 I4 hC pg qn
  ·refine bX (T.item (iO X scope cl N {s2 with heap:=h1'} (bI H2 s2.heap.objs.size (.lst [])) fp h1'.objs.size) rfl rfl rfl hc i [] s3 σ3 H3 k7 I3 (fG I3 fr3) st3 go) λr s4 z9=>?_
   obtain⟨u,hr,h4⟩:=z9;subst hr;refine bX h4 λ_ s5 z9=>?_
   obtain⟨x,H5,I5,r5,y5,st5,fr5⟩:=z9;have I5':=I5.pinned (fG I5 fr5) (T.obj _ _ st5);refine bX (hg _ _ _ _ _ s5 σ3 H5 x u _ I5' r5 (step x H5 y5)) λ_ s6 z9=>?_
   obtain⟨σ6,H6,I6,q6⟩:=z9;refine bX (he _ _ _ _ _ s6 σ6 H6 _ I6 q6) λuv s7 z9=>?_
   obtain⟨v,H7,I7,r7,ys,hy,hl,q7⟩:=z9;refine bX (jD (X:=iO X scope cl N {s2 with heap:=h1'} (bI H2 s2.heap.objs.size (.lst [])) fp h1'.objs.size) _ s7 σ6 H7 (.ref s2.heap.objs.size) [v] (.ref s2.heap.objs.size) [uv] (λ_ H8=>Nn σ6 H8) I7 rfl (.cons r7 .nil) ⟨_,ys,v,rfl,rfl,hy,hl,q7⟩) λ_ s8 z9=>?_
   obtain⟨_,H8,I8,_,n8⟩:=z9;obtain⟨m',hm,w8⟩:=hN σ6 H8 n8;refine⟨m',hm,i+1,σ6,H8,I8.unpinned,T.keep _ _ _ st5 λb hb o e=>(I8.pin (b,o) (Gq _ (Gq _ (cS hb e)))).1,λb hb=>?_,w8⟩
   obtain⟨o,e,d⟩:=T.obj _ _ st5 b hb;exact(I8.pin (b,o) (Gq _ (Gq _ (cS hb e)))).2.1
 exact codeAny_compStart_list (loop _ rfl) (T.self _ 0 _ _ _ st3 (loop _ rfl))
end
end L2
namespace DL
open PySem PySem.Spec PyProof.Rows L2
theorem Dh {K:Fg} {ge:DE} {tc:TE} {i:Nat} (f:∀ σ H Q,up K ge σ H Q->tc σ H Q):∀ N σ H,xz K (zB i ge) N σ H->y6 tc (pw i) N σ H:=λN σ H ⟨L,S,M,hL,hS,h,r⟩=>
 f σ H _ (up.go hL hS h λd S1 v H1 h1 k1 hL1 hS1 i1=>r.nx _ S1 _ H1 h1 k1 (hL1.set i1 i) hS1)
section
variable {X:Cx} {pos pos' p:Pos} {elt tg a b c:Hb} {scope:Scope} {cl:List (Str×G_)} {N:List Str} {cap:List (Ha Nat)} {gg:DG} {ge gi:DE} {gc:DT} {ta:DA}
theorem rM {xv:Str} {iv:Nat} {pv sv:Pos} (hNv:X.N.Nodup) (hc:X.calm=true) (Sc:fJ X scope cl N cap) (hgl:Gl X "range") (hm:X.mg "range"=none) (ha:AJ X [a] ta) (hg:∀ s0 H0 ex C,GJ (iO X scope cl N s0 H0 ex C) tg gg) (he:∀ s0 H0 ex C,EJ (iO X scope cl N s0 H0 ex C) elt ge)
  (hs1:starEach [a] X.env=[(false,eval a X.env)]:=by exact ck rfl) (hs:∀ x,foldedSetIterable (.Call (.Name "range" p) [a] [] pos') X.env x=pure x:=by intro _; rfl) (hiv:X.N[iv]?=some xv:=by rfl) (hxv:X.env.scope.names.lookup xv=some .local:=by rfl) (hswv:swapsWith (.ListComp elt [⟨tg,.Call (.Name "range" p) [a] [] pos',[],0⟩] scope pos) (some (.Name xv pv)) sv.line X.env=pure true:=by rfl):SJ X (.Assign [.Name xv pv] (.ListComp elt [⟨tg,.Call (.Name "range" p) [a] [] pos',[],0⟩] scope pos) sv) (zB iv (BI cap ta gg (kJ ge))):=
 ⟨PS.imp (rP hNv hiv hxv hswv hc Sc (oJ hgl hm ha.h hs1) (λs0 H0 ex C=>(hg s0 H0 ex C).h) (λs0 H0 ex C=>(he s0 H0 ex C).h) hs) (Dh (fun σ H Q ⟨L,S,k,hL,hS,h,n⟩=>sh.go hL hS h λds S1 vs H1 h1 k1 hL1 hS1 i1=>by
  split at h1
  ·obtain⟨v,rfl,j⟩:=gf i1;have e:=isInt.mp j;subst e;obtain⟨⟨h2,h3⟩,h1⟩:=h1;refine⟨_,rfl,h2,h3,λD hD=>gO (hL1.cap cap) hS1 hD (h1 D (hS1.free hD)) (λd S' v H' q k3=>n d S' v H' q (k1.trans k3)) xw λS2 H2 k2 hS2 _=>?_⟩
   rw [Gh,List.length_range];exact Gg _
  ·exact h1.elim))⟩
theorem rY {xv:Str} {iv:Nat} {pv sv:Pos} (hNv:X.N.Nodup) {elt tg iter:Hb} {scope:Scope} {cl:List (Str×G_)} {N:List Str} {cap:List (Ha Nat)} {gg:DG} {ge gi:DE} (hc:X.calm=true) (Sc:fJ X scope cl N cap) (hi:EJ X iter gi) (hg:∀ s0 H0 ex C,GJ (iO X scope cl N s0 H0 ex C) tg gg) (he:∀ s0 H0 ex C,EJ (iO X scope cl N s0 H0 ex C) elt ge)
  (hs:∀ x,foldedSetIterable iter X.env x=pure x:=by intro _; rfl) (hiv:X.N[iv]?=some xv:=by rfl) (hxv:X.env.scope.names.lookup xv=some .local:=by rfl) (hswv:swapsWith (.ListComp elt [⟨tg,iter,[],0⟩] scope pos) (some (.Name xv pv)) sv.line X.env=pure true:=by rfl):SJ X (.Assign [.Name xv pv] (.ListComp elt [⟨tg,iter,[],0⟩] scope pos) sv) (zB iv (s_ cap gi gg (kJ ge))):=
 ⟨PS.imp (rP hNv hiv hxv hswv hc Sc (qf hi.h) (λs0 H0 ex C=>(hg s0 H0 ex C).h) (λs0 H0 ex C=>(he s0 H0 ex C).h) hs) (Dh (fun σ H Q ⟨L,S,k,hL,hS,h,n⟩=>up.go hL hS h λd S1 v H1 h1 k1 hL1 hS1 i1=>by
  obtain⟨p,hp,h1⟩:=h1;obtain⟨a,e,q⟩:=qu hS1 i1 hp;refine⟨a,e,?_⟩;have n':∀ d S' v H',k d S'->Kp H1 H'->Hs X.K H' S'->bJ X.K H' d v->Q v H':=λd S' v H' q k3=>n d S' v H' q (k1.trans k3)
  rcases q with ⟨q1,q2,q3⟩ | ⟨q1,q2,q3⟩
  ·exact .inl ⟨q1,λD hD=>gO (hL1.cap cap) hS1 hD (h1 D (hS1.free hD)) n' q2 q3⟩
  ·exact .inr ⟨q1,λD hD=>gO (hL1.cap cap) hS1 hD (h1 D (hS1.free hD)) n' q2 q3⟩))⟩
end
end DL
namespace L2
open PySem PySem.Spec PyProof.Rows
inductive oE (B:Hf):G9->Prop
 | last:oE B .none
 | more {a:G_} {o:Hl} {vs:Hh G9} {v:G9}:B.get? a=some o->o.data=.fields vs->vs[2]?=some v->oE B v->oE B (.ref a)
def Bi (B h:Hf) (e:G_):Prop:=∃ o vs v,h.get? e=some o/\o.data=.fields vs/\vs[2]?=some v/\oE B v
def pU (B:Hf) (l:List Env) (e:G_) (cls a0:G9) (h:Hf):Prop:=Heap.FlyingW B l e cls a0 h/\Bi B h e
def zX (B:Hf) (l:List Env) (e:G_) (cls a0:G9) (L:G_) (h:Hf):Prop:=Heap.HeldW B l e cls a0 L h/\Bi B h e
section
variable {M:Model} {A:Hd} {E:G9->G8->Prop} {s:G8} {B:Hf} {env:Env} {outer:List Env} {L e:G_} {Q:Unit->G8->Prop}
theorem pE {oe:Hl} {vs:Hh G9} {head a0 v2:G9} {nx:Hi} (hfr:A.frames=some (env::outer)) (hl:s.heap.FunFrames B (env::outer)) (hf:env.frame=some L) (he:s.heap.get? e=some oe) (hk:B.StaysIn s.heap) (hn:B.get? e=none) (hd:oe.data=.fields vs) (hz:1 < vs.size) (h0:vs[0]?=some a0) (h2:vs[2]?=some v2) (ok2:oE B v2)
  (h:∀ h',Heap.NotedW B (env::outer) e oe.cls a0 (rawInt L) s.heap h'->Bi B h' e->Q () {s with heap:=h'}):
  wpAny M A (do let a <- frameOf env; let pl <- entryPlaceOf L nx; let b <- EntryCells.newEntry head a .none (rawInt L) .none pl; setField (.ref e) 1 b) Q E s:=by
 have ef:e∉(env::outer).filterMap (·.frame):=λm=>by
  obtain⟨_,o,ho,z⟩:=hl.mem m;rw [he] at ho;cases ho;exact z vs hd
 have nr:∀ b o,s.heap.get? b=some o->(∀ vs,o.data≠.fields vs)->b≠e:=λb o hb z y=>by
  rw [y,he] at hb;cases hb;exact z vs hd
 refine gt (wpAny_frameOf_fun hfr hl hf λh1 hs=>gt (wpAny_entryPlaceOf λpl hp=>?_))
 have e1:h1.get? e=some oe:=(hs.2.1 e ef).trans he;have k1:B.StaysIn h1:=λb o y=>(hs.2.1 b λm=>by rw [(hl.mem m).1] at y; cases y).trans (hk b o y)
 have te:h1.objs.size≠e:=Nat.ne_of_gt (Gf e1);unfold EntryCells.newEntry newFields;refine gt (GC ?_ (hp.sizeOk5 _ _ _ _ _));generalize hT:({cls:=.type "traceback",dict:=none,data:=.fields ([head,.ref L,.none,rawInt L,.none]++(if pl.isEmpty then List.replicate 6 Value.none else pl)).toArray}:Hl)=oT
 have e2:=Ga (h:=h1) oT e1;have d3:=Obj.data_mapFields hd (·.setIfInBounds 1 (Value.ref h1.objs.size));have e3:=Heap.get?_update_self (Obj.mapFields (·.setIfInBounds 1 (Value.ref h1.objs.size))) e2 (Obj.isFreed_of_fields d3);have t3:=(GE (h1.push oT) (Obj.mapFields (·.setIfInBounds 1 (Value.ref h1.objs.size))) (Ne.symm te)).trans (Gc h1 (by rw [<- hT]; rfl))
 have kp:∀ b o,b≠e->h1.get? b=some o->((h1.push oT).update e (Obj.mapFields (·.setIfInBounds 1 (Value.ref h1.objs.size)))).get? b=some o:=λb o nb hb=>(GE _ _ (Ne.symm nb)).trans (Ga _ hb)
 refine wpAny_setField e2 hd hz (h _ ⟨λb o y=>kp b o (λz=>by rw [z,hn] at y; cases y) (k1 b o y),hl.of_keeps λb o hb z=>?_,?_,λb o hb z=>?_⟩ ⟨_,_,v2,e3,d3,by rw [Array.getElem?_setIfInBounds_ne (by decide)]; exact h2,ok2⟩)
 ·obtain⟨sl,y⟩:=hs.2.2 b o hb;exact⟨_,kp b _ (nr b o hb z) y,rfl⟩
 ·refine⟨_,_,h1.objs.size,oT,_,e3,⟨Obj.cls_mapFields _ _,by rw [Array.getElem?_setIfInBounds_ne (by decide)]; exact h0⟩,d3,by simp [hz],k1.fresh,te,t3,by rw [<- hT],?_⟩
  first | (simp; done) | (rcases hp with rfl | ⟨_,_,_,_,_,_,_,rfl⟩ <;> simp)
 ·obtain⟨sl,y⟩:=hs.2.2 b o hb;exact⟨sl,kp b _ (nr b o hb z) y⟩
theorem oZ {l:List Env} {cls a0:G9} (hh:zX B l e cls a0 L s.heap) (hQ:∀ h',pU B l e cls a0 h'->s.heap.UpToSlots h'->Q () {s with heap:=h'}):wpAny M A (setFlight (.ref e) none) Q E s:=by
 obtain⟨⟨f1,f2,f3,oe,vs,T,oT,ts,he,hc,hd,h1,nT,te,hT,dT,h3⟩,oc,vc,w2,gc,dc,c2,ok2⟩:=hh;rw [he] at gc;cases gc;rw [hd] at dc;cases dc;have z3:3 < ts.size:=(Array.getElem?_eq_some_iff.mp h3).1;have ot:∀ b,b≠T->(s.heap.update T (Obj.mapFields (·.setIfInBounds 3 ((none:Ha G_).elim Value.none λf=>rawInt f)))).get? b=s.heap.get? b:=λb hb=>GE _ _ (Ne.symm hb)
 have nr:∀ b o,s.heap.get? b=some o->(∀ vs,o.data≠.fields vs)->b≠T:=λb o hb z y=>by
  rw [y,hT] at hb;cases hb;exact z ts dT
 unfold setFlight;refine gt (GN he hd h1 ?_);rw [if_pos (by simp)]
 have ge:=(ot e (Ne.symm te)).trans he;refine wpAny_setField hT dT z3 (hQ _ ⟨⟨λb o y=>(ot b λz=>by rw [z,nT] at y; cases y).trans (f1 b o y),f2,f3.of_keeps λb o hb z=>⟨o,(ot b (nr b o hb z)).trans hb,rfl⟩,?_⟩,_,_,w2,ge,hd,c2,ok2⟩ λb o hb z=>⟨o.slots,(ot b (nr b o hb z)).trans hb⟩)
 exact⟨oe,vs,T,_,_,ge,hc,hd,h1,nT,te,Heap.get?_update_self _ hT (Obj.isFreed_of_fields (Obj.data_mapFields dT _)),Obj.data_mapFields dT _,by simp [z3]⟩
theorem u_ {cls a0:G9} (hfr:A.frames=some (env::outer)) (hf:env.frame=some L) (hfl:pU B (env::outer) e cls a0 s.heap) (hQ:∀ h',zX B (env::outer) e cls a0 L h'->s.heap.UpToSlots h'->Q () {s with heap:=h'}):wpAny M A (noteFrame (.ref e) env) Q E s:=by
 obtain⟨⟨f1,f2,f3,oe,vs,T,oT,ts,he,⟨hc,h0⟩,hd,h1,nT,te,hT,dT,h3⟩,oc,vc,w2,gc,dc,c2,ok2⟩:=hfl;rw [he] at gc;cases gc;rw [hd] at dc;cases dc;subst hc;have ot:∀ b,b≠T->(s.heap.update T (Obj.mapFields (·.setIfInBounds 3 Value.none))).get? b=s.heap.get? b:=λb hb=>GE _ _ (Ne.symm hb)
 have nr:∀ b o,s.heap.get? b=some o->(∀ vs,o.data≠.fields vs)->b≠T:=λb o hb z y=>by
  rw [y,hT] at hb;cases hb;exact z ts dT
 unfold noteFrame;simp only [hf];refine gt (GN he hd h1 ?_);rw [if_pos (by simp)]
 refine gt (GN hT dT h3 ?_);rw [if_neg (by simp [rawInt])]
 refine gt (wpAny_setField hT dT (Array.getElem?_eq_some_iff.mp h3).1 ?_);refine pE hfr (f3.of_keeps λb o hb z=>⟨o,(ot b (nr b o hb z)).trans hb,rfl⟩) hf ((ot e (Ne.symm te)).trans he) (λb o y=>(ot b λz=>by rw [z,nT] at y; cases y).trans (f1 b o y)) f2 hd (Array.getElem?_eq_some_iff.mp h1).1 h0 c2 ok2 λh' ⟨x1,x2,x3,x4⟩ cx=>?_
 exact hQ h' ⟨⟨x1,f2,x2,x3⟩,cx⟩ λb o hb z=>x4 b o ((ot b (nr b o hb z)).trans hb) z
theorem uK {cls a0:G9} {h:Hf} (x:pU B (env::outer) e cls a0 h):pU B outer e cls a0 h:=⟨⟨x.1.1,x.1.2.1,x.1.2.2.1.2.2,x.1.2.2.2⟩,x.2⟩
theorem tK {cls a0:G9} (hfr:A.frames=some (env::outer)) (hf:env.frame=some L) (hfl:pU B (env::outer) e cls a0 s.heap) (hQ:∀ h',pU B outer e cls a0 h'->s.heap.UpToSlots h'->Q () {s with heap:=h'}):wpAny M A (leaving env (.ref e)) Q E s:=by
 unfold leaving;exact gt (u_ hfr hf hfl λh1 x1 u1=>oZ x1 λh2 x2 u2=>hQ h2 (uK x2) (u1.trans u2))
theorem vC {oe:Hl} {vs:Hh G9} {a0 v2:G9} (hfr:A.frames=some (env::outer)) (hl:s.heap.FunFrames B (env::outer)) (hf:env.frame=some L) (he:s.heap.get? e=some oe) (hk:B.StaysIn s.heap) (hn:B.get? e=none) (hd:oe.data=.fields vs) (h1:vs[1]?=some .none) (h0:vs[0]?=some a0) (h2:vs[2]?=some v2) (ok2:oE B v2)
  (hQ:∀ h',pU B outer e oe.cls a0 h'->s.heap.UpToSlots h'->Q () {s with heap:=h'}):wpAny M A (leaving env (.ref e)) Q E s:=by
 unfold leaving noteFrame;simp only [hf];refine gt (gt (GN he hd h1 ?_));rw [if_neg (by decide)]
 refine pE hfr hl hf he hk hn hd (Array.getElem?_eq_some_iff.mp h1).1 h0 h2 ok2 λh' ⟨x1,x2,x3,x4⟩ cx=>?_
 exact oZ (s:={s with heap:=h'}) ⟨⟨x1,hn,x2,x3⟩,cx⟩ λh2 y2 u2=>hQ h2 (uK y2) (Heap.UpToSlots.trans x4 u2)
end
def iB (P:Hc) (w:He):xS:=λouter H s E e s'=>∃ (ea:G_) (cls a0:G9) (H':Hp) (B:Hf),e=.ref ea/\s'.os=s.os/\AllBare s'.gens/\pU B outer ea cls a0 s'.heap/\k8 P w H' B/\
 (∀ b o,s.heap.get? b=some o->H b=none->b∉gP outer->B.get? b=some o)/\(∀ b o,s.heap.get? b=some o->b∉gP outer->∃ o',B.get? b=some o')/\Un (gP outer) [] H H' s.heap s'.heap/\E cls none H'
section
variable {P:Hc} {w:He} {K:PySem.W.Frag} {mg:Str->Ha G9} {base:Hf} {N:List Str} {Hn:Str} {scope:Scope} {f:G_} {cd:G9} {A:Hd} {outer:List Env} {s0:G8} {H0:Hp} {E:XK}
theorem wX {Hm:List (G_×Hl)} {σ:St} {H H':Hp} {s:G8} {sx:G8} {B h':Hf} {ea:G_} {cls a0:G9} (I:az (dF (iB P w) P w K mg base N Hn scope f cd A outer s0 H0 E) Hm σ H s) (os:sx.os=s.os) (bare:AllBare sx.gens)
  (fl:pU B outer ea cls a0 h') (hok:k8 P w H' B) (hB:∀ b o,s.heap.get? b=some o->H b=none->b∉gP (dF (iB P w) P w K mg base N Hn scope f cd A outer s0 H0 E).stack->B.get? b=some o)
  (hB2:∀ b o,s.heap.get? b=some o->b∉gP (dF (iB P w) P w K mg base N Hn scope f cd A outer s0 H0 E).stack->∃ o',B.get? b=some o')
  (hsl:∀ b∈gP outer,∀ o,s.heap.get? b=some o->∃ sl,h'.get? b=some {o with slots:=sl}) (fr:∀ b o,s.heap.get? b=some o->H b=none->H' b=none) (tu:∀ b xs,H b=some (.tup xs)->H' b=some (.tup xs)) (fz:∀ b o u,H b=some (.frz o u)->H' b=some (.frz o u))
  (tb:∀ b ps,H b=some (.tbl ps)->∃ more,H' b=some (.tbl (ps++more))) (q:E cls none H'):iB P w outer H0 s0 E (.ref ea) {sx with heap:=h'}:=by
 have nst:∀ b o,s0.heap.get? b=some o->b∉gP outer->b∉gP (dF (iB P w) P w K mg base N Hn scope f cd A outer s0 H0 E).stack:=λb o e hb z=>by
  rcases Gk.mp (I.stkSub b z) with z | z
  ·have:=Gf e;have ab:=I.ok.above;rw [z] at this;exact absurd (Gp this ab) (GV _)
  ·exact hb z
 have hkeep:∀ b o,s0.heap.get? b=some o->H0 b=none->b∉gP outer->B.get? b=some o:=λb o e n hb=>
  hB b o (I.base.keep b o e n hb (λz=>nomatch z)) (I.base.free b o e n (λz=>nomatch z)) (nst b o e hb)
 have hthere:∀ b o,s0.heap.get? b=some o->b∉gP outer->∃ o',B.get? b=some o':=λb o e hb=>by
  obtain⟨o',e1⟩:=I.base.there b o e (λz=>nomatch z)
  exact hB2 b o' e1 (nst b o e hb)
 refine⟨ea,cls,a0,H',B,rfl,os.trans I.os,bare,fl,hok,hkeep,hthere,⟨λb o e n hb _=>fl.1.1 _ _ (hkeep b o e n hb),λb o e n hb _=>?_,λb o e n _=>?_,λb o e _=>?_,λb xs e=>tu _ _ (I.base.tups b xs e),λb o u e=>fz _ _ _ (I.base.frzs b o u e),λb ps e=>?_⟩,q⟩
 ·obtain⟨sl,e1⟩:=I.base.slot b o e n hb (λz=>nomatch z)
  obtain⟨sl',e2⟩:=hsl b hb _ e1;exact⟨sl',e2⟩
 ·obtain⟨o',e1⟩:=I.base.there b o e (λz=>nomatch z)
  exact fr b o' e1 (I.base.free b o e n (λz=>nomatch z))
 ·by_cases hb:b∈gP outer
  ·obtain⟨o',e1⟩:=I.base.there b o e (λz=>nomatch z)
   obtain⟨sl',e2⟩:=hsl b hb _ e1;exact⟨_,e2⟩
  ·obtain⟨o',e1⟩:=hthere b o e hb;exact⟨o',fl.1.1 _ _ e1⟩
 ·obtain⟨m1,e1⟩:=I.base.tbls b ps e;obtain⟨m2,e2⟩:=tb b _ e1;exact⟨m1++m2,by rw [e2,Array.append_assoc]⟩
theorem ze:pT (iB P w) (dF (iB P w) P w K mg base N Hn scope f cd A outer s0 H0 E) E:=by
 intro Hm σ H s e s' I h;obtain⟨ea,cls,a0,H',B,rfl,os,bare,fl,hok,hB,hB2,un,q⟩:=h
 show wpAny _ _ (leaving _ (.ref ea)) _ _ s'
 refine tK I.ok.frames rfl fl λh' fl' up=>?_
 refine wX (sx:=s') I os bare fl' hok hB hB2 (λb hb o e=>?_) (λb o e n=>un.free b o e n (λz=>nomatch z)) un.tups un.frzs un.tbls q
 have hb':b∈gP (dF (iB P w) P w K mg base N Hn scope f cd A outer s0 H0 E).stack:=Go _ hb;have hn:=I.stkFree b hb';obtain⟨sl,e1⟩:=un.slot b o e hn hb' (λz=>nomatch z)
 obtain⟨_,o2,e2,d2⟩:=fl.1.2.2.1.mem hb';rw [e1] at e2;cases e2;obtain⟨sl',e3⟩:=up b _ e1 d2;exact⟨sl',e3⟩
end
theorem zN {K:PySem.W.Frag} {C:G_} {bmB:List G9} {newId:Hj} {h:Hf} {x:Str} {mg:Str->Ha G9} (X:K.In h) (q:PySem.W.excIn K C bmB newId=true) (hm:mg x=some (.ref C)):OwnCls x C bmB newId mg h:=by
 refine⟨hm,?_⟩;unfold PySem.W.excIn at q
 split at q
 ·rename_i d1 c1 sl hlk
  split at q
  ·rename_i C1 bm a0 a1 a2 a3 nn a5 hmro hsl
   simp only [GP,beq_iff_eq,Bool.not_eq_true'] at q;obtain⟨⟨⟨⟨⟨q1,q2⟩,q3⟩,q4⟩,q5⟩,q6⟩:=q;subst q1 q2;obtain⟨v1,v2,v3,v4,v5,v6,v7,v8,v9,v10,v11⟩:=c1;dsimp only at hmro q3 q5 q6
   subst hmro q3;obtain⟨l⟩:=sl;simp only at hsl;subst hsl;exact⟨bm,v4,v1,v5,v2,v6,v7,v8,v9,v10,d1,a0,a1,a2,a3,a5,_,X _ _ hlk,.of_isNs (PySem.W.isNs_of_in X q5),PySem.W.nsMap_none_of_in X q5 q6,PySem.W.tail_of_in X q4⟩
  ·cases q
 ·cases q
section
variable {P:Hc} {w:He} {K:PySem.W.Frag} {mg:Str->Ha G9} {base:Hf} {N:List Str} {Hn:Str} {scope:Scope} {f:G_} {cd:G9} {A:Hd} {outer:List Env} {s0:G8} {H0:Hp} {E:XK}
theorem yl {x t:Str} {C:G_} {bmB:List G9} {Bn newId initId:Hj} {j:Nat} {p np cpos pos:Pos} (FB:ExcBaseFacts Bn newId initId bmB) (q:PySem.W.excIn K C bmB newId=true) (hm:mg x=some (.ref C))
  (hg:Gl (dF (iB P w) P w K mg base N Hn scope f cd A outer s0 H0 E) x) (hd:(x == ("__debug__":Str))=false:=by decide):
  PS (dF (iB P w) P w K mg base N Hn scope f cd A outer s0 H0 E) (.Raise (some (.Call (.Name x np) [.Constant (.str t) j p] [] cpos)) none pos) (λ_ _ H=>E (.ref C) none H):=by
 intro Hm s σ H D I h;obtain⟨tl,Nn,nm,qn,bs,hdct,sn,sub,ab,col,dd,k0,k1,k2,k3,k5,mN,hC,hN,hni,T⟩:=(zN (x:=x) I.kIn q hm).obj;refine wpAny_Raise_call_subT (C:=C) (nm:=nm) (q:=qn) (N:=Nn) (bs:=bs) (bm:=tl) (hdct:=hdct) (sn:=sn) (sub:=sub) (ab:=ab) (col:=col) (dd:=dd) (k0:=k0) (k1:=k1) (k2:=k2) (k3:=k3) (k5:=k5)
  FB (mN:=mN) (T.hasType FB.hasBase) (I.ok.hd rfl) rfl hni (kA I hg hm ⟨rfl,?_⟩ hd)
 refine Calls.evalArgs_plain (Calls.spliced_cons (Calls.Constant_str (k:=j) (pos:=p) (Calls.spliced_nil ⟨rfl,Gu rfl,hC,hN,T,λh' e hx=>?_⟩)))
 show wpAny _ _ (leaving _ (.ref e)) _ _ _
 have I1:=I.tok (s.toks+1);have hin:∀ env∈(dF (iB P w) P w K mg base N Hn scope f cd A outer s0 H0 E).stack,∀ b,env.frame=some b->b∈gP (dF (iB P w) P w K mg base N Hn scope f cd A outer s0 H0 E).stack:=λenv he b hb=>List.mem_filterMap.mpr ⟨env,he,hb⟩
 obtain⟨t2,he2,_,_⟩:=hx.there;refine vC (B:=PySem.W.hideAll s.heap (gP (dF (iB P w) P w K mg base N Hn scope f cd A outer s0 H0 E).stack)) (a0:=.ref t2) I.ok.frames ((PySem.W.funFrames_hide I.stack hin).of_keeps λb o hb _=>⟨o,hx.keeps b o hb,rfl⟩) rfl he2 (λb o z=>hx.keeps b o (PySem.W.of_hideAll _ z)) (by
  cases y:(PySem.W.hideAll s.heap (gP (dF (iB P w) P w K mg base N Hn scope f cd A outer s0 H0 E).stack)).get? e with
  | none=>rfl
  | some o=>
   have z:=PySem.W.of_hideAll _ y;rw [show s.heap.get? e=none from hx.new] at z
   cases z) rfl rfl rfl rfl .last λh2 fl up=>?_
 refine wX (sx:={s with heap:=h',toks:=s.toks+1}) I rfl I.bare fl (λb ob z=>?_) (λb o z _ hb=>PySem.W.hideAll_get _ z hb) (λb o z hb=>⟨o,PySem.W.hideAll_get _ z hb⟩) (λb hb o z=>?_) (λ_ _ _ n=>n) (λ_ _ z=>z) (λ_ _ _ z=>z) (λb ps z=>⟨#[],by rw [z]; simp⟩) h
 ·refine(I.hok b ob z).stay (λc v hc y=>PySem.W.hideAll_get _ y λhf=>?_) (λ_ y=>y) λ_ _ y=>y
  have hn:=I.stkFree c hf;rcases hc with rfl | hc
  ·rw [hn] at z; cases z
  ·rw [hn] at hc; cases hc
 ·obtain⟨_,o2,e2,d2⟩:=I.stack.mem (Go _ hb);rw [z] at e2;cases e2;exact up b o (hx.keeps _ _ z) d2
end
section
variable {X:Cx} {Hm:List (G_×Hl)} {σ:St} {H H':Hp} {s s':G8} {E:XK}
theorem az.landed {B h5:Hf} {ea:G_} {cls a0:G9} (I:az X Hm σ H s) (os:s'.os=s.os) (bare:AllBare s'.gens) (fl:Heap.FlyingW B X.stack ea cls a0 s'.heap) (fl5:Heap.FlyingW B X.stack ea cls a0 h5) (up:s'.heap.UpToSlots h5) (hok:k8 X.prog X.w H' B)
  (hB:∀ b o,s.heap.get? b=some o->H b=none->b∉gP X.stack->B.get? b=some o) (hB2:∀ b o,s.heap.get? b=some o->b∉gP X.stack->∃ o',B.get? b=some o') (un:Un (gP X.stack) [] H H' s.heap s'.heap):
  az X Hm σ H' {s' with heap:=h5}:=by
 have fsl:∀ b∈gP X.stack,∀ o,s.heap.get? b=some o->∃ sl,h5.get? b=some {o with slots:=sl}:=λb hb o e=>by
  obtain⟨sl,e1⟩:=un.slot b o e (I.stkFree b hb) hb (λz=>nomatch z)
  obtain⟨_,o2,e2,d2⟩:=fl.2.2.1.mem hb;rw [e1] at e2;cases e2;obtain⟨sl',e3⟩:=up b _ e1 d2;exact⟨sl',e3⟩
 refine I.call' (s':={s' with heap:=h5}) (ch:=[]) os ⟨λb o e n hb _=>fl5.1 _ _ (hB b o e n hb),λb o e n hb _=>fsl b hb o e,un.free,λb o e _=>?_,un.tups,un.frzs,un.tbls⟩ (hok.kept fl5.1) bare λb z=>nomatch z
 by_cases hb:b∈gP X.stack
 ·obtain⟨sl,e1⟩:=fsl b hb o e;exact⟨_,e1⟩
 ·obtain⟨o',e1⟩:=hB2 b o e hb;exact⟨o',fl5.1 _ _ e1⟩
theorem az.freeze {a:G_} {o:Hl} (I:az X Hm σ H s) (e:s.heap.get? a=some o) (hn:H a=none) (h0:X.s₀.heap.get? a=none) (hL:a≠X.env.locals) (hc:∀ x c,X.env.cells.lookup x=some c->c≠a) (hp:∀ p∈X.pn++Hm,p.1≠a):
  az X Hm σ (bI H a (.frz o (.ext λ_=>True))) s:=by
 have ne:∀ b u,X.s₀.heap.get? b=some u->b≠a:=λb u z y=>by rw [y,h0] at z; cases z
 refine⟨I.ok,I.os,I.bare,⟨I.base.keep,I.base.slot,λb u z n x=>?_,I.base.there,λb xs z=>?_,λb u v z=>?_,λb ps z=>?_⟩,I.loc,I.cell,?_,λx c z=>?_,λp z=>?_,λb u z=>?_,I.len⟩
 ·rw [aD (ne b u z)]; exact I.base.free b u z n x
 ·have q:=I.base.tups b xs z;rw [aD (a8 q hn)]; exact q
 ·have q:=I.base.frzs b u v z;rw [aD (a8 q hn)]; exact q
 ·obtain⟨m,q⟩:=I.base.tbls b ps z;exact⟨m,by rw [aD (a8 q hn)]; exact q⟩
 ·rw [aD (Ne.symm hL)]; exact I.free
 ·rw [aD (hc x c z)]; exact I.freeC x c z
 ·obtain⟨q1,q2,q3⟩:=I.pin p z;exact⟨q1,by rw [aD (hp p z)]; exact q2,q3⟩
 ·by_cases hb:b=a
  ·subst hb;rw [cA] at z;cases z;exact⟨e,trivial,⟨o,e⟩,λ_ _ _ _=>trivial⟩
  ·rw [aD hb] at z;exact(I.hok b u z).stay (λ_ _ _ q=>q) (λc q=>by rw [aD (a8 q hn)]; exact q) λc xs q=>by rw [aD (a8 q hn)]; exact q
abbrev Cx.marked (X:Cx) (v:G9) (W:G9->G8->Prop):Cx:={X with A:=X.A.mark (some v),calm:=false,xe:=W}
theorem az.marked (I:az X Hm σ H s) (v:G9) (W:G9->G8->Prop):az (X.marked v W) Hm σ H s:=
 ⟨⟨I.ok.mod,I.ok.kind,I.ok.glob,I.ok.blt,I.ok.above,I.ok.inj,I.ok.has,I.ok.cab,λz=>(by cases z),I.ok.frames,I.ok.stk,I.ok.exf,I.ok.bs,I.ok.bsz,I.ok.noex,I.ok.exfs,I.ok.funs,I.ok.frf⟩,I.os,I.bare,I.base,I.loc,I.cell,I.free,I.freeC,I.pin,I.hok,I.len⟩
theorem az.unmarked {v:G9} {W:G9->G8->Prop} (I:az (X.marked v W) Hm σ H s) (hd:X.calm=true->X.A.handled=none):az X Hm σ H s:=
 ⟨⟨I.ok.mod,I.ok.kind,I.ok.glob,I.ok.blt,I.ok.above,I.ok.inj,I.ok.has,I.ok.cab,hd,I.ok.frames,I.ok.stk,I.ok.exf,I.ok.bs,I.ok.bsz,I.ok.noex,I.ok.exfs,I.ok.funs,I.ok.frf⟩,I.os,I.bare,I.base,I.loc,I.cell,I.free,I.freeC,I.pin,I.hok,I.len⟩
end
theorem en.there {P:Hc} {w:He} {H:Hp} {h:Hf} {a:G_} {o:HO} (x:en P w H h a o):∃ ob,h.get? a=some ob:=by
 cases o with
 | lst xs=>obtain⟨_,_,_,_,e⟩:=x; exact⟨_,e⟩
 | tup xs=>obtain⟨_,_,_,ob,e,_⟩:=x; exact⟨_,e⟩
 | dK kvs=>obtain⟨_,_,_,_,o,_,_,e,_⟩:=x; exact⟨_,e⟩
 | dT kvs=>obtain⟨_,_,_,_,o,_,_,e,_⟩:=x; exact⟨_,e⟩
 | set S n=>obtain⟨o,_,_,_,e,_⟩:=x; exact⟨_,e⟩
 | ins C dx fs=>obtain⟨_,_,_,e,_⟩:=x; exact⟨_,e⟩
 | own y=>obtain⟨_,e⟩:=x; exact⟨_,e⟩
 | xd fs=>obtain⟨_,⟨_,_,_,e,_⟩,_⟩:=x; exact⟨_,e⟩
 | rng lo hi=>obtain⟨_,_,_,e⟩:=x; exact⟨_,e⟩
 | frz ob u=>obtain⟨e,_⟩:=x; exact⟨_,e⟩
 | tbl ps=>exact⟨_,(show h.get? a=some _ from x)⟩
 | met f y=>exact⟨_,(show h.get? a=some _ from x)⟩
 | ext φ=>obtain⟨_,e,_⟩:=x; exact e
end L2
namespace DL
open PySem PySem.Spec PyProof.Rows L2
abbrev mh:=List D->DH->DK->(G_->DH->Prop)->Prop
def zO (K:Fg) (F:mh):Sp:=λvs H Q E=>∃ ds S k x,IsDs K H ds vs/\Hs K H S/\F ds S k x/\(∀ d' S' v H',k d' S'->Kp H H'->Hs K H' S'->bJ K H' d' v->Q v H')/\∀ C S' H',x C S'->Hs K H' S'->E (.ref C) none H'
structure oa (P:Hc) (w:He) (K:Fg) (mg:Str->Ha G9) (base:Hf) (x:Str) (n:Nat) (F:mh):Prop where
 ex:∃ f fd ps,aH P w K mg base (iB P w) n f fd ps (zO K F)/\mg x=some (.ref f)/\PySem.W.keepIn K (.ref f)=true/\jT K fd ps []
section
variable {P:Hc} {w:He} {K:Fg} {mg:Str->Ha G9} {base:Hf} {N:List Str} {Hn:Str} {scope:Scope} {f:G_} {cd:G9} {A:Hd} {outer:List Env} {s0:G8} {H0:Hp} {E:XK} {ex:G_->DH->Prop}
theorem sV {x t:Str} {C:G_} {bmB:List G9} {Bn newId initId:Hj} {j:Nat} {p np cpos pos:Pos} (hE:∀ C S' H',ex C S'->Hs K H' S'->E (.ref C) none H') (FB:ExcBaseFacts Bn newId initId bmB) (q:PySem.W.excIn K C bmB newId=true) (hm:mg x=some (.ref C))
  (hg:Gl (dF (iB P w) P w K mg base N Hn scope f cd A outer s0 H0 E) x) (hd:(x == ("__debug__":Str))=false:=by decide):
  SJ (dF (iB P w) P w K mg base N Hn scope f cd A outer s0 H0 E) (.Raise (some (.Call (.Name x np) [.Constant (.str t) j p] [] cpos)) none pos) (λ_ _ S=>ex C S):=
 ⟨PS.imp (yl FB q hm hg hd) λ_ _ H z9=>by obtain⟨_,S,_,_,hS,h,_⟩:=z9; exact hE C S H h hS⟩
def wK (F:mh) (ex:G_->DH->Prop) (t:DA):DE:=λL S k=>t L S λds S1=>F ds S1 k ex
theorem q_ {x:Str} {n:Nat} {F:mh} {e:Hb} {es:List Hb} {t:DA} {p pos:Pos} (hE:∀ C S' H',ex C S'->Hs K H' S'->E (.ref C) none H') (c:oa P w K mg base x n F) (hr:dE n (dF (iB P w) P w K mg base N Hn scope f cd A outer s0 H0 E).A)
  (hg:Gl (dF (iB P w) P w K mg base N Hn scope f cd A outer s0 H0 E) x) (ha:AJ (dF (iB P w) P w K mg base N Hn scope f cd A outer s0 H0 E) (e::es) t) (hdb:(x == ("__debug__":Str))=false:=by decide)
  (he:starEach (e::es) (dF (iB P w) P w K mg base N Hn scope f cd A outer s0 H0 E).env=(false,eval e (dF (iB P w) P w K mg base N Hn scope f cd A outer s0 H0 E).env)::starEach es (dF (iB P w) P w K mg base N Hn scope f cd A outer s0 H0 E).env:=by exact ck rfl)
  (hpl:(backTo pos (starEach es (dF (iB P w) P w K mg base N Hn scope f cd A outer s0 H0 E).env)).any (·.1)=false:=by exact eQ rfl):
  EJ (dF (iB P w) P w K mg base N Hn scope f cd A outer s0 H0 E) (.Call (.Name x p) (e::es) [] pos) (wK F ex t):=by
 obtain⟨g,fd,ps,F1,h1,h2,h3⟩:=c.ex;refine⟨PE.imp (uE F1 hr hg h1 h2 h3 .nil ze ha.h hdb he hpl) fun σ H Q ⟨L,S,k,hL,hS,h,n⟩=>?_⟩
 refine sh.go hL hS h λds S1 vs H1 h1 k1 hL1 hS1 i1=>?_
 show zO K F (vs++[]) H1 Q E
 rw [Gy];exact⟨ds,S1,k,ex,i1,hS1,h1,λd' S' v H' q k3 z1 z2=>n d' S' v H' q (k1.trans k3) z1 z2,hE⟩
theorem _root_.L2.r_.okX {x Hn:Str} {st:Hg} {f:G_} {fd:FuncData} {N ps:List Str} {k:Nat} {F:mh} (Fn:r_ K x Hn st f fd) (Sc:aq N ps (ai st)) (len:∀ ds S k x,F ds S k x->ds.length=ps.length)
  (hbody:∀ (cdv:G9) (A:Hd) (outer:List Env) (s:G8) (H:Hp) (E:XK) (ex:G_->DH->Prop),dE k (A.deeper (envOfC Hn (ai st) s.heap.objs.size f cdv))->(∀ C S' H',ex C S'->Hs K H' S'->E (.ref C) none H')->
   ∃ g,tL (dF (iB P w) P w K mg base N Hn (ai st) f cdv A outer s H E) (bV st) g/\
    ∀ ds S k,F ds S k ex->g {nx:=λ_ S'=>k .non S',rt:=k} (ds.map some++List.replicate (N.length - ps.length) none) S):aH P w K mg base (iB P w) (k+1) f fd ps (zO K F):=by
 obtain⟨oc,od,kV,doc,pm,an,cdv,ct,osl,rfl,lk,hcd⟩:=Fn.ex;refine At lk hcd Sc (λvs H Q E h=>?_) λA outer s H vs Q E hr h=>?_
 ·obtain⟨ds,S,k,x,i,_,q,_⟩:=h;rw [<- i.length];exact len ds S k x q
 ·obtain⟨ds,S,k',x,i,hS,h,n,hE⟩:=h;obtain⟨g,hg,q⟩:=hbody cdv A outer s H E x hr hE;refine⟨_,hg.h,ds.map some++List.replicate (N.length - ps.length) none,S,_,?_,hS,q ds S k' h,?_⟩
  ·unfold L2.start;rw [<- i.length,len ds S k' x h];exact Lc.start _ i
  ·exact⟨λL S' σ H' h1 k1 _ hS'=>n _ S' _ H' h1 k1 hS' (b8.mpr rfl),λd S' v H' h1 k1 hS' i1=>n d S' v H' h1 k1 hS' i1,λ_ _ _ _ h1=>h1.elim,λ_ _ _ _ h1=>h1.elim⟩
end
theorem A6 {P:Hc} {w:He} {outer:List Env} {H:Hp} {s:G8} {E:XK} {e:G9} {s':G8} (h:iB P w outer H s E e s'):iB P w outer H s (λc t H'=>E c t H'/\Kp H H') e s':=by
 obtain⟨ea,cls,a0,H',B,h1,h2,h3,h4,h5,h6,h7,h8,h9⟩:=h;refine⟨ea,cls,a0,H',B,h1,h2,h3,h4,h5,h6,h7,h8,h9,λa o z i=>?_⟩
 cases o with
 | tup xs=>exact h8.tups a xs z
 | frz ob u=>exact h8.frzs a ob u z
 | _=>exact i.elim
def FL (K:Fg) (ex:G_->DH->Prop):XK:=λcls _ H'=>∃ C S',cls=.ref C/\ex C S'/\Hs K H' S'
section
variable {X:Cx} {Hm:List (G_×Hl)} {σ:L2.St} {H:Hp} {s:G8}
theorem qE (I:az X Hm σ H s) {S:DH} {a c:G_} {ds es:List D} {b:Hi} (hS:Hs X.K H S) (h1:S a=some (.lst ds)) (h2:S c=some (.lst es)) (hl:ds.length=es.length) (A:Hd) (hu:A.units+8 < cLine) (h:gD (iP 7) ds es=some b):
  SeqAt.RcAt A s (.ref a) (.ref c) b/\SeqAt.RcNeAt A s (.ref a) (.ref c) (!b):=by
 obtain⟨xs,q1,j1⟩:=hS.lst h1;obtain⟨ys,q2,j2⟩:=hS.lst h2;obtain⟨us,r1,p1,_⟩:=I.list (eu.of q1);obtain⟨ws,r2,p2,_⟩:=I.list (eu.of q2);have l1:=j1.length;have l2:=j2.length;have l3:=r1.length;have l4:=r2.length;have hsz:us.toArray.size=ws.toArray.size:=by simp only [Gj]; omega
 have he:∀ j (h1:j < us.toArray.size) (h2:j < ws.toArray.size),SeqAt.EqAt A.in1 s us.toArray[j] ws.toArray[j] (gK (iP 7) ds es j):=λj h1 h2=>by
  simp only [Gj] at h1 h2
  obtain⟨d,e,x,y,q1,q2,d1,d2,rx,ry⟩:=qB j1 j2 r1 r2 h1 h2;have:=(p_ I 7 A.in1 d e x y us[j] ws[j] _ (by show A.units+1+7 < cLine; omega) (mF h q1 q2) d1 d2 rx ry).1
  simpa using this
 have e:=kl h;rw [hl,Nat.min_self] at e;have e:(List.range us.toArray.size).all (gK (iP 7) ds es)=b:=by
  simp only [Gj];rw [<- l3,<- l1,hl]
  simpa using e
 refine⟨?_,?_⟩
 ·have z:=SeqAt.RcAt.lists p1.isList p2.isList hsz (by omega) he
  rw [e] at z;exact z
 ·have z:=SeqAt.RcNeAt.lists p1.isList p2.isList hsz (by omega) he
  rw [e] at z;exact z
end
def AA:D2:=λd e S k=>match d,e with
 | .ref a,.ref c=>∃ xs ys b,S a=some (.lst xs)/\S c=some (.lst ys)/\xs.length=ys.length/\gD (iP 7) xs ys=some b/\k (.bl b) S
 | d,e=>∃ b,iP 8 d e=some b/\k (.bl b) S
def CW:D2:=λd e S k=>match d,e with
 | .ref a,.ref c=>∃ xs ys b,S a=some (.lst xs)/\S c=some (.lst ys)/\xs.length=ys.length/\gD (iP 7) xs ys=some b/\k (.bl (!b)) S
 | d,e=>∃ b,iP 8 d e=some b/\k (.bl (!b)) S
theorem oY {X:Cx} {n:Nat} (hr:dE n X.A):eU X (compareOp .Eq) (iM X.K AA):=by
 intro Hm s σ H x y v u Q I rx ry h;obtain⟨d,e,S,k,i1,i2,hS,r,m⟩:=h;have hu:=hr.units;unfold AA at r
 split at r
 ·obtain⟨xs,ys,b,h1,h2,h3,h4,w⟩:=r;have e1:=a_.mp i1;have e2:=a_.mp i2;subst e1 e2;cases rx;cases ry;exact(qE I hS h1 h2 h3 X.A (by omega) h4).1 X.prog X.w X.xe _ ⟨.bl b,H,I,rfl,kj m hS w (bE.mpr rfl)⟩
 ·obtain⟨b,h1,w⟩:=r;exact(p_ I 8 X.A d e x y v u b (by omega) h1 i1 i2 rx ry).2 X.prog X.w X.xe _ ⟨.bl b,H,I,rfl,kj m hS w (bE.mpr rfl)⟩
theorem An {X:Cx} {n:Nat} (hr:dE n X.A):eU X (compareOp .NotEq) (iM X.K CW):=by
 intro Hm s σ H x y v u Q I rx ry h;obtain⟨d,e,S,k,i1,i2,hS,r,m⟩:=h;have hu:=hr.units;unfold CW at r
 split at r
 ·obtain⟨xs,ys,b,h1,h2,h3,h4,w⟩:=r;have e1:=a_.mp i1;have e2:=a_.mp i2;subst e1 e2;cases rx;cases ry;exact(qE I hS h1 h2 h3 X.A (by omega) h4).2 X.prog X.w X.xe _ ⟨.bl (!b),H,I,rfl,kj m hS w (bE.mpr rfl)⟩
 ·obtain⟨b,h1,w⟩:=r;exact ya I 8 X.A d e x y v u b (by omega) h1 i1 i2 rx ry X.prog X.w X.xe _ ⟨.bl (!b),H,I,rfl,kj m hS w (bE.mpr rfl)⟩
theorem oa.mk' {P:Hc} {w:He} {K:Fg} {mg:Str->Ha G9} {base:Hf} {x Hn:Str} {st:Hg} {f:G_} {fd:FuncData} {ps:List Str} {n:Nat} {F:mh} (Fn:r_ K x Hn st f fd) (h:aH P w K mg base (iB P w) n f fd ps (zO K F)) (hm:mg x=some (.ref f)) (hb:jT K fd ps []):oa P w K mg base x n F:=
 ⟨f,fd,ps,h,hm,Fn.kp,hb⟩
def xq:bO:=λds S k=>match ds with
 | [.tup xs]=>k (.tup xs) S
 | [.ref a]=>∃ xs,S a=some (.lst xs)/\k (.tup xs) S
 | _=>False
theorem uf {X:Cx}:cb X (.type "tuple") (qY X.K xq):=by
 intro Hm s σ H xs us Q I rs h;obtain⟨ds,S,k,i,hS,r,n⟩:=h;unfold xq at r
 split at r
 ·obtain⟨x,rfl,i1⟩:=gf i;obtain⟨a,vs,rfl,t,j⟩:=ci.mp i1;exact jW Hm s σ H _ us Q I rs ⟨a,vs,rfl,.inr ⟨t,n _ S _ H r (Kp.refl H) hS i1⟩⟩
 ·obtain⟨x,rfl,i1⟩:=gf i;have e1:=a_.mp i1;subst e1;obtain⟨xs,z,r⟩:=r;obtain⟨vs,hl,j⟩:=hS.lst z;refine jW Hm s σ H _ us Q I rs ⟨_,vs,rfl,.inl ⟨eu.of hl,λp hp=>?_⟩⟩
  have kp:Kp H (bI H p (.tup vs)):=Kp.new hp;exact n _ S _ _ r kp (hS.new hp) (ci.mpr ⟨p,vs,rfl,kU.of cA,j.kp kp⟩)
 ·exact r.elim
end DL
namespace L2
open PySem PySem.Spec PyProof.Rows
theorem uT:bootBuiltins "enumerate"=some (.type "enumerate"):=by decide +kernel
theorem w6 {P:Hc} {w:He} {A:Hd} (b:Hi) (it l:G_) (xs:Hh G9) (hh:A.handled=none) (hne:it≠l):Draws P w A it [it,l] xs.size (λi x=>xs[i]?=some x) (λi h=>BV b it l i h/\sqB b l xs h) where
 live:=λi h st=>by obtain⟨o,e,_⟩:=(bZ (P:=P) (w:=w) b it l).obj _ _ st.1; exact⟨o,e⟩
 frame:=λi h h' st q=>⟨(bZ (P:=P) (w:=w) b it l).at_ _ _ _ st.1 λo e=>q it (by simp) o e,(bZ (P:=P) (w:=w) b it l).sqAt _ _ _ st.2 λo e=>q l (by simp) o e⟩
 item:=λi s Q E hi st hQ=>(bZ (P:=P) (w:=w) b it l).item A i s xs xs[i] Q E st.1 st.2 (by simp [hi]) λh' a1 a2=>hQ _ h' s.toks (by simp [hi]) ⟨a1,(bZ (P:=P) (w:=w) b it l).sqAt _ _ _ st.2 λo e=>a2.extBut _ _ (Ne.symm hne) e⟩ a2
 done:=λs Q E st hE=>(bZ (P:=P) (w:=w) b it l).fin _ _ _ _ _ _ hh st.1 st.2 (by simp) hE
def DC (K:PySem.W.Frag) (b:Hi) (a:G_):It:=
 ⟨λi H => ∃ xs x, oO b K H a xs ∧ xs[i]? = some x,
  λi H v H'=>∃ T x,v=.ref T/\H T=none/\H'=bI H T (.tup [.int (i:Nat),x])/\∀ xs,oO b K H a xs->xs[i]?=some x,
  λi H=>∃ xs,oO b K H a xs/\xs.length=i⟩
def FZ (b:Hi) (e it a:G_) (i:Nat) (h:Hf):Prop:=(∃ old,IsEnum h e it (i:Nat) old)/\BV b it a i h
theorem uU {P:Hc} {w:He} {K:PySem.W.Frag} {es:List Hb} {k:Nat} {pos:Pos} (b:Hi) {e it a:G_} (h1:e≠it) (h2:e≠a) (h3:it≠a):
  vz P w K (.Tuple es k pos) (DC K b a) [e,it] e (FZ b e it a) where
 mem:=by simp
 obj:=λi h st c hc=>by
  obtain⟨⟨old,he⟩,hi⟩:=st;have hc':c=e\/c=it:=by simpa using hc
  rcases hc' with rfl | rfl
  ·exact⟨_,he,λv q=>by cases q⟩
  ·exact(bZ (P:=P) (w:=w) b c a).obj _ _ hi
 keep:=λi h h' st q=>by
  obtain⟨⟨old,he⟩,hi⟩:=st;exact⟨⟨old,q e (by simp) _ he⟩,(bZ (P:=P) (w:=w) b it a).at_ _ _ _ hi λo x=>q it (by simp) o x⟩
 item:=by
  intro X hP hw hK hc i Hm s σ H E I hf st hg;subst hP hw hK;obtain⟨xs,x,q1,hx⟩:=hg;obtain⟨its,rv,p⟩:=I.sqB q1;obtain⟨u,hu,ru⟩:=rv.get hx;obtain⟨⟨old,he⟩,hi⟩:=st;have hn:H s.heap.objs.size=none:=I.hok.fresh (Gg _);have helt:e < s.heap.objs.size:=Gf he;have hilt:it < s.heap.objs.size:=by obtain⟨o,z,_⟩:=(bZ (P:=X.prog) (w:=X.w) b it a).obj _ _ hi; exact Gf z
  have hlt:i < its.toArray.size:=by
   have:=GL.mp hu;obtain⟨z,_⟩:=this
   simpa using z
  refine wpAny_pyNext_enum_itemD (w6 b it a its.toArray (show X.A.in1.handled=none from I.ok.hd hc) h3) he ⟨hi,p⟩ hlt h1 (by simp [h1,h2]) λx' h' tk hx' ho hst hT hsz hk=>?_
  have ex:x'=u:=by
   have z:its[i]?=some x':=by simpa using hx'
   rw [hu] at z;exact(GF z).symm
  subst ex;have I1:az X Hm σ (bI H s.heap.objs.size (.tup [.int (i:Nat),x])) {s with heap:=h',toks:=tk+1}:=
   I.turnedNew (t':=tk+1) [e,it] (λc o hb y=>hk c o (λq=>hb (by simp [q])) (λq=>hb (by simp [q])) y) hf (Gg _) ⟨Gu rfl,[.int (i:Nat) tk,x'],.cons ⟨tk,rfl⟩ (.cons ru .nil),⟨_,hT,rfl,_,rfl⟩⟩
  refine⟨_,rfl,wpAny_letOwnedTupleGo_enum (s:={s with heap:=h',toks:=tk+1}) ho λh2' g1 g2=>?_⟩
  refine⟨.ref s.heap.objs.size,bI H s.heap.objs.size (.tup [.int (i:Nat),x]),?_,rfl,⟨_,x,rfl,hn,rfl,λxs' e1=>by rw [I.sqB_inj e1 q1]; exact hx⟩,⟨⟨x',by simpa using g1⟩,?_⟩,λc hb=>?_⟩
  ·refine I1.turnedL (t':=tk+1) [e] (λc o hb y=>g2.extBut _ _ (λq=>hb (by simp [q])) y) λc hb=>?_
   have z:c=e:=by simpa using hb
   subst z;obtain⟨f0,f1,f2,f3,f4,f5⟩:=hf c (by simp)
   exact⟨by rw [aD (Gm helt)]; exact f0,f1,f2,f3,f4,f5⟩
  ·exact(bZ (P:=X.prog) (w:=X.w) b it a).at_ _ _ _ hst.1 λo z=>g2.extBut _ _ (Ne.symm h1) z
  ·have hc':c=e\/c=it:=by simpa using hb
   rw [aD (by rcases hc' with rfl | rfl; exact Gm helt; exact Gm hilt)]
   exact(hf c hb).1
 done:=by
  intro X hP hw hK hc i Hm s σ H E I hf st hg;subst hP hw hK;obtain⟨xs,q1,hx⟩:=hg;obtain⟨its,rv,p⟩:=I.sqB q1;obtain⟨⟨old,he⟩,hi⟩:=st;have l1:=rv.length;have ez:i=its.toArray.size:=by simp; omega
  refine wpAny_pyNext_enum_endD (w6 b it a its.toArray (show X.A.in1.handled=none from I.ok.hd hc) h3) he ⟨by rw [<- ez]; exact hi,p⟩ λh' kk=>⟨rfl,I.turnedL (t':=s.toks) [it] (λc o hb y=>kk c o (λq=>hb (by simp [q])) y) λc hb=>hf c ?_⟩
  have z:c=it:=by simpa using hb
  subst z;simp
 self:=λ_ _ _ _ _ st h=>by
  obtain⟨⟨old,he⟩,_⟩:=st;exact wpAny_pyIter_enum he h
theorem rq (l:G_) (xs:Hh G9) (n:Nat) (dct:Ha G_) (sl:Hh (Ha G9)):
  Meets (Builtin.«enumerate.__new__» ⟨[.type "enumerate",.ref l],[]⟩) (λ_ R s=>s.heap.get? l=some ⟨.type "tuple",dct,.seq xs n,sl⟩/\
   R (.ok (.ret (.ref (zV s.heap "tuple_iterator" l).objs.size))) {s with heap:=(zV s.heap "tuple_iterator" l).push {cls:=.type "enumerate",data:=.fields #[.none,.bool false,.ref s.heap.objs.size,rawInt 0,.none,.none]}}):=
 .of_wp λprog w A R s h=>by
  obtain⟨hp,g,d,tk,os⟩:=s;obtain⟨hl,h⟩:=h;have hsub:=sub_enumerate;have hT:Heap.IsTuple (Shared.heap ⟨hp,g,d,tk,os⟩) l xs:=⟨_,hl,rfl,n,rfl⟩
  wp_walk using AutoSeq1.wpAny_loadPart' hl
  refine wpAny_stack_any λ_=>Gb ?_
  split
  ·rename_i c _ _ _ _ _
   cases (c == Value.type "enumerate") <;> (wp_walk using AutoSeq1.wpAny_loadPart' hl,wpAny_pyIter_tuple hT; exact⟨_,rfl,h⟩)
  ·wp_walk using AutoSeq1.wpAny_loadPart' hl,wpAny_pyIter_tuple hT
   exact⟨_,rfl,h⟩
section
variable {prog:Hc} {w:He} {A:Hd} {E:G9->G8->Prop} {s:G8}
theorem tv {l:G_} {xs:Hh G9} {Q:G9->G8->Prop} (hL:s.heap.IsTuple l xs)
  (h:∀ h',IsEnum h' (s.heap.objs.size+1) s.heap.objs.size 0 .none->h'.get? s.heap.objs.size=some {cls:=.type "tuple_iterator",data:=.fields #[.ref l,.int 0 0]}->(∀ c o,s.heap.get? c=some o->h'.get? c=some o)->Q (.ref (s.heap.objs.size+1)) {s with heap:=h'}):
  wpAny (model prog w) A (call (.type "enumerate") [.ref l]) Q E s:=by
 obtain⟨⟨c,dct,dt,sl⟩,hl,hc,n,hd⟩:=hL;obtain rfl:c=.type "tuple":=hc
 obtain rfl:dt=.seq xs n:=hd;refine callType_new F.called_enumerate (by decide) (F.typeCall_enumerate_1 _) (F.newCall_enumerate_1 _) (λobj=>F.args_object_init_2 obj _) F.entry_enumerate_new (rq l xs n dct sl) ⟨hl,?_⟩
 have z1:(zV s.heap "tuple_iterator" l).objs.size=s.heap.objs.size+1:=GW ..
 have g5:=Gc (zV s.heap "tuple_iterator" l) (o:={cls:=.type "enumerate",data:=.fields #[.none,.bool false,.ref s.heap.objs.size,rawInt 0,.none,.none]}) rfl
 show _/\_
 rw [z1] at g5 ⊢;exact⟨⟨_,g5,rfl⟩,h _ g5 (Ga _ (Gc _ rfl)) λc o x=>Ga _ (Ga _ x)⟩
theorem sO {b:Hi} {l:G_} {xs:Hh G9} {Q:G9->G8->Prop} (hL:sqB b l xs s.heap)
  (h:∀ h',IsEnum h' (s.heap.objs.size+1) s.heap.objs.size 0 .none->BV b s.heap.objs.size l 0 h'->(∀ c o,s.heap.get? c=some o->h'.get? c=some o)->Q (.ref (s.heap.objs.size+1)) {s with heap:=h'}):
  wpAny (model prog w) A (call (.type "enumerate") [.ref l]) Q E s:=by
 cases b with
 | true=>exact call_enumerate_list hL λh' a1 a2 _ a4=>h h' a1 a2 a4
 | false=>exact tv hL λh' a1 a2 a4=>h h' a1 ⟨_,a2,rfl,rfl⟩ a4
end
def CF (K:PySem.W.Frag) (ta:TA):TI:=fun σ H R=>ta σ H λvs H1=>∃ a b,vs=[.ref a]/\(∃ xs,oO b K H1 a xs)/\R (DC K b a) H1
theorem yI {X:Cx} {a:Hb} {ta:TA} {p pos tp:Pos} {es:List Hb} {k:Nat} (hg:Gl X "enumerate") (hm:X.mg "enumerate"=none) (ha:PA X [a] ta) (hs:starEach [a] X.env=[(false,eval a X.env)]:=by rfl):
  PI X (.Tuple es k tp) (.Call (.Name "enumerate" p) [a] [] pos) (CF X.K ta):=by
 intro Hm s σ H R I h;refine Call_ (nh I hg hm uT (PyProof.Rows.callWith_type1 (bX (ha pos Hm s σ H _ I h) λus s1 ⟨vs,H1,I1,r1,q1⟩=>?_) (by rw [hs]; rfl) rfl))
 obtain⟨a1,b,rfl,⟨xs,e1⟩,q⟩:=q1;cases r1 with
 | cons r rr=>
  cases rr;cases r;obtain⟨its,rv,p1⟩:=I1.sqB e1;have al:=sW p1;refine sO p1 λh' c1 c2 c3=>?_
  refine wpAny_pyIter_enum (s:={s1 with heap:=h'}) c1 ?_
  have fr:∀ j,H1 (s1.heap.objs.size+j)=none:=λj=>I1.hok.fresh (Nat.le_add_right _ _)
  refine⟨_,[s1.heap.objs.size+1,s1.heap.objs.size],_,_,H1,rfl,I1.kept (t':=s1.toks) c3,uU b (Nat.succ_ne_self _) (Nat.ne_of_gt (Nat.lt_succ_of_lt al)) (Nat.ne_of_gt al),⟨⟨_,c1⟩,c2⟩,λc hb=>?_,q⟩
  have hb':c=s1.heap.objs.size+1\/c=s1.heap.objs.size:=by simpa using hb
  rcases hb' with rfl | rfl
  ·exact I1.fpOk (Nat.le_add_right _ _) (fr 1)
  ·exact I1.fpOk (Gg _) (fr 0)
end L2
namespace DL
open PySem PySem.Spec PyProof.Rows L2
def oH:Nat->List D->List D
 | _,[]=>[]
 | j,d::r=>.tup [.int (j:Nat),d]::oH (j+1) r
theorem oX:∀ {ds:List D} {j i:Nat} {c:D},(oH j ds)[i]?=some c->∃ d,ds[i]?=some d/\c=.tup [.int ((j+i:Nat):Int),d]
 | [],_,_,_,h=>by cases h
 | d::r,j,0,c,h=>⟨d,rfl,(GF h).symm⟩
 | d::r,j,i+1,c,h=>by
  obtain⟨e,h1,h2⟩:=oX (ds:=r) (j:=j+1) (i:=i) h;exact⟨e,h1,by rw [h2,show j+1+i=j+(i+1) by omega]⟩
theorem ph:∀ {ds:List D} {j:Nat},(oH j ds).length=ds.length
 | [],_=>rfl
 | _::r,j=>congrArg (·+1) (ph (ds:=r) (j:=j+1))
theorem zL {K:Fg} {H1:Hp} {q:List D×Ha G_} {a:G_} {b:Hi} (y:∀ S2 H2,Kp H1 H2->Hs K H2 S2->cU q S2->∃ xs,oO b K H2 a xs/\IsDs K H2 q.1 xs):
  (∀ i d S2 H2,(oH 0 q.1)[i]?=some d->Kp H1 H2->Hs K H2 S2->cU q S2->(DC K b a).go i H2/\∀ x H',(DC K b a).yld i H2 x H'->Kp H2 H'/\Hs K H' S2/\bJ K H' d x)/\
  ∀ S2 H2,Kp H1 H2->Hs K H2 S2->cU q S2->(DC K b a).stop (oH 0 q.1).length H2:=by
 refine⟨λi c S2 H2 e k2 hS2 o2=>?_,λS2 H2 k2 hS2 o2=>?_⟩
 ·obtain⟨xs,w1,u1⟩:=y S2 H2 k2 hS2 o2;obtain⟨d,f1,rfl⟩:=oX e;obtain⟨v1,g1,r1⟩:=u1.get f1;refine⟨⟨xs,v1,w1,g1⟩,?_⟩;rintro x H' ⟨T,x',rfl,hT,rfl,al⟩;have l1:=al xs w1;rw [g1] at l1;cases l1;have kn:Kp H2 (bI H2 T (.tup [.int (i:Nat),v1])):=Kp.new hT;exact⟨kn,hS2.new hT,ci.mpr ⟨T,[.int (i:Nat),v1],rfl,kU.of cA,IsDs.cons (isInt.mpr (by rw [Nat.zero_add])) (IsDs.cons (r1.kp kn) IsDs.nil)⟩⟩
 ·obtain⟨xs,w1,u1⟩:=y S2 H2 k2 hS2 o2;refine⟨xs,w1,?_⟩;rw [<- u1.length,ph]
def A1 (ta:DA) (g:DG) (b:DS):DS:=λM L S=>ta L S λds S1=>match ds with
 | [d]=>∃ q,aQ S1 d=some q/\gm (cU q) g b M (oH 0 q.1) L S1
 | _=>False
section
variable {X:Cx} {a:Hb} {es:List Hb} {kt:Nat} {tp p pos pos':Pos} {gg:DG} {ta:DA} {g:DS} {body:List Hg}
theorem nW (hp:PassesOwn (model X.prog X.w) X.A X.env X.xe) (hc:X.calm=true) (hgl:Gl X "enumerate") (hm:X.mg "enumerate"=none) (ha:AJ X [a] ta) (hg:GJ X (.Tuple es kt tp) gg) (hb:tL X body g)
  (hs1:starEach [a] X.env=[(false,eval a X.env)]:=by rfl) (hs:∀ x,foldedSetIterable (.Call (.Name "enumerate" p) [a] [] pos') X.env x=pure x:=by intro _; rfl):
  SJ X (.For (.Tuple es kt tp) (.Call (.Name "enumerate" p) [a] [] pos') body [] pos) (A1 ta gg g):=
 ⟨PS.imp (pX hp hc (yI hgl hm ha.h hs1) hg.h hb.h hs) λN σ H ⟨L,S,M,hL,hS,h,r⟩=>sh.go hL hS h λds S1 vs H1 h1 k1 hL1 hS1 i1=>by
  split at h1
  ·rename_i d1
   obtain⟨v1,rfl,j1⟩:=gf i1;obtain⟨q1,e1,h1⟩:=h1;obtain⟨a1,b1,rfl,x1,y1⟩:=tZ hS1 j1 e1;obtain⟨z1,z2⟩:=zL y1;exact⟨a1,b1,rfl,x1,pD hL1 hS1 h1 (r.kp k1) z1 z2⟩
  ·exact h1.elim⟩
end
theorem x9 {X:Cx} {Hm:List (G_×Hl)} {σ:L2.St} {H:Hp} {s:G8} (I:az X Hm σ H s) {S:DH} {a c:G_} {ds es:List D} (hS:Hs X.K H S) (h1:S a=some (.lst ds)) (h2:S c=some (.lst es)) (hl:ds.length≠es.length) (A:Hd) (hu:A.units+8 < cLine):
  SeqAt.RcNeAt A s (.ref a) (.ref c) true:=by
 obtain⟨xs,q1,j1⟩:=hS.lst h1;obtain⟨ys,q2,j2⟩:=hS.lst h2;obtain⟨us,r1,p1,_⟩:=I.list (eu.of q1);obtain⟨ws,r2,p2,_⟩:=I.list (eu.of q2);have l1:=j1.length;have l2:=j2.length;have l3:=r1.length;have l4:=r2.length;exact SeqAt.RcNeAt.lists_lengths p1.isList p2.isList (by simp only [Gj,bne_iff_ne]; omega) (by omega)
def D3:D2:=λd e S k=>match d,e with
 | .ref a,.ref c=>∃ xs ys b,S a=some (.lst xs)/\S c=some (.lst ys)/\((xs.length=ys.length/\gD (iP 7) xs ys=some b)\/(xs.length≠ys.length/\b=false))/\k (.bl (!b)) S
 | d,e=>∃ b,iP 8 d e=some b/\k (.bl (!b)) S
theorem mX {X:Cx} {n:Nat} (hr:dE n X.A):eU X (compareOp .NotEq) (iM X.K D3):=by
 intro Hm s σ H x y v u Q I rx ry h;obtain⟨d,e,S,k,i1,i2,hS,r,m⟩:=h;have hu:=hr.units;unfold D3 at r
 split at r
 ·obtain⟨xs,ys,b,h1,h2,h3,w⟩:=r;have e1:=a_.mp i1;have e2:=a_.mp i2;subst e1 e2;cases rx;cases ry;rcases h3 with ⟨h3,h4⟩ | ⟨h3,rfl⟩
  ·exact(qE I hS h1 h2 h3 X.A (by omega) h4).2 X.prog X.w X.xe _ ⟨.bl (!b),H,I,rfl,kj m hS w (bE.mpr rfl)⟩
  ·exact(x9 I hS h1 h2 h3 X.A (by omega)) X.prog X.w X.xe _ ⟨.bl true,H,I,rfl,kj m hS w (bE.mpr rfl)⟩
 ·obtain⟨b,h1,w⟩:=r;exact ya I 8 X.A d e x y v u b (by omega) h1 i1 i2 rx ry X.prog X.w X.xe _ ⟨.bl (!b),H,I,rfl,kj m hS w (bE.mpr rfl)⟩
def Eb:D2:=λd e S k=>match d,e with
 | .tup ds,.int i=>∃ c,L2.atI ds i=some c/\k c S
 | .rl ds,.int i=>∃ c,L2.atI ds i=some c/\k c S
 | .ref a,.int i=>∃ ds c,S a=some (.lst ds)/\L2.atI ds i=some c/\k c S
 | _,_=>False
theorem pd {X:Cx}:vH X (iM X.K Eb):=vH.imp CP (iM.imp λd e S k h=>by
 unfold Eb at h
 split at h
 ·obtain⟨c,h1,h2⟩:=h;simp only [qX,h1];exact h2
 ·obtain⟨c,h1,h2⟩:=h;simp only [qX,h1];exact h2
 ·obtain⟨ds,c,h0,h1,h2⟩:=h;simp only [qX,h0,h1];exact h2
 ·exact h.elim)
theorem isDs.rep {K:Fg} {H:Hp} {ds:List D} {vs:List V} (h:IsDs K H ds vs):∀ n:Nat,IsDs K H (List.replicate n ds).flatten (List.replicate n vs).flatten
 | 0=>IsDs.nil
 | n+1=>by
  rw [List.replicate_succ,List.flatten_cons,List.replicate_succ,List.flatten_cons];exact h.append (isDs.rep h n)
def Ao:D2:=λd e S k=>match d,e with
 | .ref a,.int j=>∃ xs,S a=some (.lst xs)/\-(2 ^ 63)<=j/\j < 2 ^ 63/\xs.length*j.toNat<=sizeLine/\∀ p,S p=none->k (.ref p) (put S p (.lst (List.replicate j.toNat xs).flatten))
 | d,e=>Du d e S k
theorem wH {X:Cx}:eU X (binaryOp .Mult) (iM X.K Ao):=by
 intro Hm s σ H x y v u Q I rx ry h;obtain⟨d,e,S,k,i1,i2,hS,r,m⟩:=h;unfold Ao at r
 split at r
 ·rename_i a j
  obtain⟨xs,h1,h2,h3,h4,w⟩:=r;have e1:=a_.mp i1;have e2:=isInt.mp i2;subst e1 e2;obtain⟨vs,hl,jj⟩:=hS.lst h1;refine AB Hm s σ H _ _ v u Q I rx ry ⟨a,j,vs,rfl,rfl,hl,h2,h3,by rw [<- jj.length]; exact h4,λp hp=>?_⟩
  exact m _ _ _ _ (w p (hS.free hp)) (Kp.new hp) (hS.newL hp (isDs.rep jj _)) (a_.mpr rfl)
 ·exact b5 Hm s σ H x y v u Q I rx ry ⟨_,_,S,k,i1,i2,hS,r,m⟩
end DL
namespace L2
open PySem PySem.Spec PyProof.Rows
section
variable {X:Cx}
theorem nU:∀ {vs:List G9} {ns:List Int},IntsAre vs ns->aW (ns.map V.int) vs
 | _,_,.nil=>.nil
 | _,_,.cons n t r=>.cons ⟨t,rfl⟩ (nU r)
theorem rX:cb X (.builtin "sorted") (λxs H Q=>∃ p ns,xs=[.ref p]/\eu X.K H p (ns.map V.int)/\ns.length < 64/\∀ ns':List Int,ns'.Perm ns->ns'.Pairwise (·<=·)->∀ l,H l=none->Q (.ref l) (bI H l (.lst (ns'.map V.int)))):=by
 intro Hm s σ H xs us Q I r h;obtain⟨p,ns,rfl,hq,hl,q⟩:=h;obtain⟨u,rfl,rx⟩:=mW r;cases rx;obtain⟨its,r',pl,hz⟩:=I.list hq;have hI:IntsAre its ns:=tP r';have hlen:=r'.length;rw [Gh] at hlen;refine sorted_ints pl.isList hI (by omega) λout ns' a1 a2 a3=>?_
 obtain⟨e,he⟩:=sortedAll_at s.heap its out;have hl':ns'.length<=sizeLine:=by
  rw [a2.length_eq];exact Nat.le_of_lt (Gp hl (Gu (rfl:Nat.ble 64 sizeLine=true)))
 exact⟨.ref (s.heap.objs.size+1),_,I.laid (t':=s.toks) (λ_ _=>sortedAll_old) (Nat.le_succ _) (show en X.prog X.w _ _ _ (.lst (ns'.map V.int)) from⟨by rw [Gh]; exact hl',out.toList,e,nU a1,by simpa using he⟩),rfl,q ns' a2 a3 _ (I.hok.fresh (Nat.le_succ _))⟩
end
end L2
namespace DL
open PySem PySem.Spec PyProof.Rows L2
theorem fI {K:Fg} {H:Hp}:∀ {ns:List Int} {vs:List V},IsDs K H (ns.map D.int) vs->vs=ns.map V.int
 | [],vs,h=>by
  have:=h.length;exact G7.mp this.symm
 | n::ns,vs,h=>by
  obtain⟨u,r,rfl,h1,h2⟩:=cy.mp h;rw [isInt.mp h1,fI h2]
  rfl
theorem nD {K:Fg} {H:Hp}:∀ {ns:List Int},IsDs K H (ns.map D.int) (ns.map V.int)
 | []=>IsDs.nil
 | _::_=>IsDs.cons (isInt.mpr rfl) nD
def uj:bO:=λds S k=>match ds with
 | [.ref a]=>∃ ns:List Int,S a=some (.lst (ns.map D.int))/\ns.length < 64/\∀ ns':List Int,ns'.Perm ns->ns'.Pairwise (·<=·)->∀ p,S p=none->k (.ref p) (put S p (.lst (ns'.map D.int)))
 | _=>False
theorem wR {X:Cx}:cb X (.builtin "sorted") (qY X.K uj):=by
 intro Hm s σ H xs us Q I rs h;obtain⟨ds,S,k,i,hS,r,n⟩:=h;unfold uj at r
 split at r
 ·obtain⟨x,rfl,i1⟩:=gf i;have e1:=a_.mp i1;subst e1;obtain⟨ns,z,hl,r⟩:=r;obtain⟨vs,q1,j⟩:=hS.lst z;have e:=fI j;subst e;exact rX Hm s σ H _ us Q I rs ⟨_,ns,rfl,eu.of q1,hl,λns' h1 h2 p hp=>n _ _ _ _ (r ns' h1 h2 p (hS.free hp)) (Kp.new hp) (hS.newL hp nD) (a_.mpr rfl)⟩
 ·exact r.elim
end DL
set_option linter.all false
namespace DT
abbrev Mx:=Nat->Nat->Rat
def sm:Nat->(Nat->Rat)->Rat
 | 0,_=>0
 | n+1,f=>sm n f+f n
def sg (n:Nat):Rat:=if n % 2=0 then 1 else -1
def cl (M:Mx) (a:Nat) (u:Nat->Rat):Mx:=λr c=>if c=a then u r else M r c
def Ek (M:Mx) (C:Nat->Nat) (k:Nat) (d:Rat) (z:Nat->Nat->Rat) (q x:Nat):Rat:=d*(M q x - sm k λj=>z j x*M q (C j))
def zn (M:Mx) (C:Nat->Nat) (k:Nat) (d:Rat) (z:Nat->Nat->Rat) (l c:Nat):Nat->Nat->Rat:=λj x=>if j=k then Ek M C k d z l x / Ek M C k d z l c else z j x - z j c*(Ek M C k d z l x / Ek M C k d z l c)
end DT
namespace L2
open PySem PySem.Spec PyProof.Rows
theorem rG {prog:Hc} {w:He} {A:Hd} {E:G9->G8->Prop} {s:G8} {Q:G9->G8->Prop} (l:G_) (items:Hh G9) (n:Nat) (x:Int) (u:Tok) (y:G9) (hc0:¬(!Builtin.List.listFitsIndex x)=true) (hsz:items.size<=sizeLine) (e:s.heap.get? l=some {cls:=.type "list",dict:=none,data:=.seq items n,slots:=#[]})
  (h:Q .none {s with heap:=s.heap.update l (Obj.mapSeq λxs=>have k:=if x < 0 then(x+((xs.size:Nat):Int)).toNat else min x.toNat xs.size; (xs.extract 0 k).push y++xs.extract k)}):
  wpAny (model prog w) A (call (.builtin "list.insert") [.ref l,.int x u,y]) Q E s:=by
 have h1:=@AutoListH.list_insert_list_int_val_1 l items n x u y hc0 hsz;have h2:=@call_meets prog w A E s "list" "insert" "list.insert" _ (.ref l) [.int x u,y] _ Q F.slot_list_insert ⟨_,e,rfl⟩ F.entry_list_insert (F.args_list_insert_3 _ _ _) h1
 exact h2 ⟨e,h⟩
section
variable {X:Cx}
def yR:V->List V->Hp->VK->Prop:=λx vs H Q=>∃ (l:G_) (xs:List V) (i:Nat) (y:V),x=.ref l/\vs=[.int (i:Nat),y]/\H l=some (.lst xs)/\i<=xs.length/\xs.length < 300/\Q .non (bI H l (.lst (xs.take i++y::xs.drop i)))
theorem vE:Fe X "list.insert" yR:=by
 intro Hm s σ H x vs v us Q I rx rv h;obtain⟨l,xs,i,y,rfl,rfl,hH,hi,hl9,q⟩:=h;cases rx;obtain⟨z,its,n,r,hl,e⟩:=I.lstM hH;obtain⟨u1,u2,rfl,⟨t,rfl⟩,r2⟩:∃ u1 u2,us=[u1,u2]/\bi (.int (i:Nat)) u1/\bi y u2:=by
  match us,rv with
  | [u1,u2],.cons r1 (.cons r2 .nil)=>exact⟨u1,u2,rfl,r1,r2⟩
 have hz:300<=sizeLine:=Gu (rfl:Nat.ble 300 sizeLine=true);have b1:-(2 ^ 63)<=((i:Nat):Int):=by omega
 have b2:((i:Nat):Int) < 2 ^ 63:=by omega
 have hf:¬ (!Builtin.List.listFitsIndex ((i:Nat):Int))=true:=by
  rw [fitsIndex_both b1 b2];exact Gi
 have hs:its.toArray.size<=sizeLine:=by rw [Gj]; omega
 refine rG l its.toArray n _ t u2 hf hs e ?_;refine⟨.non,_,I.lset (its':=its.take i++u2::its.drop i) hH e ?_ ((r.take i).append (.cons r2 (r.drop i))) ?_,rfl,q⟩
 ·have hk:(if ((i:Nat):Int) < 0 then(((i:Nat):Int)+((its.toArray.size:Nat):Int)).toNat else min ((i:Nat):Int).toNat its.toArray.size)=i:=by
   rw [if_neg (by omega),Int.toNat_natCast,Gj]
   omega
  show(its.toArray.extract 0 (if ((i:Nat):Int) < 0 then(((i:Nat):Int)+((its.toArray.size:Nat):Int)).toNat else min ((i:Nat):Int).toNat its.toArray.size)).push u2++its.toArray.extract (if ((i:Nat):Int) < 0 then(((i:Nat):Int)+((its.toArray.size:Nat):Int)).toNat else min ((i:Nat):Int).toNat its.toArray.size)=_
  rw [hk];apply Array.ext';simp;rw [List.take_of_length_le (by rw [List.length_drop]; omega)]
 ·rw [Gx,List.length_cons,List.length_take,List.length_drop];omega
end
end L2
namespace DL
open PySem PySem.Spec PyProof.Rows L2
def E4 (go gi ge:DE):DE:=λL S k=>go L S λd S1=>match d with
 | .ref a=>(∃ ds,S1 a=some (.lst ds))/\gi L S1 λy S2=>ge L S2 λe S3=>∃ (i:Nat) (ds:List D),y=.int (i:Nat)/\S3 a=some (.lst ds)/\i<=ds.length/\ds.length < 300/\k .non (put S3 a (.lst (ds.take i++e::ds.drop i)))
 | _=>False
section
variable {X:Cx} {o e1 e2:Hb} {go gi ge:DE} {apos cpos:Pos}
theorem A4 (ho:EJ X o go) (hi:EJ X e1 gi) (he:EJ X e2 ge) (hbase:attributeBase o "insert" X.env (eval o X.env)=eval o X.env:=by rfl)
  (hfew:((backTo cpos (starEach [e1,e2] X.env)).all (λx=>!x.1) && (backToKw cpos (keywordEach [] X.env)).all (λx=>x.1.isSome) && decide ([e1,e2].length+([]:List Keyword).length+(if ([]:List Keyword).isEmpty then 0 else 1) < 30))=true:=by rfl)
  (hline:(apos.endLine == cpos.line)=true:=by rfl) (hs:starEach [e1,e2] X.env=(false,eval e1 X.env)::starEach [e2] X.env:=by rfl) (hs2:starEach [e2] X.env=(false,eval e2 X.env)::starEach [] X.env:=by rfl) (hpl:(backTo cpos (starEach [e2] X.env)).any (·.1)=false:=by rfl):
  EJ X (.Call (.Attribute o "insert" apos) [e1,e2] [] cpos) (E4 go gi ge):=
 ⟨PE.imp (wo PySem.F.plainAttrs_list PySem.F.slot_list_insert PySem.F.type_list_insert vE ho.h (kW hi.h (kW he.h qT hs2) hs) hbase hfew hline hs hpl) fun σ H Q ⟨L,S,k,hL,hS,h,n⟩=>up.go hL hS h λd S1 v H1 h1 k1 hL1 hS1 i1=>by
  cases d with
  | ref a=>
   have q1:=a_.mp i1;subst q1;obtain⟨⟨ds1,z1⟩,h1⟩:=h1;obtain⟨xs1,hl1,_⟩:=hS1.lst z1;refine⟨.inl ⟨rfl,xs1,eu.of hl1⟩,up.go hL1 hS1 h1 λd2 S2 v2 H2 h2 k2 hL2 hS2 i2=>up.go hL2 hS2 h2 λd3 S3 v3 H3 h3 k3 hL3 hS3 i3=>?_⟩
   obtain⟨i,ds,rfl,z,hi,hl,w⟩:=h3;have q2:=isInt.mp i2;subst q2;obtain⟨xs,hl3,j⟩:=hS3.lst z;have hj:=j.length;have k4:Kp H3 (bI H3 a (.lst (xs.take i++v3::xs.drop i))):=Kp.mut hl3 (λz=>z)
   exact⟨a,xs,i,v3,rfl,rfl,hl3,by omega,by omega,n _ _ _ _ w (k1.trans (k2.trans (k3.trans k4))) (hS3.setL hl3 ((j.take i).append (IsDs.cons i3 (j.drop i)))) (b8.mpr rfl)⟩
  | _=>exact(show False from h1).elim⟩
end
inductive vG (K:Fg):List G9->List (List Int)->Prop
 | nil:vG K [] []
 | cons {p:G_} {o:Hl} {its:Hh G9} {n:Nat} {ns:List Int} {vs:List G9} {nss:List (List Int)} (h1:K.lookup p=some o) (h2:o.cls=.type "tuple") (h3:o.data=.seq its n) (h4:its.size<=sizeLine) (h5:aW (ns.map V.int) its.toList) (r:vG K vs nss):vG K (.ref p::vs) (ns::nss)
theorem vG.vals {K:Fg}:∀ {vs:List G9} {nss:List (List Int)},vG K vs nss->∃ us:List V,aW us vs/\∀ H,IsDs K H (nss.map λns=>.tup (ns.map D.int)) us
 | _,_,.nil=>⟨[],.nil,λ_=>IsDs.nil⟩
 | _,_,.cons (p:=p) h1 h2 h3 h4 h5 r=>by
  obtain⟨us,a,b⟩:=r.vals;exact⟨.ref p::us,.cons rfl a,λH=>IsDs.cons (ci.mpr ⟨p,_,rfl,.inr ⟨_,_,_,h1,h2,h3,h4,h5⟩,jI _⟩) (b H)⟩
inductive pf (K:Fg):List G9->List (List (List Int))->Prop
 | nil:pf K [] []
 | cons {p:G_} {o:Hl} {its:Hh G9} {n:Nat} {nss:List (List Int)} {vs:List G9} {r:List (List (List Int))} (h1:K.lookup p=some o) (h2:o.cls=.type "tuple") (h3:o.data=.seq its n) (h4:its.size<=sizeLine) (h5:vG K its.toList nss) (q:pf K vs r):pf K (.ref p::vs) (nss::r)
def nV (K:Fg) (mg:Str->Ha G9) (x:Str) (nss:List (List (List Int))):Prop:=∃ p o its n,mg x=some (.ref p)/\K.lookup p=some o/\o.cls=.type "tuple"/\o.data=.seq its n/\its.size<=sizeLine/\pf K its.toList nss
theorem pf.vals {K:Fg}:∀ {vs:List G9} {nss:List (List (List Int))},pf K vs nss->∃ us:List V,aW us vs/\∀ H,IsDs K H (nss.map λms=>.tup (ms.map λns=>.tup (ns.map D.int))) us
 | _,_,.nil=>⟨[],.nil,λ_=>IsDs.nil⟩
 | _,_,.cons (p:=p) h1 h2 h3 h4 h5 r=>by
  obtain⟨us,a,b⟩:=r.vals;obtain⟨us',a',b'⟩:=h5.vals;exact⟨.ref p::us,.cons rfl a,λH=>IsDs.cons (ci.mpr ⟨p,us',rfl,.inr ⟨_,_,_,h1,h2,h3,h4,a'⟩,b' H⟩) (b H)⟩
theorem ky {X:Cx} {x:Str} {nss:List (List (List Int))} {pos:Pos} (g:nV X.K X.mg x nss) (hg:Gl X x) (hd:(x == ("__debug__":Str))=false:=by decide):EJ X (.Name x pos) (dC (.tup (nss.map λms=>.tup (ms.map λns=>.tup (ns.map D.int))))):=by
 obtain⟨p,o,its,n,hm,h1,h2,h3,h4,h5⟩:=g;obtain⟨us,a,b⟩:=h5.vals;exact⟨Cv (p8 (v:=.ref p) hg hm rfl hd) λH=>ci.mpr ⟨p,us,rfl,.inr ⟨o,its,n,h1,h2,h3,h4,a⟩,b H⟩⟩
def Bl (K:Fg) (q:G_) (ns:List Int):Prop:=∃ o its n,K.lookup q=some o/\o.cls=.type "tuple"/\o.data=.seq its n/\its.size<=sizeLine/\aW (ns.map V.int) its.toList
inductive tG (K:Fg) (w:He):List Hk->List (Str×List Int)->Prop
 | nil:tG K w [] []
 | cons {h:Int} {k:Str} {t:Tok} {q:G_} {ns:List Int} {es:List Hk} {tab:List (Str×List Int)} (hh:h=hashStr w k) (h1:Bl K q ns) (r:tG K w es tab):tG K w (⟨h,.str k t,.ref q⟩::es) ((k,ns)::tab)
def Bf (K:Fg) (mg:Str->Ha G9) (w:He) (x:Str) (tab:List (Str×List Int)):Prop:=∃ p o es ep,mg x=some (.ref p)/\K.lookup p=some o/\o.ExactDict/\o.data=.dict es ep/\tG K w es.toList tab/\(tab.map (·.1)).Nodup
theorem tG.kvs {K:Fg} {w:He} (prog:Hc):∀ {es:List Hk} {tab:List (Str×List Int)},tG K w es tab->∃ kvs:List (Str×G9),Pairs (strKind prog w) es kvs/\kvs.map (·.1)=tab.map (·.1)/\(∀ e∈es,∃ k,(strKind prog w).is k e.key=true/\e.hash=(strKind prog w).hash k)/\∀ k ns,(k,ns)∈tab->∃ q,(k,Value.ref q)∈kvs/\Bl K q ns
 | _,_,.nil=>⟨[],.nil,rfl,(λ_ h=>by cases h),λ_ _ h=>by cases h⟩
 | _,_,.cons (k:=k) (t:=t) (q:=q) (ns:=ns) hh h1 r=>by
  obtain⟨kvs,a,b,c,d⟩:=r.kvs prog;refine⟨(k,.ref q)::kvs,.cons (strKind_is _ _ _ _) rfl a,by rw [List.map_cons,List.map_cons,b],?_,?_⟩
  ·intro e he;rcases Gk.mp he with rfl | he
   ·exact⟨k,strKind_is _ _ _ _,hh⟩
   ·exact c e he
  ·intro k' ns' hm;rcases Gk.mp hm with e | hm
   ·cases e;exact⟨q,Gn,h1⟩
   ·obtain⟨q',h2,h3⟩:=d k' ns' hm;exact⟨q',Go _ h2,h3⟩
theorem lP {k:Str} {v:G9}:∀ {kvs:List (Str×G9)},(kvs.map (·.1)).Nodup->(k,v)∈kvs->valueAt kvs k=some v
 | [],_,h=>by cases h
 | (k',v')::r,hn,h=>by
  have hn:(k'::r.map (·.1)).Nodup:=hn;rw [List.nodup_cons] at hn;unfold valueAt;rw [List.find?_cons]
  by_cases e:k'=k
  ·subst e;rcases Gk.mp h with h | h
   ·cases h;simp
   ·exact absurd (List.mem_map.mpr ⟨_,h,rfl⟩) hn.1
  ·rcases Gk.mp h with h | h
   ·cases h; exact absurd rfl e
   ·have ih:=lP hn.2 h;unfold valueAt at ih;simp only [e,decide_false];exact ih
def E1 (K:Fg) (p:G_) (tab:List (Str×List Int)):R2:=λx y H Q=>x=.ref p/\∃ k ns,y=.str k/\(k,ns)∈tab/\∀ q,Bl K q ns->Q (.ref q) H
theorem Cj {X:Cx} {p:G_} {o:Hl} {es:Hh Hk} {ep:Nat} {tab:List (Str×List Int)} (h1:X.K.lookup p=some o) (h2:o.ExactDict) (h3:o.data=.dict es ep) (h4:tG X.K X.w es.toList tab) (h5:(tab.map (·.1)).Nodup):vH X (E1 X.K p tab):=by
 intro value slice Hm s σ H x y v u Q I rx ry h hs;obtain⟨rfl,k,ns,rfl,hm,q⟩:=h;cases rx;obtain⟨t,rfl⟩:=ry;obtain⟨kvs,a,b,c,d⟩:=h4.kvs X.prog;obtain⟨r,hr,ht⟩:=d k ns hm;have hd:s.heap.DictOf (strKind X.prog X.w) p kvs:=⟨o,es,ep,I.kIn p o h1,h2,h3,λe he=>c e (Array.mem_toList_iff.mpr he),a,by rw [b]; exact h5⟩
 have hv:=lP (by rw [b]; exact h5) hr
 exact subscriptTail_builtinR (x:=.ref r) hd.typeIs F.slot_dict_getitem.lookup
  (wpAny_getItem_of (Q:=λr' s'=>r'=.ref r/\EP X Hm σ Q r' s') (strKind_is _ _ k t) hd.mapOf hv ⟨rfl,.ref r,H,I.tok _,rfl,q r ht⟩) hs
def Ex (tab:List (Str×List Int)) (gi:DE):DE:=λL S k=>gi L S λd S1=>match d with
 | .str w=>∃ ns,(w,ns)∈tab/\k (.tup (ns.map D.int)) S1
 | _=>False
theorem AT {X:Cx} {x:Str} {tab:List (Str×List Int)} {i:Hb} {gi:DE} {p1 pos:Pos} (g:Bf X.K X.mg X.w x tab) (hg:Gl X x) (hi:EJ X i gi) (hs:pZ i) (hd:(x == ("__debug__":Str))=false:=by decide):EJ X (.Subscript (.Name x p1) i pos) (Ex tab gi):=by
 obtain⟨p,o,es,ep,hm,h1,h2,h3,h4,h5⟩:=g;refine⟨PE.imp (Ae (Cj h1 h2 h3 h4 h5) (p8 (v:=.ref p) hg hm rfl hd) hi.h hs) fun σ H Q ⟨L,S,k,hL,hS,h,n⟩=>?_⟩
 refine up.go hL hS h λd S1 v H1 h1 k1 hL1 hS1 i1=>?_
 cases d with
 | str w=>
  obtain⟨ns,hm,h1⟩:=h1;have e1:=gl.mp i1;subst e1;exact⟨rfl,w,ns,rfl,hm,λq z9=>by obtain⟨o,its,m,a,b,c,e,f⟩:=z9; exact n _ _ _ _ h1 k1 hS1 (ci.mpr ⟨q,_,rfl,.inr ⟨o,its,m,a,b,c,e,f⟩,jI _⟩)⟩
 | _=>exact(show False from h1).elim
end DL
namespace L2
open PySem PySem.Spec PyProof.Rows
theorem sf (val:Nat->Int):∀ k,argBest (λi j=>decide (val i > val j)) k<=k/\∀ i,i<=k->val i<=val (argBest (λi j=>decide (val i > val j)) k)
 | 0 => ⟨Nat.le_refl _, fun i h => by have : i = 0 := by omega
                                      subst this; exact Int.le_refl _⟩
 | k+1=>by
  obtain⟨h1,h2⟩:=sf val k;unfold argBest
  by_cases h:val (k+1) > val (argBest (λi j=>decide (val i > val j)) k)
  ·rw [if_pos (decide_eq_true h)];refine⟨Gg _,λi hi=>?_⟩
   by_cases e:i=k+1
   ·subst e; exact Int.le_refl _
   ·have:=h2 i (by omega); omega
  ·rw [if_neg (by simpa using h)]
   refine⟨by omega,λi hi=>?_⟩
   by_cases e:i=k+1
   ·subst e; omega
   ·exact h2 i (by omega)
theorem rQ (val:Nat->Int):∀ k,argBest (λi j=>decide (val i < val j)) k<=k/\∀ i,i<=k->val (argBest (λi j=>decide (val i < val j)) k)<=val i
 | 0 => ⟨Nat.le_refl _, fun i h => by have : i = 0 := by omega
                                      subst this; exact Int.le_refl _⟩
 | k+1=>by
  obtain⟨h1,h2⟩:=rQ val k;unfold argBest
  by_cases h:val (k+1) < val (argBest (λi j=>decide (val i < val j)) k)
  ·rw [if_pos (decide_eq_true h)];refine⟨Gg _,λi hi=>?_⟩
   by_cases e:i=k+1
   ·subst e; exact Int.le_refl _
   ·have:=h2 i (by omega); omega
  ·rw [if_neg (by simpa using h)]
   refine⟨by omega,λi hi=>?_⟩
   by_cases e:i=k+1
   ·subst e; omega
   ·exact h2 i (by omega)
theorem kC:∀ {ns:List Int} {vs:List G9} {i:Nat} {v:G9},aW (ns.map V.int) vs->vs[i]?=some v->∃ t,v=.int (ns.getD i 0) t
 | [],_,i,v,.nil,h=>by simp at h
 | n::ns,_,0,v,.cons r _,h=>by
  obtain⟨t,e⟩:=r;simp at h;exact⟨t,by rw [<- h,e]; rfl⟩
 | n::ns,u::us,i+1,v,.cons _ t,h=>by
  have h:us[i]?=some v:=by simpa using h
  obtain⟨t',e⟩:=kC t h;exact⟨t',by rw [e]; rfl⟩
section
variable {X:Cx}
theorem m7 {Hm:List (G_×Hl)} {σ:St} {H:Hp} {s:G8} {a:G_} {Q:VK} {nm:Hj} (I:az X Hm σ H s) {v:V} {u:G9} (r:bi v u) (q:Q v H) (h':Hf) (tk:Nat)
  (kk:∀ c o,c∉[s.heap.objs.size]->(s.heap.push {cls:=.type nm,data:=.fields #[.ref a,.int 0 0]}).get? c=some o->h'.get? c=some o):EP X Hm σ Q u {s with heap:=h',toks:=tk}:=by
 have I1:az X Hm σ H {s with heap:=s.heap.push {cls:=.type nm,data:=.fields #[.ref a,.int 0 0]}}:=I.kept (t':=s.toks) λc o e=>Ga _ e
 refine⟨v,H,az.turnedL (s:={s with heap:=s.heap.push {cls:=.type nm,data:=.fields #[.ref a,.int 0 0]}}) (t':=tk) [s.heap.objs.size] I1 kk (λc hc=>?_),r,q⟩
 have e:c=s.heap.objs.size:=by simpa using hc
 subst e;exact I.fpOk (Gg _) (I.hok.fresh (Gg _))
theorem xB {s:G8} {a:G_} {o:Hl} (hlt:a < s.heap.objs.size) (ho:o.isFreed=false:=by rfl):∀ b∈[s.heap.objs.size,a],b < (s.heap.push o).objs.size:=λb hb=>by
 have hz:s.heap.objs.size < (s.heap.push o).objs.size:=Gf (Gc _ ho);simp only [Gk,Gs,or_false] at hb;rcases hb with e | e
 ·rw [e]; exact hz
 ·rw [e]; exact Nat.lt_trans hlt hz
theorem va (hc:X.calm=true):cb X (.builtin "max") (λxs H Q=>∃ (p:G_) (ns:List Int),xs=[.ref p]/\eu X.K H p (ns.map V.int)/\ns≠[]/\∀ m:Int,m∈ns->(∀ x∈ns,x<=m)->Q (.int m) H):=by
 intro Hm s σ H xs us Q I r h;obtain⟨p,ns,rfl,hq,hn,q⟩:=h;obtain⟨u,rfl,rx⟩:=mW r;cases rx;obtain⟨its,rv,pl,hz⟩:=I.list hq;have hl:=rv.length;rw [Gh] at hl;have hlt:=pl.lt;have n0:0 < ns.length:=List.length_pos_iff.mpr hn;have hh:X.A.in1.handled=none:=I.ok.hd hc;have hv:∀ i v,its.toArray[i]?=some v->∃ t,v=Value.int (ns.getD i 0) t:=λi v h=>kC (i:=i) (v:=v) rv (by rw [List.getElem?_toArray] at h; exact h)
 refine call_max_walk (wpAny_pyIter_list pl.isList ?_);refine⟨s.heap.objs.size,_,_,_,_,_,λi j=>decide (ns.getD i 0 > ns.getD j 0),rfl,Walks.list hh s.heap.objs.size p (Gm hlt) its.toArray,⟨⟨_,Gc _ rfl,rfl,rfl⟩,Heap.IsList.at pl.isList λo e=>Ga _ e⟩,xB hlt,by rw [Gj]; omega,CmpOf.ints_gt _ hv,λv h' tk hP kk=>?_⟩
 rw [Gj,<- hl] at hP;obtain⟨t,rfl⟩:=hv _ _ hP;obtain⟨b1,b2⟩:=sf (λi=>ns.getD i 0) (ns.length - 1)
 have hm:ns.getD (argBest (λi j=>decide (ns.getD i 0 > ns.getD j 0)) (ns.length - 1)) 0∈ns:=by
  have hlt2:argBest (λi j=>decide (ns.getD i 0 > ns.getD j 0)) (ns.length - 1) < ns.length:=by omega
  rw [GI,GB hlt2];exact List.getElem_mem hlt2
 refine m7 I (show bi (.int _) (.int _ t) from⟨t,rfl⟩) (q _ hm λx hx=>?_) h' tk kk
 obtain⟨i,hi,rfl⟩:=List.mem_iff_getElem.mp hx;have:=b2 i (by omega)
 rw [GI,GB hi] at this;exact this
theorem uW (hc:X.calm=true):cb X (.builtin "min") (λxs H Q=>∃ (p:G_) (ns:List Int),xs=[.ref p]/\eu X.K H p (ns.map V.int)/\ns≠[]/\∀ m:Int,m∈ns->(∀ x∈ns,m<=x)->Q (.int m) H):=by
 intro Hm s σ H xs us Q I r h;obtain⟨p,ns,rfl,hq,hn,q⟩:=h;obtain⟨u,rfl,rx⟩:=mW r;cases rx;obtain⟨its,rv,pl,hz⟩:=I.list hq;have hl:=rv.length;rw [Gh] at hl;have hlt:=pl.lt;have n0:0 < ns.length:=List.length_pos_iff.mpr hn;have hh:X.A.in1.handled=none:=I.ok.hd hc;have hv:∀ i v,its.toArray[i]?=some v->∃ t,v=Value.int (ns.getD i 0) t:=λi v h=>kC (i:=i) (v:=v) rv (by rw [List.getElem?_toArray] at h; exact h)
 refine call_min_walk (wpAny_pyIter_list pl.isList ?_);refine⟨s.heap.objs.size,_,_,_,_,_,λi j=>decide (ns.getD i 0 < ns.getD j 0),rfl,Walks.list hh s.heap.objs.size p (Gm hlt) its.toArray,⟨⟨_,Gc _ rfl,rfl,rfl⟩,Heap.IsList.at pl.isList λo e=>Ga _ e⟩,xB hlt,by rw [Gj]; omega,CmpOf.ints_lt _ hv,λv h' tk hP kk=>?_⟩
 rw [Gj,<- hl] at hP;obtain⟨t,rfl⟩:=hv _ _ hP;obtain⟨b1,b2⟩:=rQ (λi=>ns.getD i 0) (ns.length - 1)
 have hm:ns.getD (argBest (λi j=>decide (ns.getD i 0 < ns.getD j 0)) (ns.length - 1)) 0∈ns:=by
  have hlt2:argBest (λi j=>decide (ns.getD i 0 < ns.getD j 0)) (ns.length - 1) < ns.length:=by omega
  rw [GI,GB hlt2];exact List.getElem_mem hlt2
 refine m7 I (show bi (.int _) (.int _ t) from⟨t,rfl⟩) (q _ hm λx hx=>?_) h' tk kk
 obtain⟨i,hi,rfl⟩:=List.mem_iff_getElem.mp hx;have:=b2 i (by omega)
 rw [GI (l:=ns) (i:=i),GB hi] at this;exact this
theorem vj (hc:X.calm=true):cb X (.builtin "sum") (λxs H Q=>∃ (p:G_) (ns:List Int),xs=[.ref p]/\eu X.K H p (ns.map V.int)/\(∀ j,j < ns.length->InLong (ns.getD j 0)/\InLong (preSum (λi=>ns.getD i 0) (j+1)))/\Q (.int (preSum (λi=>ns.getD i 0) ns.length)) H):=by
 intro Hm s σ H xs us Q I r h;obtain⟨p,ns,rfl,hq,hn,q⟩:=h;obtain⟨u,rfl,rx⟩:=mW r;cases rx;obtain⟨its,rv,pl,hz⟩:=I.list hq;have hl:=rv.length;rw [Gh] at hl;have hlt:=pl.lt;have hh:X.A.in1.handled=none:=I.ok.hd hc;have hv:∀ i v,its.toArray[i]?=some v->∃ t,v=Value.int (ns.getD i 0) t:=λi v h=>kC (i:=i) (v:=v) rv (by rw [List.getElem?_toArray] at h; exact h)
 refine call_sum_walk (wpAny_pyIter_list pl.isList ?_);refine⟨s.heap.objs.size,_,_,_,_,_,λi=>ns.getD i 0,rfl,Walks.list hh s.heap.objs.size p (Gm hlt) its.toArray,⟨⟨_,Gc _ rfl,rfl,rfl⟩,Heap.IsList.at pl.isList λo e=>Ga _ e⟩,xB hlt,hv,by rw [Gj,<- hl]; exact hn,λh' tk t' kk=>?_⟩
 rw [Gj,<- hl];exact m7 I (show bi (.int _) (.int _ t') from⟨t',rfl⟩) q h' tk kk
end
end L2
namespace DL
open PySem PySem.Spec PyProof.Rows L2
def zW:bO:=λds S k=>match ds with
 | [.ref a]=>∃ ns:List Int,S a=some (.lst (ns.map D.int))/\ns≠[]/\∀ m:Int,m∈ns->(∀ x∈ns,x<=m)->k (.int m) S
 | ds=>BD ds S k
def As:bO:=λds S k=>match ds with
 | [.ref a]=>∃ ns:List Int,S a=some (.lst (ns.map D.int))/\ns≠[]/\∀ m:Int,m∈ns->(∀ x∈ns,m<=x)->k (.int m) S
 | ds=>Ck ds S k
def Ac:bO:=λds S k=>match ds with
 | [.ref a]=>∃ ns:List Int,S a=some (.lst (ns.map D.int))/\(∀ j,j < ns.length->InLong (ns.getD j 0)/\InLong (preSum (λi=>ns.getD i 0) (j+1)))/\k (.int (preSum (λi=>ns.getD i 0) ns.length)) S
 | _=>False
theorem Bq {X:Cx} (hc:X.calm=true:=by rfl):cb X (.builtin "max") (qY X.K zW):=by
 intro Hm s σ H xs us Q I rs h;obtain⟨ds,S,k,i,hS,r,n⟩:=h;unfold zW at r
 split at r
 ·obtain⟨x,rfl,i1⟩:=gf i;have e1:=a_.mp i1;subst e1;obtain⟨ns,z,hl,r⟩:=r;obtain⟨vs,q1,j⟩:=hS.lst z;have e:=fI j;subst e;exact va hc Hm s σ H _ us Q I rs ⟨_,ns,rfl,eu.of q1,hl,λm h1 h2=>n _ _ _ _ (r m h1 h2) (Kp.refl H) hS (isInt.mpr rfl)⟩
 ·exact Ay hc Hm s σ H xs us Q I rs ⟨_,S,k,i,hS,r,n⟩
theorem Ci {X:Cx} (hc:X.calm=true:=by rfl):cb X (.builtin "min") (qY X.K As):=by
 intro Hm s σ H xs us Q I rs h;obtain⟨ds,S,k,i,hS,r,n⟩:=h;unfold As at r
 split at r
 ·obtain⟨x,rfl,i1⟩:=gf i;have e1:=a_.mp i1;subst e1;obtain⟨ns,z,hl,r⟩:=r;obtain⟨vs,q1,j⟩:=hS.lst z;have e:=fI j;subst e;exact uW hc Hm s σ H _ us Q I rs ⟨_,ns,rfl,eu.of q1,hl,λm h1 h2=>n _ _ _ _ (r m h1 h2) (Kp.refl H) hS (isInt.mpr rfl)⟩
 ·exact we hc Hm s σ H xs us Q I rs ⟨_,S,k,i,hS,r,n⟩
theorem AN {X:Cx} (hc:X.calm=true:=by rfl):cb X (.builtin "sum") (qY X.K Ac):=by
 intro Hm s σ H xs us Q I rs h;obtain⟨ds,S,k,i,hS,r,n⟩:=h;unfold Ac at r
 split at r
 ·obtain⟨x,rfl,i1⟩:=gf i;have e1:=a_.mp i1;subst e1;obtain⟨ns,z,hl,r⟩:=r;obtain⟨vs,q1,j⟩:=hS.lst z;have e:=fI j;subst e;exact vj hc Hm s σ H _ us Q I rs ⟨_,ns,rfl,eu.of q1,hl,n _ _ _ _ r (Kp.refl H) hS (isInt.mpr rfl)⟩
 ·exact r.elim
theorem wU:bootBuiltins "sum"=some (.builtin "sum"):=by decide +kernel
end DL
namespace L2
open PySem PySem.Spec PyProof.Rows
def F4 (K:PySem.W.Frag) (H:Hp) (x:V) (c:Hi):Prop:=(x=.bl c)\/(x=.non/\c=false)\/(∃ i,x=.int i/\c=(i != 0))\/∃ a xs,x=.ref a/\eu K H a xs/\c=!xs.isEmpty
def E2 (K:PySem.W.Frag) (ta tb:TE):TE:=fun σ H Q=>ta σ H λx H1=>∃ c,F4 K H1 x c/\(c=true->Q x H1)/\(c=false->tb σ H1 Q)
section
variable {X:Cx} {a b:Hb} {bY:List Hb} {pos:Pos} {ta tb:TE}
theorem BO (ha:PE X a ta) (hb:PE X (.BoolOp .Or (b::bY) pos) tb):PE X (.BoolOp .Or (a::b::bY) pos) (E2 X.K ta tb):=by
 intro Hm s σ H Q I h;refine BoolOp_or (bX (ha Hm s σ H _ I h) λv s1 z9=>?_)
 obtain⟨x,H1,I1,r1,c,t1,q1,q2⟩:=z9;have fin:∀ s2,az X Hm σ H1 s2->if c=true then EP X Hm σ Q v s2 else wpAny (model X.prog X.w) X.A (eval (.BoolOp .Or (b::bY) pos) X.env) (EP X Hm σ Q) X.xe s2:=λs2 I2=>by
  cases c with
  | true=>rw [if_pos rfl]; exact⟨x,H1,I2,r1,q1 rfl⟩
  | false=>rw [if_neg Gi]; exact hb Hm s2 σ H1 Q I2 (q2 rfl)
 rcases t1 with rfl | ⟨rfl,rfl⟩ | ⟨i,rfl,rfl⟩ | ⟨p,xs,rfl,hq,rfl⟩
 ·cases r1;exact wpAny_truthy_bool (fin s1 I1)
 ·cases r1;exact truthy_none (fin s1 I1)
 ·obtain⟨t,rfl⟩:=r1;exact truthy_int (fin s1 I1)
 ·cases r1;obtain⟨its,rv,pl,hz⟩:=I1.list hq;have hl:=rv.length;have e:(!its.toArray.isEmpty)=!xs.isEmpty:=by
   cases rv <;> rfl
  refine wpAny_truthy_list pl.isList (by rw [Gj]; have:=mP; omega) ?_
  rw [e];exact fin _ (I1.tok _)
end
end L2
namespace DL
open PySem PySem.Spec PyProof.Rows L2
def EZ (ga gb:DE):DE:=λL S k=>ga L S λd S1=>match d with
 | .bl c=>if c=true then k (.bl true) S1 else gb L S1 k
 | .non=>gb L S1 k
 | .int i=>(i≠0->k (.int i) S1)/\(i=0->gb L S1 k)
 | .ref a=>∃ ds,S1 a=some (.lst ds)/\(ds≠[]->k (.ref a) S1)/\(ds=[]->gb L S1 k)
 | _=>False
theorem BC {X:Cx} {a b:Hb} {bY:List Hb} {pos:Pos} {ga gb:DE} (ha:EJ X a ga) (hb:EJ X (.BoolOp .Or (b::bY) pos) gb):EJ X (.BoolOp .Or (a::b::bY) pos) (EZ ga gb):=
 ⟨PE.imp (BO ha.h hb.h) fun σ H Q ⟨L,S,k,hL,hS,h,n⟩=>up.go hL hS h λd S1 v H1 h1 k1 hL1 hS1 i1=>by
  have go:gb L S1 k->up X.K gb σ H1 Q:=λh2=>up.go hL1 hS1 h2 λd2 S2 v2 H2 h3 k2 _ hS2 i2=>n d2 S2 v2 H2 h3 (k1.trans k2) hS2 i2
  cases d with
  | bl c=>
   have e:=bE.mp i1;subst e;have h1:if c=true then _ else _:=h1
   refine⟨c,.inl rfl,λe=>?_,λe=>?_⟩
   ·subst e;rw [if_pos rfl] at h1;exact n _ S1 _ H1 h1 k1 hS1 (bE.mpr rfl)
   ·subst e;rw [if_neg Gi] at h1;exact go h1
  | non=>
   have e:=b8.mp i1;subst e;exact⟨false,.inr (.inl ⟨rfl,rfl⟩),(λz=>by cases z),λ_=>go h1⟩
  | int i=>
   have e:=isInt.mp i1;subst e;refine⟨i != 0,.inr (.inr (.inl ⟨i,rfl,rfl⟩)),λz=>n _ S1 _ H1 (h1.1 (by simpa using z)) k1 hS1 (isInt.mpr rfl),λz=>go (h1.2 (by simpa using z))⟩
  | ref a=>
   have e:=a_.mp i1;subst e;obtain⟨ds,z,h2,h3⟩:=h1;obtain⟨xs,q1,j⟩:=hS1.lst z;have ee:ds.isEmpty=xs.isEmpty:=by
    have hl:=j.length;cases ds with
    | nil=>cases xs with
     | nil=>rfl
     | cons _ _=>cases hl
    | cons _ _=>cases xs with
     | nil=>cases hl
     | cons _ _=>rfl
   refine⟨!xs.isEmpty,.inr (.inr (.inr ⟨a,xs,rfl,eu.of q1,rfl⟩)),λzc=>n _ S1 _ H1 (h2 λw=>?_) k1 hS1 (a_.mpr rfl),λzc=>go (h3 ?_)⟩
   ·subst w;rw [<- ee] at zc;cases zc
   ·rw [<- ee] at zc;cases ds with
    | nil=>rfl
    | cons _ _=>cases zc
  | _=>exact(show False from h1).elim⟩
end DL
namespace PySem
open Sem (wp)
open Builtin DL
section
variable {prog:Hc} {w:He}
section
variable {A:Hd} {E:G9->G8->Prop} {s:G8} {it d v:G_} {es:Hh Hk} {i ep:Nat} {e:Hk} {ok ov:G9}
inductive En where
 | k | v
def En.nm:En->Hj
 | .k=>"dict_keyiterator"
 | .v=>"dict_valueiterator"
def En.of (e:Hk):En->G9
 | .k=>e.key
 | .v=>e.val
end
end
end PySem
namespace DL
open PySem PySem.Spec PyProof.Rows L2
abbrev F2:=Lo->DH->(List D->(DH->Prop)->DH->Prop)->Prop
def DY:D2:=λd e S k=>match d,e with
 | .ref a,.ref c=>∃ xs ys b,S a=some (.lst xs)/\S c=some (.lst ys)/\((xs.length=ys.length/\gD (iP 7) xs ys=some b)\/(xs.length≠ys.length/\b=false))/\k (.bl b) S
 | d,e=>∃ b,iP 8 d e=some b/\k (.bl b) S
theorem re {X:Cx} {Hm:List (G_×Hl)} {σ:L2.St} {H:Hp} {s:G8} {S:DH} {a c:G_} {xs ys:List D} (I:az X Hm σ H s) (hS:Hs X.K H S) (h1:S a=some (.lst xs)) (h2:S c=some (.lst ys)) (hl:xs.length≠ys.length) (A:Hd) (hu:A.units < cLine):
  SeqAt.RcAt A s (.ref a) (.ref c) false:=by
 obtain⟨v1,g1,j1⟩:=hS.lst h1;obtain⟨v2,g2,j2⟩:=hS.lst h2;obtain⟨u1,r1,p1,_⟩:=I.list (eu.of g1);obtain⟨u2,r2,p2,_⟩:=I.list (eu.of g2);refine SeqAt.RcAt.lists_lengths p1.isList p2.isList ?_ hu;have e1:=j1.length.trans r1.length;have e2:=j2.length.trans r2.length;simp only [Gj,bne_iff_ne,ne_eq];omega
theorem zY {X:Cx} {n:Nat} (hr:dE n X.A):eU X (compareOp .Eq) (iM X.K DY):=by
 intro Hm s σ H x y v u Q I rx ry h;obtain⟨d,e,S,k,i1,i2,hS,r,m⟩:=h;have hu:=hr.units;unfold DY at r
 split at r
 ·obtain⟨xs,ys,b,h1,h2,h3,w⟩:=r;rcases h3 with ⟨h3,h4⟩ | ⟨h3,rfl⟩
  ·exact oY hr Hm s σ H x y v u Q I rx ry ⟨_,_,S,k,i1,i2,hS,⟨xs,ys,b,h1,h2,h3,h4,w⟩,m⟩
  ·have e1:=a_.mp i1;have e2:=a_.mp i2;subst e1 e2;cases rx;cases ry;exact(re I hS h1 h2 h3 X.A (by omega)) X.prog X.w X.xe _ ⟨.bl false,H,I,rfl,kj m hS w (bE.mpr rfl)⟩
 ·rename_i hn
  obtain⟨b,h1,w⟩:=r;refine oY hr Hm s σ H x y v u Q I rx ry ⟨_,_,S,k,i1,i2,hS,?_,m⟩;unfold AA
  split
  ·rename_i a c
   exact(hn a c rfl rfl).elim
  ·exact⟨b,h1,w⟩
end DL
namespace PySem
open Builtin DL
abbrev Sx:=Nat×Tok
end PySem
namespace ST
open PySem PySem.SetTable
def F9 (mask:Nat) (p:Probe):Probe:=
 if p.more > 0 then {p with j:=p.j+1,more:=p.more - 1} else {p with j:=(leap mask p.i p.perturb).1,more:=runEnd mask (leap mask p.i p.perturb).1 - (leap mask p.i p.perturb).1,i:=(leap mask p.i p.perturb).1,perturb:=(leap mask p.i p.perturb).2}
def F6 (mask i pt:Nat):Probe:={j:=i,more:=runEnd mask i - i,i:=i,perturb:=pt,dummy:=none}
def sq (mask:Nat) (h:Int):Nat->Probe
 | 0=>F6 mask (bits h % (mask+1)) (bits h)
 | n+1=>F9 mask (sq mask h n)
def F8 (mask:Nat):Prop:=mask=7\/mask=31\/mask=127
def FY (xs:Hh Nat):Prop:=∀ i j:Nat,i < j->∀ a b:Nat,xs[i]?=some a->xs[j]?=some b->a < b
def On (t:SetTable) (j:Nat):Prop:=∃ i:Nat,t.place[i]?=some j
def FV (t:SetTable) (h:Int) (j:Nat):Prop:=∃ n,(sq t.mask h n).j=j/\∀ m,m < n->On t (sq t.mask h m).j
structure TI (t:SetTable) (hs:List Int):Prop where
 dm:t.dummies=#[]
 ris:FY t.place
 sz:t.place.size=hs.length
 le:∀ j,On t j->j < t.mask+1
 msk:F8 t.mask
 way:∀ q∈t.place.toList.zip hs,FV t q.2 q.1
def FM (t:SetTable):Prop:=t.place.size*5 < t.mask*3
end ST
namespace ST
open PySem PySem.SetTable PySem.Spec
section
variable {prog:Hc} {w:He} {K:Type} [DecidableEq K] {knd:KeyKind prog w K} {A:Hd} {E:G9->G8->Prop} {s:G8}
def ent (knd:KeyKind prog w K) (x:List K×G_):Int×G9:=(tupleKeyHash knd x.1,.ref x.2)
structure Ff (knd:KeyKind prog w K) (h:Hf) (a:G_) (o:Hl) (es:Hh (Int×G9)) (ep:Nat) (t:SetTable) (xs:List (List K×G_)):Prop where
 get:h.get? a=some o
 ex:o.ExactSet
 data:o.data=.set es ep t
 ent:es.toList=xs.map (ent knd)
 is:∀ x∈xs,IsTupleKey knd h x.1 x.2
 ti:TI t (xs.map λx=>tupleKeyHash knd x.1)
 lax:FM t
end
end ST
namespace ST
open PySem PySem.SetTable PySem.Spec PyProof.Rows
def Dn {α:Type} [DecidableEq α] (a:List α) (k:α):List α:=if k∈a then a else a++[k]
def dd {α:Type} [DecidableEq α] (l:List α):List α:=l.foldl Dn []
section
variable {prog:Hc} {w:He} {K:Type} [DecidableEq K] {knd:KeyKind prog w K} {A:Hd} {R:Result->G8->Prop} {I:G_} {fp wr:List G_} {G:Hh GenState->Hh GenState->Prop} {n:Nat} {P:Nat->G9->Prop} {St:Nat->G8->Prop}
def Holds (knd:KeyKind prog w K) (h:Hf) (S:G_) (V:G_->Prop) (l:List (List K)):Prop:=∃ o es ep t xs,Ff knd h S o es ep t xs/\xs.length=(dd l).length/\(∀ k,k∈xs.map (·.1)↔k∈dd l)/\∀ x∈xs,V x.2
end
end ST
namespace DL
open PySem PySem.Spec PyProof.Rows L2
theorem wT:bootBuiltins "range"=some (.type "range"):=by decide +kernel
end DL
namespace L2
open PySem PySem.Spec PyProof.Rows
section
variable {X:Cx} {Hm:List (G_×Hl)} {σ:St} {H:Hp} {s s':G8} {E:XK}
theorem zH {e:G9} (hex:X.ex=[]) (hst:X.stack=X.env::X.outer) (hf:X.env.frame=some X.env.locals) (I:az X Hm σ H s) (h:iB X.prog X.w X.stack H s E e s') {Cn:Str} {cv:G9} {p1 hp:Pos} {b0:Hg} {suite:List Hg} {Q:Flow->G8->Prop}
  (hg:Gl X Cn) (hm:X.mg Cn=some cv) (hdb:(Cn == ("__debug__":Str))=false) (hx:∀ c H',E c none H'->PySem.W.exmOne X.K c cv=some true)
  (k:∀ ea c H' o s6,E c none H'->H' ea=none->o.cls=c->az X Hm σ (bI H' ea (.frz o (.ext λ_=>True))) s6->
   wpAny (model X.prog X.w) (X.A.mark (some (.ref ea))) (execs (b0::suite) X.env) Q k7 s6):
  wpAny (model X.prog X.w) X.A (noteFrame e X.env) (λ_ s2=>wpAny (model X.prog X.w) X.A (setFlight e none) (λ_ s3=>wpAny (model X.prog X.w) X.A (handleBy e X.env [.ExceptHandler (some (.Name Cn p1)) none (b0::suite) hp]) Q X.xe s3) X.xe s2) X.xe s':=by
 obtain⟨ea,cls,a0,H',B,rfl,os,bare,fl,hok,hB,hB2,un,q⟩:=h;have fl:=fl.1;have fr0:X.A.frames=some (X.env::X.outer):=by rw [<- hst]; exact I.ok.frames
 have fl0:Heap.FlyingW B (X.env::X.outer) ea cls a0 s'.heap:=by rw [<- hst]; exact fl
 refine wpAny_looks_onW fr0 hf fl0 λh4 held4 up4=>?_
 refine wpAny_landsW held4 λh5 fl5 up5=>?_
 have up45:=up4.trans up5;have I5:=I.landed os bare fl (by rw [hst]; exact fl5) up45 hok hB hB2 un
 obtain⟨ob,hob,hobc⟩:=fl5.there;refine wpAny_handleBy_cons (codeAny_handlers_test (kA (X:=X.marked (.ref ea) k7) (I5.marked (.ref ea) _) hg hm ?_ hdb)) (by intro z; cases z)
 have LT:PySem.W.Looks (model X.prog X.w) h5 (typeOf (.ref ea)) cls:=by
  subst hobc;exact(PySem.W.Looks.ld hob).andThen .now
 refine PySem.W.exm_one I5.kIn LT (hx cls H' q) _ _ _ _ (λ_ _ z=>z) ?_
 refine codeAny_handlers_suite ?_;refine lands_againW fl5 λh6 fl6 up6=>?_
 have I6:=I.landed os bare fl (by rw [hst]; exact fl6) (up45.trans up6) hok hB hB2 un
 obtain⟨o6,ho6,hc6⟩:=fl6.there;have nfr:ea∉gP X.stack:=λz=>by
  obtain⟨_,o2,e2,d2⟩:=fl.2.2.1.mem z;obtain⟨oe,vs,T,oT,ts,w1,w2,w3,w4⟩:=fl.2.2.2;rw [w1] at e2;cases e2;exact d2 _ w3
 have nB:B.get? ea=none:=fl.2.1;have nw:∀ b o,s.heap.get? b=some o->b≠ea:=λb o z y=>by
  subst y;obtain⟨o',z'⟩:=hB2 b o z nfr;rw [nB] at z';cases z'
 have hn:H' ea=none:=by
  cases y:H' ea with
  | none=>rfl
  | some u=>
   obtain⟨o',z'⟩:=(hok ea u y).there;rw [nB] at z';cases z'
 have h0:X.s₀.heap.get? ea=none:=by
  cases y:X.s₀.heap.get? ea with
  | none=>rfl
  | some u=>
   obtain⟨o',z'⟩:=I.base.there ea u y (by rw [hex]; simp)
   exact absurd rfl (nw ea o' z')
 have I7:=I6.freeze ho6 hn h0 (λz=>nfr (by rw [hst,z]; unfold gP; rw [List.filterMap_cons,hf]; exact Gn)) (λx c z=>by
  obtain⟨v,o,z2,_⟩:=I.cell x c z;exact nw c o z2) (λp z=>nw p.1 p.2 (I.pin p z).1)
 exact GM (k ea cls H' o6 _ q hn hc6 I7) (λ_ _ z=>z) λ_ _ z=>z.elim
end
abbrev Cx.still (X:Cx):Cx:={X with xe:=k7}
theorem az.still {X:Cx} {Hm:List (G_×Hl)} {σ:St} {H:Hp} {s:G8} (I:az X Hm σ H s):az X.still Hm σ H s:=
 ⟨⟨I.ok.mod,I.ok.kind,I.ok.glob,I.ok.blt,I.ok.above,I.ok.inj,I.ok.has,I.ok.cab,I.ok.hd,I.ok.frames,I.ok.stk,I.ok.exf,I.ok.bs,I.ok.bsz,I.ok.noex,I.ok.exfs,I.ok.funs,I.ok.frf⟩,I.os,I.bare,I.base,I.loc,I.cell,I.free,I.freeC,I.pin,I.hok,I.len⟩
theorem az.unstill {X:Cx} {Hm:List (G_×Hl)} {σ:St} {H:Hp} {s:G8} (I:az X.still Hm σ H s):az X Hm σ H s:=
 ⟨⟨I.ok.mod,I.ok.kind,I.ok.glob,I.ok.blt,I.ok.above,I.ok.inj,I.ok.has,I.ok.cab,I.ok.hd,I.ok.frames,I.ok.stk,I.ok.exf,I.ok.bs,I.ok.bsz,I.ok.noex,I.ok.exfs,I.ok.funs,I.ok.frf⟩,I.os,I.bare,I.base,I.loc,I.cell,I.free,I.freeC,I.pin,I.hok,I.len⟩
def XW (X:Cx) (Hm:List (G_×Hl)) (σ:St) (R:Hp->Prop) (E:XK) (e:G9) (s':G8):Prop:=∃ H1 s1,az X Hm σ H1 s1/\R H1/\iB X.prog X.w X.stack H1 s1 E e s'
abbrev TX:=St->Hp->VK->(Hp->Prop)->Prop
def xy (X:Cx) (E:XK) (e:Hb) (t:TX):Prop:=∀ (Hm:List (G_×Hl)) (s:G8) (σ:St) (H:Hp) (Q:VK) (R:Hp->Prop),az X Hm σ H s->t σ H Q R->wpAny (model X.prog X.w) X.A (eval e X.env) (EP X Hm σ Q) (XW X Hm σ R E) s
section
variable {X:Cx} {E:XK}
theorem EP.unstill {Hm:List (G_×Hl)} {σ:St} {Q:VK} {u:G9} {s:G8} (h:EP X.still Hm σ Q u s):EP X Hm σ Q u s:=by
 obtain⟨v,H',I,r,q⟩:=h;exact⟨v,H',I.unstill,r,q⟩
theorem xy.imp {e:Hb} {t t':TX} (h:xy X E e t) (i:∀ σ H Q R,t' σ H Q R->t σ H Q R):xy X E e t':=λHm s σ H Q R I q=>h Hm s σ H Q R I (i σ H Q R q)
theorem yL {fn:Str} {f:G_} {fd:FuncData} {ps:List Str} {sp:Sp} {k:Nat} {e:Hb} {es:List Hb} {ta:TA} {fp cp:Pos}
  (F:aH X.prog X.w X.K X.mg X.base (iB X.prog X.w) k f fd ps sp) (hr:dE k X.A) (hgf:Gl X fn) (hmf:X.mg fn=some (.ref f)) (hkf:PySem.W.keepIn X.K (.ref f)=true) (hb:jT X.K fd ps []) (ha:PA X.still (e::es) ta)
  (hdf:(fn == ("__debug__":Str))=false:=by decide) (he:starEach (e::es) X.env=(false,eval e X.env)::starEach es X.env:=by rfl) (hpl:(backTo cp (starEach es X.env)).any (·.1)=false:=by rfl):
  xy X E (.Call (.Name fn fp) (e::es) [] cp) (fun σ H Q R=>ta σ H λvs H1=>R H1/\sp vs H1 Q E):=by
 intro Hm s σ H Q R I h;refine wpAny_Call_Name_kw (kA I hgf hmf ?_ hdf);refine PySem.W.callWith_K (h₀:=X.base) I.ok.mod.kin hkf (GM (ha cp Hm s σ H _ I.still h) (λus s1 ⟨vs,H1,I1,r,hR,q⟩=>?_) λ_ _ z=>z.elim) he hpl
 have I1:az X Hm σ H1 s1:=I1.unstill;refine⟨I1.kIn,?_⟩;have r2:aW (vs++[]) (us++[]):=by rw [Gy,Gy]; exact r
 have q2:sp (vs++[]) H1 Q E:=by rw [Gy]; exact q
 have hl:(us++[]).length=ps.length:=by rw [<- r2.length]; exact F.len _ _ _ _ q2
 refine wpAny_call (codeAny_mono (F.run X.A X.stack s1 H1 ⟨us,[]⟩ (us++[]) (vs++[]) _ E hr I1.env0 (hb s1 us I1.kIn hl) r2 q2) λr s' hq=>?_)
 cases r with
 | ok fl=>
  cases fl with
  | ret u=>exact I1.after hq
  | next=>exact False.elim hq
  | brk=>exact False.elim hq
  | cont=>exact False.elim hq
 | error e=>exact⟨H1,s1,I1,hR,hq⟩
theorem B7 {op:CmpOp} {a b:Hb} {ta:TX} {tb:TE} {pos:Pos} {r:R2} (ho:eU X.still (compareOp op) r) (ha:xy X E a ta) (hb:PE X.still b tb) (hm:behindInMarks op b=false):xy X E (.Compare a [op] [b] pos) (fun σ H Q R=>ta σ H (λx H1=>tb σ H1 λy H2=>r x y H2 Q) R):=by
 intro Hm s σ H Q R I h;refine wpAny_Compare1 (GM (ha Hm s σ H _ R I h) (λv s1 ⟨x,H1,I1,r1,q1⟩=>?_) λ_ _ z=>z) hm
 refine GM (hb Hm s1 σ H1 _ I1.still q1) (λu s2 ⟨y,H2,I2,r2,q2⟩=>?_) λ_ _ z=>z.elim
 exact GM (ho Hm s2 σ H2 x y v u Q I2 r1 r2 q2) (λ_ _ z=>z.unstill) λ_ _ z=>z.elim
theorem oQ {Hm:List (G_×Hl)} {σ:St} {R:Hp->Prop} {s':G8} {e:G9} {Cn:Str} {cv:G9} {p1 hp:Pos} {b0:Hg} {suite:List Hg} {D:fo} {t:TS} (h:XW X Hm σ R E e s') (hd:X.calm=true->X.A.handled=none) (hex:X.ex=[]) (hst:X.stack=X.env::X.outer) (hf:X.env.frame=some X.env.locals)
  (hg:Gl X Cn) (hm:X.mg Cn=some cv) (hdb:(Cn == ("__debug__":Str))=false) (hs:∀ v,mV (X.marked v k7) (b0::suite) t) (hE:∀ c H',E c none H'->PySem.W.exmOne X.K c cv=some true)
  (kk:∀ H1 ea c H' o,R H1->E c none H'->DL.Kp H1 H'->H' ea=none->o.cls=c->t D σ (bI H' ea (.frz o (.ext λ_=>True)))):
  wpAny (model X.prog X.w) X.A (noteFrame e X.env) (λ_ s2=>wpAny (model X.prog X.w) X.A (setFlight e none) (λ_ s3=>wpAny (model X.prog X.w) X.A (handleBy e X.env [.ExceptHandler (some (.Name Cn p1)) none (b0::suite) hp]) (SP X Hm D) X.xe s3) X.xe s2) X.xe s':=by
 obtain⟨H1,s1,I1,hR,hq⟩:=h;refine zH hex hst hf I1 (DL.A6 hq) hg hm hdb (λc H' z=>hE c H' z.1) λea c H' o s6 y1 y2 y3 I6=>?_
 refine bX (hs (.ref ea) Hm s6 _ _ _ (I6.marked (.ref ea) k7) (kk H1 ea c H' o hR y1.1 y1.2 y2 y3)) λf s7 y=>?_
 cases f with
 | next=>
  obtain⟨σ7,H7,I7,q⟩:=y;exact⟨σ7,H7,I7.unmarked hd,q⟩
 | brk=>
  obtain⟨σ7,H7,I7,q⟩:=y;exact⟨σ7,H7,I7.unmarked hd,q⟩
 | cont=>
  obtain⟨σ7,H7,I7,q⟩:=y;exact⟨σ7,H7,I7.unmarked hd,q⟩
 | ret v=>
  obtain⟨v,σ7,H7,I7,r,q⟩:=y;exact⟨v,σ7,H7,I7.unmarked hd,r,q⟩
def Ai (K:PySem.W.Frag) (E:XK) (cv:G9) (te:TX) (k:fo->St->VK) (t:TS):TS:=λD σ H=>(∀ c H',E c none H'->PySem.W.exmOne K c cv=some true)/\
 ∃ R:Hp->Prop,te σ H (k D σ) R/\∀ H1 ea c H' o,R H1->E c none H'->DL.Kp H1 H'->H' ea=none->o.cls=c->t D σ (bI H' ea (.frz o (.ext λ_=>True)))
theorem zi {x Cn:Str} {cv:G9} {i:Nat} {e:Hb} {te:TX} {t:TS} {b0:Hg} {suite:List Hg} {xp ap p1 hp pos:Pos} (he:xy X E e te)
  (hd:X.calm=true->X.A.handled=none) (hex:X.ex=[]) (hst:X.stack=X.env::X.outer) (hf:X.env.frame=some X.env.locals) (hg:Gl X Cn) (hm:X.mg Cn=some cv) (hN:X.N.Nodup) (hi:X.N[i]?=some x) (hx:Aw X.env.scope x) (hs:∀ v,mV (X.marked v k7) (b0::suite) t)
  (hsw:swapsWith e (some (.Name x xp)) ap.line X.env=pure false:=by rfl) (hfx:X.fn x=true\/X.env.scope.names.lookup x=some .local:=by first | exact .inl rfl | exact .inr rfl | assumption) (hdb:(Cn == ("__debug__":Str))=false:=by decide):
  PS X (.Try [.Assign [.Name x xp] e ap] [.ExceptHandler (some (.Name Cn p1)) none (b0::suite) hp] [] [] pos) (Ai X.K E cv te (λD σ v H=>D.nx (σ.set i (some v)) H) t):=by
 intro Hm s σ H D I h;obtain⟨hE,R,h,kk⟩:=h;refine wpAny_Try_except (wpAny_execs_cons (wpAny_Assign_Name (GM (he Hm s σ H _ R I h) (λv s1 ⟨y,H1,I1,r1,q1⟩=>?_) λe s' z=>?_) hsw))
 ·exact iV I1 hN hi hx r1 (λs2 I2=>wpAny_execs_nil (wpAny_execs_nil ⟨_,H1,I2,q1⟩)) hfx
 ·exact oQ z hd hex hst hf hg hm hdb hs hE kk
theorem zo {Cn:Str} {cv:G9} {e:Hb} {te:TX} {t:TS} {b0:Hg} {suite:List Hg} {ap p1 hp pos:Pos} (he:xy X E e te)
  (hd:X.calm=true->X.A.handled=none) (hex:X.ex=[]) (hst:X.stack=X.env::X.outer) (hf:X.env.frame=some X.env.locals) (hg:Gl X Cn) (hm:X.mg Cn=some cv) (hs:∀ v,mV (X.marked v k7) (b0::suite) t) (hdb:(Cn == ("__debug__":Str))=false:=by decide):
  PS X (.Try [.Return (some e) ap] [.ExceptHandler (some (.Name Cn p1)) none (b0::suite) hp] [] [] pos) (Ai X.K E cv te (λD _=>D.rt) t):=by
 intro Hm s σ H D I h;obtain⟨hE,R,h,kk⟩:=h;refine wpAny_Try_except (wpAny_execs_cons (wpAny_Return_some (GM (he Hm s σ H _ R I h) (λv s1 ⟨y,H1,I1,r1,q1⟩=>?_) λe s' z=>?_)))
 ·exact⟨y,σ,H1,I1,r1,q1⟩
 ·exact oQ z hd hex hst hf hg hm hdb hs hE kk
end
end L2
namespace DL
open PySem PySem.Spec PyProof.Rows L2
def FH (K:Fg) (g:DE):TX:=fun σ H Q R=>∃ L S k,Lc K H L σ/\Hs K H S/\g L S k/\(∀ d S' v H',k d S'->Kp H H'->Hs K H' S'->bJ K H' d v->Q v H')/\∀ H1,Kp H H1->R H1
structure C9 (X:Cx) (ex:G_->DH->Prop) (e:Hb) (g:DE):Prop where
 h:xy X (FL X.K ex) e (FH X.K g)
section
variable {X:Cx} {ex:G_->DH->Prop}
theorem sw {fn:Str} {n:Nat} {F:mh} {e:Hb} {es:List Hb} {ta:DA} {fp cp:Pos} (c:oa X.prog X.w X.K X.mg X.base fn n F) (hr:dE n X.A) (hgf:Gl X fn) (ha:AJ X.still (e::es) ta)
  (hdf:(fn == ("__debug__":Str))=false:=by decide) (he:starEach (e::es) X.env=(false,eval e X.env)::starEach es X.env:=by exact ck rfl) (hpl:(backTo cp (starEach es X.env)).any (·.1)=false:=by exact eQ rfl):
  C9 X ex (.Call (.Name fn fp) (e::es) [] cp) (wK F ex ta):=by
 obtain⟨g,fd,ps,F1,h1,h2,h3⟩:=c.ex;refine⟨xy.imp (yL F1 hr hgf h1 h2 h3 ha.h hdf he hpl) fun σ H Q R ⟨L,S,k,hL,hS,h,n,hR⟩=>?_⟩
 refine sh.go hL hS h λds S1 vs H1 h1 k1 hL1 hS1 i1=>?_
 exact⟨hR H1 k1,ds,S1,k,ex,i1,hS1,h1,λd' S' v H' q k3 z1 z2=>n d' S' v H' q (k1.trans k3) z1 z2,λC S' H' z zs=>⟨C,S',rfl,z,zs⟩⟩
theorem yZ {op:CmpOp} {a b:Hb} {ga gb:DE} {pos:Pos} {r:D2} (ho:eU X.still (compareOp op) (iM X.K r)) (ha:C9 X ex a ga) (hb:EJ X.still b gb) (hm:behindInMarks op b=false):C9 X ex (.Compare a [op] [b] pos) (BJ r ga gb):=by
 refine⟨xy.imp (B7 ho ha.h hb.h hm) fun σ H Q R ⟨L,S,k,hL,hS,h,n,hR⟩=>?_⟩
 refine⟨L,S,_,hL,hS,h,λd S1 v H1 h1 k1 hS1 i1=>?_,hR⟩
 refine up.go (hL.kp k1) hS1 h1 λe S2 u H2 h2 k2 hL2 hS2 i2=>?_
 exact⟨d,e,S2,k,i1.kp k2,i2,hS2,h2,λd' S' v' H' q k3 z1 z2=>n d' S' v' H' q (k1.trans (k2.trans k3)) z1 z2⟩
def Ee (K:Fg) (cv:G9) (g:(G_->DH->Prop)->DE) (i:Nat) (t:DS):DS:=λM L S=>g (λC S2=>PySem.W.exmOne K (.ref C) cv=some true/\t M L S2) L S λd S2=>M.nx (L.set i (some d)) S2
def Eg (K:Fg) (cv:G9) (g:(G_->DH->Prop)->DE) (t:DS):DS:=λM L S=>g (λC S2=>PySem.W.exmOne K (.ref C) cv=some true/\t M L S2) L S M.rt
theorem vv {x Cn:Str} {cv:G9} {i:Nat} {e:Hb} {g:(G_->DH->Prop)->DE} {t:DS} {b0:Hg} {suite:List Hg} {xp ap p1 hp pos:Pos} (he:∀ ex,C9 X ex e (g ex))
  (hd:X.calm=true->X.A.handled=none) (hex:X.ex=[]) (hst:X.stack=X.env::X.outer) (hf:X.env.frame=some X.env.locals) (hg:Gl X Cn) (hm:X.mg Cn=some cv) (hN:X.N.Nodup) (hi:X.N[i]?=some x) (hx:Aw X.env.scope x) (hs:∀ v,tL (X.marked v k7) (b0::suite) t)
  (hsw:swapsWith e (some (.Name x xp)) ap.line X.env=pure false:=by rfl) (hfx:X.fn x=true\/X.env.scope.names.lookup x=some .local:=by first | exact .inl rfl | exact .inr rfl | assumption) (hdb:(Cn == ("__debug__":Str))=false:=by decide):
  SJ X (.Try [.Assign [.Name x xp] e ap] [.ExceptHandler (some (.Name Cn p1)) none (b0::suite) hp] [] [] pos) (Ee X.K cv g i t):=by
 refine⟨λHm s σ H N I ⟨L,S,M,hL,hS,h,r⟩=>zi (t:=xz X.K t) (he (λC S2=>PySem.W.exmOne X.K (.ref C) cv=some true/\t M L S2)).h hd hex hst hf hg hm hN hi hx (λv=>(hs v).h) hsw hfx hdb Hm s σ H N I ⟨?_,Kp H,⟨L,S,_,hL,hS,h,λd S' v H' q k1 hS' i1=>r.nx _ _ _ _ q k1 ((hL.kp k1).set i1 i) hS',λ_ z=>z⟩,?_⟩⟩
 ·rintro c H' ⟨C,S',rfl,z,_⟩;exact z.1
 ·rintro H1 ea c H' o k0 ⟨C,S',rfl,z,zs⟩ kp hn ho;have k2:Kp H (bI H' ea (.frz o (.ext λ_=>True))):=k0.trans (kp.trans (Kp.new hn))
  exact⟨L,S',M,hL.kp k2,zs.new hn,z.2,r.kp k2⟩
theorem vi {Cn:Str} {cv:G9} {e:Hb} {g:(G_->DH->Prop)->DE} {t:DS} {b0:Hg} {suite:List Hg} {ap p1 hp pos:Pos} (he:∀ ex,C9 X ex e (g ex))
  (hd:X.calm=true->X.A.handled=none) (hex:X.ex=[]) (hst:X.stack=X.env::X.outer) (hf:X.env.frame=some X.env.locals) (hg:Gl X Cn) (hm:X.mg Cn=some cv) (hs:∀ v,tL (X.marked v k7) (b0::suite) t) (hdb:(Cn == ("__debug__":Str))=false:=by decide):
  SJ X (.Try [.Return (some e) ap] [.ExceptHandler (some (.Name Cn p1)) none (b0::suite) hp] [] [] pos) (Eg X.K cv g t):=by
 refine⟨λHm s σ H N I ⟨L,S,M,hL,hS,h,r⟩=>zo (t:=xz X.K t) (he (λC S2=>PySem.W.exmOne X.K (.ref C) cv=some true/\t M L S2)).h hd hex hst hf hg hm (λv=>(hs v).h) hdb Hm s σ H N I ⟨?_,Kp H,⟨L,S,_,hL,hS,h,λd S' v H' q k1 hS' i1=>r.rt _ _ _ _ q k1 hS' i1,λ_ z=>z⟩,?_⟩⟩
 ·rintro c H' ⟨C,S',rfl,z,_⟩;exact z.1
 ·rintro H1 ea c H' o k0 ⟨C,S',rfl,z,zs⟩ kp hn ho;have k2:Kp H (bI H' ea (.frz o (.ext λ_=>True))):=k0.trans (kp.trans (Kp.new hn))
  exact⟨L,S',M,hL.kp k2,zs.new hn,z.2,r.kp k2⟩
end
inductive Dz (K:Fg) (n:Str) (st:Hg) (f:G_) (cd:G9):Prop where
 | mk {oc kV doc pm ct:G9} {od an:Ha G_} {osl:Hh (Ha G9)} (l:K.lookup f=some ⟨oc,od,.func (PySem.W.fnOf n n (cK st) (bV st) (ai st) .none kV doc pm an cd ct),osl⟩):Dz K n st f cd
structure DI (K:Fg) (n:Str) (st:Hg) (f:G_) (cd:G9):Prop where
 a:PySem.W.nsIn K mainGlobals n=some (some (.ref f))
 x:Dz K n st f cd
 e:PySem.W.codeIn K cd n=true
 k:PySem.W.keepIn K (.ref f)=true
def Bd (n:Str) (st:Hg) (ps:List Str):Prop:=∀ (kV doc pm:G9) (an:Ha G_) (cdv ct:G9) (us:List G9),us.length=ps.length->bindArgs (PySem.W.fnOf n n (cK st) (bV st) (ai st) .none kV doc pm an cdv ct) ⟨us,[]⟩=pure (ps.zip us)
theorem lc {us:List G9} {n:Nat} (h:us.length=n+1):∃ u r,us=u::r/\r.length=n:=by
 cases us with
 | nil=>cases h
 | cons u r=>exact⟨u,r,rfl,Nat.succ.inj h⟩
theorem Ft {n a1:Str} {st:Hg} (h:∀ (kV doc pm:G9) (an:Ha G_) (cdv ct u1:G9),bindArgs (PySem.W.fnOf n n (cK st) (bV st) (ai st) .none kV doc pm an cdv ct) ⟨[u1],[]⟩=pure (List.zip [a1] [u1])):Bd n st [a1]:=λ_ _ _ _ _ _ us hl=>by obtain⟨u1,us,rfl,h1⟩:=lc hl; cases G7.mp h1; exact h _ _ _ _ _ _ u1
theorem Fx {n a1 a2:Str} {st:Hg} (h:∀ (kV doc pm:G9) (an:Ha G_) (cdv ct u1 u2:G9),bindArgs (PySem.W.fnOf n n (cK st) (bV st) (ai st) .none kV doc pm an cdv ct) ⟨[u1,u2],[]⟩=pure (List.zip [a1,a2] [u1,u2])):Bd n st [a1,a2]:=λ_ _ _ _ _ _ us hl=>by obtain⟨u1,us,rfl,h1⟩:=lc hl; obtain⟨u2,us,rfl,h2⟩:=lc h1; cases G7.mp h2; exact h _ _ _ _ _ _ u1 u2
theorem Fy {n a1 a2 a3:Str} {st:Hg} (h:∀ (kV doc pm:G9) (an:Ha G_) (cdv ct u1 u2 u3:G9),bindArgs (PySem.W.fnOf n n (cK st) (bV st) (ai st) .none kV doc pm an cdv ct) ⟨[u1,u2,u3],[]⟩=pure (List.zip [a1,a2,a3] [u1,u2,u3])):Bd n st [a1,a2,a3]:=λ_ _ _ _ _ _ us hl=>by obtain⟨u1,us,rfl,h1⟩:=lc hl; obtain⟨u2,us,rfl,h2⟩:=lc h1; obtain⟨u3,us,rfl,h3⟩:=lc h2; cases G7.mp h3; exact h _ _ _ _ _ _ u1 u2 u3
theorem Fu {n a1 a2 a3 a4:Str} {st:Hg} (h:∀ (kV doc pm:G9) (an:Ha G_) (cdv ct u1 u2 u3 u4:G9),bindArgs (PySem.W.fnOf n n (cK st) (bV st) (ai st) .none kV doc pm an cdv ct) ⟨[u1,u2,u3,u4],[]⟩=pure (List.zip [a1,a2,a3,a4] [u1,u2,u3,u4])):Bd n st [a1,a2,a3,a4]:=λ_ _ _ _ _ _ us hl=>by obtain⟨u1,us,rfl,h1⟩:=lc hl; obtain⟨u2,us,rfl,h2⟩:=lc h1; obtain⟨u3,us,rfl,h3⟩:=lc h2; obtain⟨u4,us,rfl,h4⟩:=lc h3; cases G7.mp h4; exact h _ _ _ _ _ _ u1 u2 u3 u4
theorem Fz {n a1 a2 a3 a4 a5:Str} {st:Hg} (h:∀ (kV doc pm:G9) (an:Ha G_) (cdv ct u1 u2 u3 u4 u5:G9),bindArgs (PySem.W.fnOf n n (cK st) (bV st) (ai st) .none kV doc pm an cdv ct) ⟨[u1,u2,u3,u4,u5],[]⟩=pure (List.zip [a1,a2,a3,a4,a5] [u1,u2,u3,u4,u5])):Bd n st [a1,a2,a3,a4,a5]:=λ_ _ _ _ _ _ us hl=>by obtain⟨u1,us,rfl,h1⟩:=lc hl; obtain⟨u2,us,rfl,h2⟩:=lc h1; obtain⟨u3,us,rfl,h3⟩:=lc h2; obtain⟨u4,us,rfl,h4⟩:=lc h3; obtain⟨u5,us,rfl,h5⟩:=lc h4; cases G7.mp h5; exact h _ _ _ _ _ _ u1 u2 u3 u4 u5
theorem FC {n a1 a2 a3 a4 a5 a6:Str} {st:Hg} (h:∀ (kV doc pm:G9) (an:Ha G_) (cdv ct u1 u2 u3 u4 u5 u6:G9),bindArgs (PySem.W.fnOf n n (cK st) (bV st) (ai st) .none kV doc pm an cdv ct) ⟨[u1,u2,u3,u4,u5,u6],[]⟩=pure (List.zip [a1,a2,a3,a4,a5,a6] [u1,u2,u3,u4,u5,u6])):Bd n st [a1,a2,a3,a4,a5,a6]:=λ_ _ _ _ _ _ us hl=>by obtain⟨u1,us,rfl,h1⟩:=lc hl; obtain⟨u2,us,rfl,h2⟩:=lc h1; obtain⟨u3,us,rfl,h3⟩:=lc h2; obtain⟨u4,us,rfl,h4⟩:=lc h3; obtain⟨u5,us,rfl,h5⟩:=lc h4; obtain⟨u6,us,rfl,h6⟩:=lc h5; cases G7.mp h6; exact h _ _ _ _ _ _ u1 u2 u3 u4 u5 u6
theorem Fw {n a1 a2 a3 a4 a5 a6 a7:Str} {st:Hg} (h:∀ (kV doc pm:G9) (an:Ha G_) (cdv ct u1 u2 u3 u4 u5 u6 u7:G9),bindArgs (PySem.W.fnOf n n (cK st) (bV st) (ai st) .none kV doc pm an cdv ct) ⟨[u1,u2,u3,u4,u5,u6,u7],[]⟩=pure (List.zip [a1,a2,a3,a4,a5,a6,a7] [u1,u2,u3,u4,u5,u6,u7])):Bd n st [a1,a2,a3,a4,a5,a6,a7]:=λ_ _ _ _ _ _ us hl=>by obtain⟨u1,us,rfl,h1⟩:=lc hl; obtain⟨u2,us,rfl,h2⟩:=lc h1; obtain⟨u3,us,rfl,h3⟩:=lc h2; obtain⟨u4,us,rfl,h4⟩:=lc h3; obtain⟨u5,us,rfl,h5⟩:=lc h4; obtain⟨u6,us,rfl,h6⟩:=lc h5; obtain⟨u7,us,rfl,h7⟩:=lc h6; cases G7.mp h7; exact h _ _ _ _ _ _ u1 u2 u3 u4 u5 u6 u7
inductive Bs (P:Hc) (w:He) (base:Hf):Prop where
 | mk:Bs P w base
section
variable {P:Hc} {w:He} {K:Fg} {mg:Str->Ha G9} {base h:Hf} {n:Str} {st:Hg} {f:G_} {cd:G9} {ps:List Str} {k:Nat}
theorem DI.own {F:bO} (d:DI K n st f cd) (_:Bs P w base) (X:K.In h) (G:h.Ns mainGlobals mg) (ok:∀ fd,r_ K n n st f fd->fd.code=cd->aH P w K mg base cm k f fd ps (cn K F))
  (hb:Bd n st ps:=by first | exact Ft λ_ _ _ _ _ _ _=>rfl | exact Fx λ_ _ _ _ _ _ _ _=>rfl | exact Fy λ_ _ _ _ _ _ _ _ _=>rfl | exact Fu λ_ _ _ _ _ _ _ _ _ _=>rfl | exact Fz λ_ _ _ _ _ _ _ _ _ _ _=>rfl | exact FC λ_ _ _ _ _ _ _ _ _ _ _ _=>rfl | exact Fw λ_ _ _ _ _ _ _ _ _ _ _ _ _=>rfl):aM P w K mg base n k F:=by
 obtain⟨lk⟩:=d.x;have Fn:=sZ lk d.e d.k;exact aM.mk' Fn (ok _ Fn rfl) (PySem.W.mg_of X G d.a) (Fn.binds hb)
theorem DI.fn (d:DI K n st f cd) (hb:∀ (kV doc pm:G9) (an:Ha G_) (ct v:G9),bindArgs (PySem.W.fnOf n n (cK st) (bV st) (ai st) .none kV doc pm an cd ct) ⟨[v],[]⟩=pure [(("script":Str),v)]:=by exact λ_ _ _ _ _ _=>rfl):∃ fd:FuncData,r_ K n n st f fd/\fd.code=cd/\∀ (s:G8) (v:G9),BindsTo s fd ⟨[v],[]⟩ [("script",v)]:=by
 obtain⟨lk⟩:=d.x;exact⟨_,sZ lk d.e d.k,rfl,λs v=>.of_eq (hb _ _ _ _ _ v)⟩
theorem DI.ownX {F:mh} (d:DI K n st f cd) (_:Bs P w base) (X:K.In h) (G:h.Ns mainGlobals mg) (ok:∀ fd,r_ K n n st f fd->aH P w K mg base (iB P w) k f fd ps (zO K F))
  (hb:Bd n st ps:=by first | exact Ft λ_ _ _ _ _ _ _=>rfl | exact Fx λ_ _ _ _ _ _ _ _=>rfl | exact Fy λ_ _ _ _ _ _ _ _ _=>rfl | exact Fu λ_ _ _ _ _ _ _ _ _ _=>rfl | exact Fz λ_ _ _ _ _ _ _ _ _ _ _=>rfl | exact FC λ_ _ _ _ _ _ _ _ _ _ _ _=>rfl | exact Fw λ_ _ _ _ _ _ _ _ _ _ _ _ _=>rfl):oa P w K mg base n k F:=by
 obtain⟨lk⟩:=d.x;have Fn:=sZ lk d.e d.k;exact oa.mk' Fn (ok _ Fn) (PySem.W.mg_of X G d.a) (Fn.binds hb)
end
end DL
namespace L2
open PySem PySem.Spec PyProof.Rows
inductive yu (h:Hf):G_->G_->Prop
 | one {a b:G_} {o:Hl} {vs:Hh G9}:h.get? a=some o->o.data=.fields vs->vs[2]?=some (.ref b)->yu h a b
 | step {a b c:G_} {o:Hl} {vs:Hh G9}:h.get? a=some o->o.data=.fields vs->vs[2]?=some (.ref b)->yu h b c->yu h a c
end L2
namespace DL
open PySem PySem.Spec PyProof.Rows L2
def D7 (g:DE) (tl th:Az):DE:=λL S k=>g L S λx S1=>tl L S1 λlo S2=>th L S2 λhi S3=>match x with
 | .ref a=>∃ xs,S3 a=some (.lst xs)/\∀ p,S3 p=none->k (.ref p) (put S3 p (.lst (mK xs lo hi)))
 | _=>False
theorem zq {X:Cx} {e:Hb} {g:DE} {lo hi:Ha Hb} {tl th:Az} {p2 pos:Pos} (he:EJ X e g) (hl:OJ X lo tl) (hu:OJ X hi th):EJ X (.Subscript e (.Slice lo hi none p2) pos) (D7 g tl th):=
 ⟨PE.imp (si uB he.h hl.h hu.h) fun σ H Q ⟨L,S,k,hL,hS,h,n⟩=>up.go hL hS h λd S1 v H1 h1 k1 hL1 hS1 i1=>by
  refine⟨L,S1,_,hL1,hS1,h1,λlo' S2 H2 h2 k2 hS2=>⟨L,S2,_,hL1.kp k2,hS2,h2,λhi' S3 H3 h3 k3 hS3=>?_⟩⟩
  cases d with
  | ref a=>
   have e1:=a_.mp i1;subst e1;obtain⟨xs,z,h3⟩:=h3;obtain⟨vs,hl,j⟩:=hS3.lst z;refine⟨a,vs,rfl,eu.of hl,λp hp=>?_⟩
   refine n _ _ _ _ (h3 p (hS3.free hp)) (k1.trans (k2.trans (k3.trans (Kp.new hp)))) (hS3.newL hp ?_) (a_.mpr rfl);unfold mK mR;rw [j.length];exact(j.drop _).take _
  | _=>exact(show False from h3).elim⟩
def oD:Ha G_->D
 | none=>.non
 | some l=>.ref l
def oV:Ha G_->G9
 | none=>.none
 | some l=>.ref l
def zP:D2:=λd e S k=>∃ (q:G_) (os:List (Ha G_)),e=.ref q/\S q=some (.lst (os.map oD))/\(∀ l,some l∈os->∃ xs,S l=some (.lst xs))/\((d=.non/\k (.bl (decide (none∉os))) S)\/
 ∃ p b,d=.ref p/\S p=some (.lst [])/\none∉os/\some p∉os/\(b=true↔∀ l,some l∈os->S l≠some (.lst []))/\k (.bl b) S)
theorem ug {K:Fg} {H:Hp}:∀ {os:List (Ha G_)} {vs:List V} {its:List G9},IsDs K H (os.map oD) vs->aW vs its->its=os.map oV
 | [],_,_,i,r=>by
  rw [iE.mp i] at r;cases r
  rfl
 | o::os,_,_,i,r=>by
  obtain⟨v,vs,rfl,h1,h2⟩:=cy.mp i;cases r with
  | cons a r=>
  rw [ug h2 r];cases o with
  | none=>
   have e:=b8.mp h1;subst e;cases a
   rfl
  | some l=>
   have e:=a_.mp h1;subst e;cases a
   rfl
theorem rV {X:Cx} {n:Nat} (hr:dE n X.A):eU X (compareOp .NotIn) (iM X.K zP):=by
 classical
 intro Hm s σ H x y v u Q I rx ry h;obtain⟨d,e,S,k,i1,i2,hS,⟨q,os,rfl,hq,ok,r⟩,m⟩:=h;have e2:=a_.mp i2;subst e2;cases ry;have hu:=hr.units;have un:X.A.in1.units+8 < cLine:=by
  have:X.A.in1.units<=X.A.units+1:=by first | exact Gg _ | (show X.A.units+1<=X.A.units+1; exact Gg _) | (unfold Around.in1; simp)
  omega
 obtain⟨vs,hl,j⟩:=hS.lst hq;obtain⟨its,rv,pl,hz⟩:=I.list (eu.of hl);have ei:=ug j rv;subst ei;have mem:∀ w,w∈(os.map oV).toArray->∃ o∈os,oV o=w:=λw hw=>by
  obtain⟨o,ho,e⟩:=List.mem_map.mp (by simpa using hw:w∈os.map oV)
  exact⟨o,ho,e⟩
 rcases r with ⟨rfl,r⟩ | ⟨p,b,rfl,hp,hn,hnp,hb,r⟩
 ·have e:=b8.mp i1;subst e;cases rx;refine SeqAt.notIn_listAt (λw=>match w with | .none=>true | _=>false) pl.isList (λw hw=>?_) ⟨.bl _,H,I,rfl,?_⟩
  ·obtain⟨o,ho,rfl⟩:=mem w hw;cases o with
   | none=>exact SeqAt.EqAt.same _
   | some l=>
    obtain⟨xs,hx⟩:=ok l ho;obtain⟨ws,g1,_⟩:=hS.lst hx;obtain⟨_,_,p1,_⟩:=I.list (eu.of g1);exact SeqAt.EqAt.list_none p1.isList (by omega)
  ·have e:(!(os.map oV).toArray.any λw=>match w with | .none=>true | _=>false)=decide (none∉os):=by
    rw [List.any_toArray];clear mem pl rv j hl hq ok r hz
    induction os with
    | nil=>rfl
    | cons o os ih=>
     cases o with
     | none=>simp [oV]
     | some l=>
      rw [List.map_cons,List.any_cons];simp only [oV,Bool.false_or,Gk,reduceCtorEq,false_or];exact ih
   exact (congrArg (λt=>Q (.bl t) H) e).mpr (kj m hS r (bE.mpr rfl))
 ·have e:=a_.mp i1;subst e;cases rx;refine SeqAt.notIn_listAt (λw=>match w with | .ref l=>decide (S l=some (.lst [])) | _=>false) pl.isList (λw hw=>?_) ⟨.bl _,H,I,rfl,?_⟩
  ·obtain⟨o,ho,rfl⟩:=mem w hw;cases o with
   | none=>exact absurd ho hn
   | some l=>
    obtain⟨xs,hx⟩:=ok l ho;refine SeqAt.EqAt.of_refs (λz=>hnp (z▸ho)) ?_
    cases xs with
    | nil=>
     show SeqAt.RcAt _ _ _ _ (decide (S l=some (.lst [])))
     rw [decide_eq_true hx];exact(qE I hS hx hp rfl X.A.in1 (by omega) rfl).1
    | cons z zs=>
     show SeqAt.RcAt _ _ _ _ (decide (S l=some (.lst [])))
     rw [GU (by rw [hx]; simp)]
     exact re I hS hx hp (by simp) X.A.in1 (by omega)
  ·have e:(!(os.map oV).toArray.any λw=>match w with | .ref l=>decide (S l=some (.lst [])) | _=>false)=b:=by
    rw [List.any_toArray,Bool.eq_iff_iff,hb,Bool.not_eq_true',List.any_eq_false]
    constructor
    ·intro h l hl' e;have:=h (oV (some l)) (List.mem_map.mpr ⟨_,hl',rfl⟩);simp [oV,e] at this
    ·intro h w hw;obtain⟨o,ho,rfl⟩:=List.mem_map.mp hw;cases o with
     | none=>exact absurd ho hn
     | some l=>simp [oV,h l ho]
   exact (congrArg (λt=>Q (.bl t) H) e).mpr (kj m hS r (bE.mpr rfl))
end DL
namespace My
abbrev FN (K:PySem.W.Frag) (n:PySem.Str) (st:PySem.Stmt) (f:PySem.Addr) (fd:PySem.FuncData):=L2.r_ K n n st f fd
variable {P:Hc} {w:He} {K:Fg} {mg:Str->Ha G9} {base:Hf} {f:G_} {fd:FuncData}
open PySem PySem.Spec PyProof.Rows L2 DL HM
set_option maxHeartbeats 4000000
def cW (i : Nat) : Hg := PySem.Challenge.pw_hingedraw_k56_whole_four_rods.main.body.getD i (.Pass ⟨0, 0, 0, 0⟩)
abbrev eC:Hg:=cW 8
abbrev ql:Hg:=cW 9
abbrev tN:Hg:=cW 10
abbrev qv:Hg:=cW 11
abbrev p9:Hg:=cW 12
abbrev tq:Hg:=cW 13
abbrev kg:Hg:=cW 14
abbrev fQ:Hg:=cW 15
abbrev gT:Hg:=cW 16
abbrev cJ:Hg:=cW 17
abbrev lh:Hg:=cW 18
abbrev j8:Hg:=cW 20
abbrev fY:Hg:=cW 21
abbrev tf:Hg:=cW 22
abbrev ii:Hg:=cW 24
abbrev qL:Hg:=cW 25
abbrev mI:Hg:=cW 26
abbrev fj:Hg:=cW 27
abbrev jc:Hg:=cW 28
abbrev iy:Hg:=cW 29
abbrev g9:Hg:=cW 30
abbrev ly:Hg:=cW 31
abbrev jq:Hg:=cW 32
abbrev ja:Hg:=cW 23
abbrev fh:Hg:=cW 36
abbrev gC:Hg:=cW 37
abbrev fk:Hg:=cW 38
abbrev lp:Hg:=cW 39
abbrev lq:Hg:=cW 40
abbrev gA:Hg:=cW 34
abbrev j0:Hg:=cW 35
abbrev i4:Hg:=cW 41
abbrev dU:Hg:=cW 42
abbrev qP:Hg:=cW 43
abbrev fq:Hg:=cW 44
abbrev gR:Hg:=cW 45
abbrev cr:Hg:=cW 46
abbrev dZ:Hg:=cW 47
abbrev fK:Hg:=cW 69
abbrev hX:Hg:=cW 70
abbrev jn:Hg:=cW 71
abbrev fS:Hg:=cW 72
abbrev iu:Hg:=cW 73
abbrev gU:Hg:=cW 76
abbrev iY:Hg:=cW 74
abbrev ij:Hg:=cW 75
abbrev fg:Hg:=cW 77
abbrev il:Hg:=cW 81
abbrev iU:Hg:=cW 78
abbrev jo:Hg:=cW 58
abbrev hZ:Hg:=cW 56
abbrev iX:Hg:=cW 59
abbrev gH:Hg:=cW 65
abbrev je:Hg:=cW 79
abbrev gz:Hg:=cW 80
abbrev fW:Hg:=cW 51
abbrev iT:Hg:=cW 52
abbrev i8:Hg:=cW 57
abbrev gd:Hg:=cW 61
abbrev eN:Hg:=cW 49
abbrev j':Hg:=cW 60
abbrev fe:Hg:=cW 66
abbrev jw:Hg:=cW 67
abbrev jl:Hg:=cW 63
abbrev gy:Hg:=cW 64
abbrev pH:Hg:=cW 62
abbrev i5:Hg:=cW 82
abbrev gw:Hg:=cW 83
abbrev hJ:Hg:=cW 84
abbrev ym:Hg:=cW 85
theorem lO:bootBuiltins "abs"=some (.builtin "abs"):=by decide +kernel
theorem qQ:bootBuiltins "len"=some (.builtin "len"):=by decide +kernel
theorem wT:bootBuiltins "range"=some (.type "range"):=by decide +kernel
theorem rA:bootBuiltins "tuple"=some (.type "tuple"):=by decide +kernel
theorem wM:bootBuiltins "max"=some (.builtin "max"):=by decide +kernel
theorem wU:bootBuiltins "sum"=some (.builtin "sum"):=by decide +kernel
theorem vB:bootBuiltins "sorted"=some (.builtin "sorted"):=by decide +kernel
theorem tO:bootBuiltins "min"=some (.builtin "min"):=by decide +kernel
theorem BG {y:Int} {A B:Prop} (h1:y≠0->A) (h2:y=0->B):if (!decide (y=0))=true then A else B:=by
 by_cases h:y=0
 ·rw [if_neg (by simp [h])]; exact h2 h
 ·rw [if_pos (by simp [h])]; exact h1 h
theorem aR {p:Prop} [Decidable p] {A B:Prop} (h1:p->A) (h2:¬ p->B):if decide p=true then A else B:=by
 by_cases h:p
 ·rw [if_pos (by simp [h])]; exact h1 h
 ·rw [if_neg (by simp [h])]; exact h2 h
theorem i6 {p:Prop} [Decidable p] {A B:Prop} (h1:¬ p->A) (h2:p->B):if (!decide p)=true then A else B:=by
 by_cases h:p
 ·rw [if_neg (by simp [h])]; exact h2 h
 ·rw [if_pos (by simp [h])]; exact h1 h
theorem xT {c:Hi} {A B:Prop} (h1:c=true->A) (h2:c=false->B):if c=true then A else B:=by
 cases c
 ·exact xE (h2 rfl)
 ·exact CM (h1 rfl)
theorem B8 {c:Hi} {A B:Prop} (h1:c=false->A) (h2:c=true->B):if (!c)=true then A else B:=by
 cases c
 ·exact CM (h1 rfl)
 ·exact xE (h2 rfl)
theorem qD {ds:List D} {i:Int} (h0:0<=i) (h1:i < (ds.length:Int)):∃ d,L2.atI ds i=some d/\d∈ds:=by
 obtain⟨n,rfl⟩:=Int.eq_ofNat_of_zero_le h0;have hn:n < ds.length:=by omega
 exact⟨ds[n],jF (by simp [hn]),List.getElem_mem hn⟩
theorem kP {ok:DH->Prop} {g:DG} {b:DS} {M:jd} {P:D->Prop} (Iv:Lo->DH->Prop) (hok:∀ L S,Iv L S->ok S)
  (hs:∀ d L S N,P d->Iv L S->(∀ L' S',Iv L' S'->N L' S')->g d L S λL1 S1=>b {M with nx:=N,ct:=N,bk:=M.nx} L1 S1) (hd:∀ L S,Iv L S->M.nx L S):∀ r,(∀ d∈r,P d)->∀ L S,Iv L S->gm ok g b M r L S
 | [],_,L,S,i=>⟨hok L S i,hd L S i⟩
 | d::r,hp,L,S,i=>⟨hok L S i,hs d L S _ (hp d Gn) i λL' S' i'=>kP Iv hok hs hd r (λe he=>hp e (Go _ he)) L' S' i'⟩
instance {n:Nat} {x:Int}:Decidable (Bt n x):=inferInstanceAs (Decidable (x.natAbs < 2 ^ n))
theorem cF {S:DH} {p a:G_} {o u:DO} (hp:S p=none) (h:S a=some u):put S p o a=some u:=by rw [dQ (sK h hp)]; exact h
theorem cD {ds:List D} (h:Nat.ble ds.length sizeLine=true:=by rfl):ds.length<=sizeLine:=Gu h
def mD (S:DH) (a:G_):Prop:=∃ n b,S a=some (.lst [.int n,.bl b])/\(b=false->0<=n/\n < 2147483647)
def Dr (a:G_) (S S':DH):Prop:=mD S' a/\∀ b o,b≠a->S b=some o->S' b=some o
theorem Dr.trans {a:G_} {S S1 S2:DH} (h1:Dr a S S1) (h2:Dr a S1 S2):Dr a S S2:=⟨h2.1,λb o n e=>h2.2 b o n (h1.2 b o n e)⟩
theorem mD.ne {a p:G_} {S:DH} (h:mD S a) (hp:S p=none):p≠a:=by
 obtain⟨n,b,e,_⟩:=h;intro z;subst z;rw [e] at hp;cases hp
theorem mD.new {a p:G_} {S:DH} {o:DO} (h:mD S a) (hp:S p=none):mD (put S p o) a:=by
 have z:=h.ne hp;obtain⟨n,b,e,q⟩:=h;exact⟨n,b,by rw [dQ (Ne.symm z)]; exact e,q⟩
theorem Dr.new {a p:G_} {S:DH} {o:DO} (h:mD S a) (hp:S p=none):Dr a S (put S p o):=
 ⟨h.new hp,λb u n e=>by rw [dQ (sK e hp)]; exact e⟩
theorem vb {x:Int} (h1:0<=x) (h2:x < 2147483648):Bt 31 x:=by
 unfold Bt;omega
def N (u a b:Rat):D:=.tup [fr a,fr (ss b*u)]
structure Fd (u:Rat):Prop where
 pos:0 < u
 no:lv u
 sz:Sz 600 u
theorem tH {q:Rat}:D.tup [.int (-q.num),.int (q.den:Int)]=fr (-q):=by
 show _=D.tup [.int (-q).num,.int ((-q).den:Int)]
 rw [Rat.neg_num,Rat.neg_den]
theorem Cz {q:Rat}:D.tup [.int (if q.num < 0 then -q.num else q.num),.int (q.den:Int)]=fr (ab q):=by
 show _=D.tup [.int (ab q).num,.int ((ab q).den:Int)]
 rw [Ce,BU]
theorem ye {n:Nat} {t b:Int} (h:b≠0) (hb:Bt n b):Bt n ((Int.gcd t b:Nat):Int):=by
 refine hb.le ?_;have h1:Int.gcd t b ∣ b.natAbs:=by
  have:=Int.gcd_dvd_right t b;exact(by have:=Int.natAbs_dvd_natAbs.mpr this; simpa using this)
 have:=Nat.le_of_dvd (by omega) h1
 omega
def c8:bO:=λds S k=>match ds with
 | [.int a,.int b]=>k (.int ((Int.gcd a b:Nat):Int)) S
 | _=>False
theorem cM:aq ["one","other","rest"] ["one","other"] (ai eC):=cV
theorem kD (Fn:FN K "common_divisor" eC f fd) (gh:mg "abs"=none):
  aH P w K mg base cm 1 f fd ["one","other"] (cn K c8):=by
 refine Fn.okJ cM (λds S k h=>?_) (λcdv A outer s H E hr=>⟨_,(ae (j4 PassesOwn.never (au D_ (ak 1) am (aw _)) (ae (aj (i:=2) cM.nd (av lS (ak 0) (ak 1))) (ae (aj (i:=0) cM.nd (ak 1)) (af (aj (i:=1) cM.nd (ak 2)))))) (af (ah (bw o0 rfl gh lO (ar 0 ac))))),λds S k h=>?_⟩)
 ·unfold c8 at h
  split at h
  ·rfl
  ·exact h.elim
 ·unfold c8 at h
  split at h
  ·rename_i a b
   refine⟨λm L S'=>S'=S/\∃ x y r,L=[some (.int x),some (.int y),r]/\m=y.natAbs/\Int.gcd x y=Int.gcd a b,⟨_,rfl,a,b,_,rfl,rfl,rfl⟩,?_⟩
   rintro m L S' ⟨rfl,x,y,r,rfl,rfl,e⟩;refine BG (λhy=>⟨λL' S''=>∃ m',m' < y.natAbs/\S''=S'/\∃ x y r,L'=[some (.int x),some (.int y),r]/\m'=y.natAbs/\Int.gcd x y=Int.gcd a b,λ_ _ z=>z,hy,?_⟩) (λhy=>?_)
   ·exact⟨_,uL x y hy,rfl,y,x.fmod y,_,rfl,rfl,(rg x y).trans e⟩
   ·subst hy;have e2:=rL x;rw [e] at e2
    show k (.int (if x < 0 then -x else x)) S'
    rw [<- e2];exact h
  ·exact h.elim
def f':bO:=λds S k=>match ds with
 | [.int t,.int b]=>b≠0/\Bt 8000 b/\k (fr (Rat.divInt t b)) S
 | _=>False
theorem kM {S:DH} {k:DK} {t b:Int} {q:Rat} (e:Rat.divInt t b=q) (h0:b≠0) (hb:Bt 8000 b) (h:k (fr q) S):f' [.int t,.int b] S k:=by subst e; exact⟨h0,hb,h⟩
theorem nL:aq ["top","bottom","shared"] ["top","bottom"] (ai ql):=cV
theorem xL (Fn:FN K "ratio" ql f fd) (eE:aM P w K mg base "common_divisor" 1 c8):
  aH P w K mg base cm 2 f fd ["top","bottom"] (cn K f'):=by
 refine Fn.okJ nL (λds S k h=>?_) (λcdv A outer s H E hr=>⟨_,(ae (aA (au kZ (ak 1) am (aw _)) (af ie) aB) (ae (aj (i:=2) nL.nd (dq eE hr (ar 0 (ar 1 ac)))) (ae (aA (au qG (ak 1) am (aw _)) (af (aj (i:=2) nL.nd (wG v_ (ak 2)))) aB) (af (ah (aC (aa (av iF (ak 0) (ak 2)) (aa (av iF (ak 1) (ak 2)) ac)))))))),λds S k h=>?_⟩)
 ·unfold f' at h
  split at h
  ·rfl
  ·exact h.elim
 ·unfold f' at h
  split at h
  ·rename_i t b
   obtain⟨h0,hb,q⟩:=h;have hg:=ye (t:=t) h0 hb;have hs:=yh (t:=t) h0;have e1:=km (t:=t) h0;have e2:=kN (t:=t) h0;have qq:k (.tup [.int (t.fdiv (uS t b)),.int (b.fdiv (uS t b))]) S:=by rw [e1,e2]; exact q
   unfold uS at qq hs
   refine aR (λz=>absurd z h0) (λ_=>aR (λhl=>?_) (λhl=>?_))
   ·rw [if_pos hl] at qq hs
    exact⟨yt hs hg.neg,yt hs hg.neg,cD,qq⟩
   ·rw [if_neg hl] at qq hs
    exact⟨yt hs hg,yt hs hg,cD,qq⟩
  ·exact h.elim
def gx:bO:=λds S k=>∃ p q:Rat,ds=[fr p,fr q]/\Sz 4000 p/\Sz 4000 q/\k (fr (p+q)) S
theorem zp:aq ["one","other"] ["one","other"] (ai tN):=cV
theorem zt (Fn:FN K "plus" tN f fd) (dA:aM P w K mg base "ratio" 2 f'):
  aH P w K mg base cm 3 f fd ["one","other"] (cn K gx):=by
 refine Fn.okJ zp (λds S k h=>?_) (λcdv A outer s H E hr=>⟨_,(af (ah (dq dA hr (aa (av dJ (av b5 (aJ 0) (aJ 1)) (av b5 (aJ 1) (aJ 0))) (aa (av b5 (aJ 0) (aJ 1)) ac))))),λds S k h=>?_⟩)
 ·obtain⟨_,_,rfl,_⟩:=h
  rfl
 ·obtain⟨p,q,rfl,hp,hq,w⟩:=h;exact⟨jz hp.num hq.den,jz hq.num hp.den,jz hp.den hq.den,kM (kc p q) (bH p q) ((hp.den.mul hq.den).mono (by decide)) w⟩
def gZ:bO:=λds S k=>∃ p q:Rat,ds=[fr p,fr q]/\Sz 4000 p/\Sz 4000 q/\k (fr (p - q)) S
theorem wQ:aq ["one","other"] ["one","other"] (ai qv):=cV
theorem xY (Fn:FN K "minus" qv f fd) (dA:aM P w K mg base "ratio" 2 f'):
  aH P w K mg base cm 3 f fd ["one","other"] (cn K gZ):=by
 refine Fn.okJ wQ (λds S k h=>?_) (λcdv A outer s H E hr=>⟨_,(af (ah (dq dA hr (aa (av kR (av b5 (aJ 0) (aJ 1)) (av b5 (aJ 1) (aJ 0))) (aa (av b5 (aJ 0) (aJ 1)) ac))))),λds S k h=>?_⟩)
 ·obtain⟨_,_,rfl,_⟩:=h
  rfl
 ·obtain⟨p,q,rfl,hp,hq,w⟩:=h;exact⟨jz hp.num hq.den,jz hq.num hp.den,jz hp.den hq.den,kM (s9 p q) (bH p q) ((hp.den.mul hq.den).mono (by decide)) w⟩
def dY:bO:=λds S k=>∃ p q:Rat,ds=[fr p,fr q]/\Sz 4000 p/\Sz 4000 q/\k (fr (p*q)) S
theorem vZ:aq ["one","other"] ["one","other"] (ai p9):=cV
theorem wO (Fn:FN K "times" p9 f fd) (dA:aM P w K mg base "ratio" 2 f'):
  aH P w K mg base cm 3 f fd ["one","other"] (cn K dY):=by
 refine Fn.okJ vZ (λds S k h=>?_) (λcdv A outer s H E hr=>⟨_,(af (ah (dq dA hr (aa (av b5 (aJ 0) (aJ 1)) (aa (av b5 (aJ 0) (aJ 1)) ac))))),λds S k h=>?_⟩)
 ·obtain⟨_,_,rfl,_⟩:=h
  rfl
 ·obtain⟨p,q,rfl,hp,hq,w⟩:=h;exact⟨jz hp.num hq.num,jz hp.den hq.den,kM (yr p q) (bH p q) ((hp.den.mul hq.den).mono (by decide)) w⟩
def jZ:bO:=λds S k=>∃ p q:Rat,ds=[fr p,fr q]/\q≠0/\Sz 4000 p/\Sz 4000 q/\k (fr (p / q)) S
theorem zg:aq ["one","other"] ["one","other"] (ai tq):=cV
theorem yV (Fn:FN K "over" tq f fd) (dA:aM P w K mg base "ratio" 2 f'):
  aH P w K mg base cm 3 f fd ["one","other"] (cn K jZ):=by
 refine Fn.okJ zg (λds S k h=>?_) (λcdv A outer s H E hr=>⟨_,(af (ah (dq dA hr (aa (av b5 (aJ 0) (aJ 1)) (aa (av b5 (aJ 0) (aJ 1)) ac))))),λds S k h=>?_⟩)
 ·obtain⟨_,_,rfl,_⟩:=h
  rfl
 ·obtain⟨p,q,rfl,h0,hp,hq,w⟩:=h;exact⟨jz hp.num hq.den,jz hp.den hq.num,kM (xN p q) (Int.mul_ne_zero (lf p) (nK h0)) ((hp.den.mul hq.num).mono (by decide)) w⟩
def dD:bO:=λds S k=>∃ q:Rat,ds=[fr q]/\k (fr (-q)) S
theorem rS:aq ["one"] ["one"] (ai kg):=cV
theorem q9 (Fn:FN K "negative" kg f fd):
  aH P w K mg base cm 1 f fd ["one"] (cn K dD):=by
 refine Fn.okJ rS (λds S k h=>?_) (λcdv A outer s H E hr=>⟨_,(af (ah (aC (aa (wG v_ (aJ 0)) (aa (aJ 0) ac))))),λds S k h=>?_⟩)
 ·obtain⟨_,rfl,_⟩:=h
  rfl
 ·obtain⟨q,rfl,w⟩:=h;rw [<- tH] at w;exact⟨cD,w⟩
def ca:bO:=λds S k=>∃ q:Rat,ds=[fr q]/\k (fr (ab q)) S
theorem mq:aq ["one"] ["one"] (ai fQ):=cV
theorem mj (Fn:FN K "without_sign" fQ f fd) (gh:mg "abs"=none):
  aH P w K mg base cm 1 f fd ["one"] (cn K ca):=by
 refine Fn.okJ mq (λds S k h=>?_) (λcdv A outer s H E hr=>⟨_,(af (ah (aC (aa (bw o0 rfl gh lO (aa (aJ 0) ac)) (aa (aJ 0) ac))))),λds S k h=>?_⟩)
 ·obtain⟨_,rfl,_⟩:=h
  rfl
 ·obtain⟨q,rfl,w⟩:=h;rw [<- Cz] at w;exact⟨cD,w⟩
set_option maxHeartbeats 4000000
def kL:bO:=λds S k=>∃ n:Int,ds=[.int n]/\0<=n/\Bt 4000 n/\k (.int (iI n)) S
theorem dj:aq ["number","guess","better"] ["number"] (ai gT):=cV
theorem oi (Fn:FN K "whole_root" gT f fd):
  aH P w K mg base cm 1 f fd ["number"] (cn K kL):=by
 refine Fn.okJ dj (λds S k h=>?_) (λcdv A outer s H E hr=>⟨_,(ae (aA (au kZ (ak 0) am (aw _)) (af (ah am)) aB) (ae (aj (i:=1) dj.nd (av DM am (av iF (av dJ (zk (ak 0)) am) am))) (ae (aj (i:=2) dj.nd (av iF (av dJ (ak 1) (av iF (ak 0) (ak 1))) am)) (ae (j4 PassesOwn.never (au qG (ak 2) (ak 1) (aw _)) (ae (aj (i:=1) dj.nd (ak 2)) (af (aj (i:=2) dj.nd (av iF (av dJ (ak 1) (av iF (ak 0) (ak 1))) am))))) (af (ah (ak 1))))))),λds S k h=>?_⟩)
 ·obtain⟨_,rfl,_⟩:=h
  rfl
 ·obtain⟨n,rfl,h0,hb,q⟩:=h;refine aR (λe=>?_) (λe=>?_)
  ·subst e;rw [wF] at q;exact q
  ·have hbits:Builtin.Int.intBits n<=4000:=intBits_le_iff.mpr hb;have h1:1<=n:=by omega
   have hn:n.natAbs < 2 ^ Builtin.Int.intBits n:=intBits_le_iff.mp (Gg _);have G:=Gd.first h1 hn hbits;have hc:vD 1 ((((Builtin.Int.intBits n:Nat):Int)+1).fdiv 2):=by
    have e2:=pe (((Builtin.Int.intBits n:Nat):Int)+1) (b:=2) (by decide)
    exact⟨by rw [e2]; omega,by rw [e2]; omega,by decide⟩
   have two:∀ x:Int,mZ x 2:=λx=>⟨by decide,by decide +kernel⟩
   have dv:∀ g:Int,Gd n g->mZ n g:=λg G=>yt (by have:=G.pos; omega) G.bt
   refine⟨two _,hc,dv _ G,two _,λm L S'=>S'=S/\∃ g,L=[some (.int n),some (.int g),some (.int ((g+n.fdiv g).fdiv 2))]/\m=g.toNat/\Gd n g,⟨_,rfl,_,rfl,rfl,G⟩,?_⟩
   rintro m L S' ⟨rfl,g,rfl,rfl,G⟩;refine aR (λhl=>⟨λL' S''=>∃ m',m' < g.toNat/\S''=S'/\∃ g,L'=[some (.int n),some (.int g),some (.int ((g+n.fdiv g).fdiv 2))]/\m'=g.toNat/\Gd n g,λ_ _ z=>z,dv _ (G.next h1 hl),two _,?_⟩) (λhl=>?_)
   ·have G2:=G.next h1 hl;exact⟨_,by have:=G2.pos; have:=G.pos; omega,rfl,_,rfl,rfl,G2⟩
   ·rw [<- G.last h1 hl] at q;exact q
def Ad (n:Int):D:=if iI n*iI n=n then .int (iI n) else .non
def ej:bO:=λds S k=>∃ n:Int,ds=[.int n]/\0<=n/\Bt 4000 n/\k (Ad n) S
theorem dS:aq ["number","root"] ["number"] (ai cJ):=cV
theorem ip (Fn:FN K "square_root_or_none" cJ f fd) (hG:aM P w K mg base "whole_root" 1 kL):
  aH P w K mg base cm 2 f fd ["number"] (cn K ej):=by
 refine Fn.okJ dS (λds S k h=>?_) (λcdv A outer s H E hr=>⟨_,(ae (aj (i:=1) dS.nd (dq hG hr (ar 0 ac))) (af (ah (oU (au kZ (av b5 (ak 1) (ak 1)) (ak 0) (aw _)) (ak 1) cQ)))),λds S k h=>?_⟩)
 ·obtain⟨_,rfl,_⟩:=h
  rfl
 ·obtain⟨n,rfl,h0,hb,q⟩:=h;have b2:=Bo h0 hb;refine⟨n,rfl,h0,hb,jz b2 b2,aR (λe=>?_) (λe=>?_)⟩
  ·rw [Ad,if_pos e] at q;exact q
  ·rw [Ad,if_neg e] at q;exact q
def jE:bO:=λds S k=>∃ q:Rat,ds=[fr q]/\0<=q/\Sz 4000 q/\(∀ r,0<=r->r*r=q->k (fr r) S)/\(lv q->k .non S)
theorem j9:aq ["one","top","bottom"] ["one"] (ai lh):=cV
theorem t5 (Fn:FN K "root_in" lh f fd) (bT:aM P w K mg base "square_root_or_none" 2 ej):
  aH P w K mg base cm 3 f fd ["one"] (cn K jE):=by
 refine Fn.okJ j9 (λds S k h=>?_) (λcdv A outer s H E hr=>⟨_,(ae (aj (i:=1) j9.nd (dq bT hr (aa (aJ 0) ac))) (ae (aA (au sP (ak 1) cQ (aw _)) (af (ah cQ)) aB) (ae (aj (i:=2) j9.nd (dq bT hr (aa (aJ 0) ac))) (ae (aA (au sP (ak 2) cQ (aw _)) (af (ah cQ)) aB) (af (ah (aC (ar 1 (ar 2 ac))))))))),λds S k h=>?_⟩)
 ·obtain⟨_,rfl,_⟩:=h
  rfl
 ·obtain⟨q,rfl,h0,hs,h1,h2⟩:=h;have n0:=nO h0
  by_cases e:iI q.num*iI q.num=q.num
  ·by_cases e2:iI (q.den:Int)*iI (q.den:Int)=(q.den:Int)
   ·obtain⟨r,r0,rr⟩:=tx h0 e e2;obtain⟨e3,e4⟩:=j7 r0 rr;have w:=h1 r r0 rr;refine⟨q.num,rfl,n0,hs.num,?_⟩;rw [show Ad q.num=.int (iI q.num) from if_pos e]
    refine⟨(q.den:Int),rfl,by omega,hs.den,?_⟩
    rw [show Ad (q.den:Int)=.int (iI (q.den:Int)) from if_pos e2,e3,e4]
    exact⟨cD,w⟩
   ·refine⟨q.num,rfl,n0,hs.num,?_⟩;rw [show Ad q.num=.int (iI q.num) from if_pos e]
    refine⟨(q.den:Int),rfl,by omega,hs.den,?_⟩
    rw [show Ad (q.den:Int)=.non from if_neg e2]
    refine h2 λr rr=>e2 ?_
    have:=congrArg (λz:Rat=>(z.den:Int)) rr
    simp only [lE,Int.natCast_mul] at this;exact wI this
  ·refine⟨q.num,rfl,n0,hs.num,?_⟩;rw [show Ad q.num=.non from if_neg e]
   refine h2 λr rr=>e ?_
   have:=congrArg Rat.num rr;rw [ki] at this;exact wI this
def fM:bO:=λds S k=>∃ x q,ds=[.tup [x,fr q]]/\k (.bl (decide (q=0))) S
theorem rB:aq ["one"] ["one"] (ai j8):=cV
theorem rf (Fn:FN K "is_plain" j8 f fd):
  aH P w K mg base cm 1 f fd ["one"] (cn K fM):=by
 refine Fn.okJ rB (λds S k h=>?_) (λcdv A outer s H E hr=>⟨_,(af (ah (fc kZ (cN eh (aJ 0) am Zf) am (aw _)))),λds S k h=>?_⟩)
 ·obtain⟨_,_,rfl,_⟩:=h
  rfl
 ·obtain⟨x,q,rfl,w⟩:=h;have e:decide (q.num=0)=decide (q=0):=by
   by_cases h0:q=0
   ·subst h0; rfl
   ·rw [GU h0,GU (nK h0)]
  rw [<- e] at w;exact w
def cP:bO:=λds S k=>∃ p q:Rat,ds=[fr p,fr q]/\k (fr (sg p q)) S
theorem mo:aq ["one","other"] ["one","other"] (ai fY):=cV
theorem mx (Fn:FN K "with_sign_of" fY f fd) (aP:aM P w K mg base "negative" 1 dD):
  aH P w K mg base cm 2 f fd ["one","other"] (cn K cP):=by
 refine Fn.okJ mo (λds S k h=>?_) (λcdv A outer s H E hr=>⟨_,(af (ah (oU (au qG (aJ 1) am (aw _)) (dq aP hr (ar 0 ac)) (ak 0)))),λds S k h=>?_⟩)
 ·obtain⟨_,_,rfl,_⟩:=h
  rfl
 ·obtain⟨p,q,rfl,w⟩:=h;unfold sg at w;refine aR (λhn=>?_) (λhn=>?_)
  ·rw [if_pos ((cq q).mp hn)] at w;exact⟨p,rfl,w⟩
  ·rw [if_neg (λz=>hn ((cq q).mpr z))] at w
   exact w
set_option maxHeartbeats 4000000
theorem oR (n:Nat):n<=n*n:=by
 rcases Nat.eq_zero_or_pos n with h | h
 ·subst h; decide
 ·exact Nat.le_mul_of_pos_left n h
theorem _root_.HM.Sz.root {n:Nat} {q r:Rat} (h:Sz n q) (e:r*r=q):Sz n r:=by
 subst e;refine⟨h.num.le ?_,h.den.le ?_⟩
 ·rw [ki,GY];exact oR _
 ·rw [lE];have:=oR r.den;omega
open Classical in
noncomputable def yx (p q:Rat):D:=if h:∃ r,0<=r/\r*r=ab q then .tup [fr (p+sg h.choose q),fr 0] else .tup [fr p,fr q]
theorem uV {r r' q:Rat} (h0:0<=r) (h1:0<=r') (e:r*r=q) (e':r'*r'=q):r=r':=by
 obtain⟨a1,a2⟩:=j7 h0 e;obtain⟨b1,b2⟩:=j7 h1 e';refine Rat.ext (a1.symm.trans b1) ?_;have:=a2.symm.trans b2;omega
theorem mM {p q r:Rat} (r0:0<=r) (rr:r*r=ab q):yx p q=.tup [fr (p+sg r q),fr 0]:=by
 have h:∃ r,0<=r/\r*r=ab q:=⟨r,r0,rr⟩;unfold yx;rw [dif_pos h,uV h.choose_spec.1 r0 h.choose_spec.2 rr]
theorem wV {p q:Rat} (no:lv (ab q)):yx p q=.tup [fr p,fr q]:=by
 unfold yx;rw [dif_neg λz9=>by obtain⟨r,_,e⟩:=z9; exact no r e]
theorem yq {p:Rat}:yx p 0=.tup [fr p,fr 0]:=by
 rw [mM (r:=0) (by decide) (by unfold ab; grind),show p+sg 0 0=p by unfold sg; grind]
def wt:bO:=λds S k=>∃ p q:Rat,ds=[fr p,fr q]/\Sz 1000 p/\Sz 1000 q/\k (yx p q) S
theorem ul:aq ["part","under","root"] ["part","under"] (ai tf):=cV
theorem zA (Fn:FN K "made" tf f fd) (df:aM P w K mg base "root_in" 3 jE) (aE:aM P w K mg base "without_sign" 1 ca) (a9:aM P w K mg base "plus" 3 gx) (aU:aM P w K mg base "with_sign_of" 2 cP) (aL:lL K mg "NOUGHT" [0,1]):
  aH P w K mg base cm 4 f fd ["part","under"] (cn K wt):=by
 refine Fn.okJ ul (λds S k h=>?_) (λcdv A outer s H E hr=>⟨_,(ae (aj (i:=2) ul.nd (dq df hr (aa (dq aE hr (ar 1 ac)) ac))) (ae (aA (au sP (ak 2) cQ (aw _)) (af (ah (aC (ar 0 (ar 1 ac))))) aB) (af (ah (aC (aa (dq a9 hr (ar 0 (aa (dq aU hr (ar 2 (ar 1 ac))) ac))) (aa (dP aL rfl) ac))))))),λds S k h=>?_⟩)
 ·obtain⟨_,_,rfl,_⟩:=h
  rfl
 ·obtain⟨p,q,rfl,hp,hq,w⟩:=h;refine⟨q,rfl,ab q,rfl,iG q,hq.ab.mono (by decide),λr r0 rr=>?_,λno=>⟨cD,?_⟩⟩
  ·rw [mM r0 rr] at w;exact⟨r,q,rfl,p,sg r q,rfl,hp.mono (by decide),((hq.ab.root rr).sg).mono (by decide),cD,w⟩
  ·rw [wV no] at w;exact w
def gW:bO:=λds S k=>∃ u a b c d:Rat,ds=[N u a b,N u c d]/\0 < u/\k (fr (pick b d*pick b d*u)) S
theorem nY:aq ["one","other"] ["one","other"] (ai ii):=cV
theorem oB (Fn:FN K "field_base" ii f fd) (aE:aM P w K mg base "without_sign" 1 ca) (bp:aM P w K mg base "is_plain" 1 fM):
  aH P w K mg base cm 2 f fd ["one","other"] (cn K gW):=by
 refine Fn.okJ nY (λds S k h=>?_) (λcdv A outer s H E hr=>⟨_,(af (ah (dq aE hr (aa (oU (dz (dq bp hr (ar 0 ac))) (aJ 1) (aJ 0)) ac)))),λds S k h=>?_⟩)
 ·obtain⟨_,_,_,_,_,rfl,_⟩:=h
  rfl
 ·obtain⟨u,a,b,c,d,rfl,u0,w⟩:=h;refine⟨fr a,ss b*u,rfl,aR (λe=>⟨_,rfl,?_⟩) (λe=>⟨_,rfl,?_⟩)⟩
  ·have e2:b=0:=(jH u0).mp e;rw [show pick b d=d from if_pos e2] at w
   rw [l8 u0];exact w
  ·have e2:¬ b=0:=λz=>e ((jH u0).mpr z)
   rw [show pick b d=b from if_neg e2] at w
   rw [l8 u0];exact w
def pR:bO:=λds S k=>∃ u a b e:Rat,ds=[N u a b,fr (e*e*u)]/\0 < u/\(b=0\/e≠0)/\Sz 1000 b/\Sz 1000 e/\Sz 600 u/\k (fr (b / ab e)) S
theorem so:aq ["one","base","root"] ["one","base"] (ai qL):=cV
theorem yk (Fn:FN K "share" qL f fd) (bp:aM P w K mg base "is_plain" 1 fM) (df:aM P w K mg base "root_in" 3 jE) (b7:aM P w K mg base "over" 3 jZ) (aE:aM P w K mg base "without_sign" 1 ca) (aU:aM P w K mg base "with_sign_of" 2 cP) (aL:lL K mg "NOUGHT" [0,1]):
  aH P w K mg base cm 4 f fd ["one","base"] (cn K pR):=by
 refine Fn.okJ so (λds S k h=>?_) (λcdv A outer s H E hr=>⟨_,(ae (aA (dz (dq bp hr (ar 0 ac))) (af (ah (dP aL rfl))) aB) (ae (aj (i:=2) so.nd (dq df hr (aa (dq b7 hr (aa (dq aE hr (aa (aJ 0) ac)) (ar 1 ac))) ac))) (ae (aA (au sP (ak 2) cQ (aw _)) (af ie) aB) (af (ah (dq aU hr (ar 2 (aa (aJ 0) ac)))))))),λds S k h=>?_⟩)
 ·obtain⟨_,_,_,_,rfl,_⟩:=h
  rfl
 ·obtain⟨u,a,b,e,rfl,u0,hbe,hb,he,hu,w⟩:=h;refine⟨fr a,ss b*u,rfl,aR (λz=>?_) (λz=>?_)⟩
  ·have e2:b=0:=(jH u0).mp z;subst e2;rw [show (0:Rat) / ab e=0 by grind] at w
   exact w
  ·have e2:¬ b=0:=λq=>z ((jH u0).mpr q)
   have e0:e≠0:=hbe.resolve_left e2;have ne:e*e*u≠0:=by grind
   have ea:ab (ss b*u)=b*b*u:=l8 u0;have s1:Sz 2600 (ab (ss b*u)):=(hb.ss.mul hu).ab;have s2:Sz 2600 (e*e*u):=(he.mul he).mul hu;have nn:0<=ab (ss b*u) / (e*e*u):=mL (iG _) (Gz (bf e) (Rat.le_of_lt u0));have ne2:ab e≠0:=λz=>e0 (by unfold ab at z; split at z <;> grind)
   have s3:Sz 4000 (ab (ss b*u) / (e*e*u)):=by
    rw [ea,<- nQ u0 e0];exact(hb.ab.div he.ab ne2).mul (hb.ab.div he.ab ne2)
   refine⟨_,rfl,ab (ss b*u),e*e*u,rfl,ne,s1.mono (by decide),s2.mono (by decide),_,rfl,nn,s3,λr r0 rr=>?_,λno=>?_⟩
   ·rw [ea] at rr;have er:=tV u0 e0 r0 rr;subst er;refine⟨_,ss b*u,rfl,?_⟩;rw [w_ u0];exact w
   ·rw [ea] at no;exact absurd (nQ u0 e0) (no _)
def m6:bO:=λds S k=>∃ a p c:Rat,ds=[fr a,fr p,fr c]/\Sz 2000 p/\Sz 4000 c/\k (.tup [fr a,fr (ss p*c)]) S
theorem oG:aq ["part","portion","base","under"] ["part","portion","base"] (ai mI):=cV
theorem vo (Fn:FN K "joined" mI f fd) (aF:aM P w K mg base "times" 3 dY) (aU:aM P w K mg base "with_sign_of" 2 cP):
  aH P w K mg base cm 4 f fd ["part","portion","base"] (cn K m6):=by
 refine Fn.okJ oG (λds S k h=>?_) (λcdv A outer s H E hr=>⟨_,(ae (aj (i:=3) oG.nd (dq aF hr (aa (dq aF hr (ar 1 (ar 1 ac))) (ar 2 ac)))) (af (ah (aC (ar 0 (aa (dq aU hr (ar 3 (ar 1 ac))) ac)))))),λds S k h=>?_⟩)
 ·obtain⟨_,_,_,rfl,_⟩:=h
  rfl
 ·obtain⟨a,p,c,rfl,hp,hc,w⟩:=h;refine⟨p,p,rfl,hp.mono (by decide),hp.mono (by decide),p*p,c,rfl,(hp.mul hp).mono (by decide),hc.mono (by decide),p*p*c,p,rfl,cD,?_⟩
  rw [xh];exact w
def iL:bO:=λds S k=>∃ u a b:Rat,ds=[N u a b]/\k (N u (-a) (-b)) S
theorem lC:aq ["one"] ["one"] (ai fj):=cV
theorem li (Fn:FN K "root_negative" fj f fd) (aP:aM P w K mg base "negative" 1 dD):
  aH P w K mg base cm 2 f fd ["one"] (cn K iL):=by
 refine Fn.okJ lC (λds S k h=>?_) (λcdv A outer s H E hr=>⟨_,(af (ah (aC (aa (dq aP hr (aa (aJ 0) ac)) (aa (dq aP hr (aa (aJ 0) ac)) ac))))),λds S k h=>?_⟩)
 ·obtain⟨_,_,_,rfl,_⟩:=h
  rfl
 ·obtain⟨u,a,b,rfl,w⟩:=h;refine⟨a,rfl,ss b*u,rfl,cD,?_⟩;unfold N at w;rw [pC,show -ss b*u=-(ss b*u) by grind] at w
  exact w
theorem Dy {u c d:Rat}:D.tup [fr c,fr (-(ss d*u))]=N u c (-d):=by
 unfold N;rw [pC,show -ss d*u=-(ss d*u) by grind]
def bs (u b d:Rat):Rat:=pick b d*pick b d*u
theorem Ag {n:Nat} {u b d:Rat} (hu:Fd u) (hb:Sz n b) (hd:Sz n d):Sz (n+n+600) (bs u b d):=((hb.pick hd).mul (hb.pick hd)).mul hu.sz
theorem ut {n:Nat} {b e:Rat} (hb:Sz n b) (he:Sz n e):Sz (n+n+1) (b / ab e):=hb.div' he.ab
theorem yi {a b c:Rat}:a / c+b / c=(a+b) / c:=by
 rw [Rat.div_def,Rat.div_def,Rat.div_def]; grind
theorem tz {a b c d e:Rat}:a*(d / e)+c*(b / e)=(a*d+b*c) / e:=by
 rw [Rat.div_def,Rat.div_def,Rat.div_def]; grind
def gk:bO:=λds S k=>∃ u a b c d:Rat,ds=[N u a b,N u c d]/\Fd u/\Sz 4000 a/\Sz 4000 c/\Sz 1000 b/\Sz 1000 d/\Sz 900 (b+d)/\k (N u (a+c) (b+d)) S
theorem gY:aq ["one","other","base","portion"] ["one","other"] (ai jc):=cV
theorem pP (Fn:FN K "root_plus" jc f fd) (c_:aM P w K mg base "field_base" 2 gW) (a9:aM P w K mg base "plus" 3 gx) (gu:aM P w K mg base "share" 4 pR) (gI:aM P w K mg base "joined" 4 m6):
  aH P w K mg base cm 5 f fd ["one","other"] (cn K gk):=by
 refine Fn.okJ gY (λds S k h=>?_) (λcdv A outer s H E hr=>⟨_,(ae (aj (i:=2) gY.nd (dq c_ hr (ar 0 (ar 1 ac)))) (ae (aj (i:=3) gY.nd (dq a9 hr (aa (dq gu hr (ar 0 (ar 2 ac))) (aa (dq gu hr (ar 1 (ar 2 ac))) ac)))) (af (ah (dq gI hr (aa (dq a9 hr (aa (aJ 0) (aa (aJ 1) ac))) (ar 3 (ar 2 ac)))))))),λds S k h=>?_⟩)
 ·obtain⟨_,_,_,_,_,rfl,_⟩:=h
  rfl
 ·obtain⟨u,a,b,c,d,rfl,hu,ha,hc,hb,hd,hbd,w⟩:=h;have hp:=hb.pick hd;have s1:=ut hb hp;have s2:=ut hd hp;have s3:Sz 1901 (b / ab (pick b d)+d / ab (pick b d)):=by rw [yi]; exact hbd.div' hp.ab
  refine⟨u,a,b,c,d,rfl,hu.pos,u,a,b,pick b d,rfl,hu.pos,wW,hb,hp,hu.sz,u,c,d,pick b d,rfl,hu.pos,xI,hd,hp,hu.sz,_,_,rfl,s1.mono (by decide),s2.mono (by decide),?_⟩
  refine⟨a,c,rfl,ha,hc,_,_,_,rfl,s3.mono (by decide),(Ag hu hb hd).mono (by decide),?_⟩
  rw [vF];exact w
def fC:bO:=λds S k=>∃ u a b c d:Rat,ds=[N u a b,N u c d]/\Fd u/\Sz 4000 a/\Sz 4000 c/\Sz 1000 b/\Sz 1000 d/\Sz 900 (b - d)/\k (N u (a - c) (b - d)) S
theorem oq:aq ["one","other"] ["one","other"] (ai iy):=cV
theorem om (Fn:FN K "root_minus" iy f fd) (bv:aM P w K mg base "root_plus" 5 gk) (fm:aM P w K mg base "root_negative" 2 iL):
  aH P w K mg base cm 6 f fd ["one","other"] (cn K fC):=by
 refine Fn.okJ oq (λds S k h=>?_) (λcdv A outer s H E hr=>⟨_,(af (ah (dq bv hr (ar 0 (aa (dq fm hr (ar 1 ac)) ac))))),λds S k h=>?_⟩)
 ·obtain⟨_,_,_,_,_,rfl,_⟩:=h
  rfl
 ·obtain⟨u,a,b,c,d,rfl,hu,ha,hc,hb,hd,hbd,w⟩:=h;rw [show a - c=a+-c by grind,show b - d=b+-d by grind] at w
  rw [show b - d=b+-d by grind] at hbd
  exact⟨u,c,d,rfl,u,a,b,-c,-d,rfl,hu,ha,hc.neg,hb,hd.neg,hbd,w⟩
def fB:bO:=λds S k=>∃ u a b c d:Rat,ds=[N u a b,N u c d]/\Fd u/\Sz 1900 a/\Sz 1900 c/\Sz 100 b/\Sz 100 d/\Sz 1800 (a*d+b*c)/\k (N u (a*c+b*d*u) (a*d+b*c)) S
theorem cI:aq ["one","other","base","mine","theirs","part","portion"] ["one","other"] (ai g9):=cV
theorem ou (Fn:FN K "root_times" g9 f fd) (c_:aM P w K mg base "field_base" 2 gW) (gu:aM P w K mg base "share" 4 pR) (a9:aM P w K mg base "plus" 3 gx) (aF:aM P w K mg base "times" 3 dY) (gI:aM P w K mg base "joined" 4 m6):
  aH P w K mg base cm 5 f fd ["one","other"] (cn K fB):=by
 refine Fn.okJ cI (λds S k h=>?_) (λcdv A outer s H E hr=>⟨_,(ae (aj (i:=2) cI.nd (dq c_ hr (ar 0 (ar 1 ac)))) (ae (aj (i:=3) cI.nd (dq gu hr (ar 0 (ar 2 ac)))) (ae (aj (i:=4) cI.nd (dq gu hr (ar 1 (ar 2 ac)))) (ae (aj (i:=5) cI.nd (dq a9 hr (aa (dq aF hr (aa (aJ 0) (aa (aJ 1) ac))) (aa (dq aF hr (aa (dq aF hr (ar 3 (ar 4 ac))) (ar 2 ac))) ac)))) (ae (aj (i:=6) cI.nd (dq a9 hr (aa (dq aF hr (aa (aJ 0) (ar 4 ac))) (aa (dq aF hr (aa (aJ 1) (ar 3 ac))) ac)))) (af (ah (dq gI hr (ar 5 (ar 6 (ar 2 ac))))))))))),λds S k h=>?_⟩)
 ·obtain⟨_,_,_,_,_,rfl,_⟩:=h
  rfl
 ·obtain⟨u,a,b,c,d,rfl,hu,ha,hc,hb,hd,hbd,w⟩:=h;have hp:=hb.pick hd;have s1:=ut hb hp;have s2:=ut hd hp;have s3:=Ag hu hb hd;have s4:Sz 1901 (a*(d / ab (pick b d))+c*(b / ab (pick b d))):=by rw [tz]; exact hbd.div' hp.ab
  refine⟨u,a,b,c,d,rfl,hu.pos,u,a,b,pick b d,rfl,hu.pos,wW,hb.mono (by decide),hp.mono (by decide),hu.sz,u,c,d,pick b d,rfl,hu.pos,xI,hd.mono (by decide),hp.mono (by decide),hu.sz,?_⟩
  refine⟨a,c,rfl,ha.mono (by decide),hc.mono (by decide),_,_,rfl,s1.mono (by decide),s2.mono (by decide),_,_,rfl,(s1.mul s2).mono (by decide),s3.mono (by decide),_,_,rfl,(ha.mul hc).mono (by decide),((s1.mul s2).mul s3).mono (by decide),?_⟩
  refine⟨a,_,rfl,ha.mono (by decide),s2.mono (by decide),c,_,rfl,hc.mono (by decide),s1.mono (by decide),_,_,rfl,(ha.mul s2).mono (by decide),(hc.mul s1).mono (by decide),?_⟩
  refine⟨_,_,_,rfl,s4.mono (by decide),s3.mono (by decide),?_⟩
  rw [sJ,tT];exact w
set_option maxHeartbeats 4000000
def jJ:bO:=λds S k=>match ds with
 | [.int i]=>k (.int (if i=0 then 0 else if i > 0 then 1 else -1)) S
 | _=>False
theorem sI:aq ["number"] ["number"] (ai ly):=cV
theorem sH (Fn:FN K "sign_of" ly f fd):
  aH P w K mg base cm 1 f fd ["number"] (cn K jJ):=by
 refine Fn.okJ sI (λds S k h=>?_) (λcdv A outer s H E hr=>⟨_,(ae (aA (au kZ (ak 0) am (aw _)) (af (ah am)) aB) (af (ah (oU (au xf (ak 0) am (aw _)) am (wG v_ am))))),λds S k h=>?_⟩)
 ·unfold jJ at h
  split at h
  ·rfl
  ·exact h.elim
 ·unfold jJ at h
  split at h
  ·rename_i i
   refine aR (λe=>?_) (λe=>aR (λe2=>?_) (λe2=>?_))
   ·rw [if_pos e] at h; exact h
   ·rw [if_neg e,if_pos e2] at h; exact h
   ·rw [if_neg e,if_neg e2] at h; exact h
  ·exact h.elim
def ma:bO:=λds S k=>∃ u a b:Rat,ds=[N u a b]/\Fd u/\Sz 1900 a/\Sz 1000 b/\k (.int (j5 a b u)) S
theorem kB:aq ["one","apart"] ["one"] (ai jq):=cV
theorem qJ (Fn:FN K "root_sign" jq f fd) (bq:aM P w K mg base "minus" 3 gZ) (aE:aM P w K mg base "without_sign" 1 ca) (aF:aM P w K mg base "times" 3 dY) (jG:aM P w K mg base "sign_of" 1 jJ):
  aH P w K mg base cm 4 f fd ["one"] (cn K ma):=by
 refine Fn.okJ kB (λds S k h=>?_) (λcdv A outer s H E hr=>⟨_,(ae (aj (i:=1) kB.nd (dq bq hr (aa (dq aF hr (aa (aJ 0) (aa (aJ 0) ac))) (aa (dq aE hr (aa (aJ 0) ac)) ac)))) (af (ah (oU (au xf (aJ 1) am (aw _)) (dq jG hr (aa (cN eh (aJ 0) am Zf) ac)) (dq jG hr (aa (cN eh (aJ 0) am Zf) ac)))))),λds S k h=>?_⟩)
 ·obtain⟨_,_,_,rfl,_⟩:=h
  rfl
 ·obtain⟨u,a,b,rfl,hu,ha,hb,w⟩:=h;have ed:ab (ss b*u)=b*b*u:=l8 hu.pos;have sa:Sz 2600 (ab (ss b*u)):=(hb.ss.mul hu.sz).ab;refine⟨a,a,rfl,ha.mono (by decide),ha.mono (by decide),_,rfl,_,_,rfl,(ha.mul ha).mono (by decide),sa.mono (by decide),aR (λe=>?_) (λe=>?_)⟩
  ·rw [ed] at e;rw [Di ((ji _).mp e),<- ui] at w;exact w
  ·rw [ed] at e;have e':¬ 0 < a*a - b*b*u:=λz=>e ((ji _).mpr z)
   rw [show j5 a b u=sG b from if_neg e',<- vS (b:=b) hu.pos,<- ui] at w
   exact w
set_option maxHeartbeats 4000000
def bU (S S':DH):Prop:=∀ b o,S b=some o->S' b=some o
theorem bU.refl (S:DH):bU S S:=λ_ _ h=>h
theorem bU.trans {S S1 S2:DH} (a:bU S S1) (b:bU S1 S2):bU S S2:=λc o h=>b c o (a c o h)
theorem bU.new {S:DH} {p:G_} {o:DO} (h:S p=none):bU S (put S p o):=λb u e=>by
 unfold put
 split
 ·rename_i z; subst z; rw [h] at e; cases e
 ·exact e
theorem bU.put {S S1:DH} {p:G_} {o:DO} (e:bU S S1) (h:S p=none):bU S (put S1 p o):=λb u z=>by
 unfold DL.put
 split
 ·rename_i y; subst y; rw [h] at z; cases z
 ·exact e b u z
theorem bU.none {S S1:DH} {p:G_} (e:bU S S1) (h:S1 p=none):S p=none:=by
 cases q:S p with
 | none=>rfl
 | some o=>rw [e p o q] at h; cases h
theorem eS {u r:Rat}:D.tup [fr r,fr 0]=N u r 0:=by
 unfold N;rw [show ss 0*u=0 by unfold ss; grind]
abbrev Q:=Rat×Rat
def qa (x y:Q):Q:=(x.1+y.1,x.2+y.2)
def qs (x y:Q):Q:=(x.1 - y.1,x.2 - y.2)
def qm (u:Rat) (x y:Q):Q:=(x.1*y.1+x.2*y.2*u,x.1*y.2+x.2*y.1)
def Pq (u:Rat) (x y:Q):D:=.tup [N u x.1 x.2,N u y.1 y.2]
def qo (p:Rat):Q:=(p,0)
def aK (u:Rat) (x y:Q):Q:=qa (qm u x x) (qm u y y)
def rp (u:Rat) (x y z w p q:Q):Q:=qa x (qs (qm u p (qs z x)) (qm u q (qs w y)))
def sE (u:Rat) (x y z w p q:Q):Q:=qa y (qa (qm u p (qs w y)) (qm u q (qs z x)))
def iz (u:Rat) (x y z w a b:Q):Q:=qs (qm u (qs z x) (qs b y)) (qm u (qs w y) (qs a x))
def l7:bO:=λds S k=>∃ u a b c d:Rat,ds=[N u a b,N u c d]/\0 < u/\Sz 600 u/\Sz 300 b/\Sz 300 d/\k (.bl true) S
theorem pI:aq ["one","other"] ["one","other"] (ai ja):=cV
theorem qH (Fn:FN K "one_field" ja f fd) (bp:aM P w K mg base "is_plain" 1 fM) (df:aM P w K mg base "root_in" 3 jE) (b7:aM P w K mg base "over" 3 jZ) (aE:aM P w K mg base "without_sign" 1 ca):
  aH P w K mg base cm 4 f fd ["one","other"] (cn K l7):=by
 refine Fn.okJ pI (λds S k h=>?_) (λcdv A outer s H E hr=>⟨_,(ae (aA (WJ.pt (pK (dz (dq bp hr (ar 0 ac))) (mG (dz (dq bp hr (ar 1 ac)))))) (af (ah ek)) aB) (af (ah (fc pW (dq df hr (aa (dq b7 hr (aa (dq aE hr (aa (aJ 0) ac)) (aa (dq aE hr (aa (aJ 1) ac)) ac))) ac)) cQ (aw _))))),λds S k h=>?_⟩)
 ·obtain⟨_,_,_,_,_,rfl,_⟩:=h
  rfl
 ·obtain⟨u,a,b,c,d,rfl,u0,hu,hb,hd,w⟩:=h;refine⟨fr a,ss b*u,rfl,aR (λ_=>w) (λe=>⟨fr c,ss d*u,rfl,aR (λ_=>w) (λe2=>?_)⟩)⟩
  have d0:d≠0:=λz=>e2 ((jH u0).mpr z)
  have eb:ab (ss b*u)=b*b*u:=l8 u0;have ed:ab (ss d*u)=d*d*u:=l8 u0;have s1:Sz 1200 (ab (ss b*u)):=(hb.ss.mul hu).ab;have s2:Sz 1200 (ab (ss d*u)):=(hd.ss.mul hu).ab;have ne:ab (ss d*u)≠0:=by rw [ed]; grind
  refine⟨_,rfl,_,rfl,_,_,rfl,ne,s1.mono (by decide),s2.mono (by decide),_,rfl,mL (iG _) (iG _),(s1.div s2 ne).mono (by decide),λr r0 rr=>w,λno=>?_⟩
  rw [eb,ed] at no;exact absurd (nQ u0 d0) (no _)
def vm (u:Rat) (p:D):Prop:=∃ a b c d:Rat,p=.tup [N u a b,N u c d]/\Sz 300 b/\Sz 300 d
def CZ (u:Rat) (x:D):Prop:=∃ a b:Rat,x=N u a b/\b≠0/\Sz 300 b
def cC:bO:=λds S k=>∃ (u:Rat) (pts:List D),ds=[.tup pts]/\Fd u/\(∀ p∈pts,vm u p)/\pts.length<=100/\∀ S',bU S S'->k .non S'
theorem cZ:aq ["points","rooted","point","number"] ["points"] (ai fh):=cV
theorem lA (Fn:FN K "ask_one_field" fh f fd) (bp:aM P w K mg base "is_plain" 1 fM) (iS:aM P w K mg base "one_field" 4 l7):
  aH P w K mg base cm 5 f fd ["points"] (cn K cC):=by
 refine Fn.okJ cZ (λds S k h=>?_) (λcdv A outer s H E hr=>⟨_,(ae (aj (i:=1) cZ.nd (b6 ac)) (ae (fH PassesOwn.never rfl (ak 0) (aI (i:=2) cZ.nd) (af (dO (ww (ak 1) (jX rfl (eI (N:=["number"]) (cap:=[none]) rfl rfl rfl rfl trivial rfl rfl trivial) (ak 2) (λ_ _ _ _=>(aI (i:=0) (show List.Nodup (["number"]:List Str) from by decide +kernel))) (λ_ _ _ _=>(kx (dz (dq bp hr (ar 0 ac))))) (λ_ _ _ _=>(ak 0))))))) (af (fH PassesOwn.never rfl (zq (ak 1) (kT am) kE) (aI (i:=3) cZ.nd) (af (aA (kx (dz (dq iS hr (aa (aJ 1) (ar 3 ac))))) (af ie) aB)))))),λds S k h=>?_⟩)
 ·obtain⟨_,_,rfl,_⟩:=h
  rfl
 ·obtain⟨u,pts,rfl,hu,hp,hl,w⟩:=h;refine⟨cD,λq hq=>?_⟩
  refine⟨(pts,none),rfl,?_⟩;have big:∀ n:Nat,n<=300->n<=sizeLine:=λn h=>GO h (Gu (rfl:Nat.ble 300 sizeLine=true))
  have big':∀ n:Nat,n < 300->n < sizeLine:=λn h=>Gp h (Gu (rfl:Nat.ble 300 sizeLine=true))
  refine mH (λr L S'=>∃ xs l2 l3,L=[some (.tup pts),some (.ref q),l2,l3]/\bU S S'/\S' q=some (.lst xs)/\(∀ x∈xs,CZ u x)/\xs.length+2*r.length<=200/\(∀ p∈r,vm u p)) (λ_ _ _ _=>trivial) ?_ ?_ pts _ _ ⟨[],none,none,rfl,bU.new hq,ao,(λ_ z=>by cases z),(by show 0+2*pts.length<=200; omega),hp⟩
  ·rintro d r L S1 Nx ⟨xs,l2,l3,rfl,e,hS1,hx,hl1,hp1⟩ hN;obtain⟨a,b,c,d,rfl,s1,s2⟩:=hp1 _ Gn;have hl1:xs.length+2*(r.length+1)<=200:=hl1;refine⟨⟨xs,hS1⟩,([N u a b,N u c d],none),rfl,λp hp2=>?_⟩
   have qp:q≠p:=λz=>by subst z; rw [hS1] at hp2; cases hp2
   have sp:S p=none:=e.none hp2;have fin:∀ (es:List D) (S2:DH),bU S S2->S2 q=some (.lst xs)->S2 p=some (.lst es)->es.length<=2->(∀ x∈es,CZ u x)->∃ ds es',S2 q=some (.lst ds)/\S2 p=some (.lst es')/\ds.length+es'.length<=sizeLine/\Nx [some (.tup pts),some (.ref q),some (.tup [N u a b,N u c d]),l3] (put S2 q (.lst (ds++es'))):=λes S2 e2 h1 h2 h3 h4=>
    ⟨xs,es,h1,h2,big _ (by omega),hN _ _ ⟨xs++es,_,_,rfl,e2.put hq,ao,λx hx2=>(List.mem_append.mp hx2).elim (hx x) (h4 x),by rw [Gx]; omega,λp hp3=>hp1 p (Go _ hp3)⟩⟩
   have r1:b≠0->CZ u (N u a b):=λh=>⟨a,b,rfl,h,s1⟩
   have r2:d≠0->CZ u (N u c d):=λh=>⟨c,d,rfl,h,s2⟩
   have nz:∀ {b:Rat},¬ ss b*u=0->b≠0:=λh z=>h ((jH hu.pos).mpr z)
   have e0:bU S (put S1 p (.lst [])):=e.put sp;have q0:put S1 p (.lst []) q=some (.lst xs):=by rw [dQ qp]; exact hS1
   refine⟨trivial,_,_,rfl,i6 (λh1=>⟨ao,big' 0 (by decide),trivial,_,_,rfl,i6 (λh2=>⟨ao,big' 1 (by decide),trivial,?_⟩) (λh2=>⟨trivial,?_⟩)⟩) (λh1=>⟨trivial,_,_,rfl,i6 (λh2=>⟨ao,big' 0 (by decide),trivial,?_⟩) (λh2=>⟨trivial,?_⟩)⟩)⟩
   ·exact fin [N u a b,N u c d] _ ((e0.put sp).put sp) (by rw [dQ qp,dQ qp]; exact q0) ao (by show 2<=2; decide) (λx hx2=>by
     simp only [Gk,Gs,or_false] at hx2;rcases hx2 with rfl | rfl
     ·exact r1 (nz h1)
     ·exact r2 (nz h2))
   ·exact fin [N u a b] _ (e0.put sp) (by rw [dQ qp]; exact q0) ao (by show 1<=2; decide) (λx hx2=>by
     simp only [Gk,Gs,or_false] at hx2;subst hx2;exact r1 (nz h1))
   ·exact fin [N u c d] _ (e0.put sp) (by rw [dQ qp]; exact q0) ao (by show 1<=2; decide) (λx hx2=>by
     simp only [Gk,Gs,or_false] at hx2;subst hx2;exact r2 (nz h2))
   ·exact fin [] _ e0 q0 ao (by show 0<=2; decide) (λx hx2=>by cases hx2)
  ·rintro L S1 ⟨xs,l2,l3,rfl,e,hS1,hx,_,_⟩;refine⟨xs,hS1,λp hp2=>⟨(mK xs (some 1) none,some p),by simp only [aQ,ao],?_⟩⟩
   have qp:q≠p:=λz=>by subst z; rw [hS1] at hp2; cases hp2
   refine mH (λr L S2=>∃ l2 l3,L=[some (.tup pts),some (.ref q),l2,l3]/\bU S S2/\S2 q=some (.lst xs)/\S2 p=some (.lst (mK xs (some 1) none))/\(xs=[]->r=[])/\∀ x∈r,CZ u x) (λr L S2 z9=>by obtain⟨_,_,_,_,_,z,_⟩:=z9; exact z) ?_ (λL S2 z9=>by obtain⟨_,_,_,e2,_⟩:=z9; exact w S2 e2) _ _ _ ⟨l2,l3,rfl,e.put (e.none hp2),(dQ qp).trans hS1,ao,(λz=>by subst z; rfl),λx hx2=>hx x (wm hx2)⟩
   rintro d r L S2 Nx ⟨l2,l3,rfl,e2,h1,h2,h3,hr⟩ hN;obtain⟨a,b,rfl,b0,sb⟩:=hr _ Gn;cases xs with
   | nil=>cases h3 rfl
   | cons x0 xr=>
    obtain⟨a',b',rfl,b0',sb'⟩:=hx _ Gn;exact⟨_,_,h1,eG,u,a',b',a,b,rfl,hu.pos,hu.sz,sb',sb,B8 (λz=>by cases z) (λ_=>hN _ _ ⟨_,_,rfl,e2,h1,h2,(λz=>by cases z),λx hx2=>hr x (Go _ hx2)⟩)⟩
def Wy (κ:Hi) (P m n:Nat) (X:Q):Prop:=match κ with
 | true=>X.2=0/\Sz P X.1
 | false=>Sz m X.1/\Sz n X.2
theorem Wy.mono {κ:Hi} {P m n P' m' n':Nat} {X:Q} (h:Wy κ P m n X) (h1:P<=P') (h2:m<=m') (h3:n<=n'):Wy κ P' m' n' X:=by
 cases κ
 ·exact⟨h.1.mono h2,h.2.mono h3⟩
 ·exact⟨h.1,h.2.mono h1⟩
theorem Wy.a {κ:Hi} {P m n k:Nat} {X:Q} (h:Wy κ P m n X) (h1:P<=k) (h2:m<=k):Sz k X.1:=by
 cases κ
 ·exact h.1.mono h2
 ·exact h.2.mono h1
theorem Wy.b {κ:Hi} {P m n k:Nat} {X:Q} (h:Wy κ P m n X) (h1:1<=k) (h2:n<=k):Sz k X.2:=by
 cases κ
 ·exact h.2.mono h2
 ·rw [h.1]; exact Sz.zero.mono h1
theorem Wy.add {κ:Hi} {P m n P' m' n':Nat} {X Y:Q} (h:Wy κ P m n X) (g:Wy κ P' m' n' Y):Wy κ (P+P'+1) (m+m'+1) (n+n'+1) (qa X Y):=by
 cases κ
 ·exact⟨h.1.add g.1,h.2.add g.2⟩
 ·exact⟨by show X.2+Y.2=0; rw [h.1,g.1]; grind,h.2.add g.2⟩
theorem Wy.sub {κ:Hi} {P m n P' m' n':Nat} {X Y:Q} (h:Wy κ P m n X) (g:Wy κ P' m' n' Y):Wy κ (P+P'+1) (m+m'+1) (n+n'+1) (qs X Y):=by
 cases κ
 ·exact⟨h.1.sub g.1,h.2.sub g.2⟩
 ·exact⟨by show X.2 - Y.2=0; rw [h.1,g.1]; grind,h.2.sub g.2⟩
theorem Wy.plain {κ:Hi} {n:Nat} {p:Rat} (h:Sz n p):Wy κ n n 1 (qo p):=by
 cases κ
 ·exact⟨h,Sz.zero⟩
 ·exact⟨rfl,h⟩
theorem Wy.scale {κ:Hi} {P m n k:Nat} {u p:Rat} {X:Q} (hp:Sz k p) (h:Wy κ P m n X):Wy κ (k+P) (k+m) (k+n) (qm u (qo p) X):=by
 have e1:(qm u (qo p) X).1=p*X.1:=by show p*X.1+0*X.2*u=_; grind
 have e2:(qm u (qo p) X).2=p*X.2:=by show p*X.2+0*X.1=_; grind
 cases κ
 ·exact⟨by rw [e1]; exact hp.mul h.1,by rw [e2]; exact hp.mul h.2⟩
 ·exact⟨by rw [e2,h.1]; grind,by rw [e1]; exact hp.mul h.2⟩
theorem Wy.cross {κ:Hi} {P m n P' m' n' k:Nat} {X Y:Q} (h:Wy κ P m n X) (g:Wy κ P' m' n' Y) (hk:m+n'+(n+m')+1<=k):Sz k (X.1*Y.2+X.2*Y.1):=by
 cases κ
 ·exact((h.1.mul g.2).add (h.2.mul g.1)).mono hk
 ·rw [h.1,g.1,show X.1*0+0*Y.1=(0:Rat) by grind]; exact Sz.zero.mono (by omega)
theorem Wy.part {κ:Hi} {P m n P' m' n' k:Nat} {u:Rat} {X Y:Q} (hu:Sz 600 u) (h:Wy κ P m n X) (g:Wy κ P' m' n' Y) (h1:P+P'<=k) (hk:m+m'+(n+n'+600)+1<=k):Sz k (X.1*Y.1+X.2*Y.2*u):=by
 cases κ
 ·exact((h.1.mul g.1).add ((h.2.mul g.2).mul hu)).mono hk
 ·rw [h.1,show X.1*Y.1+0*Y.2*u=X.1*Y.1 by grind]; exact(h.2.mul g.2).mono h1
theorem Wy.twice {κ:Hi} {P m n k:Nat} {X:Q} (h:Wy κ P m n X) (hk:m+n+2<=k):Sz k (X.1*X.2+X.2*X.1):=by
 have two:Sz 2 (2:Rat):=⟨by decide,by decide⟩
 cases κ
 ·rw [show X.1*X.2+X.2*X.1=X.1*X.2*2 by grind]; exact((h.1.mul h.2).mul two).mono hk
 ·rw [h.1,show X.1*0+0*X.1=(0:Rat) by grind]; exact Sz.zero.mono (by omega)
abbrev W1 (κ:Hi) (X:Q):Prop:=Wy κ 840 260 45 X
abbrev W2 (κ:Hi) (X:Q):Prop:=Wy κ 1700 540 60 X
structure Pz (X:Q):Prop where
 a:Sz 3000 X.1
 b:Sz 100 X.2
theorem vm.of {u:Rat} {x y:Q} (hx:Pz x) (hy:Pz y):vm u (Pq u x y):=⟨_,_,_,_,rfl,hx.b.mono (by decide),hy.b.mono (by decide)⟩
def dr:bO:=λds S k=>∃ (u:Rat) (x y z v:Q),ds=[Pq u x y,Pq u z v]/\Fd u/\Pz x/\Pz y/\Pz z/\Pz v/\k (Pq u (qs z x) (qs v y)) S
theorem ni:aq ["one","other"] ["one","other"] (ai gC):=cV
theorem m_ (Fn:FN K "way_between" gC f fd) (bu:aM P w K mg base "root_minus" 6 fC):
  aH P w K mg base cm 7 f fd ["one","other"] (cn K dr):=by
 refine Fn.okJ ni (λds S k h=>?_) (λcdv A outer s H E hr=>⟨_,(af (ah (aC (aa (dq bu hr (aa (aJ 1) (aa (aJ 0) ac))) (aa (dq bu hr (aa (aJ 1) (aa (aJ 0) ac))) ac))))),λds S k h=>?_⟩)
 ·obtain⟨_,_,_,_,_,rfl,_⟩:=h
  rfl
 ·obtain⟨u,x,y,z,v,rfl,hu,hx,hy,hz,hv,w⟩:=h;exact⟨u,_,_,_,_,rfl,hu,hz.a.mono (by decide),hx.a.mono (by decide),hz.b.mono (by decide),hx.b.mono (by decide),(hz.b.sub hx.b).mono (by decide),u,_,_,_,_,rfl,hu,hv.a.mono (by decide),hy.a.mono (by decide),hv.b.mono (by decide),hy.b.mono (by decide),(hv.b.sub hy.b).mono (by decide),cD,w⟩
def eZ:bO:=λds S k=>∃ (κ:Hi) (u:Rat) (x y:Q),ds=[Pq u x y]/\Fd u/\W2 κ x/\W2 κ y/\Sz 900 (aK u x y).2/\k (N u (aK u x y).1 (aK u x y).2) S
theorem lr:aq ["way"] ["way"] (ai fk):=cV
theorem lz (Fn:FN K "square_of_way" fk f fd) (bv:aM P w K mg base "root_plus" 5 gk) (aX:aM P w K mg base "root_times" 5 fB):
  aH P w K mg base cm 6 f fd ["way"] (cn K eZ):=by
 refine Fn.okJ lr (λds S k h=>?_) (λcdv A outer s H E hr=>⟨_,(af (ah (dq bv hr (aa (dq aX hr (aa (aJ 0) (aa (aJ 0) ac))) (aa (dq aX hr (aa (aJ 0) (aa (aJ 0) ac))) ac))))),λds S k h=>?_⟩)
 ·obtain⟨_,_,_,_,rfl,_⟩:=h
  rfl
 ·obtain⟨κ,u,x,y,rfl,hu,hx,hy,hr,w⟩:=h;have a1:=hx.a (k:=1900) (by decide) (by decide)
  have b1:=hx.b (k:=100) (by decide) (by decide)
  have a2:=hy.a (k:=1900) (by decide) (by decide)
  have b2:=hy.b (k:=100) (by decide) (by decide)
  have t1:=hx.twice (k:=1000) (by decide)
  have t2:=hy.twice (k:=1000) (by decide)
  exact⟨u,_,_,_,_,rfl,hu,a1,a1,b1,b1,t1.mono (by decide),u,_,_,_,_,rfl,hu,a2,a2,b2,b2,t2.mono (by decide),u,_,_,_,_,rfl,hu,hx.part hu.sz hx (by decide) (by decide),hy.part hu.sz hy (by decide) (by decide),t1,t2,hr,w⟩
theorem x6 {u:Rat} {X:Q}:qm u (qo 0) X=qo 0:=by
 unfold qm qo;apply Gw <;> dsimp only <;> grind
def oS:bO:=λds S k=>∃ (κ:Hi) (u:Rat) (x y z v:Q) (p q:Rat),ds=[Pq u x y,Pq u z v,fr p,fr q]/\Fd u/\Pz x/\Pz y/\Pz z/\Pz v/\W1 κ (qs z x)/\W1 κ (qs v y)/\Sz 22 p/\q=0/\∀ S',bU S S'->k (Pq u (rp u x y z v (qo p) (qo q)) (sE u x y z v (qo p) (qo q))) S'
theorem eJ:aq ["one","other","along","left","way","ahead","aside","x","y"] ["one","other","along","left"] (ai lp):=cV
theorem sS (Fn:FN K "like_at" lp f fd) (aO:aM P w K mg base "ask_one_field" 5 cC) (aV:aM P w K mg base "way_between" 7 dr) (bu:aM P w K mg base "root_minus" 6 fC) (aX:aM P w K mg base "root_times" 5 fB) (bv:aM P w K mg base "root_plus" 5 gk) (aL:lL K mg "NOUGHT" [0,1]):
  aH P w K mg base cm 8 f fd ["one","other","along","left"] (cn K oS):=by
 refine Fn.okJ eJ (λds S k h=>?_) (λcdv A outer s H E hr=>⟨_,(ae (dO (dq aO hr (aa (aC (ar 0 (ar 1 ac))) ac))) (ae (aj (i:=4) eJ.nd (dq aV hr (ar 0 (ar 1 ac)))) (ae (aj (i:=5) eJ.nd (aC (ar 2 (aa (dP aL rfl) ac)))) (ae (aj (i:=6) eJ.nd (aC (ar 3 (aa (dP aL rfl) ac)))) (ae (aj (i:=7) eJ.nd (dq bu hr (aa (dq aX hr (ar 5 (aa (aJ 4) ac))) (aa (dq aX hr (ar 6 (aa (aJ 4) ac))) ac)))) (ae (aj (i:=8) eJ.nd (dq bv hr (aa (dq aX hr (ar 5 (aa (aJ 4) ac))) (aa (dq aX hr (ar 6 (aa (aJ 4) ac))) ac)))) (af (ah (aC (aa (dq bv hr (aa (aJ 0) (ar 7 ac))) (aa (dq bv hr (aa (aJ 0) (ar 8 ac))) ac))))))))))),λds S k h=>?_⟩)
 ·obtain⟨_,_,_,_,_,_,_,_,rfl,_⟩:=h
  rfl
 ·obtain⟨κ,u,x,y,z,v,p,q,rfl,hu,hx,hy,hz,hv,h1,h2,hp,rfl,w⟩:=h;refine⟨cD,u,[Pq u x y,Pq u z v],rfl,hu,?_,(by show 2<=100; decide),λS' e=>?_⟩
  ·intro p hp;simp only [Gk,Gs,or_false] at hp;rcases hp with rfl | rfl
   ·exact vm.of hx hy
   ·exact vm.of hz hv
  ·have gp:Wy κ 22 22 1 (qo p):=Wy.plain hp;have gq:Wy κ 1 1 1 (qo 0):=Wy.plain Sz.zero;have m1:Wy κ 862 282 67 (qm u (qo p) (qs z x)):=h1.scale hp;have m2:Wy κ 1 1 1 (qm u (qo 0) (qs v y)):=by rw [x6]; exact Wy.plain Sz.zero
   have m3:Wy κ 862 282 67 (qm u (qo p) (qs v y)):=h2.scale hp;have m4:Wy κ 1 1 1 (qm u (qo 0) (qs z x)):=by rw [x6]; exact Wy.plain Sz.zero
   have d1:=m1.sub m2;have d2:=m3.add m4;have pp:Sz 1900 p:=hp.mono (by decide)
   have qq:Sz 1900 (0:Rat):=Sz.zero.mono (by decide)
   have z0:Sz 100 0:=Sz.zero.mono (by decide)
   have a1:=h1.a (k:=1900) (by decide) (by decide)
   have b1:=h1.b (k:=100) (by decide) (by decide)
   have a2:=h2.a (k:=1900) (by decide) (by decide)
   have b2:=h2.b (k:=100) (by decide) (by decide)
   refine⟨u,x,y,z,v,rfl,hu,hx,hy,hz,hv,cD,cD,?_⟩;refine⟨u,_,_,_,_,congrArg (λt=>[t,_]) (eS (u:=u)),hu,pp,a1,z0,b1,gp.cross h1 (by decide),?_⟩
   refine⟨u,_,_,_,_,congrArg (λt=>[t,_]) (eS (u:=u)),hu,qq,a2,z0,b2,gq.cross h2 (by decide),?_⟩
   refine⟨u,_,_,_,_,rfl,hu,m1.a (by decide) (by decide),m2.a (by decide) (by decide),m1.b (by decide) (by decide),m2.b (by decide) (by decide),d1.b (by decide) (by decide),?_⟩
   refine⟨u,_,_,_,_,congrArg (λt=>[t,_]) (eS (u:=u)),hu,pp,a2,z0,b2,gp.cross h2 (by decide),?_⟩
   refine⟨u,_,_,_,_,congrArg (λt=>[t,_]) (eS (u:=u)),hu,qq,a1,z0,b1,gq.cross h1 (by decide),?_⟩
   refine⟨u,_,_,_,_,rfl,hu,m3.a (by decide) (by decide),m4.a (by decide) (by decide),m3.b (by decide) (by decide),m4.b (by decide) (by decide),d2.b (by decide) (by decide),?_⟩
   have e1:=d1.b (k:=100) (by decide) (by decide)
   have e2:=d2.b (k:=100) (by decide) (by decide)
   refine⟨u,_,_,_,_,rfl,hu,hx.a.mono (by decide),d1.a (by decide) (by decide),hx.b.mono (by decide),e1.mono (by decide),(hx.b.add e1).mono (by decide),?_⟩
   exact⟨u,_,_,_,_,rfl,hu,hy.a.mono (by decide),d2.a (by decide) (by decide),hy.b.mono (by decide),e2.mono (by decide),(hy.b.add e2).mono (by decide),cD,w S' e⟩
def o_:bO:=λds S k=>∃ (κ:Hi) (u:Rat) (x y z v a b:Q),ds=[Pq u x y,Pq u z v,Pq u a b]/\Fd u/\Pz x/\Pz y/\Pz z/\Pz v/\Pz a/\Pz b/\W1 κ (qs z x)/\W1 κ (qs v y)/\W2 κ (qs a x)/\W2 κ (qs b y)/\Sz 1900 (iz u x y z v a b).1/\Sz 900 (iz u x y z v a b).2/\∀ S',bU S S'->k (.int (j5 (iz u x y z v a b).1 (iz u x y z v a b).2 u)) S'
theorem j6:aq ["one","other","third","way","beside"] ["one","other","third"] (ai lq):=cV
theorem tE (Fn:FN K "side_of" lq f fd) (aO:aM P w K mg base "ask_one_field" 5 cC) (aV:aM P w K mg base "way_between" 7 dr) (jk:aM P w K mg base "root_sign" 4 ma) (bu:aM P w K mg base "root_minus" 6 fC) (aX:aM P w K mg base "root_times" 5 fB):
  aH P w K mg base cm 8 f fd ["one","other","third"] (cn K o_):=by
 refine Fn.okJ j6 (λds S k h=>?_) (λcdv A outer s H E hr=>⟨_,(ae (dO (dq aO hr (aa (aC (ar 0 (ar 1 (ar 2 ac)))) ac))) (ae (aj (i:=3) j6.nd (dq aV hr (ar 0 (ar 1 ac)))) (ae (aj (i:=4) j6.nd (dq aV hr (ar 0 (ar 2 ac)))) (af (ah (dq jk hr (aa (dq bu hr (aa (dq aX hr (aa (aJ 3) (aa (aJ 4) ac))) (aa (dq aX hr (aa (aJ 3) (aa (aJ 4) ac))) ac))) ac))))))),λds S k h=>?_⟩)
 ·obtain⟨_,_,_,_,_,_,_,_,rfl,_⟩:=h
  rfl
 ·obtain⟨κ,u,x,y,z,v,a,b,rfl,hu,hx,hy,hz,hv,ha,hb,h1,h2,h3,h4,r1,r2,w⟩:=h;refine⟨cD,u,[Pq u x y,Pq u z v,Pq u a b],rfl,hu,?_,(by show 3<=100; decide),λS' e=>?_⟩
  ·intro p hp;simp only [Gk,Gs,or_false] at hp;rcases hp with rfl | rfl | rfl
   ·exact vm.of hx hy
   ·exact vm.of hz hv
   ·exact vm.of ha hb
  ·refine⟨u,x,y,z,v,rfl,hu,hx,hy,hz,hv,?_⟩;refine⟨u,x,y,a,b,rfl,hu,hx,hy,ha,hb,?_⟩;refine⟨u,_,_,_,_,rfl,hu,h1.a (by decide) (by decide),h4.a (by decide) (by decide),h1.b (by decide) (by decide),h4.b (by decide) (by decide),h1.cross h4 (by decide),?_⟩
   refine⟨u,_,_,_,_,rfl,hu,h2.a (by decide) (by decide),h3.a (by decide) (by decide),h2.b (by decide) (by decide),h3.b (by decide) (by decide),h2.cross h3 (by decide),?_⟩
   refine⟨u,_,_,_,_,rfl,hu,h1.part hu.sz h4 (by decide) (by decide),h2.part hu.sz h3 (by decide) (by decide),h1.cross h4 (by decide),h2.cross h3 (by decide),r2,?_⟩
   exact⟨u,_,_,rfl,hu,r1,r2.mono (by decide),w S' e⟩
def W (x y:Rat):D:=.tup [fr x,fr y]
def PP (x y:Rat):D:=.tup [.tup [fr x,fr 0],.tup [fr y,fr 0]]
noncomputable def MP (x y a b s:Rat):D:=.tup [yx x (ss a*s),yx y (ss b*s)]
noncomputable def iJ (x y a b s:Rat):List D:=if s < 0 then [] else if s=0 then [PP x y] else [MP x y a b s,MP x y (-a) (-b) s]
def eL:bO:=λds S k=>∃ x y:Rat,ds=[W x y]/\k (PP x y) S
theorem nG:aq ["place"] ["place"] (ai gA):=cV
theorem mY (Fn:FN K "plain_point" gA f fd) (aL:lL K mg "NOUGHT" [0,1]):
  aH P w K mg base cm 1 f fd ["place"] (cn K eL):=by
 refine Fn.okJ nG (λds S k h=>?_) (λcdv A outer s H E hr=>⟨_,(af (ah (aC (aa (aC (aa (aJ 0) (aa (dP aL rfl) ac))) (aa (aC (aa (aJ 0) (aa (dP aL rfl) ac))) ac))))),λds S k h=>?_⟩)
 ·obtain⟨_,_,rfl,_⟩:=h
  rfl
 ·obtain⟨x,y,rfl,w⟩:=h;exact⟨cD,cD,cD,w⟩
def gX:bO:=λds S k=>∃ x y:Rat,ds=[PP x y]/\k (W x y) S
theorem rN:aq ["point"] ["point"] (ai j0):=cV
theorem sD (Fn:FN K "place_of" j0 f fd):
  aH P w K mg base cm 1 f fd ["point"] (cn K gX):=by
 refine Fn.okJ rN (λds S k h=>?_) (λcdv A outer s H E hr=>⟨_,(af (ah (aC (aa (cN eh (aJ 0) am Zf) (aa (cN eh (aJ 0) am Zf) ac))))),λds S k h=>?_⟩)
 ·obtain⟨_,_,rfl,_⟩:=h
  rfl
 ·obtain⟨x,y,rfl,w⟩:=h;exact⟨cD,w⟩
def jh:bO:=λds S k=>∃ x y z v:Rat,ds=[W x y,W z v]/\Sz 4000 x/\Sz 4000 y/\Sz 4000 z/\Sz 4000 v/\k (W (z - x) (v - y)) S
theorem qW:aq ["one","other"] ["one","other"] (ai i4):=cV
theorem pO (Fn:FN K "plain_way" i4 f fd) (bq:aM P w K mg base "minus" 3 gZ):
  aH P w K mg base cm 4 f fd ["one","other"] (cn K jh):=by
 refine Fn.okJ qW (λds S k h=>?_) (λcdv A outer s H E hr=>⟨_,(af (ah (aC (aa (dq bq hr (aa (aJ 1) (aa (aJ 0) ac))) (aa (dq bq hr (aa (aJ 1) (aa (aJ 0) ac))) ac))))),λds S k h=>?_⟩)
 ·obtain⟨_,_,_,_,rfl,_⟩:=h
  rfl
 ·obtain⟨x,y,z,v,rfl,hx,hy,hz,hv,w⟩:=h;exact⟨z,x,rfl,hz,hx,v,y,rfl,hv,hy,cD,w⟩
def dX:bO:=λds S k=>∃ x y z v:Rat,ds=[W x y,W z v]/\Sz 900 x/\Sz 900 y/\Sz 900 z/\Sz 900 v/\k (fr (x*z+y*v)) S
theorem jY:aq ["one","other"] ["one","other"] (ai dU):=cV
theorem kh (Fn:FN K "product_of_ways" dU f fd) (a9:aM P w K mg base "plus" 3 gx) (aF:aM P w K mg base "times" 3 dY):
  aH P w K mg base cm 4 f fd ["one","other"] (cn K dX):=by
 refine Fn.okJ jY (λds S k h=>?_) (λcdv A outer s H E hr=>⟨_,(af (ah (dq a9 hr (aa (dq aF hr (aa (aJ 0) (aa (aJ 1) ac))) (aa (dq aF hr (aa (aJ 0) (aa (aJ 1) ac))) ac))))),λds S k h=>?_⟩)
 ·obtain⟨_,_,_,_,rfl,_⟩:=h
  rfl
 ·obtain⟨x,y,z,v,rfl,hx,hy,hz,hv,w⟩:=h;exact⟨x,z,rfl,hx.mono (by decide),hz.mono (by decide),y,v,rfl,hy.mono (by decide),hv.mono (by decide),_,_,rfl,(hx.mul hz).mono (by decide),(hy.mul hv).mono (by decide),w⟩
def mB:bO:=λds S k=>∃ x y a b t:Rat,ds=[W x y,W a b,fr t]/\Sz 900 x/\Sz 900 y/\Sz 900 a/\Sz 900 b/\Sz 900 t/\k (W (x+a*t) (y+b*t)) S
theorem xU:aq ["place","way","by"] ["place","way","by"] (ai qP):=cV
theorem xi (Fn:FN K "moved" qP f fd) (a9:aM P w K mg base "plus" 3 gx) (aF:aM P w K mg base "times" 3 dY):
  aH P w K mg base cm 4 f fd ["place","way","by"] (cn K mB):=by
 refine Fn.okJ xU (λds S k h=>?_) (λcdv A outer s H E hr=>⟨_,(af (ah (aC (aa (dq a9 hr (aa (aJ 0) (aa (dq aF hr (aa (aJ 1) (ar 2 ac))) ac))) (aa (dq a9 hr (aa (aJ 0) (aa (dq aF hr (aa (aJ 1) (ar 2 ac))) ac))) ac))))),λds S k h=>?_⟩)
 ·obtain⟨_,_,_,_,_,rfl,_⟩:=h
  rfl
 ·obtain⟨x,y,a,b,t,rfl,hx,hy,ha,hb,ht,w⟩:=h;exact⟨a,t,rfl,ha.mono (by decide),ht.mono (by decide),_,_,rfl,hx.mono (by decide),(ha.mul ht).mono (by decide),b,t,rfl,hb.mono (by decide),ht.mono (by decide),_,_,rfl,hy.mono (by decide),(hb.mul ht).mono (by decide),cD,w⟩
def iA:bO:=λds S k=>∃ x y a b s:Rat,ds=[W x y,W a b,fr s]/\Sz 400 x/\Sz 400 y/\Sz 60 a/\Sz 60 b/\Sz 600 s/\∀ S',bU S S'->k (MP x y a b s) S'
theorem ce:aq ["place","way","square","numbers","part","portion","under"] ["place","way","square"] (ai fq):=cV
theorem lx (Fn:FN K "moved_by_root" fq f fd) (aF:aM P w K mg base "times" 3 dY) (tD:aM P w K mg base "made" 4 wt) (aU:aM P w K mg base "with_sign_of" 2 cP) (xO:mg "zip"=none):
  aH P w K mg base cm 5 f fd ["place","way","square"] (cn K iA):=by
 refine Fn.okJ ce (λds S k h=>?_) (λcdv A outer s H E hr=>⟨_,(ae (aj (i:=3) ce.nd (b6 ac)) (ae (uN PassesOwn.never rfl rfl xO (ar 0 (ar 1 ac)) (kF (n:=2) rfl (cj (aI (i:=4) ce.nd) (cj (aI (i:=5) ce.nd) js))) (ae (aj (i:=6) ce.nd (dq aF hr (aa (dq aF hr (ar 5 (ar 5 ac))) (ar 2 ac)))) (af (dO (AL (ak 3) (dq tD hr (ar 4 (aa (dq aU hr (ar 6 (ar 5 ac))) ac)))))))) (af (ah (aC (aa (aJ 3) (aa (aJ 3) ac))))))),λds S k h=>?_⟩)
 ·obtain⟨_,_,_,_,_,rfl,_⟩:=h
  rfl
 ·obtain⟨x,y,a,b,s,rfl,hx,hy,ha,hb,hs,w⟩:=h;have big':∀ n:Nat,n < 300->n < sizeLine:=λn h=>Gp h (Gu (rfl:Nat.ble 300 sizeLine=true))
  refine⟨cD,λq hq=>⟨([fr x,fr y],none),([fr a,fr b],none),rfl,rfl,?_⟩⟩
  have m1:=(ha.mul ha).mul hs;have m2:=(hb.mul hb).mul hs;have s1:Sz 1000 (sg (a*a*s) a):=m1.sg.mono (by decide)
  have s2:Sz 1000 (sg (b*b*s) b):=m2.sg.mono (by decide)
  refine⟨⟨trivial,trivial⟩,([fr x,fr a],none),rfl,rfl,rfl,a,a,rfl,ha.mono (by decide),ha.mono (by decide),_,s,rfl,(ha.mul ha).mono (by decide),hs.mono (by decide),?_⟩
  refine⟨⟨_,ao⟩,_,a,rfl,x,_,rfl,hx.mono (by decide),s1,[],ao,big' 0 (by decide),?_⟩
  refine⟨⟨trivial,trivial⟩,([fr y,fr b],none),rfl,rfl,rfl,b,b,rfl,hb.mono (by decide),hb.mono (by decide),_,s,rfl,(hb.mul hb).mono (by decide),hs.mono (by decide),?_⟩
  refine⟨⟨_,ao⟩,_,b,rfl,y,_,rfl,hy.mono (by decide),s2,_,ao,big' 1 (by decide),?_⟩
  refine⟨⟨trivial,trivial⟩,_,_,ao,eG,_,_,ao,iN,cD,?_⟩;rw [xh,xh];exact w _ (((bU.new hq).put hq).put hq)
def iw:bO:=λds S k=>∃ x y a b s:Rat,ds=[W x y,W a b,fr s]/\Sz 400 x/\Sz 400 y/\Sz 60 a/\Sz 60 b/\Sz 600 s/\∀ S' p,bU S S'->S' p=none->k (.ref p) (put S' p (.lst (iJ x y a b s)))
theorem jR:aq ["place","way","square","against"] ["place","way","square"] (ai gR):=cV
theorem nZ (Fn:FN K "both_moved" gR f fd) (br:aM P w K mg base "plain_point" 1 eL) (aP:aM P w K mg base "negative" 1 dD) (dw:aM P w K mg base "moved_by_root" 5 iA):
  aH P w K mg base cm 6 f fd ["place","way","square"] (cn K iw):=by
 refine Fn.okJ jR (λds S k h=>?_) (λcdv A outer s H E hr=>⟨_,(ae (aA (au qG (aJ 2) am (aw _)) (af (ah (b6 ac))) aB) (ae (aA (au kZ (aJ 2) am (aw _)) (af (ah (b6 (aa (dq br hr (ar 0 ac)) ac)))) aB) (ae (aj (i:=3) jR.nd (aC (aa (dq aP hr (aa (aJ 1) ac)) (aa (dq aP hr (aa (aJ 1) ac)) ac)))) (af (ah (b6 (aa (dq dw hr (ar 0 (ar 1 (ar 2 ac)))) (aa (dq dw hr (ar 0 (ar 3 (ar 2 ac)))) ac)))))))),λds S k h=>?_⟩)
 ·obtain⟨_,_,_,_,_,rfl,_⟩:=h
  rfl
 ·obtain⟨x,y,a,b,s,rfl,hx,hy,ha,hb,hs,w⟩:=h;refine aR (λn=>?_) (λn=>aR (λz=>?_) (λz=>?_))
  ·have w':=λp hp=>w S p (bU.refl S) hp
   rw [show iJ x y a b s=[] from if_pos ((cq s).mp n)] at w'
   exact⟨cD,w'⟩
  ·have z:s=0:=Rat.num_eq_zero.mp z;have w':=λp hp=>w S p (bU.refl S) hp
   rw [show iJ x y a b s=[PP x y] by unfold iJ; rw [if_neg (by rw [z]; decide),if_pos z]] at w'
   exact⟨x,y,rfl,cD,w'⟩
  ·have z:s≠0:=λq=>z (by rw [q]; rfl)
   refine⟨a,rfl,b,rfl,cD,x,y,a,b,s,rfl,hx,hy,ha,hb,hs,λS1 e1=>⟨x,y,-a,-b,s,rfl,hx,hy,ha.neg,hb.neg,hs,λS2 e2=>⟨cD,λp hp=>?_⟩⟩⟩
   have w':=w S2 p (e1.trans e2) hp;rw [show iJ x y a b s=[MP x y a b s,MP x y (-a) (-b) s] by unfold iJ; rw [if_neg (λq=>n ((cq s).mpr q)),if_neg z]] at w'
   exact w'
def fU:bO:=λds S k=>∃ a b:Rat,ds=[W a b]/\Sz 900 a/\Sz 900 b/\a*a+b*b≠0/\k (fr (a*a+b*b)) S
theorem b_:aq ["way","square"] ["way"] (ai cr):=cV
theorem jL (Fn:FN K "square_of_unlike" cr f fd) (bF:aM P w K mg base "product_of_ways" 4 dX):
  aH P w K mg base cm 5 f fd ["way"] (cn K fU):=by
 refine Fn.okJ b_ (λds S k h=>?_) (λcdv A outer s H E hr=>⟨_,(ae (aj (i:=1) b_.nd (dq bF hr (ar 0 (ar 0 ac)))) (ae (aA (au kZ (aJ 1) am (aw _)) (af ie) aB) (af (ah (ak 1))))),λds S k h=>?_⟩)
 ·obtain⟨_,_,rfl,_⟩:=h
  rfl
 ·obtain⟨a,b,rfl,ha,hb,h0,w⟩:=h;exact⟨a,b,a,b,rfl,ha,hb,ha,hb,aR (λz=>absurd (Rat.num_eq_zero.mp z) h0) (λ_=>w)⟩
set_option maxHeartbeats 4000000
def fv (bh:G_):mh:=λds S k x=>∃ a b:Rat,ds=[W a b]/\Sz 900 a/\Sz 900 b/\(a*a+b*b=0->x bh S)/\(a*a+b*b≠0->k (fr (a*a+b*b)) S)
theorem jx {P:Hc} {w:He} {K:Fg} {mg:Str->Ha G9} {base:Hf} {f:G_} {fd:FuncData} {bh:G_} (Fn:FN K "square_of_unlike" cr f fd) (bF:aM P w K mg base "product_of_ways" 4 dX) (gJ:mg "NoMeet"=some (.ref bh)) (xM:PySem.W.excIn K bh [.type "ValueError",.type "Exception",.type "BaseException",.type "object"] "ValueError.__new__"=true):
  aH P w K mg base (iB P w) 5 f fd ["way"] (zO K (fv bh)):=by
 refine Fn.okX b_ (λds S k x h=>?_) (λcdv A outer s H E ex hr hE=>⟨_,(ae (aj (i:=1) b_.nd (dq bF hr (ar 0 (ar 0 ac)))) (ae (aA (au kZ (aJ 1) am (aw _)) (af (sV hE PySem.F.excBase_ValueError xM gJ rfl)) aB) (af (ah (ak 1))))),λds S k h=>?_⟩)
 ·obtain⟨_,_,rfl,_⟩:=h
  rfl
 ·obtain⟨a,b,rfl,ha,hb,w0,w1⟩:=h;exact⟨a,b,a,b,rfl,ha.mono (by decide),hb.mono (by decide),ha.mono (by decide),hb.mono (by decide),aR (λz=>w0 (Rat.num_eq_zero.mp z)) (λz=>w1 λe=>z (by rw [e]; rfl))⟩
def cT (x y s z v r:Rat):Rat:=((s - r)+((z - x)*(z - x)+(v - y)*(v - y))) / (((z - x)*(z - x)+(v - y)*(v - y))+((z - x)*(z - x)+(v - y)*(v - y)))
def cE (x y s z v r:Rat):Rat:=s / ((z - x)*(z - x)+(v - y)*(v - y)) - cT x y s z v r*cT x y s z v r
noncomputable def cL (x y s z v r:Rat):List D:=iJ (x+(z - x)*cT x y s z v r) (y+(v - y)*cT x y s z v r) (-(v - y)) (z - x) (cE x y s z v r)
theorem qy {A:Rat} (h:A≠0):A+A≠0:=by grind
structure og (n:Nat) (x y s z v r:Rat):Prop where
 hn:n<=40
 hx:Sz 30 x
 hy:Sz 30 y
 hs:Sz 30 s
 hz:Sz 30 z
 hv:Sz 30 v
 hr:Sz 30 r
 ha:Sz n (z - x)
 hb:Sz n (v - y)
 ht:Sz 66 (cT x y s z v r)
 he:Sz 134 (cE x y s z v r)
theorem og.up {n:Nat} {x y s z v r:Rat} (h:og n x y s z v r):og 40 x y s z v r:=⟨Gg _,h.hx,h.hy,h.hs,h.hz,h.hv,h.hr,h.ha.mono h.hn,h.hb.mono h.hn,h.ht,h.he⟩
def fL:bO:=λds S k=>∃ x y s z v r:Rat,ds=[PP x y,fr s,PP z v,fr r]/\(∃ n,og n x y s z v r)/\(z - x)*(z - x)+(v - y)*(v - y)≠0/\∀ S' p,bU S S'->S' p=none->k (.ref p) (put S' p (.lst (cL x y s z v r)))
theorem aN:aq ["one","square","other","other_square","start","way","apart","along","aside"] ["one","square","other","other_square"] (ai dZ):=cV
theorem me (Fn:FN K "circles_meet" dZ f fd) (bL:aM P w K mg base "place_of" 1 gX) (dL:aM P w K mg base "plain_way" 4 jh) (dG:aM P w K mg base "square_of_unlike" 5 fU) (b7:aM P w K mg base "over" 3 jZ) (a9:aM P w K mg base "plus" 3 gx) (bq:aM P w K mg base "minus" 3 gZ) (aF:aM P w K mg base "times" 3 dY) (cX:aM P w K mg base "both_moved" 6 iw) (aP:aM P w K mg base "negative" 1 dD) (fF:aM P w K mg base "moved" 4 mB):
  aH P w K mg base cm 7 f fd ["one","square","other","other_square"] (cn K fL):=by
 refine Fn.okJ aN (λds S k h=>?_) (λcdv A outer s H E hr=>⟨_,(ae (aj (i:=4) aN.nd (dq bL hr (ar 0 ac))) (ae (aj (i:=5) aN.nd (dq dL hr (ar 4 (aa (dq bL hr (ar 2 ac)) ac)))) (ae (aj (i:=6) aN.nd (dq dG hr (ar 5 ac))) (ae (aj (i:=7) aN.nd (dq b7 hr (aa (dq a9 hr (aa (dq bq hr (ar 1 (ar 3 ac))) (ar 6 ac))) (aa (dq a9 hr (ar 6 (ar 6 ac))) ac)))) (ae (aj (i:=8) aN.nd (dq bq hr (aa (dq b7 hr (ar 1 (ar 6 ac))) (aa (dq aF hr (ar 7 (ar 7 ac))) ac)))) (af (ah (dq cX hr (aa (dq fF hr (ar 4 (ar 5 (ar 7 ac)))) (aa (aC (aa (dq aP hr (aa (aJ 5) ac)) (aa (aJ 5) ac))) (ar 8 ac))))))))))),λds S k h=>?_⟩)
 ·obtain⟨_,_,_,_,_,_,rfl,_⟩:=h
  rfl
 ·obtain⟨x,y,s,z,v,r,rfl,⟨n0,hz0⟩,h0,w⟩:=h;have hz:=hz0.up;have sA:=(hz.ha.mul hz.ha).add (hz.hb.mul hz.hb);have sp:=(hz.hs.sub hz.hr).add sA;have sB:=sA.add sA;have h2:=qy h0;have sq:=hz.hs.div sA h0;have sX:=hz.hx.add (hz.ha.mul hz.ht);have sY:=hz.hy.add (hz.hb.mul hz.ht);refine⟨x,y,rfl,z,v,rfl,x,y,z,v,rfl,hz.hx.mono (by decide),hz.hy.mono (by decide),hz.hz.mono (by decide),hz.hv.mono (by decide),_,_,rfl,hz.ha.mono (by decide),hz.hb.mono (by decide),h0,?_⟩
  refine⟨s,r,rfl,hz.hs.mono (by decide),hz.hr.mono (by decide),_,_,rfl,(hz.hs.sub hz.hr).mono (by decide),sA.mono (by decide),_,_,rfl,sA.mono (by decide),sA.mono (by decide),_,_,rfl,h2,sp.mono (by decide),sB.mono (by decide),?_⟩
  refine⟨s,_,rfl,h0,hz.hs.mono (by decide),sA.mono (by decide),_,_,rfl,hz.ht.mono (by decide),hz.ht.mono (by decide),_,_,rfl,sq.mono (by decide),(hz.ht.mul hz.ht).mono (by decide),?_⟩
  refine⟨_,_,_,_,_,rfl,hz.hx.mono (by decide),hz.hy.mono (by decide),hz.ha.mono (by decide),hz.hb.mono (by decide),hz.ht.mono (by decide),?_⟩
  exact⟨_,rfl,cD,_,_,_,_,_,rfl,sX.mono (by decide),sY.mono (by decide),hz.hb.neg.mono (by decide),hz.ha.mono (by decide),hz.he.mono (by decide),w⟩
def iC (bh:G_):mh:=λds S k e=>∃ x y s z v r:Rat,ds=[PP x y,fr s,PP z v,fr r]/\(∃ n,og n x y s z v r)/\((z - x)*(z - x)+(v - y)*(v - y)=0->e bh S)/\((z - x)*(z - x)+(v - y)*(v - y)≠0->∀ S' p,bU S S'->S' p=none->k (.ref p) (put S' p (.lst (cL x y s z v r))))
theorem k_ {P:Hc} {w:He} {K:Fg} {mg:Str->Ha G9} {base:Hf} {f:G_} {fd:FuncData} {bh:G_} (Fn:FN K "circles_meet" dZ f fd) (cX:aM P w K mg base "both_moved" 6 iw) (aP:aM P w K mg base "negative" 1 dD) (fF:aM P w K mg base "moved" 4 mB) (bq:aM P w K mg base "minus" 3 gZ) (aF:aM P w K mg base "times" 3 dY) (b7:aM P w K mg base "over" 3 jZ) (a9:aM P w K mg base "plus" 3 gx) (dL:aM P w K mg base "plain_way" 4 jh) (bL:aM P w K mg base "place_of" 1 gX) (di:oa P w K mg base "square_of_unlike" 5 (fv bh)):
  aH P w K mg base (iB P w) 7 f fd ["one","square","other","other_square"] (zO K (iC bh)):=by
 refine Fn.okX aN (λds S k x h=>?_) (λcdv A outer s H E ex hr hE=>⟨_,(ae (aj (i:=4) aN.nd (dq bL hr (ar 0 ac))) (ae (aj (i:=5) aN.nd (dq dL hr (ar 4 (aa (dq bL hr (ar 2 ac)) ac)))) (ae (aj (i:=6) aN.nd (q_ hE di (hr.mono (by decide)) rfl (ar 5 ac))) (ae (aj (i:=7) aN.nd (dq b7 hr (aa (dq a9 hr (aa (dq bq hr (ar 1 (ar 3 ac))) (ar 6 ac))) (aa (dq a9 hr (ar 6 (ar 6 ac))) ac)))) (ae (aj (i:=8) aN.nd (dq bq hr (aa (dq b7 hr (ar 1 (ar 6 ac))) (aa (dq aF hr (ar 7 (ar 7 ac))) ac)))) (af (ah (dq cX hr (aa (dq fF hr (ar 4 (ar 5 (ar 7 ac)))) (aa (aC (aa (dq aP hr (aa (aJ 5) ac)) (aa (aJ 5) ac))) (ar 8 ac))))))))))),λds S k h=>?_⟩)
 ·obtain⟨_,_,_,_,_,_,rfl,_⟩:=h
  rfl
 ·obtain⟨x,y,s,z,v,r,rfl,⟨n0,hz0⟩,w0,w⟩:=h;have hz:=hz0.up;have sA:=(hz.ha.mul hz.ha).add (hz.hb.mul hz.hb);have sp:=(hz.hs.sub hz.hr).add sA;have sB:=sA.add sA;refine⟨x,y,rfl,z,v,rfl,x,y,z,v,rfl,hz.hx.mono (by decide),hz.hy.mono (by decide),hz.hz.mono (by decide),hz.hv.mono (by decide),_,_,rfl,hz.ha.mono (by decide),hz.hb.mono (by decide),w0,λh0=>?_⟩
  have w:=w h0;have h2:=qy h0;have sq:=hz.hs.div sA h0;have sX:=hz.hx.add (hz.ha.mul hz.ht);have sY:=hz.hy.add (hz.hb.mul hz.ht);refine⟨s,r,rfl,hz.hs.mono (by decide),hz.hr.mono (by decide),_,_,rfl,(hz.hs.sub hz.hr).mono (by decide),sA.mono (by decide),_,_,rfl,sA.mono (by decide),sA.mono (by decide),_,_,rfl,h2,sp.mono (by decide),sB.mono (by decide),?_⟩
  refine⟨s,_,rfl,h0,hz.hs.mono (by decide),sA.mono (by decide),_,_,rfl,hz.ht.mono (by decide),hz.ht.mono (by decide),_,_,rfl,sq.mono (by decide),(hz.ht.mul hz.ht).mono (by decide),?_⟩
  refine⟨_,_,_,_,_,rfl,hz.hx.mono (by decide),hz.hy.mono (by decide),hz.ha.mono (by decide),hz.hb.mono (by decide),hz.ht.mono (by decide),?_⟩
  exact⟨_,rfl,cD,_,_,_,_,_,rfl,sX.mono (by decide),sY.mono (by decide),hz.hb.neg.mono (by decide),hz.ha.mono (by decide),hz.he.mono (by decide),w⟩
set_option maxHeartbeats 4000000
def i9:bO:=λds S k=>∃ (ns:List Int) (i:Int),ds=[.rl (List.map D.int ns),.int i]/\0<=i/\∀ c:Int,k (.int c) S
theorem md:aq ["script","k"] ["script","k"] (ai fK):=cV
theorem mw (Fn:FN K "_law_cell_at" fK f fd) (jO:mg "len"=none):
  aH P w K mg base cm 1 f fd ["script","k"] (cn K i9):=by
 refine Fn.okJ md (λds S k h=>?_) (λcdv A outer s H E hr=>⟨_,(ae (aA (au qG (ak 1) (bw pV rfl jO qQ (ar 0 ac)) (aw _)) (af (ah (cN eh (ak 0) (ak 1) Zf))) aB) (af (ah am))),λds S k h=>?_⟩)
 ·obtain⟨_,_,rfl,_⟩:=h
  rfl
 ·obtain⟨ns,i,rfl,h0,q⟩:=h;refine aR (λhl=>?_) (λ_=>q 0)
  obtain⟨n,rfl⟩:=Int.eq_ofNat_of_zero_le h0;have hn:n < ns.length:=by rw [Gh] at hl; omega
  have e:L2.atI (List.map D.int ns) (n:Int)=some (.int ns[n]):=jF (by rw [List.getElem?_map,GB hn] <;> rfl)
  exact⟨_,e,q _⟩
def kQ:bO:=λds S k=>∃ ns i,ds=[.rl (List.map D.int ns),.int i]/\0<=i/\∀ (p:G_) (n:Int) (b:Hi),S p=none->(b=false->0<=n/\n < 2147483647)->k (.ref p) (put S p (.lst [.int n,.bl b]))
theorem jQ:aq ["script","k","cell"] ["script","k"] (ai hX):=cV
theorem n_ (Fn:FN K "_law_state" hX f fd) (fT:aM P w K mg base "_law_cell_at" 1 i9):
  aH P w K mg base cm 2 f fd ["script","k"] (cn K kQ):=by
 refine Fn.okJ jQ (λds S k h=>?_) (λcdv A outer s H E hr=>⟨_,(ae (aj (i:=2) jQ.nd (dq fT hr (ar 0 (ar 1 ac)))) (ae (aA (au Bx (ak 2) (av z_ am am) (aw _)) (af (ah (b6 (aa (av kR (ak 2) (av z_ am am)) (aa ek ac))))) aB) (af (ah (b6 (aa (av lS (ak 2) am) (aa ek ac))))))),λds S k h=>?_⟩)
 ·obtain⟨_,_,rfl,_⟩:=h
  rfl
 ·obtain⟨ns,i,rfl,h0,q⟩:=h;have hp:vD 10 18:=⟨by decide,by decide,by decide⟩
  refine⟨ns,i,rfl,h0,λc=>⟨hp,aR (λhl=>⟨hp,cD,λp hn=>?_⟩) (λhl=>⟨(by show(2147483647:Int)≠0; decide),cD,λp hn=>?_⟩)⟩⟩
  ·exact q p _ _ hn (λz=>by cases z)
  ·exact q p _ _ hn (λ_=>⟨GS _ (by decide),G5 _ (by decide)⟩)
def eV:bO:=λds S k=>∃ a m,ds=[.ref a,.int m]/\0 < m/\Bt 200 m/\mD S a/\∀ r S',0<=r->r < m->Dr a S S'->k (.int r) S'
theorem fA:aq ["state","many","mixed","found"] ["state","many"] (ai jn):=cV
theorem qw (Fn:FN K "_law_take" jn f fd):
  aH P w K mg base cm 1 f fd ["state","many"] (cn K eV):=by
 refine Fn.okJ fA (λds S k h=>?_) (λcdv A outer s H E hr=>⟨_,(ae (aA (dz (aJ 0)) (ae (aj (i:=3) fA.nd (av lS (aJ 0) (ak 1))) (ae (gM (av iF (aJ 0) (ak 1)) (kK (ak 0) am)) (af (ah (ak 3))))) aB) (ae (gM (av lS (av dJ (av b5 (aJ 0) am) am) am) (kK (ak 0) am)) (ae (aj (i:=2) fA.nd (av lS (av dJ (av dJ (av b5 (aJ 0) (aJ 0)) (av b5 am (aJ 0))) am) am)) (ae (aj (i:=2) fA.nd (av lS (av dJ (av b5 (ak 2) (ak 2)) (av b5 am (ak 2))) am)) (af (ah (av lS (av iF (ak 2) am) (ak 1)))))))),λds S k h=>?_⟩)
 ·obtain⟨_,_,rfl,_⟩:=h
  rfl
 ·obtain⟨a,m,rfl,hm,hb,⟨n,b,hS,hn⟩,q⟩:=h;have put_dr:∀ (n':Int) (b':Hi),(b'=false->0<=n'/\n' < 2147483647)->Dr a S (put S a (.lst [.int n',.bl b'])):=λn' b' h'=>
   ⟨⟨n',b',ao,h'⟩,λc o z e=>by rw [dQ z]; exact e⟩
  refine⟨_,_,hS,iN,?_⟩;cases b with
  | true=>
   refine⟨_,_,hS,eG,(show m≠0 by omega),_,_,hS,eG,yt (by omega) hb,_,_,hS,D9,?_⟩
   exact q _ _ (GS _ hm) (G5 _ hm) (put_dr _ _ λz=>by cases z)
  | false=>
   obtain⟨n0,n1⟩:=hn rfl;have b31:=vb n0 (by omega)
   refine⟨_,_,hS,eG,jz (n:=31) b31 (vb (by decide) (by decide)),(show (2147483647:Int)≠0 by decide),_,_,hS,D9,?_⟩
   have c0:0<=(n*48271+29).fmod 2147483647:=GS _ (by decide)
   have c1:(n*48271+29).fmod 2147483647 < 2147483647:=G5 _ (by decide)
   have bx:=vb c0 (by omega)
   refine⟨_,_,ao,eG,_,_,ao,eG,jz bx bx,_,_,ao,eG,jz (m:=31) (vb (by decide) (by decide)) bx,(show (2147483629:Int)≠0 by decide),?_⟩
   have d0:0<=((n*48271+29).fmod 2147483647*(n*48271+29).fmod 2147483647+39373*(n*48271+29).fmod 2147483647+7).fmod 2147483629:=GS _ (by decide)
   have d1:((n*48271+29).fmod 2147483647*(n*48271+29).fmod 2147483647+39373*(n*48271+29).fmod 2147483647+7).fmod 2147483629 < 2147483629:=G5 _ (by decide)
   have by':=vb d0 (by omega)
   refine⟨jz by' by',jz (m:=31) (vb (by decide) (by decide)) by',(show (2147483587:Int)≠0 by decide),⟨by decide,by decide +kernel⟩,(show m≠0 by omega),?_⟩
   exact q _ _ (GS _ hm) (G5 _ hm) (put_dr _ _ λ_=>⟨c0,c1⟩)
theorem yO (a b:Int):Int.gcd (jM a) (jM b)=Int.gcd a b:=by
 have e:∀ x:Int,(jM x).natAbs=x.natAbs:=λx=>by unfold jM; split <;> omega
 unfold Int.gcd;rw [e,e]
def jp:bO:=λds S k=>∃ a b,ds=[.int a,.int b]/\k (.int ((Int.gcd a b:Nat):Int)) S
theorem dB:aq ["one","other"] ["one","other"] (ai fS):=cV
theorem mn (Fn:FN K "_law_divisor" fS f fd) (gh:mg "abs"=none):
  aH P w K mg base cm 1 f fd ["one","other"] (cn K jp):=by
 refine Fn.okJ dB (λds S k h=>?_) (λcdv A outer s H E hr=>⟨_,(ae (aj (i:=0) dB.nd (bw o0 rfl gh lO (ar 0 ac))) (ae (aj (i:=1) dB.nd (bw o0 rfl gh lO (ar 1 ac))) (ae (j4 PassesOwn.never (au xf (ak 1) am (aw _)) (af (xP (i:=0) (j:=1) rfl dB.nd (by decide) (ar 1 (aa (av lS (ak 0) (ak 1)) ac))))) (af (ah (ak 0)))))),λds S k h=>?_⟩)
 ·obtain⟨_,_,rfl,_⟩:=h
  rfl
 ·obtain⟨a,b,rfl,q⟩:=h;refine⟨λm L S'=>S'=S/\∃ x y,L=[some (.int x),some (.int y)]/\m=y.natAbs/\0<=x/\0<=y/\Int.gcd x y=Int.gcd a b,⟨_,rfl,jM a,jM b,rfl,rfl,ua a,ua b,yO a b⟩,?_⟩
  rintro m L S' ⟨rfl,x,y,rfl,rfl,hx,hy,e⟩;refine aR (λhl=>⟨λL' S''=>∃ m',m' < y.natAbs/\S''=S'/\∃ x y,L'=[some (.int x),some (.int y)]/\m'=y.natAbs/\0<=x/\0<=y/\Int.gcd x y=Int.gcd a b,λ_ _ z=>z,by omega,?_⟩) (λhl=>?_)
  ·exact⟨_,uL x y (by omega),rfl,y,x.fmod y,rfl,rfl,hy,GS _ hl,(rg x y).trans e⟩
  ·have z:y=0:=by omega
   subst z;have e2:=rL x;rw [e,if_neg (by omega)] at e2
   rw [e2] at q;exact q
def cu:bO:=λds S k=>∃ t b,ds=[.int t,.int b]/\b≠0/\Bt 8000 b/\k (fr (Rat.divInt t b)) S
theorem gE:aq ["top","bottom","by"] ["top","bottom"] (ai iu):=cV
theorem ox (Fn:FN K "_law_ratio" iu f fd) (fR:aM P w K mg base "_law_divisor" 1 jp):
  aH P w K mg base cm 2 f fd ["top","bottom"] (cn K cu):=by
 refine Fn.okJ gE (λds S k h=>?_) (λcdv A outer s H E hr=>⟨_,(ae (aj (i:=2) gE.nd (dq fR hr (ar 0 (ar 1 ac)))) (ae (aA (au qG (ak 1) am (aw _)) (af (aj (i:=2) gE.nd (av kR am (ak 2)))) aB) (af (ah (aC (aa (av iF (ak 0) (ak 2)) (aa (av iF (ak 1) (ak 2)) ac))))))),λds S k h=>?_⟩)
 ·obtain⟨_,_,rfl,_⟩:=h
  rfl
 ·obtain⟨t,b,rfl,h0,hb,q⟩:=h;have hg:=ye (t:=t) h0 hb;have hs:=yh (t:=t) h0;have e1:=km (t:=t) h0;have e2:=kN (t:=t) h0;have qq:k (.tup [.int (t.fdiv (uS t b)),.int (b.fdiv (uS t b))]) S:=by rw [e1,e2]; exact q
  unfold uS at qq hs
  refine⟨t,b,rfl,aR (λhl=>?_) (λhl=>?_)⟩
  ·rw [if_pos hl] at qq hs
   rw [<- Int.zero_sub] at qq hs
   have hd:∀ x:Int,mZ x (0 - ((Int.gcd t b:Nat):Int)):=λx=>yt hs (by rw [Int.zero_sub]; exact hg.neg)
   exact⟨hd _,hd _,cD,qq⟩
  ·rw [if_neg hl] at qq hs
   exact⟨yt hs hg,yt hs hg,cD,qq⟩
def kY:bO:=λds S k=>∃ (a b c d:Int) (q:Rat),ds=[pr a b,pr c d]/\b*d≠0/\Bt 4000 a/\Bt 4000 b/\Bt 4000 c/\Bt 4000 d/\Rat.divInt (a*c) (b*d)=q/\k (fr q) S
theorem n9:aq ["one","other"] ["one","other"] (ai gU):=cV
theorem n4 (Fn:FN K "_law_times" gU f fd) (aS:aM P w K mg base "_law_ratio" 2 cu):
  aH P w K mg base cm 3 f fd ["one","other"] (cn K kY):=by
 refine Fn.okJ n9 (λds S k h=>?_) (λcdv A outer s H E hr=>⟨_,(af (ah (dq aS hr (aa (av b5 (aJ 0) (aJ 1)) (aa (av b5 (aJ 0) (aJ 1)) ac))))),λds S k h=>?_⟩)
 ·obtain⟨_,_,_,_,_,rfl,_⟩:=h
  rfl
 ·obtain⟨a,b,c,d,_,rfl,h0,h1,h2,h3,h4,rfl,q⟩:=h;exact⟨jz h1 h3,jz h2 h4,_,_,rfl,h0,(h2.mul h4).mono (by decide),q⟩
def B (x:Q):D:=.tup [fr x.1,fr x.2]
theorem oP {S:DH} {k:DK} {t b:Int} {q:Rat} (e:Rat.divInt t b=q) (h0:b≠0) (hb:Bt 8000 b) (h:k (fr q) S):cu [.int t,.int b] S k:=by subst e; exact⟨_,_,rfl,h0,hb,h⟩
theorem mD.set {a q:G_} {S:DH} {o:DO} (h:mD S a) (z:q≠a):mD (put S q o) a:=by
 obtain⟨n,b,e,w⟩:=h;exact⟨n,b,by rw [dQ (Ne.symm z)]; exact e,w⟩
set_option maxHeartbeats 4000000
def lY:bO:=λds S k=>∃ (a b c d:Int) (q:Rat),ds=[pr a b,pr c d]/\b*d≠0/\Bt 4000 a/\Bt 4000 b/\Bt 4000 c/\Bt 4000 d/\Rat.divInt (a*d+c*b) (b*d)=q/\k (fr q) S
theorem qI:aq ["one","other"] ["one","other"] (ai iY):=cV
theorem qV (Fn:FN K "_law_plus" iY f fd) (aS:aM P w K mg base "_law_ratio" 2 cu):
  aH P w K mg base cm 3 f fd ["one","other"] (cn K lY):=by
 refine Fn.okJ qI (λds S k h=>?_) (λcdv A outer s H E hr=>⟨_,(af (ah (dq aS hr (aa (av dJ (av b5 (aJ 0) (aJ 1)) (av b5 (aJ 1) (aJ 0))) (aa (av b5 (aJ 0) (aJ 1)) ac))))),λds S k h=>?_⟩)
 ·obtain⟨_,_,_,_,_,rfl,_⟩:=h
  rfl
 ·obtain⟨a,b,c,d,q,rfl,h0,h1,h2,h3,h4,e,w⟩:=h;exact⟨jz h1 h4,jz h3 h2,jz h2 h4,oP e h0 ((h2.mul h4).mono (by decide)) w⟩
def gS:bO:=λds S k=>∃ p q:Rat,ds=[fr p,fr q]/\Sz 4000 p/\Sz 4000 q/\k (fr (p - q)) S
theorem oz:aq ["one","other"] ["one","other"] (ai ij):=cV
theorem oA (Fn:FN K "_law_minus" ij f fd) (aS:aM P w K mg base "_law_ratio" 2 cu):
  aH P w K mg base cm 3 f fd ["one","other"] (cn K gS):=by
 refine Fn.okJ oz (λds S k h=>?_) (λcdv A outer s H E hr=>⟨_,(af (ah (dq aS hr (aa (av kR (av b5 (aJ 0) (aJ 1)) (av b5 (aJ 1) (aJ 0))) (aa (av b5 (aJ 0) (aJ 1)) ac))))),λds S k h=>?_⟩)
 ·obtain⟨_,_,rfl,_⟩:=h
  rfl
 ·obtain⟨p,q,rfl,hp,hq,w⟩:=h;exact⟨jz hp.num hq.den,jz hq.num hp.den,jz hp.den hq.den,oP (s9 p q) (bH p q) ((hp.den.mul hq.den).mono (by decide)) w⟩
set_option maxHeartbeats 4000000
theorem qx {n:Nat} (h:n < 300):n < sizeLine:=Gp h (Gu (rfl:Nat.ble 300 sizeLine=true))
theorem kz {b1 b2:DS} {M:jd} {L:Lo} {S:DH} (P:Lo->DH->Prop) (h2:∀ L S,P L S->b2 M L S) (h1:(∀ L S,P L S->b2 M L S)->b1 {M with nx:=b2 M} L S):yJ b1 b2 M L S:=h1 h2
theorem nE {c:DT} {t e b2:DS} {M:jd} {L:Lo} {S:DH} (P:Lo->DH->Prop) (h2:∀ L S,P L S->b2 M L S) (h1:(∀ L S,P L S->b2 M L S)->Cb c t e {M with nx:=b2 M} L S):yJ (Cb c t e) b2 M L S:=h1 h2
theorem kX {α:Type} {f g:α->D} {all:List α} {S:DH} {p:G_} {ok:DH->Prop} {bd:DB} {k:DK} {L1:Lo} (hp:S p=none) (hok:∀ S',bU S S'->ok S')
  (hbd:∀ (x:α) (S':DH) (k':Ha D->DH->Prop),x∈all->bU S S'->k' (some (g x)) S'->bd (some (f x)::L1) S' k'):
  ∀ (r:List α) (acc:List D) (l0:Ha D),(∀ x∈r,x∈all)->acc.length+r.length<=100->(∀ S',bU S S'->S' p=some (.lst (acc++r.map g))->k (.ref p) S')->cO ok p (jm 0) bd k (r.map f) acc (l0::L1) (put S p (.lst acc))
 | [],acc,l0,_,_,w=>⟨hok _ (bU.new hp),w _ (bU.new hp) (by rw [ao]; simp)⟩
 | x::r,acc,l0,hr,hl,w=>by
  have hl:acc.length+(r.length+1)<=100:=hl;refine⟨hok _ (bU.new hp),hbd x _ _ (hr x Gn) (bU.new hp) ⟨ao,qx (by omega),?_⟩⟩
  rw [uC];exact kX hp hok hbd r _ _ (λy hy=>hr y (Go _ hy)) (by rw [Gx]; show acc.length+1+r.length<=100; omega) λS' e h=>w S' e (by rw [h,List.append_assoc]; rfl)
abbrev RD (a b c g:Rat):D:=.tup [fr a,fr b,fr c,fr g]
def ve:Ha Rat->D
 | none=>.non
 | some t=>fr t
def cB:Ha Rat->Rat
 | none=>-1
 | some t=>(1 - t*t) / (1+t*t)
def cG:Ha Rat->Rat
 | none=>0
 | some t=>(t+t) / (1+t*t)
def kw (o:Ha Rat):Prop:=∀ t,o=some t->Sz 4 t
theorem eH (t:Rat):1+t*t≠0:=by
 have:0<=t*t:=by
  rcases yS t with h | h | h
  ·exact Rat.le_of_lt (GD h h)
  ·have:=GD (show 0 < -t by grind) (show 0 < -t by grind); grind
  ·subst h; rw [Rat.mul_zero]; decide
 grind
theorem i0:Sz 1 1:=⟨by decide,by decide⟩
theorem tW:Sz 1 (-1):=⟨by decide,by decide⟩
theorem uD {o:Ha Rat} (h:kw o):Sz 20 (cB o):=by
 cases o with
 | none=>exact tW.mono (by decide)
 | some t=>
  have s:=h t rfl;exact((i0.sub (s.mul s)).div (i0.add (s.mul s)) (eH t)).mono (by decide)
theorem ub {o:Ha Rat} (h:kw o):Sz 20 (cG o):=by
 cases o with
 | none=>exact Sz.zero.mono (by decide)
 | some t=>
  have s:=h t rfl;exact((s.add s).div (i0.add (s.mul s)) (eH t)).mono (by decide)
structure R4 (a b c g:Rat):Prop where
 a:Sz 14 a
 b:Sz 14 b
 c:Sz 14 c
 g:Sz 14 g
set_option maxHeartbeats 4000000
theorem Dr.put {a q:G_} {S S1:DH} {o:DO} (h:Dr a S S1) (hq:S q=none) (z:q≠a):Dr a S (put S1 q o):=⟨h.1.set z,λb u n e=>by rw [dQ (sK e hq)]; exact h.2 b u n e⟩
theorem Dr.none {a p:G_} {S S':DH} (h:Dr a S S') (n:p≠a) (e:S' p=none):S p=none:=by
 cases q:S p with
 | none=>rfl
 | some o=>rw [h.2 p o n q] at e; cases e
theorem Eh {a b:Int} (h:0 < a) (h':0 < b):0 < Rat.divInt a b:=by
 rw [GK,Rat.div_def];exact GD (by exact_mod_cast h) (Rat.inv_pos.mpr (by exact_mod_cast h'))
def iD:bO:=λds S k=>∃ (a:G_) (m:Int),ds=[.ref a,.int m]/\0 < m/\m<=9/\mD S a/\∀ q S',Sz 4 q->Dr a S S'->k (fr q) S'
theorem lG:aq ["state","most"] ["state","most"] (ai fg):=cV
theorem lI (Fn:FN K "_law_fraction" fg f fd) (aS:aM P w K mg base "_law_ratio" 2 cu) (aG:aM P w K mg base "_law_take" 1 eV):
  aH P w K mg base cm 3 f fd ["state","most"] (cn K iD):=by
 refine Fn.okJ lG (λds S k h=>?_) (λcdv A outer s H E hr=>⟨_,(af (ah (dq aS hr (aa (av kR (dq aG hr (ar 0 (aa (av dJ (av b5 am (ak 1)) am) ac))) (ak 1)) (aa (av dJ am (dq aG hr (ar 0 (aa (cN eh (b6 (aa am (aa am (aa am (aa am ac))))) (dq aG hr (ar 0 (aa am ac))) Zf) ac)))) ac))))),λds S k h=>?_⟩)
 ·obtain⟨_,_,rfl,_⟩:=h
  rfl
 ·obtain⟨a,m,rfl,m0,m9,hS,w⟩:=h;have bm:Bt 8 m:=by unfold Bt; omega
  have b2:Bt 8 2:=by decide
  have b200:Bt 200 (2*m+1):=Bt.mono (m:=8) (by unfold Bt; omega) (by decide)
  refine⟨jz b2 bm,a,2*m+1,rfl,by omega,b200,hS,λr1 S1 h1 h1' d1=>⟨cD,λp hp=>⟨a,4,rfl,by decide,by decide,d1.1.new hp,λr2 S2 h2 h2' d2=>?_⟩⟩⟩
  have hp2:=d2.2 p _ (d1.1.ne hp) ao;obtain⟨c,hc,hm⟩:=qD (ds:=[.int 1,.int 1,.int 1,.int 4]) h2 h2';have hc2:∃ s:Int,c=.int s/\0 < s/\s<=4:=by
   simp only [Gk,Gs,or_false] at hm;rcases hm with rfl | rfl | rfl | rfl
   ·exact⟨1,rfl,by decide,by decide⟩
   ·exact⟨1,rfl,by decide,by decide⟩
   ·exact⟨1,rfl,by decide,by decide⟩
   ·exact⟨4,rfl,by decide,by decide⟩
  obtain⟨s,rfl,s0,s1⟩:=hc2;refine⟨_,_,hp2,hc,a,s,rfl,s0,Bt.mono (m:=8) (by unfold Bt; omega) (by decide),d2.1,λr3 S3 h3 h3' d3=>?_⟩
  have b1:Bt 4 (r1 - m):=by unfold Bt; omega
  have b2:Bt 4 (1+r3):=by unfold Bt; omega
  exact⟨_,_,rfl,by omega,b2.mono (by decide),w _ _ (Sz.divInt b1 b2 (by omega)) (d1.trans ((Dr.new d1.1 hp).trans (d2.trans d3)))⟩
def ku:bO:=λds S k=>∃ a:G_,ds=[.ref a]/\mD S a/\∀ o S',kw o->Dr a S S'->k (ve o) S'
theorem ow:aq ["state"] ["state"] (ai il):=cV
theorem oy (Fn:FN K "_law_drive" il f fd) (aG:aM P w K mg base "_law_take" 1 eV) (e_:aM P w K mg base "_law_fraction" 3 iD):
  aH P w K mg base cm 4 f fd ["state"] (cn K ku):=by
 refine Fn.okJ ow (λds S k h=>?_) (λcdv A outer s H E hr=>⟨_,(ae (aA (au kZ (dq aG hr (ar 0 (aa am ac))) am (aw _)) (af (ah cQ)) aB) (af (ah (dq e_ hr (ar 0 (aa (cN eh (b6 (aa am (aa am (aa am ac)))) (dq aG hr (ar 0 (aa am ac))) Zf) ac)))))),λds S k h=>?_⟩)
 ·obtain⟨_,rfl,_⟩:=h
  rfl
 ·obtain⟨a,rfl,hS,w⟩:=h;refine⟨a,9,rfl,by decide,by decide,hS,λr1 S1 h1 h1' d1=>aR (λ_=>w none S1 (λt z=>by cases z) d1) (λ_=>?_)⟩
  refine⟨cD,λp hp=>⟨a,3,rfl,by decide,by decide,d1.1.new hp,λr2 S2 h2 h2' d2=>?_⟩⟩
  have hp2:=d2.2 p _ (d1.1.ne hp) ao;obtain⟨c,hc,hm⟩:=qD (ds:=[.int 1,.int 3,.int 9]) h2 h2';have hc2:∃ s:Int,c=.int s/\0 < s/\s<=9:=by
   simp only [Gk,Gs,or_false] at hm;rcases hm with rfl | rfl | rfl
   ·exact⟨1,rfl,by decide,by decide⟩
   ·exact⟨3,rfl,by decide,by decide⟩
   ·exact⟨9,rfl,by decide,by decide⟩
  obtain⟨s,rfl,s0,s1⟩:=hc2;exact⟨_,_,hp2,hc,a,s,rfl,s0,s1,d2.1,λq S3 hq d3=>w (some q) S3 (λt z=>by cases z; exact hq) (d1.trans ((Dr.new d1.1 hp).trans (d2.trans d3)))⟩
theorem o9 {γ:Type} {g:γ->D} {R:γ->Prop} {S:DH} {a p:G_} {ok:DH->Prop} {bd:DB} {k:DK} {L1:Lo} (hp:S p=none) (hne:p≠a) (hok:∀ S',ok S')
  (hbd:∀ (x:D) (S':DH) (k':Ha D->DH->Prop),mD S' a->(∀ y S2,R y->Dr a S' S2->k' (some (g y)) S2)->bd (some x::L1) S' k'):
  ∀ (r:List D) (zs:List γ) (S1:DH) (l0:Ha D),Dr a S S1->S1 p=some (.lst (zs.map g))->(∀ z∈zs,R z)->zs.length+r.length<=100->(∀ (zs':List γ) S',Dr a S S'->S' p=some (.lst (zs'.map g))->(∀ z∈zs',R z)->zs'.length=zs.length+r.length->k (.ref p) S')->cO ok p (jm 0) bd k r (zs.map g) (l0::L1) S1
 | [],zs,S1,l0,d1,h1,hz,_,w=>⟨hok _,w zs S1 d1 h1 hz rfl⟩
 | x::r,zs,S1,l0,d1,h1,hz,hl,w=>by
  have hl:zs.length+(r.length+1)<=100:=hl;refine⟨hok _,hbd x S1 _ d1.1 λy S2 hR d2=>⟨d2.2 p _ hne h1,by rw [Gh]; exact qx (by omega),?_⟩⟩
  have ea:zs.map g++[g y]=(zs++[y]).map g:=by rw [List.map_append]; rfl
  rw [ea];refine o9 hp hne hok hbd r (zs++[y]) _ _ ((d1.trans d2).put hp hne) ao (λz hz'=>?_) (by rw [Gx]; show zs.length+1+r.length<=100; omega) λzs' S' d' h' hR' he=>w zs' S' d' h' hR' (by rw [he,Gx]; show zs.length+1+r.length=zs.length+(r.length+1); omega)
  rcases List.mem_append.mp hz' with h | h
  ·exact hz z h
  ·simp only [Gk,Gs,or_false] at h;subst h;exact hR
def Tn (n:Nat) (q:Rat):Prop:=if n<=4 then q.num.natAbs<=9/\q.den<=2 else if n<=14 then q.num.natAbs<=108/\q.den<=8 else q.num.natAbs<=540/\q.den<=24
theorem Tn.four {q:Rat}:Tn 4 q↔(q.num.natAbs<=9/\q.den<=2):=by unfold Tn; rw [if_pos (by decide)]
theorem Tn.fourteen {q:Rat}:Tn 14 q↔(q.num.natAbs<=108/\q.den<=8):=by unfold Tn; rw [if_neg (by decide),if_pos (by decide)]
theorem Tn.twenty {q:Rat}:Tn 20 q↔(q.num.natAbs<=540/\q.den<=24):=by unfold Tn; rw [if_neg (by decide),if_neg (by decide)]
theorem Tn.up {q:Rat} (h:Tn 4 q):Tn 14 q:=by
 obtain⟨h1,h2⟩:=Tn.four.mp h;exact Tn.fourteen.mpr ⟨by omega,by omega⟩
theorem pM {t b:Int} (hb:b≠0):(Rat.divInt t b).num.natAbs<=t.natAbs/\(Rat.divInt t b).den<=b.natAbs:=by
 have e1:=km (t:=t) hb;have e2:=kN (t:=t) hb;refine⟨by rw [<- e1]; exact HM.bz _ _,?_⟩
 have h:=HM.bz b (uS t b);rw [e2] at h;exact h
theorem jA {p q:Rat} {a b c d:Nat} (h1:p.num.natAbs<=a) (h2:p.den<=b) (h3:q.num.natAbs<=c) (h4:q.den<=d):(p+q).num.natAbs<=a*d+c*b/\(p+q).den<=b*d:=by
 obtain⟨e1,e2⟩:=pM (t:=p.num*(q.den:Int)+q.num*(p.den:Int)) (bH p q);rw [kc] at e1 e2
 have m1:(p.num*(q.den:Int)).natAbs<=a*d:=by rw [GY]; exact Nat.mul_le_mul h1 (by simpa using h4)
 have m2:(q.num*(p.den:Int)).natAbs<=c*b:=by rw [GY]; exact Nat.mul_le_mul h3 (by simpa using h2)
 have m3:((p.den:Int)*(q.den:Int)).natAbs<=b*d:=by rw [GY]; exact Nat.mul_le_mul (by simpa using h2) (by simpa using h4)
 exact⟨by omega,by omega⟩
structure G4 (n:Nat) (x1 x2 x3 x4:Rat):Prop where
 a:Sz n x1/\0 < x1
 b:Sz n x2/\0 < x2
 c:Sz n x3/\0 < x3
 g:Sz n x4/\0 < x4
 ta:Tn n x1
 tb:Tn n x2
 tc:Tn n x3
 tg:Tn n x4
theorem G4.r4 {a b c g:Rat} (h:G4 14 a b c g):R4 a b c g:=⟨h.a.1,h.b.1,h.c.1,h.g.1⟩
theorem G4.up {a b c g:Rat} (h:G4 4 a b c g):G4 14 a b c g:=⟨⟨h.a.1.mono (by decide),h.a.2⟩,⟨h.b.1.mono (by decide),h.b.2⟩,⟨h.c.1.mono (by decide),h.c.2⟩,⟨h.g.1.mono (by decide),h.g.2⟩,h.ta.up,h.tb.up,h.tc.up,h.tg.up⟩
theorem Tn.up2 {q:Rat} (h:Tn 14 q):Tn 20 q:=by
 obtain⟨a,b⟩:=Tn.fourteen.mp h;exact Tn.twenty.mpr ⟨by omega,by omega⟩
theorem G4.up2 {a b c g:Rat} (h:G4 14 a b c g):G4 20 a b c g:=⟨⟨h.a.1.mono (by decide),h.a.2⟩,⟨h.b.1.mono (by decide),h.b.2⟩,⟨h.c.1.mono (by decide),h.c.2⟩,⟨h.g.1.mono (by decide),h.g.2⟩,h.ta.up2,h.tb.up2,h.tc.up2,h.tg.up2⟩
theorem rJ {q:Rat} (h:Tn 20 q):Sz 14 q:=by
 obtain⟨a,b⟩:=Tn.twenty.mp h;exact⟨by show q.num.natAbs < 2 ^ 14; omega,by show((q.den:Nat):Int).natAbs < 2 ^ 14; omega⟩
theorem G4.r20 {a b c g:Rat} (h:G4 20 a b c g):R4 a b c g:=⟨rJ h.ta,rJ h.tb,rJ h.tc,rJ h.tg⟩
def pj (Q:Rat->Rat->Rat->Rat->Prop) (a:G_) (S:DH) (way:Int) (L:Lo) (S':DH):Prop:=∃ p' x y z v,L=[some (.ref a),some (.ref p'),some (.int way),none]/\p'≠a/\S p'=none/\Dr a S S'/\S' p'=some (.lst [fr x,fr y,fr z,fr v])/\Q x y z v
theorem CJ {zs:List Rat} (h:zs.length=4):∃ x y z v,zs=[x,y,z,v]:=by
 match zs,h with
 | [x,y,z,v],_=>exact⟨x,y,z,v,rfl⟩
def l_:bO:=λds S k=>∃ a:G_,ds=[.ref a]/\mD S a/\∀ x y z v S',G4 14 x y z v->Dr a S S'->k (RD x y z v) S'
theorem cs:aq ["state","some","way","turn"] ["state"] (ai iU):=cV
theorem pL (Fn:FN K "_law_rods" iU f fd) (aS:aM P w K mg base "_law_ratio" 2 cu) (aG:aM P w K mg base "_law_take" 1 eV) (dH:aM P w K mg base "_law_plus" 3 lY) (c9:aM P w K mg base "_law_minus" 3 gS) (jB:mg "range"=none) (jK:mg "tuple"=none):
  aH P w K mg base cm 4 f fd ["state"] (cn K l_):=by
 refine Fn.okJ cs (λds S k h=>?_) (λcdv A outer s H E hr=>⟨_,(ae (rM (iv:=1) cs.nd rfl (eI (N:=["k","state"]) (cap:=[none,some 0]) rfl rfl rfl rfl ⟨rfl,trivial⟩ rfl rfl ⟨⟨rfl,.inl rfl,.inl rfl⟩,trivial⟩) rfl jB (aa am ac) (λ_ _ _ _=>(aI (i:=0) (show List.Nodup (["k","state"]:List Str) from by decide +kernel))) (λ_ _ _ _=>(dq aS hr (aa (av dJ am (dq aG hr (ar 1 (aa am ac)))) (aa (av dJ am (dq aG hr (ar 1 (aa (cN eh (b6 (aa am (aa am (aa am ac)))) (dq aG hr (ar 1 (aa am ac))) Zf) ac)))) ac))))) (ae (aj (i:=2) cs.nd (dq aG hr (ar 0 (aa am ac)))) (ae (aA (au kZ (ak 2) am (aw _)) (af (aj (i:=1) cs.nd (b6 (aa (aJ 1) (aa (aJ 1) (aa (aJ 1) (aa (aJ 1) ac))))))) aB) (ae (aA (au kZ (ak 2) am (aw _)) (af (aj (i:=1) cs.nd (b6 (aa (aJ 1) (aa (aJ 1) (aa (aJ 1) (aa (aJ 1) ac))))))) aB) (ae (aA (au kZ (ak 2) am (aw _)) (af (gM (dq dH hr (aa (dq dH hr (aa (aJ 1) (aa (aJ 1) ac))) (aa (aJ 1) ac))) (kK (ak 1) am))) aB) (ae (aA (au kZ (ak 2) am (aw _)) (ae (gM (dq dH hr (aa (dq c9 hr (aa (dq dH hr (aa (aJ 1) (aa (aJ 1) ac))) (aa (aJ 1) ac))) (aa (aC (aa am (aa am ac))) ac))) (kK (ak 1) am)) (af (aA (au qG (cN eh (aJ 1) am Zf) am (aw _)) (af (gM (aJ 1) (kK (ak 1) am))) aB))) aB) (ae (aA (au kZ (ak 2) am (aw _)) (af (aj (i:=1) cs.nd (av wH (b6 (aa (aJ 1) ac)) am))) aB) (ae (aj (i:=3) cs.nd (dq aG hr (ar 0 (aa am ac)))) (af (ah (sF uf rfl jK rA (aa (av dJ (qU (ak 1) (kT (ak 3)) kE) (qU (ak 1) kE (kT (ak 3)))) ac)))))))))))),λds S k h=>?_⟩)
 ·obtain⟨_,rfl,_⟩:=h
  rfl
 ·obtain⟨a,rfl,hS,w⟩:=h;refine⟨⟨by decide,by decide⟩,λp hp=>?_⟩
  have hne:=hS.ne hp;refine o9 (γ:=Rat) (g:=fr) (R:=λq=>(Sz 4 q/\0 < q)/\Tn 4 q) hp hne (λ_=>trivial) ?_ _ [] _ none (Dr.new hS hp) ao (λ_ z=>by cases z) (by decide) ?_
  ·intro x S' k' hS' h;refine⟨a,9,rfl,by decide,by decide,hS',λr1 S1 h1 h1' d1=>⟨cD,λp2 hp2=>⟨a,3,rfl,by decide,by decide,d1.1.new hp2,λr2 S2 h2 h2' d2=>?_⟩⟩⟩
   have hq2:=d2.2 p2 _ (d1.1.ne hp2) ao;obtain⟨c,hc,hm⟩:=qD (ds:=[.int 1,.int 1,.int 2]) h2 h2';have hc2:∃ s:Int,c=.int s/\0 < s/\s<=2:=by
    simp only [Gk,Gs,or_false] at hm;rcases hm with rfl | rfl | rfl
    ·exact⟨1,rfl,by decide,by decide⟩
    ·exact⟨1,rfl,by decide,by decide⟩
    ·exact⟨2,rfl,by decide,by decide⟩
   obtain⟨s,rfl,s0,s1⟩:=hc2;refine⟨_,_,hq2,hc,a,s,rfl,s0,Bt.mono (m:=8) (by unfold Bt; omega) (by decide),d2.1,λr3 S3 h3 h3' d3=>?_⟩
   have b1:Bt 4 (1+r1):=by unfold Bt; omega
   have b2:Bt 4 (1+r3):=by unfold Bt; omega
   exact⟨_,_,rfl,by omega,b2.mono (by decide),h _ _ ⟨⟨Sz.divInt b1 b2 (by omega),Eh (by omega) (by omega)⟩,Tn.four.mpr (by obtain⟨z1,z2⟩:=pM (t:=1+r1) (b:=1+r3) (by omega); exact⟨by omega,by omega⟩)⟩ (d1.trans ((Dr.new d1.1 hp2).trans (d2.trans d3)))⟩
  ·intro zs S1 d1 h1 hz hl;obtain⟨x,y,z,v,rfl⟩:=CJ hl;have g4:G4 4 x y z v:=⟨(hz x (by simp)).1,(hz y (by simp)).1,(hz z (by simp)).1,(hz v (by simp)).1,(hz x (by simp)).2,(hz y (by simp)).2,(hz z (by simp)).2,(hz v (by simp)).2⟩
   refine⟨a,8,rfl,by decide,by decide,d1.1,λway S2 w0 w8 d2=>?_⟩
   have st0:pj (G4 4) a S way [some (.ref a),some (.ref p),some (.int way),none] S2:=⟨p,x,y,z,v,rfl,hne,hp,d1.trans d2,d2.2 p _ hne h1,g4⟩
   try dsimp only
   refine nE (pj (G4 4) a S way) ?_ ?_
   rotate_left
   ·intro bY;refine aR (λ_=>?_) (λ_=>bY _ _ st0)
    have h2:=d2.2 p _ hne h1;refine⟨_,_,h2,eG,_,_,h2,iN,_,_,h2,eG,_,_,h2,iN,cD,λp2 hp2=>bY _ _ ⟨p2,x,y,x,y,rfl,d2.1.ne hp2,(d1.trans d2).none (d2.1.ne hp2) hp2,(d1.trans d2).trans (Dr.new d2.1 hp2),ao,g4.a,g4.b,g4.a,g4.b,g4.ta,g4.tb,g4.ta,g4.tb⟩⟩
   clear st0 g4 h1 hz hl;rintro _ S3 ⟨p3,x,y,z,v,rfl,hne3,n3,d3,h3,g4⟩
   try dsimp only
   refine nE (pj (G4 4) a S way) ?_ ?_
   rotate_left
   ·intro bY;refine aR (λ_=>?_) (λ_=>bY _ _ ⟨p3,x,y,z,v,rfl,hne3,n3,d3,h3,g4⟩)
    refine⟨_,_,h3,eG,_,_,h3,iN,_,_,h3,iN,_,_,h3,eG,cD,λp2 hp2=>bY _ _ ⟨p2,x,y,y,x,rfl,d3.1.ne hp2,d3.none (d3.1.ne hp2) hp2,d3.trans (Dr.new d3.1 hp2),ao,g4.a,g4.b,g4.b,g4.a,g4.ta,g4.tb,g4.tb,g4.ta⟩⟩
   clear h3 d3 n3 hne3 g4 x y z v p3;clear S3;rintro _ S3 ⟨p3,x,y,z,v,rfl,hne3,n3,d3,h3,g4⟩
   try dsimp only
   refine nE (pj (λx y z v=>G4 14 x y z v/\(way=2\/G4 4 x y z v)) a S way) ?_ ?_
   rotate_left
   ·intro bY;refine aR (λe2=>?_) (λ_=>bY _ _ ⟨p3,x,y,z,v,rfl,hne3,n3,d3,h3,g4.up,.inr g4⟩)
    have sxy:=g4.a.1.add g4.b.1;refine⟨_,_,h3,eG,_,_,h3,iN,_,_,_,_,_,rfl,bH x y,g4.a.1.num.mono (by decide),g4.a.1.den.mono (by decide),g4.b.1.num.mono (by decide),g4.b.1.den.mono (by decide),kc x y,_,_,h3,lN,_,_,_,_,_,rfl,bH (x+y) z,sxy.num.mono (by decide),sxy.den.mono (by decide),g4.c.1.num.mono (by decide),g4.c.1.den.mono (by decide),kc (x+y) z,?_⟩
    have tsum:Tn 14 (x+y+z):=by
     obtain⟨a1,a2⟩:=Tn.four.mp g4.ta;obtain⟨b1,b2⟩:=Tn.four.mp g4.tb;obtain⟨c1,c2⟩:=Tn.four.mp g4.tc;obtain⟨z1,z2⟩:=jA a1 a2 b1 b2;exact Tn.fourteen.mpr (jA z1 z2 c1 c2)
    refine⟨_,_,h3,rfl,bY _ _ ⟨p3,x,y,z,x+y+z,rfl,hne3,n3,d3.put n3 hne3,ao,⟨⟨g4.a.1.mono (by decide),g4.a.2⟩,⟨g4.b.1.mono (by decide),g4.b.2⟩,⟨g4.c.1.mono (by decide),g4.c.2⟩,⟨(sxy.add g4.c.1).mono (by decide),?_⟩,g4.ta.up,g4.tb.up,g4.tc.up,tsum⟩,.inl e2⟩⟩
    have h1:=g4.a.2;have h2:=g4.b.2;have h3:=g4.c.2;grind
   clear h3 d3 n3 hne3 g4 x y z v p3;clear S3;rintro _ S3 ⟨p3,x,y,z,v,rfl,hne3,n3,d3,h3,g14,g24⟩;refine nE (pj (G4 14) a S way) ?_ ?_
   rotate_left
   ·intro bY;refine aR (λe3=>?_) (λ_=>bY _ _ ⟨p3,x,y,z,v,rfl,hne3,n3,d3,h3,g14⟩)
    have g4:G4 4 x y z v:=g24.resolve_left (by omega)
    have sxy:=g4.a.1.add g4.b.1;have sm:=sxy.sub g4.g.1;have e0:x+y - v+0=x+y - v:=Rat.add_zero _;have tdif:Tn 14 (x+y - v):=by
     obtain⟨a1,a2⟩:=Tn.four.mp g4.ta;obtain⟨b1,b2⟩:=Tn.four.mp g4.tb;obtain⟨c1,c2⟩:=Tn.four.mp g4.tg;obtain⟨z1,z2⟩:=jA a1 a2 b1 b2;rw [show x+y - v=x+y+-v by grind]
     exact Tn.fourteen.mpr (jA z1 z2 (q:=-v) (c:=9) (d:=2) (by rw [Rat.neg_num,Int.natAbs_neg]; exact c1) (by rw [Rat.neg_den]; exact c2))
    refine⟨_,_,h3,eG,_,_,h3,iN,_,_,_,_,_,rfl,bH x y,g4.a.1.num.mono (by decide),g4.a.1.den.mono (by decide),g4.b.1.num.mono (by decide),g4.b.1.den.mono (by decide),kc x y,_,_,h3,sN,x+y,v,rfl,sxy.mono (by decide),g4.g.1.mono (by decide),cD,_,_,_,_,_,rfl,bH (x+y - v) 0,sm.num.mono (by decide),sm.den.mono (by decide),Bt.mono (m:=4) (by decide) (by decide),Bt.mono (m:=4) (by decide) (by decide),(kc (x+y - v) 0).trans e0,?_⟩
    refine⟨_,_,h3,rfl,_,_,ao,lN,aR (λ_=>?_) (λhl=>?_)⟩
    ·exact⟨_,_,ao,eG,_,_,ao,rfl,bY _ _ ⟨p3,x,y,x,v,rfl,hne3,n3,(d3.put n3 hne3).put n3 hne3,ao,g14.a,g14.b,g14.a,g14.g,g14.ta,g14.tb,g14.ta,g14.tg⟩⟩
    ·exact bY _ _ ⟨p3,x,y,x+y - v,v,rfl,hne3,n3,d3.put n3 hne3,ao,g14.a,g14.b,⟨sm.mono (by decide),(ji _).mp (by omega)⟩,g14.g,g14.ta,g14.tb,tdif,g14.tg⟩
   clear h3 d3 n3 hne3 g14 g24 x y z v p3;clear S3;rintro _ S3 ⟨p3,x,y,z,v,rfl,hne3,n3,d3,h3,g4⟩;refine nE (pj (G4 14) a S way) ?_ ?_
   rotate_left
   ·intro bY;refine aR (λ_=>?_) (λ_=>bY _ _ ⟨p3,x,y,z,v,rfl,hne3,n3,d3,h3,g4⟩)
    refine⟨_,_,h3,eG,cD,λp2 hp2=>⟨_,ao,by decide,by decide,Gu rfl,λp5 hp5=>?_⟩⟩
    have dd:=d3.trans (Dr.new (o:=.lst [fr x]) d3.1 hp2);exact bY _ _ ⟨p5,x,x,x,x,rfl,dd.1.ne hp5,dd.none (dd.1.ne hp5) hp5,dd.trans (Dr.new dd.1 hp5),ao,g4.a,g4.a,g4.a,g4.a,g4.ta,g4.ta,g4.ta,g4.ta⟩
   clear h3 d3 n3 hne3 g4 x y z v p3;clear S3;rintro _ S3 ⟨p3,x,y,z,v,rfl,hne3,n3,d3,h3,g4⟩;refine⟨a,4,rfl,by decide,by decide,d3.1,λturn S4 t0 t4 d4=>⟨_,d4.2 _ _ hne3 h3,λp5 hp5=>⟨_,bU.new hp5 _ _ (d4.2 _ _ hne3 h3),λp6 hp6=>⟨_,_,bU.new hp6 _ _ ao,ao,?_,λp7 hp7=>⟨_,ao,?_⟩⟩⟩⟩⟩
   ·have tt:turn=0\/turn=1\/turn=2\/turn=3:=by omega
    rcases tt with rfl | rfl | rfl | rfl <;> exact Gu rfl
   ·have dd:=λo:DO=>((d3.trans d4).trans (Dr.new d4.1 hp5)).trans ((Dr.new (d4.1.new hp5) hp6).trans (Dr.new (o:=o) ((d4.1.new hp5).new hp6) hp7))
    have tt:turn=0\/turn=1\/turn=2\/turn=3:=by omega
    rcases tt with rfl | rfl | rfl | rfl
    ·exact w x y z v _ g4 (dd _)
    ·exact w y z v x _ ⟨g4.b,g4.c,g4.g,g4.a,g4.tb,g4.tc,g4.tg,g4.ta⟩ (dd _)
    ·exact w z v x y _ ⟨g4.c,g4.g,g4.a,g4.b,g4.tc,g4.tg,g4.ta,g4.tb⟩ (dd _)
    ·exact w v x y z _ ⟨g4.g,g4.a,g4.b,g4.c,g4.tg,g4.ta,g4.tb,g4.tc⟩ (dd _)
set_option maxHeartbeats 4000000
theorem m8 {x y a b s:Rat}:(iJ x y a b s).length<=2:=by
 unfold iJ
 split
 ·decide
 ·split
  ·show 1<=2; decide
  ·show 2<=2; decide
noncomputable def sL (a b c g:Rat) (o:Ha Rat):List D:=(cL (cB o*a) (cG o*a) (b*b) g 0 (c*c)).map λp=>.tup [PP (cB o*a) (cG o*a),p]
def u9 (a g:Rat) (o:Ha Rat):Rat:=(g - cB o*a)*(g - cB o*a)+(0 - cG o*a)*(0 - cG o*a)
structure C7 (B:Int) (a b c g:Rat) (ia ib ic ig:Int):Prop where
 pos:0 < B
 a:(ia:Rat)=a*(B:Rat)
 b:(ib:Rat)=b*(B:Rat)
 c:(ic:Rat)=c*(B:Rat)
 g:(ig:Rat)=g*(B:Rat)
 ba:Bt 100 ia
 bb:Bt 100 ib
 bc:Bt 100 ic
 bg:Bt 100 ig
 la:ia.natAbs<=179159040
 lb:ib.natAbs<=179159040
 lc:ic.natAbs<=179159040
 lg:ig.natAbs<=179159040
theorem mC {q:Rat} {B:Int} (hq:q.num.natAbs<=540) (hB:B.natAbs<=331776):(q.num*B.fdiv (q.den:Int)).natAbs<=179159040:=by
 have h:=HM.bz B (q.den:Int);rw [GY];have:=Nat.mul_le_mul hq (GO h hB);omega
theorem t9 {q:Rat} {B:Int} (h:(q.den:Int) ∣ B):((q.num*B.fdiv (q.den:Int):Int):Rat)=q*(B:Rat):=by
 obtain⟨m,rfl⟩:=h;have d0:(q.den:Int)≠0:=lf q;rw [Int.mul_fdiv_cancel_left _ d0,Ge,Ge];have e:q*((q.den:Int):Rat)=(q.num:Rat):=by
  have h:Rat.divInt q.num (q.den:Int)*((q.den:Int):Rat)=(q.num:Rat):=by
   rw [GK];exact Rat.div_mul_cancel (by exact_mod_cast d0)
  rw [Rat.num_divInt_den] at h;exact h
 rw [<- Rat.mul_assoc,e]
def eO:bO:=λds S k=>∃ a b c g:Rat,ds=[RD a b c g]/\G4 20 a b c g/\∀ S' p (B ia ib ic ig:Int),C7 B a b c g ia ib ic ig->bU S S'->S p=none->S' p=some (.lst [.int ia,.int ib,.int ic,.int ig])->k (.ref p) S'
theorem fx:aq ["rods","bottom","rod"] ["rods"] (ai jo):=cV
theorem qR (Fn:FN K "in_wholes" jo f fd):
  aH P w K mg base cm 1 f fd ["rods"] (cn K eO):=by
 refine Fn.okJ fx (λds S k h=>?_) (λcdv A outer s H E hr=>⟨_,(ae (aj (i:=1) fx.nd am) (ae (fH PassesOwn.never rfl (ak 0) (aI (i:=2) fx.nd) (af (aj (i:=1) fx.nd (av b5 (ak 1) (aJ 2))))) (af (ah (eP rfl (eI (N:=["rod","bottom"]) (cap:=[none,some 1]) rfl rfl rfl rfl ⟨rfl,trivial⟩ rfl rfl ⟨⟨rfl,.inl rfl,.inl rfl⟩,trivial⟩) (ak 0) (λ_ _ _ _=>(aI (i:=0) (show List.Nodup (["rod","bottom"]:List Str) from by decide +kernel))) (λ_ _ _ _=>(av b5 (aJ 0) (av iF (ak 1) (aJ 0))))))))),λds S k h=>?_⟩)
 ·obtain⟨_,_,_,_,rfl,_⟩:=h
  rfl
 ·obtain⟨a,b,c,g,rfl,g4,w⟩:=h;have h4:=g4.r20;have pa:0 < (a.den:Int):=by have:=a.den_pos; omega
  have pb:0 < (b.den:Int):=by have:=b.den_pos; omega
  have pc:0 < (c.den:Int):=by have:=c.den_pos; omega
  have pg:0 < (g.den:Int):=by have:=g.den_pos; omega
  have b1:Bt 1 1:=by decide
  have bA:=b1.mul h4.a.den;have bB:=bA.mul h4.b.den;have bC:=bB.mul h4.c.den;have bG:=bC.mul h4.g.den;obtain⟨na,ea⟩:=Tn.twenty.mp g4.ta;obtain⟨nb,eb⟩:=Tn.twenty.mp g4.tb;obtain⟨nc,ec⟩:=Tn.twenty.mp g4.tc;obtain⟨ng,eg⟩:=Tn.twenty.mp g4.tg;have hB4:(1*(a.den:Int)*(b.den:Int)*(c.den:Int)*(g.den:Int)).natAbs<=331776:=by
   rw [GY,GY,GY,GY];simp only [Int.natAbs_natCast];exact Nat.mul_le_mul (Nat.mul_le_mul (Nat.mul_le_mul (Nat.mul_le_mul (Gg 1) ea) eb) ec) eg
  have pB:0 < 1*(a.den:Int)*(b.den:Int)*(c.den:Int)*(g.den:Int):=Int.mul_pos (Int.mul_pos (Int.mul_pos (Int.mul_pos (by decide) pa) pb) pc) pg
  have da:(a.den:Int) ∣ 1*(a.den:Int)*(b.den:Int)*(c.den:Int)*(g.den:Int):=⟨(b.den:Int)*(c.den:Int)*(g.den:Int),by grind⟩
  have db:(b.den:Int) ∣ 1*(a.den:Int)*(b.den:Int)*(c.den:Int)*(g.den:Int):=⟨(a.den:Int)*(c.den:Int)*(g.den:Int),by grind⟩
  have dc:(c.den:Int) ∣ 1*(a.den:Int)*(b.den:Int)*(c.den:Int)*(g.den:Int):=⟨(a.den:Int)*(b.den:Int)*(g.den:Int),by grind⟩
  have dg:(g.den:Int) ∣ 1*(a.den:Int)*(b.den:Int)*(c.den:Int)*(g.den:Int):=⟨(a.den:Int)*(b.den:Int)*(c.den:Int),by grind⟩
  refine⟨([fr a,fr b,fr c,fr g],none),rfl,trivial,jz b1 h4.a.den,trivial,jz bA h4.b.den,trivial,jz bB h4.c.den,trivial,jz bC h4.g.den,trivial,([fr a,fr b,fr c,fr g],none),rfl,λp hp=>?_⟩
  have fb:∀ q:Rat,Bt 57 (Int.fdiv (1*(a.den:Int)*(b.den:Int)*(c.den:Int)*(g.den:Int)) (q.den:Int)):=λq=>(bG.mono (n:=57) (by decide)).le (HM.bz _ _)
  have ok:∀ {q:Rat},Sz 14 q->mZ (1*(a.den:Int)*(b.den:Int)*(c.den:Int)*(g.den:Int)) (q.den:Int):=λh=>yt (lf _) h.den
  refine⟨trivial,ok h4.a,jz h4.a.num (fb a),ao,qx (show 0 < 300 by decide),trivial,ok h4.b,jz h4.b.num (fb b),ao,qx (show 1 < 300 by decide),trivial,ok h4.c,jz h4.c.num (fb c),ao,qx (show 2 < 300 by decide),trivial,ok h4.g,jz h4.g.num (fb g),ao,qx (show 3 < 300 by decide),trivial,?_⟩
  exact w _ p (1*(a.den:Int)*(b.den:Int)*(c.den:Int)*(g.den:Int)) _ _ _ _ ⟨pB,t9 da,t9 db,t9 dc,t9 dg,(h4.a.num.mul (fb a)).mono (by decide),(h4.b.num.mul (fb b)).mono (by decide),(h4.c.num.mul (fb c)).mono (by decide),(h4.g.num.mul (fb g)).mono (by decide),mC na hB4,mC nb hB4,mC nc hB4,mC ng hB4⟩ ((((bU.new hp).put hp).put hp).put hp |>.put hp) hp ao
theorem t7 {B:Int} {x y:Rat} {i j:Int} (hB:0 < B) (hx:(i:Rat)=x*(B:Rat)) (hy:(j:Rat)=y*(B:Rat)):((jM (i - j):Int):Rat)=ab (x - y)*(B:Rat):=by
 have hB':(0:Rat) < (B:Rat):=Rat.intCast_pos.mpr hB;have e:((i - j:Int):Rat)=(x - y)*(B:Rat):=by rw [GH,hx,hy]; grind
 unfold jM ab
 by_cases h:i - j < 0
 ·have h2:x - y < 0:=(Rat.mul_neg_iff_of_pos_right hB').mp (by rw [<- e]; exact Rat.intCast_neg_iff.mpr h)
  rw [if_pos h,if_pos h2,Rat.intCast_neg,e];grind
 ·have h2:¬ x - y < 0:=λz=>h (Rat.intCast_neg_iff.mp (by rw [e]; exact(Rat.mul_neg_iff_of_pos_right hB').mpr z))
  rw [if_neg h,if_neg h2,e]
theorem bo {B:Int} {x y:Rat} {i j:Int} (hB:0 < B) (hx:(i:Rat)=x*(B:Rat)) (hy:(j:Rat)=y*(B:Rat)):i<=j↔x<=y:=by
 have hB':(0:Rat) < (B:Rat):=Rat.intCast_pos.mpr hB;rw [<- Rat.intCast_le_intCast,hx,hy];exact⟨λh=>Rat.le_of_mul_le_mul_right h hB',λh=>Rat.mul_le_mul_of_nonneg_right h (Rat.le_of_lt hB')⟩
theorem b9 {B:Int} {x y:Rat} {i j:Int} (hx:(i:Rat)=x*(B:Rat)) (hy:(j:Rat)=y*(B:Rat)):((i+j:Int):Rat)=(x+y)*(B:Rat):=by rw [Gv,hx,hy]; grind
set_option maxHeartbeats 4000000
def de:bO:=λds S k=>∃ a b c g:Rat,ds=[RD a b c g]/\k (PP g 0) S
theorem oh:aq ["rods"] ["rods"] (ai hZ):=cV
theorem oo (Fn:FN K "ground_end" hZ f fd) (br:aM P w K mg base "plain_point" 1 eL) (aL:lL K mg "NOUGHT" [0,1]):
  aH P w K mg base cm 2 f fd ["rods"] (cn K de):=by
 refine Fn.okJ oh (λds S k h=>?_) (λcdv A outer s H E hr=>⟨_,(af (ah (dq br hr (aa (aC (aa (aJ 0) (aa (dP aL rfl) ac))) ac)))),λds S k h=>?_⟩)
 ·obtain⟨_,_,_,_,rfl,_⟩:=h
  rfl
 ·obtain⟨a,b,c,g,rfl,w⟩:=h;exact⟨cD,g,0,rfl,w⟩
def fits (a b c g:Rat):Prop:=a<=b+c+g/\b<=a+c+g/\c<=a+b+g/\g<=a+b+c
instance {a b c g:Rat}:Decidable (fits a b c g):=inferInstanceAs (Decidable (_/\_/\_/\_))
theorem xb {B:Int} {a b c g:Rat} {ia ib ic ig m:Int} (W:C7 B a b c g ia ib ic ig) (hm:m∈[ia,ib,ic,ig]) (hx:∀ x∈[ia,ib,ic,ig],x<=m):2*m<=0+ia+ib+ic+ig↔fits a b c g:=by
 have h1:=bo W.pos W.a (b9 (b9 W.b W.c) W.g);have h2:=bo W.pos W.b (b9 (b9 W.a W.c) W.g);have h3:=bo W.pos W.c (b9 (b9 W.a W.b) W.g);have h4:=bo W.pos W.g (b9 (b9 W.a W.b) W.c);unfold fits;rw [<- h1,<- h2,<- h3,<- h4];have x1:=hx ia (by simp)
 have x2:=hx ib (by simp)
 have x3:=hx ic (by simp)
 have x4:=hx ig (by simp)
 constructor
 ·intro h;refine⟨?_,?_,?_,?_⟩ <;> omega
 ·rintro⟨y1,y2,y3,y4⟩;simp only [Gk,Gs,or_false] at hm;rcases hm with rfl | rfl | rfl | rfl <;> omega
def jy:bO:=λds S k=>∃ a b c g:Rat,ds=[RD a b c g]/\G4 20 a b c g/\∀ S',bU S S'->k (.bl (decide (fits a b c g))) S'
theorem kG:aq ["rods","lengths"] ["rods"] (ai iX):=cV
theorem qC (Fn:FN K "can_stand" iX f fd) (bj:aM P w K mg base "in_wholes" 1 eO) (pk:mg "max"=none) (x8:mg "sum"=none):
  aH P w K mg base cm 2 f fd ["rods"] (cn K jy):=by
 refine Fn.okJ kG (λds S k h=>?_) (λcdv A outer s H E hr=>⟨_,(ae (aj (i:=1) kG.nd (dq bj hr (ar 0 ac))) (af (ah (fc Ei (av b5 am (bw Bq rfl pk wM (ar 1 ac))) (bw AN rfl x8 wU (ar 1 ac)) (aw _))))),λds S k h=>?_⟩)
 ·obtain⟨_,_,_,_,rfl,_⟩:=h
  rfl
 ·obtain⟨a,b,c,g,rfl,g4,w⟩:=h;refine⟨a,b,c,g,rfl,g4,λS1 p B ia ib ic ig W e1 n1 h1=>⟨[ia,ib,ic,ig],h1,by simp,λm hm hx=>?_⟩⟩
  have bm:Bt 100 m:=by
   simp only [Gk,Gs,or_false] at hm;rcases hm with rfl | rfl | rfl | rfl
   ·exact W.ba
   ·exact W.bb
   ·exact W.bc
   ·exact W.bg
  have l1:=W.la;have l2:=W.lb;have l3:=W.lc;have l4:=W.lg;refine⟨jz (show Bt 4 2 by decide) bm,[ia,ib,ic,ig],h1,λj hj=>?_,?_⟩
  ·have hj:j < 4:=hj;have:j=0\/j=1\/j=2\/j=3:=by omega
   rcases this with rfl | rfl | rfl | rfl
   ·exact⟨⟨by show -(2 ^ 63)<=ia; omega,by show ia < 2 ^ 63; omega⟩,⟨by show -(2 ^ 63)<=0+ia; omega,by show 0+ia < 2 ^ 63; omega⟩⟩
   ·exact⟨⟨by show -(2 ^ 63)<=ib; omega,by show ib < 2 ^ 63; omega⟩,⟨by show -(2 ^ 63)<=0+ia+ib; omega,by show 0+ia+ib < 2 ^ 63; omega⟩⟩
   ·exact⟨⟨by show -(2 ^ 63)<=ic; omega,by show ic < 2 ^ 63; omega⟩,⟨by show -(2 ^ 63)<=0+ia+ib+ic; omega,by show 0+ia+ib+ic < 2 ^ 63; omega⟩⟩
   ·exact⟨⟨by show -(2 ^ 63)<=ig; omega,by show ig < 2 ^ 63; omega⟩,⟨by show -(2 ^ 63)<=0+ia+ib+ic+ig; omega,by show 0+ia+ib+ic+ig < 2 ^ 63; omega⟩⟩
  ·have w:=w S1 e1;rw [<- decide_eq_decide.mpr (xb W hm hx)] at w;exact w
def lV (m a b c g:Rat):Prop:=(m=a\/m=b\/m=c\/m=g)/\m<=a/\m<=b/\m<=c/\m<=g
def A_ (m a b c g:Rat):Prop:=(m=a\/m=b\/m=c\/m=g)/\a<=m/\b<=m/\c<=m/\g<=m
def two (a b c g:Rat):Prop:=∃ l m,lV l a b c g/\A_ m a b c g/\(l+m)+(l+m) < a+b+c+g
open Classical in
noncomputable def nX (a b c g:Rat):Int:=if fits a b c g then(if two a b c g then 2 else 1) else 0
theorem yK {a b c g l m:Rat} (hl:lV l a b c g) (hm:A_ m a b c g):two a b c g↔(l+m)+(l+m) < a+b+c+g:=by
 constructor
 ·rintro⟨l',m',hl',hm',h⟩;have e1:l'=l:=by
   have h1:=hl'.1;have h2:=hl.1;have:=hl'.2;have:=hl.2;grind
  have e2:m'=m:=by
   have h1:=hm'.1;have h2:=hm.1;have:=hm'.2;have:=hm.2;grind
  rw [<- e1,<- e2];exact h
 ·intro h;exact⟨l,m,hl,hm,h⟩
theorem CK {ns:List Int} (h:ns.length=4):∃ x y z v,ns=[x,y,z,v]:=by
 match ns,h with
 | [x,y,z,v],_=>exact⟨x,y,z,v,rfl⟩
theorem xu {l m:List Int} (h:l.Perm m):l.foldr (·+·) 0=m.foldr (·+·) 0:=by
 induction h with
 | nil=>rfl
 | cons x _ ih=>show x+_=x+_; rw [ih]
 | swap x y l=>show y+(x+_)=x+(y+_); omega
 | trans _ _ h1 h2=>exact h1.trans h2
theorem wk {B:Int} {a b c g:Rat} {ia ib ic ig i:Int} (W:C7 B a b c g ia ib ic ig) (h:i∈[ia,ib,ic,ig]):∃ x,(x=a\/x=b\/x=c\/x=g)/\(i:Rat)=x*(B:Rat):=by
 simp only [Gk,Gs,or_false] at h;rcases h with rfl | rfl | rfl | rfl
 ·exact⟨a,.inl rfl,W.a⟩
 ·exact⟨b,.inr (.inl rfl),W.b⟩
 ·exact⟨c,.inr (.inr (.inl rfl)),W.c⟩
 ·exact⟨g,.inr (.inr (.inr rfl)),W.g⟩
theorem tJ {B:Int} {a b c g:Rat} {ia ib ic ig l0 l1 l2 l3:Int} (W:C7 B a b c g ia ib ic ig) (hp:[l0,l1,l2,l3].Perm [ia,ib,ic,ig]) (hs:List.Pairwise (λx1 x2=>x1<=x2) [l0,l1,l2,l3]):l0+l3 < l1+l2↔two a b c g:=by
 obtain⟨l,hl,el⟩:=wk W (hp.mem_iff.mp (show l0∈[l0,l1,l2,l3] by simp))
 obtain⟨m,hm,em⟩:=wk W (hp.mem_iff.mp (show l3∈[l0,l1,l2,l3] by simp))
 simp only [List.pairwise_cons,Gk,Gs,or_false,forall_eq_or_imp,forall_eq] at hs;have lo:∀ i∈[ia,ib,ic,ig],l0<=i:=λi hi=>by
  have:=hp.mem_iff.mpr hi;simp only [Gk,Gs,or_false] at this;omega
 have up:∀ i∈[ia,ib,ic,ig],i<=l3:=λi hi=>by
  have:=hp.mem_iff.mpr hi;simp only [Gk,Gs,or_false] at this;omega
 have L:lV l a b c g:=⟨hl,(bo W.pos el W.a).mp (lo _ (by simp)),(bo W.pos el W.b).mp (lo _ (by simp)),(bo W.pos el W.c).mp (lo _ (by simp)),(bo W.pos el W.g).mp (lo _ (by simp))⟩
 have M:A_ m a b c g:=⟨hm,(bo W.pos W.a em).mp (up _ (by simp)),(bo W.pos W.b em).mp (up _ (by simp)),(bo W.pos W.c em).mp (up _ (by simp)),(bo W.pos W.g em).mp (up _ (by simp))⟩
 rw [yK L M];have hsum:l0+(l1+(l2+(l3+0)))=ia+(ib+(ic+(ig+0))):=xu hp;have hc:=bo W.pos (b9 (b9 (b9 W.a W.b) W.c) W.g) (b9 (b9 el em) (b9 el em))
 constructor
 ·intro h;have:¬ ia+ib+ic+ig<=l0+l3+(l0+l3):=by omega
  rw [hc] at this;grind
 ·intro h;have:¬ a+b+c+g<=l+m+(l+m):=by grind
  rw [<- hc] at this;omega
def eK:bO:=λds S k=>∃ a b c g:Rat,ds=[RD a b c g]/\G4 20 a b c g/\∀ S',bU S S'->k (.int (nX a b c g)) S'
theorem iQ:aq ["rods","lengths"] ["rods"] (ai gH):=cV
theorem nS (Fn:FN K "many_pieces" gH f fd) (dN:aM P w K mg base "can_stand" 2 jy) (bj:aM P w K mg base "in_wholes" 1 eO) (nH:mg "sorted"=none):
  aH P w K mg base cm 3 f fd ["rods"] (cn K eK):=by
 refine Fn.okJ iQ (λds S k h=>?_) (λcdv A outer s H E hr=>⟨_,(ae (aA (kx (dz (dq dN hr (ar 0 ac)))) (af (ah am)) aB) (ae (aj (i:=1) iQ.nd (bw wR rfl nH vB (aa (dq bj hr (ar 0 ac)) ac))) (af (ah (oU (au qG (av dJ (aJ 1) (aJ 1)) (av dJ (aJ 1) (aJ 1)) (aw _)) am am))))),λds S k h=>?_⟩)
 ·obtain⟨_,_,_,_,rfl,_⟩:=h
  rfl
 ·obtain⟨a,b,c,g,rfl,g4,w⟩:=h;refine⟨a,b,c,g,rfl,g4,λS1 e1=>i6 (λhn=>?_) (λhf=>?_)⟩
  ·have w:=w S1 e1;rw [show nX a b c g=0 from if_neg hn] at w
   exact w
  ·refine⟨a,b,c,g,rfl,g4,λS2 p B ia ib ic ig W e2 n2 h2=>⟨[ia,ib,ic,ig],h2,by show 4 < 64; decide,λns hp hs p3 hp3=>?_⟩⟩
   obtain⟨l0,l1,l2,l3,rfl⟩:=CK hp.length_eq;have h3:put S2 p3 (.lst ([l0,l1,l2,l3].map D.int)) p3=some (.lst [.int l0,.int l1,.int l2,.int l3]):=ao;have w:=w _ (e1.trans (e2.trans (bU.new (o:=.lst ([l0,l1,l2,l3].map D.int)) hp3)));have key:=tJ W hp hs;refine⟨_,_,h3,eG,_,_,h3,sN,_,_,h3,iN,_,_,h3,lN,aR (λhl=>?_) (λhl=>?_)⟩
   ·rw [show nX a b c g=2 by unfold nX; rw [if_pos hf,if_pos (key.mp hl)]] at w
    exact w
   ·rw [show nX a b c g=1 by unfold nX; rw [if_pos hf,if_neg λz=>hl (key.mpr z)]] at w
    exact w
def lR:bO:=λds S k=>∃ p q:Rat,ds=[fr p,fr q]/\Sz 4000 p/\Sz 4000 q/\k (.bl (decide (p<=q))) S
theorem qd:aq ["one","other"] ["one","other"] (ai je):=cV
theorem qS (Fn:FN K "_law_most" je f fd) (c9:aM P w K mg base "_law_minus" 3 gS):
  aH P w K mg base cm 4 f fd ["one","other"] (cn K lR):=by
 refine Fn.okJ qd (λds S k h=>?_) (λcdv A outer s H E hr=>⟨_,(af (ah (fc Bx (cN eh (dq c9 hr (ar 1 (ar 0 ac))) am Zf) am (aw _)))),λds S k h=>?_⟩)
 ·obtain⟨_,_,rfl,_⟩:=h
  rfl
 ·obtain⟨p,q,rfl,hp,hq,w⟩:=h;have e:decide (p<=q)=decide (0<=(q - p).num):=decide_eq_decide.mpr ⟨λh=>Rat.num_nonneg.mpr (by grind),λh=>by have:=Rat.num_nonneg.mp h; grind⟩
  rw [e] at w;exact⟨q,p,rfl,hq.mono (by decide),hp.mono (by decide),w⟩
def Cr (l:List Rat):Prop:=l.Pairwise (·<=·)
theorem uw {x:Rat}:∀ {l:List Rat},Cr l->Cr (l.take (l.filter λy=>decide (y<=x)).length++x::l.drop (l.filter λy=>decide (y<=x)).length)
 | [],_=>List.pairwise_singleton _ _
 | y::l,h=>by
  obtain⟨h1,h2⟩:=List.pairwise_cons.mp h
  by_cases hy:y<=x
  ·rw [List.filter_cons_of_pos (by simp [hy])]
   show Cr (y::(l.take (l.filter λy=>decide (y<=x)).length++x::l.drop (l.filter λy=>decide (y<=x)).length))
   refine List.pairwise_cons.mpr ⟨λz hz=>?_,uw h2⟩
   rcases List.mem_append.mp hz with hz | hz
   ·exact h1 z (List.mem_of_mem_take hz)
   ·rcases Gk.mp hz with rfl | hz
    ·exact hy
    ·exact h1 z (List.mem_of_mem_drop hz)
  ·have e:(y::l).filter (λy=>decide (y<=x))=[]:=by
    rw [List.filter_eq_nil_iff];intro z hz;rcases Gk.mp hz with rfl | hz
    ·simpa using hy
    ·have:=h1 z hz;simp only [G3];intro q;grind
   rw [e];refine List.pairwise_cons.mpr ⟨λz hz=>?_,h⟩
   rcases Gk.mp hz with rfl | hz
   ·grind
   ·have:=h1 z hz;grind
theorem wq {x:Rat} {n:Nat} {l:List Rat}:(l.take n++x::l.drop n).Perm (x::l):=by
 refine List.perm_middle.trans ?_;rw [List.take_append_drop]
theorem i7 {α:Type} {f g:α->D} {q:α->Hi} {all:List α} {S:DH} {p:G_} {ok:DH->Prop} {bd:DB} {k:DK} {L1:Lo} (hp:S p=none) (hok:∀ S',bU S S'->ok S')
  (hbd:∀ (x:α) (S':DH) (k':Ha D->DH->Prop),x∈all->bU S S'->k' (if q x then some (g x) else none) S'->bd (some (f x)::L1) S' k'):
  ∀ (r:List α) (acc:List D) (l0:Ha D),(∀ x∈r,x∈all)->acc.length+r.length<=100->(∀ S',bU S S'->S' p=some (.lst (acc++(r.filter q).map g))->k (.ref p) S')->cO ok p (jm 0) bd k (r.map f) acc (l0::L1) (put S p (.lst acc))
 | [],acc,l0,_,_,w=>⟨hok _ (bU.new hp),w _ (bU.new hp) (by rw [ao]; simp)⟩
 | x::r,acc,l0,hr,hl,w=>by
  have hl:acc.length+(r.length+1)<=100:=hl;refine⟨hok _ (bU.new hp),hbd x _ _ (hr x Gn) (bU.new hp) ?_⟩;cases hq:q x with
  | true=>
   refine⟨ao,qx (by omega),?_⟩
   rw [uC];exact i7 hp hok hbd r _ _ (λy hy=>hr y (Go _ hy)) (by rw [Gx]; show acc.length+1+r.length<=100; omega) λS' e h=>w S' e (by rw [h,List.append_assoc,List.filter_cons_of_pos (by rw [hq])]; rfl)
  | false=>
   exact i7 hp hok hbd r _ _ (λy hy=>hr y (Go _ hy)) (by omega) λS' e h=>w S' e (by rw [h,List.filter_cons_of_neg (by rw [hq]; decide)])
def jN:bO:=λds S k=>∃ a b c g:Rat,ds=[RD a b c g]/\R4 a b c g/\∀ S' p (l:List Rat),Cr l->l.Perm [a,b,c,g]->bU S S'->S' p=some (.lst (l.map fr))->k (.ref p) S'
theorem fV:aq ["rods","found","one"] ["rods"] (ai gz):=cV
theorem mS (Fn:FN K "_law_sorted" gz f fd) (iW:aM P w K mg base "_law_most" 4 lR) (jO:mg "len"=none):
  aH P w K mg base cm 5 f fd ["rods"] (cn K jN):=by
 refine Fn.okJ fV (λds S k h=>?_) (λcdv A outer s H E hr=>⟨_,(ae (aj (i:=1) fV.nd (b6 ac)) (ae (fH PassesOwn.never rfl (ak 0) (aI (i:=2) fV.nd) (af (dO (A4 (ak 1) (bw pV rfl jO qQ (aa (jX rfl (eI (N:=["other","one"]) (cap:=[none,some 2]) rfl rfl rfl rfl ⟨rfl,trivial⟩ rfl rfl ⟨⟨rfl,.inl rfl,.inl rfl⟩,trivial⟩) (ak 1) (λ_ _ _ _=>(aI (i:=0) (show List.Nodup (["other","one"]:List Str) from by decide +kernel))) (λ_ _ _ _=>(dz (dq iW hr (ar 0 (ar 1 ac))))) (λ_ _ _ _=>(ak 0))) ac)) (ak 2))))) (af (ah (ak 1))))),λds S k h=>?_⟩)
 ·obtain⟨_,_,_,_,rfl,_⟩:=h
  rfl
 ·obtain⟨a,b,c,g,rfl,h4,w⟩:=h;refine⟨cD,λp hp=>⟨([fr a,fr b,fr c,fr g],none),rfl,?_⟩⟩
  have hmem:∀ x∈[a,b,c,g],Sz 14 x:=λx hx=>by
   simp only [Gk,Gs,or_false] at hx;rcases hx with rfl | rfl | rfl | rfl
   ·exact h4.a
   ·exact h4.b
   ·exact h4.c
   ·exact h4.g
  refine mH (λr L S'=>∃ (dn rs l:List Rat) (l2:Ha D),r=rs.map fr/\[a,b,c,g]=dn++rs/\Cr l/\l.Perm dn/\L=[some (RD a b c g),some (.ref p),l2]/\bU S S'/\S' p=some (.lst (l.map fr))) (λ_ _ _ _=>trivial) ?_ ?_ _ _ _ ⟨[],[a,b,c,g],[],none,rfl,rfl,.nil,.nil,rfl,bU.new hp,ao⟩
  ·rintro d r L S1 Nx ⟨dn,rs,l,l2,hr,he,ho,hl,rfl,e1,h1⟩ hN;cases rs with
   | nil=>cases hr
   | cons x rs=>
    cases hr;have sx:Sz 14 x:=hmem x (by rw [he]; simp)
    have ll:l.length<=3:=by
     have h:=congrArg List.length he;rw [Gx] at h;have h:4=dn.length+(rs.length+1):=h;rw [hl.length_eq]; omega
    refine⟨⟨_,h1⟩,(l.map fr,some p),by simp only [aQ,h1],λp2 hp2=>?_⟩
    refine i7 (f:=fr) (g:=fr) (q:=λy=>decide (y<=x)) (all:=l) (ok:=cU (l.map fr,some p)) (L1:=[some (fr x)]) hp2 (λS' e=>e _ _ h1) (λy S' k' hy e h=>?_) l [] none (λ_ h=>h) (by show 0+l.length<=100; omega) (λS2 e2 h2=>?_)
    ·have sy:Sz 14 y:=hmem y (by rw [he]; exact List.mem_append_left _ (hl.mem_iff.mp hy))
     refine⟨y,x,rfl,sy.mono (by decide),sx.mono (by decide),aR (λhle=>?_) (λhle=>?_)⟩
     ·rw [decide_eq_true hle] at h;exact h
     ·rw [GU hle] at h;exact h
    ·refine⟨_,h2,(l.filter λy=>decide (y<=x)).length,l.map fr,by rw [List.nil_append,Gh],e2 _ _ h1,by rw [Gh]; exact List.length_filter_le _ _,by rw [Gh]; omega,hN _ _ ⟨dn++[x],rs,_,_,rfl,by rw [he,List.append_assoc]; rfl,uw (x:=x) ho,?_,rfl,(e1.trans e2).put hp,?_⟩⟩
     ·exact wq.trans ((hl.cons x).trans (List.perm_append_singleton x dn).symm)
     ·rw [ao,List.map_append,List.map_cons,List.map_take,List.map_drop]
  ·rintro L S1 ⟨dn,rs,l,l2,hr,he,ho,hl,rfl,e1,h1⟩;cases rs with
   | cons x rs=>cases hr
   | nil=>
    rw [Gy] at he;rw [<- he] at hl;exact w S1 p l ho hl e1 h1
set_option maxHeartbeats 4000000
theorem DP {m n:Nat} (h1:m*m < n) (h2:n < (m+1)*(m+1)) (k:Nat):k*k≠n:=λe=>by
 subst e;rcases Nat.lt_or_ge m k with h | h
 ·have:=Nat.mul_le_mul (show m+1<=k from h) (show m+1<=k from h)
  omega
 ·have:=Nat.mul_le_mul h h;omega
theorem Bb {q:Rat} {m n:Nat} (h:q.num=(n:Int)) (h1:m*m < n) (h2:n < (m+1)*(m+1)):lv q:=λr e=>by
 have e1:=congrArg Rat.num e;rw [ki,h] at e1;have:=congrArg Int.natAbs e1;rw [GY] at this;exact DP h1 h2 _ this
theorem BQ:Fd 2:=⟨by decide,Bb (q:=2) (m:=1) (n:=2) rfl (by decide) (by decide),(show Sz 2 2 from⟨by decide,by decide⟩).mono (by decide)⟩
theorem Bk {a s:Rat} (no:lv s) (ha:a≠0):lv (a*a*s):=λr e=>no (r / a) (by
 have h:r / a*a=r:=Rat.div_mul_cancel ha;generalize r / a=t at h;subst h;have:a*a*(t*t - s)=0:=by grind
 have h2:a*a≠0:=by grind
 grind)
theorem Ak {p a s:Rat} (s0:0 < s) (no:lv s):yx p (ss a*s)=N s p a:=by
 by_cases ha:a=0
 ·subst ha;rw [show ss 0*s=0 by unfold ss; grind,yq]
  exact eS
 ·rw [wV (by rw [l8 s0]; exact Bk no ha)]
  rfl
theorem Av {p a ρ:Rat} (r0:0 < ρ):yx p (ss a*(ρ*ρ))=.tup [fr (p+a*ρ),fr 0]:=by
 have s0:0 < ρ*ρ:=GD r0 r0;have n1:0<=ab a*ρ:=Gz (iG a) (Rat.le_of_lt r0);have n2:ab a*ρ*(ab a*ρ)=ab (ss a*(ρ*ρ)):=by
  rw [l8 s0];unfold ab
  split <;> grind
 rw [mM n1 n2];have e:sg (ab a*ρ) (ss a*(ρ*ρ))=a*ρ:=by
  have h:=vS (b:=a) s0;unfold sg ab;rcases yS a with z | z | z
  ·have:¬ ss a*(ρ*ρ) < 0:=λq=>by rw [gr q,h_ z] at h; exact absurd h (by decide)
   rw [if_neg this,if_neg (by grind)]
  ·have:ss a*(ρ*ρ) < 0:=by
    have:sG (ss a*(ρ*ρ))=-1:=by rw [h,gr z]
    unfold sG at this
    split at this
    ·exact absurd this (by decide)
    ·split at this
     ·assumption
     ·exact absurd this (by decide)
   rw [if_pos this,if_pos z]; grind
  ·subst z
   split <;> grind
 rw [e]
theorem A7 {s:Rat} (s0:0 < s):lv s\/∃ ρ,0 < ρ/\ρ*ρ=s:=by
 by_cases h:∃ r,r*r=s
 ·obtain⟨r,e⟩:=h
  right
  rcases yS r with z | z | z
  ·exact⟨r,z,e⟩
  ·exact⟨-r,by grind,by grind⟩
  ·subst z; grind
 ·exact .inl λr e=>h ⟨r,e⟩
theorem Ed {x y a b s:Rat} (s0:0 < s) (no:lv s):MP x y a b s=Pq s (x,a) (y,b):=by
 unfold MP;rw [Ak s0 no,Ak s0 no]
 rfl
theorem Ar {x y a b ρ:Rat} (r0:0 < ρ):MP x y a b (ρ*ρ)=PP (x+a*ρ) (y+b*ρ):=by
 unfold MP;rw [Av r0,Av r0]
 rfl
theorem uy {n m:Nat} (h:n*n < 2 ^ (2*m)):n < 2 ^ m:=by
 rcases Nat.lt_or_ge n (2 ^ m) with z | z
 ·exact z
 ·have h2:=Nat.mul_le_mul z z;rw [<- Nat.pow_add,show m+m=2*m by omega] at h2
  omega
theorem vt {m:Nat} {q r:Rat} (h:Sz (2*m) q) (e:r*r=q):Sz m r:=by
 subst e;have h1:(r*r).num.natAbs < 2 ^ (2*m):=h.num;have h2:((r*r).den:Int).natAbs < 2 ^ (2*m):=h.den;rw [ki,GY] at h1;rw [lE,Int.natAbs_natCast] at h2;exact⟨uy h1,by show((r.den:Nat):Int).natAbs < 2 ^ m; rw [Int.natAbs_natCast]; exact uy h2⟩
theorem zK {x y s z v r t A e σ:Rat} (hσ:σ*σ=1) (hA:A=(z - x)*(z - x)+(v - y)*(v - y)) (ht:t*(A+A)=s - r+A) (he:e*A=s - t*t*A):
  aK e (qs (x+(z - x)*t,σ*-(v - y)) (qo x)) (qs (y+(v - y)*t,σ*(z - x)) (qo y))=(s,0)/\aK e (qs (x+(z - x)*t,σ*-(v - y)) (qo z)) (qs (y+(v - y)*t,σ*(z - x)) (qo v))=(r,0)/\
  iz e (qo x) (qo y) (qo z) (qo v) (x+(z - x)*t,σ*-(v - y)) (y+(v - y)*t,σ*(z - x))=(0,σ*A):=by
 simp only [aK,iz,qa,qm,qs,qo];refine⟨Gw ?_ ?_,Gw ?_ ?_,Gw ?_ ?_⟩ <;> dsimp only <;> grind
theorem yE {u x y s z v r t A ρ σ:Rat} (hσ:σ*σ=1) (hA:A=(z - x)*(z - x)+(v - y)*(v - y)) (ht:t*(A+A)=s - r+A) (he:ρ*ρ*A=s - t*t*A):
  aK u (qs (qo (x+(z - x)*t+σ*-(v - y)*ρ)) (qo x)) (qs (qo (y+(v - y)*t+σ*(z - x)*ρ)) (qo y))=(s,0)/\aK u (qs (qo (x+(z - x)*t+σ*-(v - y)*ρ)) (qo z)) (qs (qo (y+(v - y)*t+σ*(z - x)*ρ)) (qo v))=(r,0)/\
  iz u (qo x) (qo y) (qo z) (qo v) (qo (x+(z - x)*t+σ*-(v - y)*ρ)) (qo (y+(v - y)*t+σ*(z - x)*ρ))=(σ*A*ρ,0):=by
 simp only [aK,iz,qa,qm,qs,qo];refine⟨Gw ?_ ?_,Gw ?_ ?_,Gw ?_ ?_⟩ <;> dsimp only <;> grind
theorem CT {a b:Rat} (h:a*a+b*b≠0):0 < a*a+b*b:=by
 have:=bf a;have:=bf b;grind
theorem lQ {u x y:Rat}:PP x y=Pq u (qo x) (qo y):=by
 unfold PP Pq qo;rw [eS (u:=u),eS (u:=u)]
theorem um (q:Rat):((q.den:Int):Rat)≠0:=λz=>by
 have:=q.den_nz;have:(q.den:Int)=0:=Rat.intCast_inj.mp (by rw [z]; rfl)
 omega
theorem dW (q:Rat):((q.den:Int):Rat)*q=(q.num:Rat):=by
 have d0:=um q;have e:=Rat.num_divInt_den q;rw [GK] at e;grind
theorem l9 (q:Rat):0 < (q.den:Int):=by have:=q.den_pos; omega
theorem t_ {n d:Int} {k:Nat} {q:Rat} (d0:d≠0) (e:q*(d:Rat)=(n:Rat)) (hn:Bt k n) (hd:Bt k d):Sz k q:=by
 have d1:(d:Rat)≠0:=λz=>d0 (by exact_mod_cast z)
 have e1:q=Rat.divInt n d:=by
  rw [GK,<- e,Rat.mul_div_cancel d1]
 rw [e1];exact⟨by rw [<- km d0]; exact hn.le (HM.bz _ _),by rw [<- kN d0]; exact hd.le (HM.bz _ _)⟩
section
variable {x y s z v r:Rat} {P Q K:Int}
theorem uo (h0:(z - x)*(z - x)+(v - y)*(v - y)≠0):cT x y s z v r*(((z - x)*(z - x)+(v - y)*(v - y))+((z - x)*(z - x)+(v - y)*(v - y)))=s - r+((z - x)*(z - x)+(v - y)*(v - y)):=Rat.div_mul_cancel (qy h0)
theorem ue (h0:(z - x)*(z - x)+(v - y)*(v - y)≠0):cE x y s z v r*((z - x)*(z - x)+(v - y)*(v - y))=s - cT x y s z v r*cT x y s z v r*((z - x)*(z - x)+(v - y)*(v - y)):=by
 have h:s / ((z - x)*(z - x)+(v - y)*(v - y))*((z - x)*(z - x)+(v - y)*(v - y))=s:=Rat.div_mul_cancel h0;unfold cE;generalize s / ((z - x)*(z - x)+(v - y)*(v - y))=q at h ⊢;grind
theorem EH (hK:0 < K) (bK:Bt 17 K) (ha:(z - x)*(K:Rat)=P) (hb:(v - y)*(K:Rat)=Q) (bP:Bt 21 P) (bQ:Bt 21 Q) (sn:Bt 14 s.num) (sd:Bt 7 (s.den:Int)) (rn:Bt 22 r.num) (rd:Bt 14 (r.den:Int)) (h0:(z - x)*(z - x)+(v - y)*(v - y)≠0):
  (P*P+Q*Q≠0)/\cT x y s z v r*((2*(P*P+Q*Q)*(s.den:Int)*(r.den:Int):Int):Rat)=(((s.num*(r.den:Int) - r.num*(s.den:Int))*(K*K)+(P*P+Q*Q)*(s.den:Int)*(r.den:Int):Int):Rat):=by
 have g:((z - x)*(z - x)+(v - y)*(v - y))*((K:Rat)*K)=((P*P+Q*Q:Int):Rat):=by
  rw [Gv,Ge,Ge,<- ha,<- hb];grind
 have K0:(K:Rat)≠0:=λe=>by
  have:K=0:=by exact_mod_cast e
  omega
 refine⟨λe=>?_,?_⟩
 ·rw [e] at g;rcases Gr.mp g with q | q
  ·exact h0 q
  ·rcases Gr.mp q with q | q <;> exact K0 q
 ·have t:=uo (x:=x) (y:=y) (s:=s) (z:=z) (v:=v) (r:=r) h0;have d1:=dW s;have d2:=dW r;simp only [Gv,Ge,GH] at g ⊢;generalize (z - x)*(z - x)+(v - y)*(v - y)=A at*
  generalize cT x y s z v r=T at*
  grind
theorem Aq (hK:0 < K) (bK:Bt 17 K) (ha:(z - x)*(K:Rat)=P) (hb:(v - y)*(K:Rat)=Q) (bP:Bt 21 P) (bQ:Bt 21 Q) (sn:Bt 14 s.num) (sd:Bt 7 (s.den:Int)) (rn:Bt 22 r.num) (rd:Bt 14 (r.den:Int)) (h0:(z - x)*(z - x)+(v - y)*(v - y)≠0):
  Sz 66 (cT x y s z v r)/\Sz 134 (cE x y s z v r):=by
 obtain⟨G0,t⟩:=EH hK bK ha hb bP bQ sn sd rn rd h0;have s0:=l9 s;have r0:=l9 r;have bG:=(bP.mul bP).add (bQ.mul bQ);have bD:Bt 66 (2*(P*P+Q*Q)*(s.den:Int)*(r.den:Int)):=((((show Bt 2 2 by decide).mul bG).mul sd).mul rd).mono (by decide)
 have bN:Bt 65 ((s.num*(r.den:Int) - r.num*(s.den:Int))*(K*K)+(P*P+Q*Q)*(s.den:Int)*(r.den:Int)):=((((sn.mul rd).sub (rn.mul sd)).mul (bK.mul bK)).add ((bG.mul sd).mul rd)).mono (by decide)
 have D0:2*(P*P+Q*Q)*(s.den:Int)*(r.den:Int)≠0:=Int.mul_ne_zero (Int.mul_ne_zero (Int.mul_ne_zero (by decide) G0) (by omega)) (by omega)
 refine⟨(t_ D0 t (bN.mono (by decide)) bD).mono (by decide),?_⟩
 have g:((z - x)*(z - x)+(v - y)*(v - y))*((K:Rat)*K)=((P*P+Q*Q:Int):Rat):=by
  rw [Gv,Ge,Ge,<- ha,<- hb];grind
 have e:=ue (x:=x) (y:=y) (s:=s) (z:=z) (v:=v) (r:=r) h0;have d1:=dW s;generalize hN:(s.num*(r.den:Int) - r.num*(s.den:Int))*(K*K)+(P*P+Q*Q)*(s.den:Int)*(r.den:Int)=N at*
 have f:cE x y s z v r*((2*(P*P+Q*Q)*(s.den:Int)*(r.den:Int)*(2*(P*P+Q*Q)*(s.den:Int)*(r.den:Int)):Int):Rat)=((4*(P*P+Q*Q)*s.num*(s.den:Int)*((r.den:Int)*(r.den:Int))*(K*K) - N*N:Int):Rat):=by
  clear hN bN bD D0 bG;generalize P*P+Q*Q=G at*
  simp only [Ge,GH] at g t ⊢
  rw [<- t];generalize (z - x)*(z - x)+(v - y)*(v - y)=A at*
  generalize cT x y s z v r=T at*
  generalize cE x y s z v r=C at*
  rw [<- g,<- d1];have e2:((4:Int):Rat)=4:=rfl;have e3:((2:Int):Rat)=2:=rfl;rw [e2,e3];generalize ((s.den:Int):Rat)=a;generalize ((r.den:Int):Rat)=b;clear t g d1;have:=congrArg (·*(4*A*((K:Rat)*K)*((K:Rat)*K)*a*a*b*b)) e;grind
 have bM:Bt 134 (4*(P*P+Q*Q)*s.num*(s.den:Int)*((r.den:Int)*(r.den:Int))*(K*K) - N*N):=(((((((show Bt 3 4 by decide).mul bG).mul sn).mul sd).mul (rd.mul rd)).mul (bK.mul bK)).sub (bN.mul bN)).mono (by decide)
 exact t_ (Int.mul_ne_zero D0 D0) f bM ((bD.mul bD).mono (by decide))
end
structure Jt (n:Nat) (x y s z v r:Rat) (d:D) (κ:Hi) (u:Rat) (X Y:Q):Prop where
 e:d=Pq u X Y
 f:Fd u
 wx:Wy κ 248 138 (n+1) X
 wy:Wy κ 248 138 (n+1) Y
 su:Sz 134 u
 one:aK u (qs X (qo x)) (qs Y (qo y))=(s,0)
 two:aK u (qs X (qo z)) (qs Y (qo v))=(r,0)
section
variable {x y s z v r:Rat}
theorem zZ {σ:Rat} (hσ:σ*σ=1) (sσ:Sz 1 σ) {n:Nat} (hz:og n x y s z v r) (h0:(z - x)*(z - x)+(v - y)*(v - y)≠0) (e0:0 < cE x y s z v r) (no:lv (cE x y s z v r)):
  Jt n x y s z v r (MP (x+(z - x)*cT x y s z v r) (y+(v - y)*cT x y s z v r) (σ*-(v - y)) (σ*(z - x)) (cE x y s z v r)) false (cE x y s z v r) (x+(z - x)*cT x y s z v r,σ*-(v - y)) (y+(v - y)*cT x y s z v r,σ*(z - x)):=by
 obtain⟨c1,c2,_⟩:=zK (x:=x) (y:=y) (s:=s) (z:=z) (v:=v) (r:=r) hσ rfl (uo h0) (by rw [ue h0])
 exact⟨Ed e0 no,⟨e0,no,hz.he.mono (by decide)⟩,⟨(hz.hx.add (hz.up.ha.mul hz.ht)).mono (by decide),(sσ.mul hz.hb.neg).mono (by omega)⟩,⟨(hz.hy.add (hz.up.hb.mul hz.ht)).mono (by decide),(sσ.mul hz.ha).mono (by omega)⟩,hz.he,c1,c2⟩
theorem xm {σ ρ:Rat} (hσ:σ*σ=1) (sσ:Sz 1 σ) {n:Nat} (hz:og n x y s z v r) (h0:(z - x)*(z - x)+(v - y)*(v - y)≠0) (eρ:ρ*ρ=cE x y s z v r):
  Jt n x y s z v r (PP (x+(z - x)*cT x y s z v r+σ*-(v - y)*ρ) (y+(v - y)*cT x y s z v r+σ*(z - x)*ρ)) true 2 (qo (x+(z - x)*cT x y s z v r+σ*-(v - y)*ρ)) (qo (y+(v - y)*cT x y s z v r+σ*(z - x)*ρ)):=by
 obtain⟨c1,c2,_⟩:=yE (u:=2) (x:=x) (y:=y) (s:=s) (z:=z) (v:=v) (r:=r) (ρ:=ρ) hσ rfl (uo h0) (by rw [eρ,ue h0])
 have sρ:Sz 67 ρ:=vt (m:=67) hz.he eρ;exact⟨lQ,BQ,⟨rfl,((hz.hx.add (hz.up.ha.mul hz.ht)).add ((sσ.mul hz.up.hb.neg).mul sρ)).mono (by decide)⟩,⟨rfl,((hz.hy.add (hz.up.hb.mul hz.ht)).add ((sσ.mul hz.up.ha).mul sρ)).mono (by decide)⟩,⟨by decide,by decide⟩,c1,c2⟩
theorem vW {n:Nat} (hz:og n x y s z v r) (h0:(z - x)*(z - x)+(v - y)*(v - y)≠0):∀ d∈cL x y s z v r,∃ κ u X Y,Jt n x y s z v r d κ u X Y:=by
 have o1:Sz 1 (1:Rat):=⟨by decide,by decide⟩
 have o2:Sz 1 (-1:Rat):=⟨by decide,by decide⟩
 have q1:(1:Rat)*1=1:=by grind
 have q2:(-1:Rat)*-1=1:=by grind
 intro d hd
 by_cases e1:cE x y s z v r < 0
 ·rw [show cL x y s z v r=[] from if_pos e1] at hd
  cases hd
 by_cases e2:cE x y s z v r=0
 ·have c:cL x y s z v r=[PP (x+(z - x)*cT x y s z v r) (y+(v - y)*cT x y s z v r)]:=by
   unfold cL iJ;rw [if_neg e1,if_pos e2]
  have j:=xm (ρ:=0) q1 o1 hz h0 (by rw [e2]; grind)
  rw [Rat.mul_zero,Rat.mul_zero,Rat.add_zero,Rat.add_zero] at j;rw [c,List.mem_singleton] at hd;rw [hd];exact⟨_,_,_,_,j⟩
 have e3:0 < cE x y s z v r:=by grind
 have c:cL x y s z v r=[MP (x+(z - x)*cT x y s z v r) (y+(v - y)*cT x y s z v r) (-(v - y)) (z - x) (cE x y s z v r),MP (x+(z - x)*cT x y s z v r) (y+(v - y)*cT x y s z v r) (- -(v - y)) (-(z - x)) (cE x y s z v r)]:=by
  unfold cL iJ;rw [if_neg e1,if_neg e2]
 rw [c] at hd;simp only [Gk,Gs,or_false] at hd;rcases A7 e3 with no | ⟨ρ,r0,eρ⟩
 ·rcases hd with rfl | rfl
  ·have j:=zZ q1 o1 hz h0 e3 no;rw [show (1:Rat)*-(v - y)=-(v - y) by grind,show(1:Rat)*(z - x)=z - x by grind] at j
   exact⟨_,_,_,_,j⟩
  ·have j:=zZ q2 o2 hz h0 e3 no;rw [show (-1:Rat)*-(v - y)=- -(v - y) by grind,show(-1:Rat)*(z - x)=-(z - x) by grind] at j
   exact⟨_,_,_,_,j⟩
 ·rw [<- eρ,Ar r0,Ar r0] at hd;rcases hd with rfl | rfl
  ·have j:=xm q1 o1 hz h0 eρ;rw [show (1:Rat)*-(v - y)=-(v - y) by grind,show(1:Rat)*(z - x)=z - x by grind] at j
   exact⟨_,_,_,_,j⟩
  ·have j:=xm q2 o2 hz h0 eρ;rw [show (-1:Rat)*-(v - y)=- -(v - y) by grind,show(-1:Rat)*(z - x)=-(z - x) by grind] at j
   exact⟨_,_,_,_,j⟩
end
set_option maxHeartbeats 4000000
theorem D' {u D s r:Rat} {P1 P2 Q1 Q2:Q} (h1:aK u P1 P2=(D,0)) (h2:aK u Q1 Q2=(s,0)) (h3:aK u (qs P1 Q1) (qs P2 Q2)=(r,0)):
  qm u (qs (qm u P1 Q2) (qm u P2 Q1)) (qs (qm u P1 Q2) (qm u P2 Q1))=(D*s - (D+s - r) / 2*((D+s - r) / 2),0):=by
 have dot:qa (qm u P1 Q1) (qm u P2 Q2)=((D+s - r) / 2,0):=by
  have a1:=congrArg Prod.fst h1;have a2:=congrArg Prod.snd h1;have b1:=congrArg Prod.fst h2;have b2:=congrArg Prod.snd h2;have c1:=congrArg Prod.fst h3;have c2:=congrArg Prod.snd h3;simp only [aK,qa,qm,qs] at a1 a2 b1 b2 c1 c2 ⊢
  apply Gw <;> dsimp only <;> grind
 have lag:qa (qm u (qs (qm u P1 Q2) (qm u P2 Q1)) (qs (qm u P1 Q2) (qm u P2 Q1))) (qm u (qa (qm u P1 Q1) (qm u P2 Q2)) (qa (qm u P1 Q1) (qm u P2 Q2)))=qm u (aK u P1 P2) (aK u Q1 Q2):=by
  simp only [aK,qa,qm,qs];apply Gw <;> dsimp only <;> grind
 rw [dot,h1,h2] at lag;generalize qm u (qs (qm u P1 Q2) (qm u P2 Q1)) (qs (qm u P1 Q2) (qm u P2 Q1))=Z at lag ⊢;have l1:=congrArg Prod.fst lag;have l2:=congrArg Prod.snd lag;simp only [qa,qm] at l1 l2
 apply Gw <;> dsimp only <;> grind
theorem xn {u:Rat} (h:0 < u) (S:Q):0<=(qm u S S).1:=by
 have a:=bf S.1;have b:=Gz (bf S.2) (Rat.le_of_lt h)
 show 0<=S.1*S.1+S.2*S.2*u
 grind
theorem zS {b c D:Rat}:D*(b*b) - (D+b*b - c*c) / 2*((D+b*b - c*c) / 2)=((b+c)*(b+c) - D)*(D - (b - c)*(b - c)) / 4:=by grind
structure qN (a b c g:Rat):Prop where
 a:0 < a
 b:0 < b
 c:0 < c
 g:0 < g
theorem cH {x y:Rat} (h:x=y):x<=y:=by rw [h]; exact Rat.le_refl
theorem eY {x y:Rat} (h1:x < 0) (h2:0 < y):x*y < 0:=by
 have:=GD (show 0 < -x by grind) h2
 grind
theorem gN {x y:Rat} (h0:0<=x) (h:x < y):x*x < y*y:=by
 have h1:=GD (show 0 < y - x by grind) (show 0 < y+x by grind)
 grind
theorem BA {a x:Rat} (ha:0 < a) (h:x*x<=a*a):x<=a/\-a<=x:=by
 constructor
 ·rcases Rat.le_total (a:=x) (b:=a) with z | z
  ·exact z
  ·by_cases q:x=a
   ·exact cH q
   ·have:=gN (x:=a) (y:=x) (by grind) (by grind)
    grind
 ·rcases Rat.le_total (a:=(-a)) (b:=x) with z | z
  ·exact z
  ·by_cases q:-a=x
   ·exact cH q
   ·have:=gN (x:=a) (y:=-x) (by grind) (by grind)
    grind
theorem wN {a g x D:Rat} (ha:0 < a) (hg:0 < g) (h:x*x<=a*a) (eD:D=g*g - (g*x+g*x)+a*a):(g - a)*(g - a)<=D/\D<=(g+a)*(g+a):=by
 obtain⟨x1,x2⟩:=BA ha h;have gx1:=Gz (Rat.le_of_lt hg) (show 0<=a - x by grind)
 have gx2:=Gz (Rat.le_of_lt hg) (show 0<=a+x by grind)
 constructor <;> grind
theorem zJ {a b c g D:Rat} (p:qN a b c g) (lo:(g - a)*(g - a)<=D) (hi:D<=(g+a)*(g+a)) (prod:0<=((b+c)*(b+c) - D)*(D - (b - c)*(b - c))):fits a b c g:=by
 have ha:=p.a;have hb:=p.b;have hc:=p.c;have hg:=p.g;have bc:(b - c)*(b - c) < (b+c)*(b+c):=by
  have:=GD hb hc;grind
 have far:(b+c)*(b+c) < (g - a)*(g - a)->False:=λz=>by
  have:=eY (x:=(b+c)*(b+c) - D) (y:=D - (b - c)*(b - c)) (by grind) (by grind)
  grind
 have near:(g+a)*(g+a) < (b - c)*(b - c)->False:=λz=>by
  have:=eY (x:=D - (b - c)*(b - c)) (y:=(b+c)*(b+c) - D) (by grind) (by grind)
  grind
 refine⟨?_,?_,?_,?_⟩
 ·rcases Rat.le_total (a:=a) (b:=(b+c+g)) with z | z
  ·exact z
  ·by_cases q:a=b+c+g
   ·exact cH q
   ·have:=gN (x:=b+c) (y:=a - g) (by grind) (by grind)
    exact(far (by grind)).elim
 ·rcases Rat.le_total (a:=b) (b:=(a+c+g)) with z | z
  ·exact z
  ·by_cases q:b=a+c+g
   ·exact cH q
   ·have:=gN (x:=g+a) (y:=b - c) (by grind) (by grind)
    exact(near (by grind)).elim
 ·rcases Rat.le_total (a:=c) (b:=(a+b+g)) with z | z
  ·exact z
  ·by_cases q:c=a+b+g
   ·exact cH q
   ·have:=gN (x:=g+a) (y:=c - b) (by grind) (by grind)
    exact(near (by grind)).elim
 ·rcases Rat.le_total (a:=g) (b:=(a+b+c)) with z | z
  ·exact z
  ·by_cases q:g=a+b+c
   ·exact cH q
   ·have:=gN (x:=b+c) (y:=g - a) (by grind) (by grind)
    exact(far (by grind)).elim
def fo (a b c g:Rat):Prop:=lV a a b c g\/lV g a b c g
theorem xD {a b c g:Rat} (h:two a b c g) (e:fo a b c g):g+a < b+c/\((b - c < g - a/\c - b < g - a)\/(b - c < a - g/\c - b < a - g)):=by
 obtain⟨l,m,hl,hm,h⟩:=h;obtain⟨l0,l1,l2,l3,l4⟩:=hl;obtain⟨m0,m1,m2,m3,m4⟩:=hm;unfold fo lV at e;rcases e with ⟨_,e1,e2,e3,e4⟩ | ⟨_,e1,e2,e3,e4⟩
 ·have el:l=a:=by grind
  subst el;rcases m0 with rfl | rfl | rfl | rfl <;> constructor <;> grind
 ·have el:l=g:=by grind
  subst el;rcases m0 with rfl | rfl | rfl | rfl <;> constructor <;> grind
theorem uP {a b c g:Rat} (h:two a b c g) (e:¬ fo a b c g):b+c < g+a/\((g - a < b - c/\a - g < b - c)\/(g - a < c - b/\a - g < c - b)):=by
 obtain⟨l,m,hl,hm,h⟩:=h;have hl':=hl;obtain⟨l0,l1,l2,l3,l4⟩:=hl;obtain⟨m0,m1,m2,m3,m4⟩:=hm;rcases l0 with rfl | rfl | rfl | rfl
 ·exact absurd (.inl hl') e
 ·rcases m0 with rfl | rfl | rfl | rfl <;> constructor <;> grind
 ·rcases m0 with rfl | rfl | rfl | rfl <;> constructor <;> grind
 ·exact absurd (.inr hl') e
theorem kI {x y:Rat} (h:(x < y/\-x < y)):x*x < y*y:=by
 rcases Rat.le_total (a:=0) (b:=x) with z | z
 ·exact gN z h.1
 ·have:=gN (x:=-x) (y:=y) (by grind) h.2
  grind
theorem uk {a b c g:Rat} (p:qN a b c g) (h:two a b c g) (e:fo a b c g):(b - c)*(b - c) < (g - a)*(g - a)/\(g+a)*(g+a) < (b+c)*(b+c):=by
 have:=p.a;have:=p.g;obtain⟨h1,h2⟩:=xD h e;refine⟨?_,gN (by grind) h1⟩
 rcases h2 with h2 | h2
 ·exact kI (x:=b - c) (y:=g - a) ⟨h2.1,by grind⟩
 ·have:=kI (x:=b - c) (y:=a - g) ⟨h2.1,by grind⟩
  grind
theorem yd {a b c g:Rat} (p:qN a b c g) (h:two a b c g) (e:¬ fo a b c g):(g - a)*(g - a) < (b - c)*(b - c)/\(b+c)*(b+c) < (g+a)*(g+a):=by
 have:=p.b;have:=p.c;obtain⟨h1,h2⟩:=uP h e;refine⟨?_,gN (by grind) h1⟩
 rcases h2 with h2 | h2
 ·exact kI (x:=g - a) (y:=b - c) ⟨h2.1,by grind⟩
 ·have:=kI (x:=g - a) (y:=c - b) ⟨h2.1,by grind⟩
  grind
abbrev vO (u x g:Rat) (AY BX BY:Q):Q:=iz u (qo x) AY (qo g) (qo 0) BX BY
structure St (a b c g:Rat) (κ:Hi) (u x:Rat) (AY BX BY:Q):Prop where
 f:Fd u
 wx:Wy κ 248 138 42 (qo x)
 wy:Wy κ 248 138 42 AY
 bx:Wy κ 540 310 45 BX
 by':Wy κ 540 310 45 BY
 dx:W2 κ (qs BX (qo x))
 dy:W2 κ (qs BY AY)
 ex:W2 κ (qs (qo g) BX)
 ey:W2 κ (qs (qo 0) BY)
 sB:two a b c g->fo a b c g->Sz 1900 (vO u x g AY BX BY).1/\Sz 900 (vO u x g AY BX BY).2
 one:aK u (qo x) AY=(a*a,0)
 tw:aK u (qs BX (qo x)) (qs BY AY)=(b*b,0)
 thr:aK u (qs (qo g) BX) (qs (qo 0) BY)=(c*c,0)
abbrev zj (u x:Rat) (AY BX BY:Q):D:=.tup [Pq u (qo x) AY,Pq u BX BY]
abbrev ng (X:Q):Q:=(-X.1,-X.2)
theorem Wy.ng {κ:Hi} {P m n:Nat} {X:Q} (h:Wy κ P m n X):Wy κ P m n (ng X):=by
 cases κ
 ·exact⟨h.1.neg,h.2.neg⟩
 ·exact⟨by show -X.2=0; rw [h.1]; grind,h.2.neg⟩
section
variable {a b c g:Rat} {κ:Hi} {u x:Rat} {AY BX BY:Q}
theorem rh {u x g:Rat} {AY BX BY:Q}:vO u x g (ng AY) BX (ng BY)=ng (vO u x g AY BX BY):=by
 simp only [iz,qm,qs,qo];refine Gw ?_ ?_ <;> dsimp only <;> grind
theorem AC {X Y:Q}:qs (ng X) (ng Y)=ng (qs X Y):=by
 unfold qs;refine Gw ?_ ?_ <;> dsimp only <;> grind
theorem yy {X:Q}:qs (qo 0) (ng X)=ng (qs (qo 0) X):=by
 unfold qs qo;refine Gw ?_ ?_ <;> dsimp only <;> grind
theorem St.mir (h:St a b c g κ u x AY BX BY):St a b c g κ u x (ng AY) BX (ng BY):=by
 refine⟨h.f,h.wx,h.wy.ng,h.bx,h.by'.ng,h.dx,by rw [AC]; exact h.dy.ng,h.ex,by rw [yy]; exact h.ey.ng,λt e=>by rw [rh]; exact⟨(h.sB t e).1.neg,(h.sB t e).2.neg⟩,?_,?_,?_⟩
 ·rw [<- h.one];simp only [aK,qa,qm,qo];apply Gw <;> dsimp only <;> grind
 ·rw [<- h.tw];simp only [aK,qa,qm,qs,qo];apply Gw <;> dsimp only <;> grind
 ·rw [<- h.thr];simp only [aK,qa,qm,qs,qo];apply Gw <;> dsimp only <;> grind
def dd (a g x:Rat):Rat:=g*g - (g*x+g*x)+a*a
theorem St.far (h:St a b c g κ u x AY BX BY):aK u (qs (qo g) (qo x)) (qs (qo 0) AY)=(dd a g x,0):=by
 have h1:=congrArg Prod.fst h.one;have h2:=congrArg Prod.snd h.one;simp only [aK,qa,qm,qs,qo,dd] at h1 h2 ⊢
 apply Gw <;> dsimp only <;> grind
theorem St.her (h:St a b c g κ u x AY BX BY):qm u (vO u x g AY BX BY) (vO u x g AY BX BY)=(((b+c)*(b+c) - dd a g x)*(dd a g x - (b - c)*(b - c)) / 4,0):=by
 rw [<- zS];refine D' (P1:=qs (qo g) (qo x)) (P2:=qs (qo 0) AY) (Q1:=qs BX (qo x)) (Q2:=qs BY AY) h.far h.tw ?_;rw [<- h.thr];simp only [aK,qa,qm,qs,qo];apply Gw <;> dsimp only <;> grind
theorem St.xx (h:St a b c g κ u x AY BX BY):x*x<=a*a:=by
 have h1:=congrArg Prod.fst h.one;have y:=xn h.f.pos AY;have h1:x*x+0*0*u+(qm u AY AY).1=a*a:=h1;grind
theorem St.prod (h:St a b c g κ u x AY BX BY):0<=((b+c)*(b+c) - dd a g x)*(dd a g x - (b - c)*(b - c)):=by
 have y:=xn h.f.pos (vO u x g AY BX BY);rw [h.her] at y;have y:0<=((b+c)*(b+c) - dd a g x)*(dd a g x - (b - c)*(b - c)) / 4:=y;grind
theorem St.fits (p:qN a b c g) (h:St a b c g κ u x AY BX BY):fits a b c g:=by
 obtain⟨lo,hi⟩:=wN p.a p.g h.xx rfl;exact zJ p lo hi h.prod
theorem St.sideB (p:qN a b c g) (h:St a b c g κ u x AY BX BY) (t:two a b c g) (e:fo a b c g):vO u x g AY BX BY≠(0,0):=λz=>by
 have y:=congrArg Prod.fst h.her;rw [z] at y;have y:(0:Rat)*0+0*0*u=((b+c)*(b+c) - dd a g x)*(dd a g x - (b - c)*(b - c)) / 4:=y;obtain⟨lo,hi⟩:=wN p.a p.g h.xx (D:=dd a g x) rfl;obtain⟨s1,s2⟩:=uk p t e;have:=GD (a:=(b+c)*(b+c) - dd a g x) (b:=dd a g x - (b - c)*(b - c)) (by grind) (by grind)
 grind
theorem St.sideA (p:qN a b c g) (h:St a b c g κ u x AY BX BY) (t:two a b c g) (e:¬ fo a b c g):AY≠(0,0):=λz=>by
 have y:=congrArg Prod.fst h.one;rw [z] at y;have y:x*x+0*0*u+((0:Rat)*0+0*0*u)=a*a:=y;obtain⟨s1,s2⟩:=yd p t e;have pr:=h.prod;have hb:=p.b;have hc:=p.c;have bc:(b - c)*(b - c) < (b+c)*(b+c):=by
  have:=GD hb hc;grind
 have q:(x - a)*(x+a)=0:=by grind
 rcases Gr.mp q with q | q
 ·have eD:dd a g x=(g - a)*(g - a):=by unfold dd; grind
  rw [eD] at pr;have:=eY (x:=(g - a)*(g - a) - (b - c)*(b - c)) (y:=(b+c)*(b+c) - (g - a)*(g - a)) (by grind) (by grind)
  grind
 ·have eD:dd a g x=(g+a)*(g+a):=by unfold dd; grind
  rw [eD] at pr;have:=eY (x:=(b+c)*(b+c) - (g+a)*(g+a)) (y:=(g+a)*(g+a) - (b - c)*(b - c)) (by grind) (by grind)
  grind
end
set_option maxHeartbeats 4000000
theorem w5 {q:Rat} (h:Tn 14 q):Bt 14 (q*q).num/\Bt 7 ((q*q).den:Int):=by
 obtain⟨n,d⟩:=Tn.fourteen.mp h;rw [ki,lE]
 constructor
 ·unfold Bt;rw [GY];have:=Nat.mul_le_mul n n;omega
 ·unfold Bt;rw [Int.natAbs_natCast];have:=Nat.mul_le_mul d d;omega
theorem rk {q:Rat} (h:Tn 14 q):Bt 7 q.num/\Bt 4 (q.den:Int):=by
 obtain⟨n,d⟩:=Tn.fourteen.mp h;unfold Bt;omega
theorem iH {q:Rat} (h:Tn 14 q):Sz 7 q:=⟨(rk h).1,(rk h).2.mono (by decide)⟩
theorem zm {o:Ha Rat} (h:kw o):∃ W A B:Int,0 < W/\Bt 9 W/\Bt 8 A/\Bt 9 B/\cB o*(W:Rat)=A/\cG o*(W:Rat)=B:=by
 cases o with
 | none=>exact⟨1,-1,0,by decide,by decide,by decide,by decide,by decide +kernel,by decide +kernel⟩
 | some t=>
  have s:=h t rfl;have n1:=s.num;have d1:=s.den;have d0:=l9 t;have e:=dW t;generalize t.num=p at*
  generalize (t.den:Int)=q at*
  have b1:p.natAbs < 16:=n1;have b2:q.natAbs < 16:=d1;have pp:p*p=((p.natAbs*p.natAbs:Nat):Int):=Int.natAbs_mul_self.symm;have qq:q*q=((q.natAbs*q.natAbs:Nat):Int):=Int.natAbs_mul_self.symm;have m1:p.natAbs*p.natAbs<=15*15:=Nat.mul_le_mul (by omega) (by omega)
  have m2:q.natAbs*q.natAbs<=15*15:=Nat.mul_le_mul (by omega) (by omega)
  have m3:1*1<=q.natAbs*q.natAbs:=Nat.mul_le_mul (by omega) (by omega)
  have m4:p.natAbs*q.natAbs<=15*15:=Nat.mul_le_mul (by omega) (by omega)
  have pq:(p*q).natAbs=p.natAbs*q.natAbs:=GY _ _;refine⟨q*q+p*p,q*q - p*p,2*(p*q),by omega,by unfold Bt; omega,by unfold Bt; omega,by unfold Bt; omega,?_,?_⟩
  ·have h0:=eH t;simp only [Gv,Ge,GH];rw [<- e];unfold cB;dsimp only;generalize (q:Rat)=r;grind
  ·have h0:=eH t;have e2:((2:Int):Rat)=2:=rfl;simp only [Gv,Ge];rw [<- e,e2];unfold cG;dsimp only;generalize (q:Rat)=r;grind
theorem DZ {x y s z v r:Rat} (h:(z - x)*(z - x)+(v - y)*(v - y)=0):Sz 66 (cT x y s z v r)/\Sz 134 (cE x y s z v r):=by
 have t0:cT x y s z v r=0:=by
  unfold cT;rw [h];exact Rat.div_def _ _▸by rw [show (0:Rat)+0=0 by decide +kernel,Rat.inv_zero,Rat.mul_zero]
 have e0:cE x y s z v r=0:=by
  unfold cE;rw [t0,h,Rat.div_def,Rat.inv_zero,Rat.mul_zero]
  decide +kernel
 rw [t0,e0];exact⟨Sz.zero.mono (by decide),Sz.zero.mono (by decide)⟩
theorem Ah {a b c g:Rat} {o:Ha Rat} (h:G4 14 a b c g) (ho:kw o):og 40 (cB o*a) (cG o*a) (b*b) g 0 (c*c):=by
 have sa:=iH h.ta;have sg:=iH h.tg;have ax:=(uD ho).mul sa;have ay:=(ub ho).mul sa;have sb:=iH h.tb;have sc:=iH h.tc;have e:Sz 66 (cT (cB o*a) (cG o*a) (b*b) g 0 (c*c))/\Sz 134 (cE (cB o*a) (cG o*a) (b*b) g 0 (c*c)):=by
  by_cases A0:(g - cB o*a)*(g - cB o*a)+(0 - cG o*a)*(0 - cG o*a)=0
  ·exact DZ A0
  ·obtain⟨W,A,B,W0,bW,bA,bB,eA,eB⟩:=zm ho;obtain⟨na,da⟩:=rk h.ta;obtain⟨ng,dg⟩:=rk h.tg;obtain⟨nb,db⟩:=w5 h.tb;obtain⟨nc,dc⟩:=w5 h.tc;have pos:0 < W*((g.den:Int)*(a.den:Int)):=Int.mul_pos W0 (Int.mul_pos (l9 g) (l9 a));have bK:Bt 17 (W*((g.den:Int)*(a.den:Int))):=bW.mul (dg.mul da);have w1:(g - cB o*a)*((W*((g.den:Int)*(a.den:Int)):Int):Rat)=((g.num*(W*(a.den:Int)) - A*a.num*(g.den:Int):Int):Rat):=by
    simp only [Ge,GH];rw [<- dW g,<- dW a,<- eA];grind
   have w2:(0 - cG o*a)*((W*((g.den:Int)*(a.den:Int)):Int):Rat)=((0 - B*a.num*(g.den:Int):Int):Rat):=by
    simp only [Ge,GH];rw [<- dW a,<- eB];have:((0:Int):Rat)=0:=rfl;rw [this];grind
   have bP:=((ng.mul (bW.mul da)).sub ((bA.mul na).mul dg)).mono (show _<=21 by decide)
   have bQ:=((show Bt 1 0 by decide).sub ((bB.mul na).mul dg)).mono (show _<=21 by decide)
   exact Aq pos bK w1 w2 bP bQ nb db (nc.mono (by decide)) (dc.mono (by decide)) A0
 exact⟨Gg _,ax.mono (by decide),ay.mono (by decide),(sb.mul sb).mono (by decide),sg.mono (by decide),Sz.zero.mono (by decide),(sc.mul sc).mono (by decide),(sg.sub ax).mono (by decide),(Sz.zero.sub ay).mono (by decide),e.1,e.2⟩
theorem yN (o:Ha Rat):cB o*cB o+cG o*cG o=1:=by
 cases o with
 | none=>decide +kernel
 | some t=>
  have h:=eH t;unfold cB cG;dsimp only;grind
theorem G4.pos {n:Nat} {a b c g:Rat} (h:G4 n a b c g):qN a b c g:=⟨h.a.2,h.b.2,h.c.2,h.g.2⟩
theorem CH {a b c g:Rat} {o:Ha Rat} (h:G4 14 a b c g) (ho:kw o) (h0:u9 a g o≠0):∀ d∈cL (cB o*a) (cG o*a) (b*b) g 0 (c*c),∃ κ u BX BY,d=Pq u BX BY/\St a b c g κ u (cB o*a) (qo (cG o*a)) BX BY:=λd hd=>by
 have cz:=Ah (c:=c) h ho;obtain⟨κ,u,BX,BY,j⟩:=vW cz h0 d hd;have sg:=iH h.tg;have px:∀ {κ:Hi},Wy κ 30 30 1 (qo (cB o*a)):=Wy.plain cz.hx;have py:∀ {κ:Hi},Wy κ 30 30 1 (qo (cG o*a)):=Wy.plain cz.hy;have pg:∀ {κ:Hi},Wy κ 7 7 1 (qo g):=Wy.plain sg;have p0:∀ {κ:Hi},Wy κ 1 1 1 (qo 0):=Wy.plain Sz.zero;have d1:=j.wx.sub px;have d2:=j.wy.sub py;have d3:=(pg (κ:=κ)).sub j.wx;have d4:=(p0 (κ:=κ)).sub j.wy;have f1:=(pg (κ:=κ)).sub px;have f2:=(p0 (κ:=κ)).sub py;refine⟨κ,u,BX,BY,j.e,j.f,px.mono (by decide) (by decide) (by decide),py.mono (by decide) (by decide) (by decide),j.wx.mono (by decide) (by decide) (by decide),j.wy.mono (by decide) (by decide) (by decide),d1.mono (by decide) (by decide) (by decide),d2.mono (by decide) (by decide) (by decide),d3.mono (by decide) (by decide) (by decide),d4.mono (by decide) (by decide) (by decide),λ_ _=>⟨?_,?_⟩,?_,j.one,?_⟩
 ·exact((f1.part j.f.sz d2 (k:=1000) (by decide) (by decide)).sub (f2.part j.f.sz d1 (k:=899) (by decide) (by decide))).mono (by decide)
 ·exact((f1.cross d2 (k:=449) (by decide)).sub (f2.cross d1 (k:=449) (by decide))).mono (by decide)
 ·have e:=yN o;simp only [aK,qa,qm,qo];apply Gw <;> dsimp only <;> grind
 ·rw [<- j.two];simp only [aK,qa,qm,qs,qo];apply Gw <;> dsimp only <;> grind
def jf:bO:=λds S k=>∃ o:Ha Rat,ds=[ve o]/\kw o/\k (W (cB o) (cG o)) S
theorem ff:aq ["drive","square","total"] ["drive"] (ai fW):=cV
theorem my (Fn:FN K "direction_of" fW f fd) (aP:aM P w K mg base "negative" 1 dD) (aF:aM P w K mg base "times" 3 dY) (a9:aM P w K mg base "plus" 3 gx) (b7:aM P w K mg base "over" 3 jZ) (bq:aM P w K mg base "minus" 3 gZ) (aL:lL K mg "NOUGHT" [0,1]) (rE:lL K mg "ONE" [1,1]):
  aH P w K mg base cm 4 f fd ["drive"] (cn K jf):=by
 refine Fn.okJ ff (λds S k h=>?_) (λcdv A outer s H E hr=>⟨_,(ae (aA (au sP (ak 0) cQ (aw _)) (af (ah (aC (aa (dq aP hr (aa (dP rE rfl) ac)) (aa (dP aL rfl) ac))))) aB) (ae (aj (i:=1) ff.nd (dq aF hr (ar 0 (ar 0 ac)))) (ae (aj (i:=2) ff.nd (dq a9 hr (aa (dP rE rfl) (ar 1 ac)))) (af (ah (aC (aa (dq b7 hr (aa (dq bq hr (aa (dP rE rfl) (ar 1 ac))) (ar 2 ac))) (aa (dq b7 hr (aa (dq a9 hr (ar 0 (ar 0 ac))) (ar 2 ac))) ac)))))))),λds S k h=>?_⟩)
 ·obtain⟨_,rfl,_⟩:=h
  rfl
 ·obtain⟨o,rfl,ho,w⟩:=h;cases o with
  | none=>exact⟨1,rfl,cD,w⟩
  | some t=>
   have s:=ho t rfl;exact⟨t,t,rfl,s.mono (by decide),s.mono (by decide),1,t*t,rfl,i0.mono (by decide),(s.mul s).mono (by decide),1,t*t,rfl,i0.mono (by decide),(s.mul s).mono (by decide),_,_,rfl,eH t,(i0.sub (s.mul s)).mono (by decide),(i0.add (s.mul s)).mono (by decide),t,t,rfl,s.mono (by decide),s.mono (by decide),_,_,rfl,eH t,(s.add s).mono (by decide),(i0.add (s.mul s)).mono (by decide),cD,w⟩
def jt:bO:=λds S k=>∃ (l:Rat) (o:Ha Rat),ds=[PP 0 0,fr l,ve o]/\Sz 14 l/\kw o/\k (PP (cB o*l) (cG o*l)) S
theorem pF:aq ["middle","length","drive"] ["middle","length","drive"] (ai iT):=cV
theorem qz (Fn:FN K "crank_end" iT f fd) (br:aM P w K mg base "plain_point" 1 eL) (fF:aM P w K mg base "moved" 4 mB) (fP:aM P w K mg base "direction_of" 4 jf) (bL:aM P w K mg base "place_of" 1 gX):
  aH P w K mg base cm 5 f fd ["middle","length","drive"] (cn K jt):=by
 refine Fn.okJ pF (λds S k h=>?_) (λcdv A outer s H E hr=>⟨_,(af (ah (dq br hr (aa (dq fF hr (aa (dq bL hr (ar 0 ac)) (aa (dq fP hr (ar 2 ac)) (ar 1 ac)))) ac)))),λds S k h=>?_⟩)
 ·obtain⟨_,_,rfl,_⟩:=h
  rfl
 ·obtain⟨l,o,rfl,hl,ho,w⟩:=h;refine⟨0,0,rfl,o,rfl,ho,0,0,cB o,cG o,l,rfl,Sz.zero.mono (by decide),Sz.zero.mono (by decide),(uD ho).mono (by decide),(ub ho).mono (by decide),hl.mono (by decide),_,_,rfl,?_⟩
  rw [Rat.zero_add,Rat.zero_add];exact w
def eW:bO:=λds S k=>∃ q:Rat,ds=[fr q]/\Sz 1000 q/\k (fr (q*q)) S
theorem qK:aq ["length"] ["length"] (ai i8):=cV
theorem pG (Fn:FN K "square_of" i8 f fd) (aF:aM P w K mg base "times" 3 dY):
  aH P w K mg base cm 4 f fd ["length"] (cn K eW):=by
 refine Fn.okJ qK (λds S k h=>?_) (λcdv A outer s H E hr=>⟨_,(af (ah (dq aF hr (ar 0 (ar 0 ac))))),λds S k h=>?_⟩)
 ·obtain⟨_,rfl,_⟩:=h
  rfl
 ·obtain⟨q,rfl,hq,w⟩:=h;exact⟨q,q,rfl,hq.mono (by decide),hq.mono (by decide),w⟩
def iZ:bO:=λds S k=>match ds with
 | [.non,.non]=>False/\k .non S
 | _=>False
theorem cY:aq ["rods","drive","end","found"] ["rods","drive"] (ai gd):=cV
theorem pN (Fn:FN K "stands_at" gd f fd) (dM:aM P w K mg base "crank_end" 5 jt) (cf:aM P w K mg base "circles_meet" 7 fL) (aY:aM P w K mg base "square_of" 4 eW) (aT:aM P w K mg base "ground_end" 2 de) (cw:nV K mg "START" [[[0,1],[0,1]],[[0,1],[0,1]]]):
  aH P w K mg base cm 8 f fd ["rods","drive"] (cn K iZ):=by
 refine Fn.okJ cY (λds S k h=>?_) (λcdv A outer s H E hr=>⟨_,(ae (aj (i:=2) cY.nd (dq dM hr (aa (ky cw rfl) (aa (aJ 0) (ar 1 ac))))) (ae (aj (i:=3) cY.nd (dq cf hr (ar 2 (aa (dq aY hr (aa (aJ 0) ac)) (aa (dq aT hr (ar 0 ac)) (aa (dq aY hr (aa (aJ 0) ac)) ac)))))) (af (ah (eP rfl (eI (N:=["point","end"]) (cap:=[none,some 2]) rfl rfl rfl rfl ⟨rfl,trivial⟩ rfl rfl ⟨⟨rfl,.inl rfl,.inl rfl⟩,trivial⟩) (ak 3) (λ_ _ _ _=>(aI (i:=0) (show List.Nodup (["point","end"]:List Str) from by decide +kernel))) (λ_ _ _ _=>(aC (ar 1 (ar 0 ac))))))))),λds S k h=>?_⟩)
 ·unfold iZ at h
  split at h
  ·rfl
  ·exact h.elim
 ·unfold iZ at h
  split at h
  ·exact h.1.elim
  ·exact h.elim
def kO (bh:G_):mh:=λds S k e=>∃ (a b c g:Rat) (o:Ha Rat),ds=[RD a b c g,ve o]/\G4 14 a b c g/\kw o/\(u9 a g o=0->e bh S)/\(u9 a g o≠0->∀ S' p,bU S S'->S p=none->S' p=some (.lst (sL a b c g o))->k (.ref p) S')
theorem oj {P:Hc} {w:He} {K:Fg} {mg:Str->Ha G9} {base:Hf} {f:G_} {fd:FuncData} {bh:G_} (Fn:FN K "stands_at" gd f fd) (aY:aM P w K mg base "square_of" 4 eW) (aT:aM P w K mg base "ground_end" 2 de) (dM:aM P w K mg base "crank_end" 5 jt) (fi:oa P w K mg base "circles_meet" 7 (iC bh)) (cw:nV K mg "START" [[[0,1],[0,1]],[[0,1],[0,1]]]):
  aH P w K mg base (iB P w) 8 f fd ["rods","drive"] (zO K (kO bh)):=by
 refine Fn.okX cY (λds S k x h=>?_) (λcdv A outer s H E ex hr hE=>⟨_,(ae (aj (i:=2) cY.nd (dq dM hr (aa (ky cw rfl) (aa (aJ 0) (ar 1 ac))))) (ae (aj (i:=3) cY.nd (q_ hE fi (hr.mono (by decide)) rfl (ar 2 (aa (dq aY hr (aa (aJ 0) ac)) (aa (dq aT hr (ar 0 ac)) (aa (dq aY hr (aa (aJ 0) ac)) ac)))))) (af (ah (eP rfl (eI (N:=["point","end"]) (cap:=[none,some 2]) rfl rfl rfl rfl ⟨rfl,trivial⟩ rfl rfl ⟨⟨rfl,.inl rfl,.inl rfl⟩,trivial⟩) (ak 3) (λ_ _ _ _=>(aI (i:=0) (show List.Nodup (["point","end"]:List Str) from by decide +kernel))) (λ_ _ _ _=>(aC (ar 1 (ar 0 ac))))))))),λds S k h=>?_⟩)
 ·obtain⟨_,_,_,_,_,rfl,_⟩:=h
  rfl
 ·obtain⟨a,b,c,g,o,rfl,g4,ho,w0,w⟩:=h;have h4:=g4.r4;refine⟨a,o,rfl,h4.a,ho,b,rfl,h4.b.mono (by decide),a,b,c,g,rfl,c,rfl,h4.c.mono (by decide),_,_,_,_,_,_,rfl,⟨_,Ah g4 ho⟩,w0,λh0 S1 p1 e1 hp1=>?_⟩
  have w:=w h0;refine⟨(cL (cB o*a) (cG o*a) (b*b) g 0 (c*c),some p1),by simp only [aQ,ao],λp hp=>?_⟩
  have e2:bU S (put S1 p1 (.lst (cL (cB o*a) (cG o*a) (b*b) g 0 (c*c)))):=e1.trans (bU.new hp1);have ln:(cL (cB o*a) (cG o*a) (b*b) g 0 (c*c)).length<=2:=m8;have z:=kX (f:=λd:D=>d) (g:=λq=>D.tup [PP (cB o*a) (cG o*a),q]) (all:=cL (cB o*a) (cG o*a) (b*b) g 0 (c*c)) (ok:=cU (cL (cB o*a) (cG o*a) (b*b) g 0 (c*c),some p1)) (bd:=kJ (Dp (lX (oC 1) (lX (oC 0) zD)))) (k:=k) (L1:=[some (PP (cB o*a) (cG o*a))]) hp (λS' e=>e _ _ ao) (λx S' k' _ _ h=>⟨cD,h⟩) _ [] none (λ_ h=>h) (by rw [List.length_nil]; omega) (λS' e h=>w S' p (e2.trans e) (e2.none hp) h)
  rw [List.map_id'] at z;exact z
set_option maxHeartbeats 4000000
theorem eq_int {n:Nat} {i j:Int}:iP n (.int i) (.int j)=some (i == j):=by cases n <;> rfl
theorem wA {n:Nat} {p q:Rat}:iP (n+1) (fr p) (fr q)=some (decide (p=q)):=by
 show gD (iP n) [.int p.num,.int (p.den:Int)] [.int q.num,.int (q.den:Int)]=_
 show(match iP n (.int p.num) (.int q.num),(match iP n (.int (p.den:Int)) (.int (q.den:Int)),some true with | some a,some b=>some (a && b) | _,_=>none) with | some a,some b=>some (a && b) | _,_=>none)=_
 rw [eq_int,eq_int]
 show some ((p.num == q.num) && (((p.den:Int) == (q.den:Int)) && true))=_
 congr 1
 rw [Bool.and_true,Bool.eq_iff_iff];simp only [GP,beq_iff_eq,G3];exact⟨λz9=>by obtain⟨a,b⟩:=z9; exact Rat.ext a (by exact_mod_cast b),λh=>by subst h; exact⟨rfl,rfl⟩⟩
theorem xF {n:Nat} {a b c d:D} {p q:Hi} (h1:iP n a c=some p) (h2:iP n b d=some q):iP (n+1) (.tup [a,b]) (.tup [c,d])=some (p && q):=by
 show(match iP n a c,(match iP n b d,some true with | some a,some b=>some (a && b) | _,_=>none) with | some a,some b=>some (a && b) | _,_=>none)=_
 rw [h1,h2]
 show some (p && (q && true))=_
 rw [Bool.and_true]
theorem qA {n:Nat} {q:Rat}:iP (n+1) (fr q) (fr q)=some true:=by rw [wA,decide_eq_true rfl]
structure Wr (κ:Hi) (u s:Rat) (x y z v:Q):Prop where
 a:W2 κ (qs z x)
 b:W2 κ (qs v y)
 e1:(aK u (qs z x) (qs v y)).1=s
 e2:(aK u (qs z x) (qs v y)).2=0
theorem Wr.of {κ:Hi} {u s:Rat} {x y z v:Q} (a:W2 κ (qs z x)) (b:W2 κ (qs v y)) (e:aK u (qs z x) (qs v y)=(s,0)):Wr κ u s x y z v:=⟨a,b,by rw [e],by rw [e]⟩
theorem mE {u s:Rat}:N u s 0=.tup [fr s,fr 0]:=eS.symm
def gF:bO:=λds S k=>match ds with
 | [.non,.non]=>False/\k .non S
 | _=>False
theorem cg:aq ["linkage","place","number","rod"] ["linkage","place"] (ai eN):=cV
theorem nF (Fn:FN K "first_wrong" eN f fd) (aO:aM P w K mg base "ask_one_field" 5 cC) (b3:aM P w K mg base "square_of_way" 6 eZ) (aV:aM P w K mg base "way_between" 7 dr) (dI:mg "enumerate"=none) (aL:lL K mg "NOUGHT" [0,1]):
  aH P w K mg base cm 8 f fd ["linkage","place"] (cn K gF):=by
 refine Fn.okJ cg (λds S k h=>?_) (λcdv A outer s H E hr=>⟨_,(ae (dO (dq aO hr (ar 1 ac))) (ae (nW PassesOwn.never rfl rfl dI (aa (aJ 0) ac) (kF (n:=2) rfl (cj (aI (i:=2) cg.nd) (cj (aI (i:=3) cg.nd) js))) (af (aA (au D_ (dq b3 hr (aa (dq aV hr (aa (cN eh (ak 1) (aJ 3) Zf) (aa (cN eh (ak 1) (aJ 3) Zf) ac))) ac)) (aC (aa (aJ 3) (aa (dP aL rfl) ac))) (aw _)) (af (ah (ak 2))) aB))) (af (ah cQ)))),λds S k h=>?_⟩)
 ·unfold gF at h
  split at h
  ·rfl
  ·exact h.elim
 ·unfold gF at h
  split at h
  ·exact h.1.elim
  ·exact h.elim
def ju (dk:G_):mh:=λds S k _=>∃ (n f:D) (κ:Hi) (u s0 s1 s2:Rat) (x0 y0 x1 y1 x2 y2 x3 y3:Q) (z:Unit),ds=[.tup [n,f,.tup [.tup [.int 0,.int 1,fr s0],.tup [.int 1,.int 2,fr s1],.tup [.int 2,.int 3,fr s2]]],.tup [Pq u x0 y0,Pq u x1 y1,Pq u x2 y2,Pq u x3 y3]]/\Fd u/\(Pz x0/\Pz y0)/\(Pz x1/\Pz y1)/\(Pz x2/\Pz y2)/\(Pz x3/\Pz y3)/\Wr κ u s0 x0 y0 x1 y1/\Wr κ u s1 x1 y1 x2 y2/\Wr κ u s2 x2 y2 x3 y3/\∀ S',bU S S'->k .non S'
theorem mm {P:Hc} {w:He} {K:Fg} {mg:Str->Ha G9} {base:Hf} {f:G_} {fd:FuncData} (Fn:FN K "first_wrong" eN f fd) (b3:aM P w K mg base "square_of_way" 6 eZ) (aV:aM P w K mg base "way_between" 7 dr) (aO:aM P w K mg base "ask_one_field" 5 cC) (dI:mg "enumerate"=none) (aL:lL K mg "NOUGHT" [0,1]):
  aH P w K mg base (iB P w) 8 f fd ["linkage","place"] (zO K (ju dk)):=by
 refine Fn.okX cg (λds S k x h=>?_) (λcdv A outer s H E ex hr hE=>⟨_,(ae (dO (dq aO hr (ar 1 ac))) (ae (nW PassesOwn.leaving rfl rfl dI (aa (cN pd (ak 0) am Zf) ac) (kF (n:=2) rfl (cj (aI (i:=2) cg.nd) (cj (aI (i:=3) cg.nd) js))) (af (aA (au (An hr) (dq b3 hr (aa (dq aV hr (aa (cN pd (ak 1) (cN pd (ak 3) am Zf) Zf) (aa (cN pd (ak 1) (cN pd (ak 3) am Zf) Zf) ac))) ac)) (aC (aa (cN pd (ak 3) am Zf) (aa (dP aL rfl) ac))) (aw _)) (af (ah (ak 2))) aB))) (af (ah cQ)))),λds S k h=>?_⟩)
 ·obtain⟨_,_,_,_,_,_,_,_,_,_,_,_,_,_,_,_,rfl,_⟩:=h
  rfl
 ·obtain⟨n,f,κ,u,s0,s1,s2,x0,y0,x1,y1,x2,y2,x3,y3,_,rfl,hu,p0,p1,p2,p3,r0,r1,r2,w⟩:=h;refine⟨u,_,rfl,hu,λp hp=>?_,by show 4<=100; decide,λS1 e1=>?_⟩
  ·simp only [Gk,Gs,or_false] at hp;rcases hp with rfl | rfl | rfl | rfl
   ·exact vm.of p0.1 p0.2
   ·exact vm.of p1.1 p1.2
   ·exact vm.of p2.1 p2.2
   ·exact vm.of p3.1 p3.2
  have zr:Sz 900 (0:Rat):=Sz.zero.mono (by decide)
  refine⟨_,lN,([.tup [.int 0,.int 1,fr s0],.tup [.int 1,.int 2,fr s1],.tup [.int 2,.int 3,fr s2]],none),rfl,?_⟩;have q8:∀ s:Rat,iP 8 (.tup [fr s,fr 0]) (.tup [fr s,fr 0])=some (true && true):=λs=>xF (n:=7) qA qA
  refine⟨trivial,(_,none),rfl,rfl,rfl,_,eG,_,eG,_,iN,_,iN,u,x0,y0,x1,y1,rfl,hu,p0.1,p0.2,p1.1,p1.2,κ,u,_,_,rfl,hu,r0.a,r0.b,by rw [r0.e2]; exact zr,?_⟩
  rw [r0.e1,r0.e2,mE];refine⟨_,lN,cD,_,q8 s0,trivial,(_,none),rfl,rfl,rfl,_,eG,_,iN,_,iN,_,lN,u,x1,y1,x2,y2,rfl,hu,p1.1,p1.2,p2.1,p2.2,κ,u,_,_,rfl,hu,r1.a,r1.b,by rw [r1.e2]; exact zr,?_⟩
  rw [r1.e1,r1.e2,mE];refine⟨_,lN,cD,_,q8 s1,trivial,(_,none),rfl,rfl,rfl,_,eG,_,lN,_,iN,_,sN,u,x2,y2,x3,y3,rfl,hu,p2.1,p2.2,p3.1,p3.2,κ,u,_,_,rfl,hu,r2.a,r2.b,by rw [r2.e2]; exact zr,?_⟩
  rw [r2.e1,r2.e2,mE];exact⟨_,lN,cD,_,q8 s2,trivial,w S1 e1⟩
def nj:bO:=λds S k=>∃ (a b c g:Rat) (κ:Hi) (u x:Rat) (AY BX BY:Q),ds=[RD a b c g,zj u x AY BX BY]/\G4 14 a b c g/\St a b c g κ u x AY BX BY/\∀ S',bU S S'->k (.bl true) S'
theorem i_:aq ["rods","stand","squares","linkage"] ["rods","stand"] (ai j'):=cV
theorem rC {dk:G_} (Fn:FN K "is_stand" j' f fd) (aY:aM P w K mg base "square_of" 4 eW) (aT:aM P w K mg base "ground_end" 2 de) (fN:oa P w K mg base "first_wrong" 8 (ju dk)) (cw:nV K mg "START" [[[0,1],[0,1]],[[0,1],[0,1]]]) (k9:mg "NoField"=some (.ref dk)) (im:PySem.W.exmOne K (.ref dk) (.ref dk)=some true):
  aH P w K mg base cm 9 f fd ["rods","stand"] (cn K nj):=by
 refine Fn.okJ i_ (λds S k h=>?_) (λcdv A outer s H E hr=>⟨_,(ae (rY (iv:=2) i_.nd rfl (eI (N:=["rod"]) (cap:=[none]) rfl rfl rfl rfl trivial rfl rfl trivial) (qU (ak 0) kE (kT am)) (λ_ _ _ _=>(aI (i:=0) (show List.Nodup (["rod"]:List Str) from by decide +kernel))) (λ_ _ _ _=>(dq aY hr (ar 0 ac)))) (ae (aj (i:=3) i_.nd (aC (aa am (aa (aC (aa am (aa am ac))) (aa (aC (aa (aC (aa am (aa am (aa (aJ 2) ac)))) (aa (aC (aa am (aa am (aa (aJ 2) ac)))) (aa (aC (aa am (aa am (aa (aJ 2) ac)))) ac)))) ac))))) (af (vi (λex=>(yZ sP (sw fN (hr.mono (by decide)) rfl (ar 3 (aa (aC (aa (ky cw rfl) (aa (aJ 1) (aa (aJ 1) (aa (dq aT hr (ar 0 ac)) ac))))) ac))) cQ (aw _))) (λ_=>hr.hd) rfl rfl rfl rfl k9 (λv=>(af (ah ek))))))),λds S k h=>?_⟩)
 ·obtain⟨_,_,_,_,_,_,_,_,_,_,rfl,_⟩:=h
  rfl
 ·obtain⟨a,b,c,g,κ,u,x,AY,BX,BY,rfl,g4,st,w⟩:=h;have h4:=g4.r4;refine⟨by show ¬ (HT.d_ 4 0 none=0/\HT.d_ 4 4 (some 3)=4); decide,([fr a,fr b,fr c],none),rfl,λpq hq=>?_⟩
  have hx:∀ x∈[a,b,c],Sz 14 x:=λx hx=>by
   simp only [Gk,Gs,or_false] at hx;rcases hx with rfl | rfl | rfl
   ·exact h4.a
   ·exact h4.b
   ·exact h4.c
  refine kX (f:=fr) (g:=λq=>fr (q*q)) (all:=[a,b,c]) hq (λ_ _=>trivial) (λx S' k' hx2 e z=>⟨x,rfl,(hx x hx2).mono (by decide),z⟩) [a,b,c] [] none (λ_ z=>z) (by show 0+3<=100; decide) λS1 e1 h1=>?_
  have h1:S1 pq=some (.lst [fr (a*a),fr (b*b),fr (c*c)]):=h1;refine⟨cD,_,_,h1,eG,cD,_,_,h1,iN,cD,_,_,h1,lN,cD,cD,cD,a,b,c,g,rfl,cD,?_⟩;have pz:∀ {P m n:Nat} {X:Q},P<=3000->m<=3000->1<=n->n<=100->Wy κ P m n X->Pz X:=λh1 h2 h3 h4 h=>⟨h.a h1 h2,h.b (by decide) h4⟩
  have p0:Pz (qo 0):=⟨Sz.zero.mono (by decide),Sz.zero.mono (by decide)⟩
  have pg:Pz (qo g):=⟨h4.g.mono (by decide),Sz.zero.mono (by decide)⟩
  have z0:∀ {X:Q},qs X (qo 0)=X:=λ{X}=>by
   unfold qs qo;refine Gw ?_ ?_ <;> dsimp only <;> grind
  have t1:Wr κ u (a*a) (qo 0) (qo 0) (qo x) AY:=Wr.of (by rw [z0]; exact st.wx.mono (by decide) (by decide) (by decide)) (by rw [z0]; exact st.wy.mono (by decide) (by decide) (by decide)) (by rw [z0,z0]; exact st.one)
  refine⟨.int 4,.tup [.int 0,.int 3],κ,u,a*a,b*b,c*c,qo 0,qo 0,qo x,AY,BX,BY,qo g,qo 0,(),?_,st.f,⟨p0,p0⟩,⟨pz (by decide) (by decide) (by decide) (by decide) st.wx,pz (by decide) (by decide) (by decide) (by decide) st.wy⟩,⟨pz (by decide) (by decide) (by decide) (by decide) st.bx,pz (by decide) (by decide) (by decide) (by decide) st.by'⟩,⟨pg,p0⟩,t1,Wr.of st.dx st.dy st.tw,Wr.of st.ex st.ey st.thr,λS2 e2=>w S2 (e1.trans e2)⟩
  rw [<- lQ,<- lQ]
  rfl
set_option maxHeartbeats 4000000
theorem rZ {B:Int} {a b c g:Rat} {ia ib ic ig m:Int} (W:C7 B a b c g ia ib ic ig) (hm:m∈[ia,ib,ic,ig]) (hx:∀ x∈[ia,ib,ic,ig],m<=x):m=(if ig < ia then ig else ia)↔fo a b c g:=by
 have x1:=hx ia (by simp)
 have x2:=hx ib (by simp)
 have x3:=hx ic (by simp)
 have x4:=hx ig (by simp)
 have q:=W.pos
 constructor
 ·intro h
  by_cases hl:ig < ia
  ·rw [if_pos hl] at h;subst h;exact .inr ⟨.inr (.inr (.inr rfl)),(bo q W.g W.a).mp x1,(bo q W.g W.b).mp x2,(bo q W.g W.c).mp x3,Rat.le_refl⟩
  ·rw [if_neg hl] at h;subst h;exact .inl ⟨.inl rfl,Rat.le_refl,(bo q W.a W.b).mp x2,(bo q W.a W.c).mp x3,(bo q W.a W.g).mp x4⟩
 ·simp only [Gk,Gs,or_false] at hm;rintro(⟨_,_,h2,h3,h4⟩ | ⟨_,h1,h2,h3,_⟩)
  ·have y2:=(bo q W.a W.b).mpr h2;have y3:=(bo q W.a W.c).mpr h3;have y4:=(bo q W.a W.g).mpr h4;rw [if_neg (by omega)]
   rcases hm with rfl | rfl | rfl | rfl <;> omega
  ·have y1:=(bo q W.g W.a).mpr h1;have y2:=(bo q W.g W.b).mpr h2;have y3:=(bo q W.g W.c).mpr h3
   by_cases hl:ig < ia
   ·rw [if_pos hl];rcases hm with rfl | rfl | rfl | rfl <;> omega
   ·rw [if_neg hl];rcases hm with rfl | rfl | rfl | rfl <;> omega
open Classical in
noncomputable def uI (a b c g u x:Rat) (AY BX BY:Q):Int:=if fo a b c g then j5 (vO u x g AY BX BY).1 (vO u x g AY BX BY).2 u else j5 (g*AY.1) (g*AY.2) u
theorem AO {a b c g u x:Rat} {AY BX BY:Q}:uI a b c g u x (ng AY) BX (ng BY)=-uI a b c g u x AY BX BY:=by
 unfold uI
 split
 ·rw [rh];exact uA _ _ _
 ·show j5 (g*-AY.1) (g*-AY.2) u=_
  rw [show g*-AY.1=-(g*AY.1) by grind,show g*-AY.2=-(g*AY.2) by grind]
  exact uA _ _ _
def iK:bO:=λds S k=>∃ (a b c g:Rat) (κ:Hi) (u x:Rat) (AY BX BY:Q),ds=[RD a b c g,zj u x AY BX BY]/\G4 14 a b c g/\two a b c g/\St a b c g κ u x AY BX BY/\∀ S',bU S S'->k (.int (uI a b c g u x AY BX BY)) S'
theorem et:aq ["rods","stand","lengths","ground"] ["rods","stand"] (ai fe):=cV
theorem lj (Fn:FN K "side_of_piece" fe f fd) (bj:aM P w K mg base "in_wholes" 1 eO) (aT:aM P w K mg base "ground_end" 2 de) (jC:aM P w K mg base "side_of" 8 o_) (nv:mg "min"=none) (cw:nV K mg "START" [[[0,1],[0,1]],[[0,1],[0,1]]]):
  aH P w K mg base cm 9 f fd ["rods","stand"] (cn K iK):=by
 refine Fn.okJ et (λds S k h=>?_) (λcdv A outer s H E hr=>⟨_,(ae (aj (i:=2) et.nd (dq bj hr (ar 0 ac))) (ae (aj (i:=3) et.nd (dq aT hr (ar 0 ac))) (ae (aA (au (oY hr) (bw Ci rfl nv tO (ar 2 ac)) (bw we rfl nv tO (aa (aJ 2) (aa (aJ 2) ac))) (aw _)) (af (ah (dq jC hr (aa (aJ 1) (ar 3 (aa (aJ 1) ac)))))) aB) (af (ah (dq jC hr (aa (ky cw rfl) (ar 3 (aa (aJ 1) ac))))))))),λds S k h=>?_⟩)
 ·obtain⟨_,_,_,_,_,_,_,_,_,_,rfl,_⟩:=h
  rfl
 ·obtain⟨a,b,c,g,κ,u,x,AY,BX,BY,rfl,g4,tw,st,w⟩:=h;have h4:=g4.r4;refine⟨a,b,c,g,rfl,g4.up2,λS1 p B ia ib ic ig W e1 n1 h1=>⟨a,b,c,g,rfl,[ia,ib,ic,ig],h1,by simp,λm hm hx=>?_⟩⟩
  have pz:∀ {P m n:Nat} {X:Q},P<=3000->m<=3000->1<=n->n<=100->Wy κ P m n X->Pz X:=λh1 h2 h3 h4 h=>⟨h.a h1 h2,h.b (by decide) h4⟩
  have p0:Pz (qo 0):=⟨Sz.zero.mono (by decide),Sz.zero.mono (by decide)⟩
  have pg:Pz (qo g):=⟨h4.g.mono (by decide),Sz.zero.mono (by decide)⟩
  have sg:=iH g4.tg;have vg:Wy κ 7 7 1 (qo g):=Wy.plain sg;have v0:Wy κ 1 1 1 (qo 0):=Wy.plain Sz.zero;have px:Pz (qo x):=pz (by decide) (by decide) (by decide) (by decide) st.wx
  have py:Pz AY:=pz (by decide) (by decide) (by decide) (by decide) st.wy
  refine⟨_,_,h1,eG,_,_,h1,sN,_,rfl,xT (λhb=>?_) (λhb=>?_)⟩
  ·have hE:fo a b c g:=(rZ W hm hx).mp (by simpa using hb)
   have e:uI a b c g u x AY BX BY=j5 (vO u x g AY BX BY).1 (vO u x g AY BX BY).2 u:=if_pos hE;rw [e] at w;refine⟨κ,u,qo x,AY,qo g,qo 0,BX,BY,by rw [<- lQ (x:=g)],st.f,px,py,pg,p0,pz (by decide) (by decide) (by decide) (by decide) st.bx,pz (by decide) (by decide) (by decide) (by decide) st.by',(vg.sub st.wx).mono (by decide) (by decide) (by decide),(v0.sub st.wy).mono (by decide) (by decide) (by decide),st.dx,st.dy,(st.sB tw hE).1,(st.sB tw hE).2,λS' e=>w S' (e1.trans e)⟩
  ·have hE:¬ fo a b c g:=λz=>by
    have:=(rZ W hm hx).mpr z;rw [show (m == if ig < ia then ig else ia)=true by simpa using this] at hb
    cases hb
   have e:uI a b c g u x AY BX BY=j5 (g*AY.1) (g*AY.2) u:=if_neg hE;rw [e] at w;have es:iz u (qo 0) (qo 0) (qo g) (qo 0) (qo x) AY=(g*AY.1,g*AY.2):=by
    simp only [iz,qm,qs,qo];refine Gw ?_ ?_ <;> dsimp only <;> grind
   refine⟨κ,u,qo 0,qo 0,qo g,qo 0,qo x,AY,by rw [<- lQ,<- lQ]; rfl,st.f,p0,p0,pg,p0,px,py,(vg.sub v0).mono (by decide) (by decide) (by decide),(v0.sub v0).mono (by decide) (by decide) (by decide),(st.wx.sub v0).mono (by decide) (by decide) (by decide),(st.wy.sub v0).mono (by decide) (by decide) (by decide),by rw [es]; exact(sg.mul (st.wy.a (k:=248) (by decide) (by decide))).mono (by decide),by rw [es]; exact(sg.mul (st.wy.b (k:=42) (by decide) (by decide))).mono (by decide),λS' e=>?_⟩
   rw [es];exact w S' (e1.trans e)
def jg:bO:=λds S k=>∃ (a b c g:Rat) (κ κ':Hi) (u x:Rat) (AY BX BY:Q) (AZ BZ:Q) (z:Unit),ds=[RD a b c g,zj u x AY BX BY,zj u x AZ BX BZ]/\G4 14 a b c g/\St a b c g κ u x AY BX BY/\St a b c g κ' u x AZ BX BZ/\∀ S',bU S S'->k (.bl (decide (nX a b c g < 2) || (uI a b c g u x AY BX BY == uI a b c g u x AZ BX BZ))) S'
theorem qM:aq ["rods","one","other"] ["rods","one","other"] (ai jw):=cV
theorem qe (Fn:FN K "one_piece" jw f fd) (aZ:aM P w K mg base "many_pieces" 3 eK) (du:aM P w K mg base "side_of_piece" 9 iK):
  aH P w K mg base cm 10 f fd ["rods","one","other"] (cn K jg):=by
 refine Fn.okJ qM (λds S k h=>?_) (λcdv A outer s H E hr=>⟨_,(ae (aA (au qG (dq aZ hr (ar 0 ac)) am (aw _)) (af (ah ek)) aB) (af (ah (fc (oY hr) (dq du hr (ar 0 (ar 1 ac))) (dq du hr (ar 0 (ar 2 ac))) (aw _))))),λds S k h=>?_⟩)
 ·obtain⟨_,_,_,_,_,_,_,_,_,_,_,_,_,_,rfl,_⟩:=h
  rfl
 ·obtain⟨a,b,c,g,κ,κ',u,x,AY,BX,BY,AZ,BZ,_,rfl,g4,h1,h2,w⟩:=h;refine⟨a,b,c,g,rfl,g4.up2,λS1 e1=>aR (λhl=>?_) (λhl=>?_)⟩
  ·have w:=w S1 e1;rw [decide_eq_true hl,Bool.true_or] at w;exact w
  ·have tw:two a b c g:=Classical.byContradiction λn=>hl (by
    unfold nX
    split
    ·first | (rw [if_neg n]; decide) | decide
    ·decide)
   refine⟨a,b,c,g,κ,u,x,AY,BX,BY,rfl,g4,tw,h1,λS2 e2=>⟨a,b,c,g,κ',u,x,AZ,BX,BZ,rfl,g4,tw,h2,λS3 e3=>?_⟩⟩
   have w:=w S3 (e1.trans (e2.trans e3));rw [GU hl,Bool.false_or] at w;exact⟨_,rfl,w⟩
theorem zT {u p q:Rat} (fu:Fd u) (h:j5 p q u=0):p=0/\q=0:=(xG fu.pos fu.no).mp h
theorem A8 {a b c g:Rat} {κ:Hi} {u x:Rat} {AY BX BY:Q} (p:qN a b c g) (st:St a b c g κ u x AY BX BY) (tw:two a b c g):uI a b c g u x AY BX BY≠0:=λz=>by
 unfold uI at z
 split at z
 ·rename_i e
  obtain⟨z1,z2⟩:=zT st.f z;exact st.sideB p tw e (Gw z1 z2)
 ·rename_i e
  obtain⟨z1,z2⟩:=zT st.f z;have g0:=p.g;have y1:AY.1=0:=by rcases Gr.mp z1 with q | q <;> grind
  have y2:AY.2=0:=by rcases Gr.mp z2 with q | q <;> grind
  exact st.sideA p tw e (Gw y1 y2)
set_option maxHeartbeats 4000000
def dh (t o q g:Rat):Hi:=decide (ab (o - q)<=ab (g - t)) && decide (g+t<=o+q)
def zv (a b c g:Rat) (d:D):Prop:=∃ (wd:Str) (κ:Hi) (u x:Rat) (AY BX BY:Q),d=.tup [.str wd,Pq u (qo x) AY,Pq u BX BY]/\St a b c g κ u x AY BX BY/\(dh a b c g=true->AY=(0,0))
theorem qZ {all:List D} {P:D->Prop} {S:DH} {p:G_} {ok:DH->Prop} {bd:DB} {k:DK} {L1:Lo} (hp:S p=none) (hok:∀ S',bU S S'->ok S')
  (hbd:∀ (x:D) (S':DH) (k':Ha D->DH->Prop),x∈all->bU S S'->(∀ S2 d,bU S' S2->P d->k' (some d) S2)->bd (some x::L1) S' k'):
  ∀ (r acc:List D) (S1:DH) (l0:Ha D),(∀ x∈r,x∈all)->bU S S1->S1 p=some (.lst acc)->(∀ d∈acc,P d)->acc.length+r.length<=100->(∀ S' l,bU S S'->S' p=some (.lst l)->(∀ d∈l,P d)->l.length=acc.length+r.length->k (.ref p) S')->cO ok p (jm 0) bd k r acc (l0::L1) S1
 | [],acc,S1,l0,_,e1,h1,ha,_,w=>⟨hok _ e1,w _ acc e1 h1 ha rfl⟩
 | x::r,acc,S1,l0,hr,e1,h1,ha,hl,w=>by
  have hl:acc.length+(r.length+1)<=100:=hl;refine⟨hok _ e1,hbd x S1 _ (hr x Gn) e1 λS2 d e2 hd=>⟨e2 _ _ h1,qx (by omega),?_⟩⟩
  refine qZ hp hok hbd r _ _ _ (λy hy=>hr y (Go _ hy)) ((e1.trans e2).put hp) ao (λy hy=>?_) (by rw [Gx]; show acc.length+1+r.length<=100; omega) λS' l e h hl' el=>w S' l e h hl' (by rw [el,Gx]; show acc.length+1+r.length=acc.length+(r.length+1); omega)
  rcases List.mem_append.mp hy with z | z
  ·exact ha y z
  ·rw [List.mem_singleton.mp z];exact hd
theorem yp {b c R:Rat} (hb:Tn 14 b) (hc:Tn 14 c) (h:R=b+c\/R=b - c):R.num.natAbs<=1728/\R.den<=64:=by
 obtain⟨n1,d1⟩:=Tn.fourteen.mp hb;obtain⟨n2,d2⟩:=Tn.fourteen.mp hc;rcases h with rfl | rfl
 ·have:=jA n1 d1 n2 d2;omega
 ·have n3:(-c).num.natAbs<=108:=by show(-c.num).natAbs<=108; omega
  have d3:(-c).den<=8:=d2;have:=jA n1 d1 n3 d3;rw [show b - c=b+-c by grind]
  omega
theorem zM {a b c g R:Rat} (h:G4 14 a b c g) (hR:R=b+c\/R=b - c):og 9 0 0 (a*a) g 0 (R*R):=by
 have sa:=iH h.ta;have sg:=iH h.tg;obtain⟨nR,dR⟩:=yp h.tb h.tc hR;have bR:Bt 22 (R*R).num:=by
  rw [ki];unfold Bt;rw [GY];have:=Nat.mul_le_mul nR nR;omega
 have cR:Bt 14 ((R*R).den:Int):=by
  rw [lE];unfold Bt;rw [Int.natAbs_natCast];have:=Nat.mul_le_mul dR dR;omega
 have sR:Sz 22 (R*R):=⟨bR,cR.mono (by decide)⟩
 have e:Sz 66 (cT 0 0 (a*a) g 0 (R*R))/\Sz 134 (cE 0 0 (a*a) g 0 (R*R)):=by
  by_cases A0:(g - 0)*(g - 0)+(0 - 0)*(0 - 0)=(0:Rat)
  ·exact DZ A0
  ·obtain⟨na,da⟩:=w5 h.ta;obtain⟨ng,dg⟩:=rk h.tg;have w1:(g - 0)*(((g.den:Int):Int):Rat)=(g.num:Rat):=by
    rw [<- dW g];grind
   have w2:((0:Rat) - 0)*(((g.den:Int):Int):Rat)=((0:Int):Rat):=by
    have:((0:Int):Rat)=0:=rfl;rw [this];grind
   exact Aq (l9 g) (dg.mono (by decide)) w1 w2 (ng.mono (by decide)) (by decide) na da bR cR A0
 exact⟨by decide,Sz.zero.mono (by decide),Sz.zero.mono (by decide),(sa.mul sa).mono (by decide),sg.mono (by decide),Sz.zero.mono (by decide),sR.mono (by decide),(sg.sub Sz.zero).mono (by decide),(Sz.zero.sub Sz.zero).mono (by decide),e.1,e.2⟩
theorem zh {a b c g R:Rat} (h:G4 14 a b c g) (hR:R=b+c\/R=b - c) (R0:R≠0) {d:D} {κ:Hi} {u:Rat} {AX AY:Q} (j:Jt 9 0 0 (a*a) g 0 (R*R) d κ u AX AY):∃ x,AX=qo x/\St a b c g κ u x AY (rp u AX AY (qo g) (qo 0) (qo (b / R)) (qo 0)) (sE u AX AY (qo g) (qo 0) (qo (b / R)) (qo 0))/\(dh a b c g=true->AY=(0,0)):=by
 have g0:=h.g.2;have a0:=h.a.2;have p4:=h.pos;have a1:=congrArg Prod.fst j.one;have a2:=congrArg Prod.snd j.one;have b1:=congrArg Prod.fst j.two;have b2:=congrArg Prod.snd j.two;simp only [aK,qa,qm,qs,qo] at a1 a2 b1 b2
 have ax:AX.2=0:=by
  have:g*AX.2=0:=by grind
  rcases Gr.mp this with q | q
  ·grind
  ·exact q
 obtain⟨x,eX⟩:∃ x,AX=qo x:=⟨AX.1,Gw rfl ax⟩;subst eX;have ex:(qo x).1=x:=rfl;have ez:(qo x).2=0:=rfl;rw [ex,ez] at a1 a2 b1 b2
 clear ax ex ez;have hp:b / R*R=b:=Rat.div_mul_cancel R0;obtain⟨nR,dR⟩:=yp h.tb h.tc hR;have sR:Sz 11 R:=⟨by show R.num.natAbs < 2 ^ 11; omega,by show((R.den:Nat):Int).natAbs < 2 ^ 11; omega⟩
 have sp:=(iH h.tb).div sR R0;have vg:Wy κ 7 7 1 (qo g):=Wy.plain (iH h.tg);have v0:Wy κ 1 1 1 (qo 0):=Wy.plain Sz.zero;have m0:∀ X:Q,Wy κ 1 1 1 (qm u (qo 0) X):=λX=>by rw [x6]; exact Wy.plain Sz.zero
 have m1:=((vg.sub j.wx).scale (u:=u) sp).sub (m0 (qs (qo 0) AY));have m2:=((v0.sub j.wy).scale (u:=u) sp).add (m0 (qs (qo g) (qo x)));have bx:Wy κ 540 310 45 (rp u (qo x) AY (qo g) (qo 0) (qo (b / R)) (qo 0)):=(j.wx.add m1).mono (by decide) (by decide) (by decide)
 have by':Wy κ 540 310 45 (sE u (qo x) AY (qo g) (qo 0) (qo (b / R)) (qo 0)):=(j.wy.add m2).mono (by decide) (by decide) (by decide)
 have eD:dd a g x=R*R:=by unfold dd; grind
 have xx:x*x<=a*a:=by
  have:=xn j.f.pos AY;have e:(qm u AY AY).1=AY.1*AY.1+AY.2*AY.2*u:=rfl;rw [e] at this;grind
 obtain⟨lo,hi⟩:=wN a0 g0 xx (D:=dd a g x) rfl;rw [eD] at lo hi
 refine⟨x,rfl,⟨j.f,j.wx.mono (by decide) (by decide) (by decide),j.wy.mono (by decide) (by decide) (by decide),bx,by',(bx.sub j.wx).mono (by decide) (by decide) (by decide),(by'.sub j.wy).mono (by decide) (by decide) (by decide),(vg.sub bx).mono (by decide) (by decide) (by decide),(v0.sub by').mono (by decide) (by decide) (by decide),λt e=>?_,?_,?_,?_⟩,λt=>?_⟩
 ·obtain⟨s1,s2⟩:=uk p4 t e
  exfalso
  rcases hR with rfl | rfl <;> grind
 ·simp only [aK,qa,qm,qo];apply Gw <;> dsimp only <;> grind
 ·simp only [rp,sE,aK,qa,qm,qs,qo];generalize b / R=p at hp;apply Gw <;> dsimp only <;> grind
 ·simp only [rp,sE,aK,qa,qm,qs,qo];generalize b / R=p at hp;apply Gw <;> dsimp only <;> grind
 ·have t:ab (b - c)<=ab (g - a)/\g+a<=b+c:=by
   unfold dh at t;rw [GP,G3,G3] at t;exact t
  have q:x*x=a*a:=by
   have bb:=p4.b;have cc:=p4.c;rcases hR with rfl | rfl
   ·have e:b+c=g+a:=by
     rcases Rat.le_total (a:=b+c) (b:=g+a) with z | z
     ·grind
     ·by_cases q:b+c=g+a
      ·exact q
      ·have:=gN (x:=g+a) (y:=b+c) (by grind) (by grind)
       grind
    have:g*(x+a)=0:=by unfold dd at eD; rw [e] at eD; grind
    rcases Gr.mp this with z | z
    ·grind
    ·have:x=-a:=by grind
     rw [this]; grind
   ·have l2:(b - c)*(b - c)<=(g - a)*(g - a):=by
     rw [<- jV (b - c),<- jV (g - a)];have:=Gz (show 0<=ab (g - a) - ab (b - c) by grind) (show 0<=ab (g - a)+ab (b - c) by have:=iG (g - a); have:=iG (b - c); grind)
     grind
    have:g*(x - a)=0:=by unfold dd at eD; grind
    rcases Gr.mp this with z | z
    ·grind
    ·have:x=a:=by grind
     rw [this]
  have y0:AY.1*AY.1+AY.2*AY.2*u=0:=by grind
  have n1:=bf AY.1;have n2:=bf AY.2;have u0:=j.f.pos;have n3:=Gz n2 (Rat.le_of_lt u0);have z1:AY.1*AY.1=0:=by grind
  have z2:AY.2*AY.2*u=0:=by grind
  refine Gw ?_ ?_
  ·rcases Gr.mp z1 with q | q <;> exact q
  ·rcases Gr.mp z2 with q | q
   ·rcases Gr.mp q with q | q <;> exact q
   ·grind
def lT:bO:=λds S k=>∃ (a b c g:Rat) (wd:Str) (R:Rat),ds=[RD a b c g,.str wd,fr R]/\G4 14 a b c g/\(R=b+c\/R=b - c)/\R≠0/\∀ S' p l,bU S S'->S p=none->S' p=some (.lst l)->(∀ d∈l,zv a b c g d)->l.length<=2->k (.ref p) S'
theorem fy:aq ["rods","word","apart","ground","along","ends"] ["rods","word","apart"] (ai jl):=cV
theorem qg (Fn:FN K "dead_ones" jl f fd) (aT:aM P w K mg base "ground_end" 2 de) (b7:aM P w K mg base "over" 3 jZ) (cf:aM P w K mg base "circles_meet" 7 fL) (aY:aM P w K mg base "square_of" 4 eW) (lJ:aM P w K mg base "like_at" 8 oS) (cw:nV K mg "START" [[[0,1],[0,1]],[[0,1],[0,1]]]) (aL:lL K mg "NOUGHT" [0,1]):
  aH P w K mg base cm 9 f fd ["rods","word","apart"] (cn K lT):=by
 refine Fn.okJ fy (λds S k h=>?_) (λcdv A outer s H E hr=>⟨_,(ae (aj (i:=3) fy.nd (dq aT hr (ar 0 ac))) (ae (aj (i:=4) fy.nd (dq b7 hr (aa (aJ 0) (ar 2 ac)))) (ae (aj (i:=5) fy.nd (dq cf hr (aa (ky cw rfl) (aa (dq aY hr (aa (aJ 0) ac)) (ar 3 (aa (dq aY hr (ar 2 ac)) ac)))))) (af (ah (eP rfl (eI (N:=["end","word","ground","along"]) (cap:=[none,some 1,some 3,some 4]) rfl rfl rfl rfl ⟨rfl,rfl,rfl,trivial⟩ rfl rfl ⟨⟨rfl,.inl rfl,.inl rfl⟩,⟨rfl,.inl rfl,.inl rfl⟩,⟨rfl,.inl rfl,.inl rfl⟩,trivial⟩) (ak 5) (λ_ _ _ _=>(aI (i:=0) (show List.Nodup (["end","word","ground","along"]:List Str) from by decide +kernel))) (λ_ _ _ _=>(aC (ar 1 (ar 0 (aa (dq lJ hr (ar 0 (ar 2 (ar 3 (aa (dP aL rfl) ac))))) ac))))))))))),λds S k h=>?_⟩)
 ·obtain⟨_,_,_,_,_,_,rfl,_⟩:=h
  rfl
 ·obtain⟨a,b,c,g,wd,R,rfl,g4,hR,R0,w⟩:=h;have h4:=g4.r4;obtain⟨nR,dR⟩:=yp g4.tb g4.tc hR;have sR:Sz 11 R:=⟨by show R.num.natAbs < 2 ^ 11; omega,by show((R.den:Nat):Int).natAbs < 2 ^ 11; omega⟩
  have sp:=(iH g4.tb).div sR R0;have g0:=g4.g.2;have g1:(g - 0)*(g - 0)+(0 - 0)*(0 - 0)≠0:=by
   have:=GD g0 g0;grind
  have cz:=zM g4 hR;refine⟨a,b,c,g,rfl,b,R,rfl,R0,h4.b.mono (by decide),sR.mono (by decide),a,rfl,h4.a.mono (by decide),R,rfl,sR.mono (by decide),?_⟩
  refine⟨0,0,_,g,0,_,rfl,⟨_,cz⟩,g1,λS1 p1 e1 hp1=>?_⟩
  have hl:(cL 0 0 (a*a) g 0 (R*R)).length<=2:=m8;refine⟨(cL 0 0 (a*a) g 0 (R*R),some p1),by simp only [aQ,ao],λp hp=>?_⟩
  have e2:bU S (put S1 p1 (.lst (cL 0 0 (a*a) g 0 (R*R)))):=e1.trans (bU.new hp1);have y2:put S1 p1 (.lst (cL 0 0 (a*a) g 0 (R*R))) p1=some (.lst (cL 0 0 (a*a) g 0 (R*R))):=ao;generalize put S1 p1 (.lst (cL 0 0 (a*a) g 0 (R*R)))=T at hp e2 y2 ⊢
  refine qZ (all:=cL 0 0 (a*a) g 0 (R*R)) (P:=zv a b c g) hp (λS' e=>e _ _ y2) (λd S' k' hd e h=>?_) _ [] _ none (λ_ h=>h) (bU.new hp) ao (λ_ h=>by cases h) (by show 0+(cL 0 0 (a*a) g 0 (R*R)).length<=100; omega) (λS' l e h h2 el=>w S' p l (e2.trans e) (e2.none hp) h h2 (by rw [el]; show 0+(cL 0 0 (a*a) g 0 (R*R)).length<=2; omega))
  obtain⟨κ,u,AX,AY,j⟩:=vW cz g1 d hd;obtain⟨x,rfl,st,tn⟩:=zh g4 hR R0 j;have ed:=j.e;subst ed;have pz:∀ {P m n:Nat} {X:Q},P<=3000->m<=3000->n<=100->Wy κ P m n X->Pz X:=λh1 h2 h4 h=>⟨h.a h1 h2,h.b (by decide) h4⟩
  have p0:Pz (qo 0):=⟨Sz.zero.mono (by decide),Sz.zero.mono (by decide)⟩
  have pg:Pz (qo g):=⟨h4.g.mono (by decide),Sz.zero.mono (by decide)⟩
  have vg:Wy κ 7 7 1 (qo g):=Wy.plain (iH g4.tg);have v0:Wy κ 1 1 1 (qo 0):=Wy.plain Sz.zero;refine⟨κ,u,qo x,AY,qo g,qo 0,b / R,0,by rw [<- lQ (u:=u) (x:=g)]; rfl,j.f,pz (by decide) (by decide) (by decide) j.wx,pz (by decide) (by decide) (by decide) j.wy,pg,p0,(vg.sub j.wx).mono (by decide) (by decide) (by decide),(v0.sub j.wy).mono (by decide) (by decide) (by decide),sp.mono (by decide),rfl,λS2 e2=>⟨cD,h S2 _ e2 ⟨wd,κ,u,x,AY,_,_,rfl,st,tn⟩⟩⟩
def jS:bO:=λds S k=>∃ a b c g:Rat,ds=[RD a b c g]/\G4 14 a b c g/\∀ S' p l,bU S S'->S p=none->S' p=some (.lst l)->(∀ d∈l,zv a b c g d)->l.length<=4->k (.ref p) S'
theorem jr:aq ["rods","told"] ["rods"] (ai gy):=cV
theorem mO (Fn:FN K "dead_stands" gy f fd) (gs:aM P w K mg base "dead_ones" 9 lT) (a9:aM P w K mg base "plus" 3 gx) (bq:aM P w K mg base "minus" 3 gZ):
  aH P w K mg base cm 10 f fd ["rods"] (cn K jS):=by
 refine Fn.okJ jr (λds S k h=>?_) (λcdv A outer s H E hr=>⟨_,(ae (aj (i:=1) jr.nd (dq gs hr (ar 0 (aa ke (aa (dq a9 hr (aa (aJ 0) (aa (aJ 0) ac))) ac))))) (ae (aA (au (An hr) (aJ 0) (aJ 0) (aw _)) (af (dO (ww (ak 1) (dq gs hr (ar 0 (aa ke (aa (dq bq hr (aa (aJ 0) (aa (aJ 0) ac))) ac))))))) aB) (af (ah (ak 1))))),λds S k h=>?_⟩)
 ·obtain⟨_,_,_,_,rfl,_⟩:=h
  rfl
 ·obtain⟨a,b,c,g,rfl,g4,w⟩:=h;have h4:=g4.r4;have bc:b+c≠0:=by have:=g4.b.2; have:=g4.c.2; grind
  refine⟨b,c,rfl,h4.b.mono (by decide),h4.c.mono (by decide),a,b,c,g,_,_,rfl,g4,.inl rfl,bc,λS1 p1 l1 e1 n1 h1 d1 q1=>?_⟩
  refine⟨_,wA,?_⟩;refine i6 (λhne=>?_) (λheq=>?_)
  ·have bc2:b - c≠0:=λz=>hne (by grind)
   refine⟨⟨_,h1⟩,b,c,rfl,h4.b.mono (by decide),h4.c.mono (by decide),a,b,c,g,_,_,rfl,g4,.inr rfl,bc2,λS2 p2 l2 e2 n2 h2 d2 q2=>⟨_,_,e2 _ _ h1,h2,GO (Nat.add_le_add q1 q2) (Gu rfl),w _ p1 _ ((e1.trans e2).put n1) n1 ao (λd hd=>?_) (by rw [Gx]; omega)⟩⟩
   rcases List.mem_append.mp hd with z | z
   ·exact d1 d z
   ·exact d2 d z
  ·exact w S1 p1 l1 e1 n1 h1 d1 (by omega)
def mz:bO:=λds S k=>∃ (a b c g:Rat) (w:Str),ds=[RD a b c g,.str w]/\G4 20 a b c g/\∃ t o q,(w,t,o,q)∈[(("crank":Str),a,b,c),("coupler",b,a,c),("rocker",c,a,b)]/\∀ S',bU S S'->k (.bl (dh t o q g)) S'
theorem fZ:aq ["rods","word","lengths","places","ground","turning","one","other"] ["rods","word"] (ai pH):=cV
theorem xc (Fn:FN K "turns" pH f fd) (bj:aM P w K mg base "in_wholes" 1 eO) (gh:mg "abs"=none) (lF:Bf K mg w "TURNING" [("crank",[0,1,2]),("coupler",[1,0,2]),("rocker",[2,0,1])]):
  aH P w K mg base cm 2 f fd ["rods","word"] (cn K mz):=by
 refine Fn.okJ fZ (λds S k h=>?_) (λcdv A outer s H E hr=>⟨_,(ae (aj (i:=2) fZ.nd (dq bj hr (ar 0 ac))) (ae (aj (i:=3) fZ.nd (AT lF rfl (ak 1) Zf)) (ae (aj (i:=4) fZ.nd (aJ 2)) (ae (aj (i:=5) fZ.nd (cN eh (ak 2) (aJ 3) Zf)) (ae (aj (i:=6) fZ.nd (cN eh (ak 2) (aJ 3) Zf)) (ae (aj (i:=7) fZ.nd (cN eh (ak 2) (aJ 3) Zf)) (af (ah (wl (fc Bx (bw o0 rfl gh lO (aa (av kR (ak 4) (ak 5)) ac)) (bw o0 rfl gh lO (aa (av kR (ak 6) (ak 7)) ac)) (aw _)) (tU (fc Ei (av dJ (ak 4) (ak 5)) (av dJ (ak 6) (ak 7)) (aw _)))))))))))),λds S k h=>?_⟩)
 ·obtain⟨_,_,_,_,_,rfl,_⟩:=h
  rfl
 ·obtain⟨a,b,c,g,wd,rfl,h4,t,o,q,hm,w⟩:=h;refine⟨a,b,c,g,rfl,h4,λS1 p B ia ib ic ig W e1 n1 h1=>?_⟩
  have key:∀ {it io iq:Int} {t o q:Rat},(it:Rat)=t*(B:Rat)->(io:Rat)=o*(B:Rat)->(iq:Rat)=q*(B:Rat)->k (.bl (dh t o q g)) S1->if decide (jM (io - iq)<=jM (ig - it))=true then k (.bl (decide (ig+it<=io+iq))) S1 else k (.bl false) S1:=λ{it io iq t o q} ht ho hq w=>by
   have k1:=bo W.pos (t7 W.pos ho hq) (t7 W.pos W.g ht);have k2:=bo W.pos (b9 W.g ht) (b9 ho hq);unfold dh at w
   by_cases h:jM (io - iq)<=jM (ig - it)
   ·rw [if_pos (decide_eq_true h)];rw [decide_eq_true (k1.mp h),Bool.true_and] at w;rw [show decide (ig+it<=io+iq)=decide (g+t<=o+q) from decide_eq_decide.mpr k2]
    exact w
   ·rw [GU h,if_neg Gi];rw [GU (λz=>h (k1.mpr z)),Bool.false_and] at w
    exact w
  have w:=w S1 e1;simp only [Gk,Gs,or_false] at hm;rcases hm with h | h | h <;> cases h
  ·exact⟨[0,1,2],by simp,_,_,h1,sN,_,_,h1,eG,_,_,h1,iN,_,_,h1,lN,key W.a W.b W.c w⟩
  ·exact⟨[1,0,2],by simp,_,_,h1,sN,_,_,h1,iN,_,_,h1,eG,_,_,h1,lN,key W.b W.a W.c w⟩
  ·exact⟨[2,0,1],by simp,_,_,h1,sN,_,_,h1,lN,_,_,h1,eG,_,_,h1,iN,key W.c W.a W.b w⟩
set_option maxHeartbeats 4000000
theorem vU {x y:Rat}:ab x<=ab y↔x*x<=y*y:=by
 rw [<- jV x,<- jV y];have hx:=iG x;have hy:=iG y;generalize ab x=p at*
 generalize ab y=q at*
 constructor
 ·intro h;have:=Gz (show 0<=q - p by grind) (show 0<=q+p by grind)
  grind
 ·intro h;rcases Rat.le_total (a:=p) (b:=q) with z | z
  ·exact z
  ·by_cases e:p=q
   ·exact cH e
   ·have:=gN (x:=q) (y:=p) hy (by grind)
    grind
theorem rm {b c D:Rat} (hb:0 < b) (hc:0 < c):0<=((b+c)*(b+c) - D)*(D - (b - c)*(b - c))↔(b - c)*(b - c)<=D/\D<=(b+c)*(b+c):=by
 have bc:(b - c)*(b - c) < (b+c)*(b+c):=by
  have:=GD hb hc;grind
 generalize (b+c)*(b+c)=P at*
 generalize (b - c)*(b - c)=Q at*
 constructor
 ·intro h
  constructor
  ·rcases Rat.le_total (a:=Q) (b:=D) with z | z
   ·exact z
   ·by_cases e:Q=D
    ·exact cH e
    ·have:=eY (x:=D - Q) (y:=P - D) (by grind) (by grind)
     grind
  ·rcases Rat.le_total (a:=D) (b:=P) with z | z
   ·exact z
   ·by_cases e:D=P
    ·exact cH e
    ·have:=eY (x:=P - D) (y:=D - Q) (by grind) (by grind)
     grind
 ·rintro⟨h1,h2⟩;exact Gz (by grind) (by grind)
theorem wD {x y b g c:Rat} (h0:(g - x)*(g - x)+(0 - y)*(0 - y)≠0):cL x y (b*b) g 0 (c*c)≠[]↔0<=((b+c)*(b+c) - ((g - x)*(g - x)+(0 - y)*(0 - y)))*(((g - x)*(g - x)+(0 - y)*(0 - y)) - (b - c)*(b - c)):=by
 have D0:=CT h0;have t1:=uo (s:=b*b) (r:=c*c) h0;have e1:=ue (s:=b*b) (r:=c*c) h0;have n:cL x y (b*b) g 0 (c*c)≠[]↔¬ cE x y (b*b) g 0 (c*c) < 0:=by
  unfold cL iJ
  by_cases h:cE x y (b*b) g 0 (c*c) < 0
  ·rw [if_pos h];exact⟨λz=>absurd rfl z,λz=>absurd h z⟩
  ·rw [if_neg h];refine⟨λ_=>h,λ_=>?_⟩
   split <;> simp
 rw [n];generalize cE x y (b*b) g 0 (c*c)=E at*
 generalize cT x y (b*b) g 0 (c*c)=T at*
 generalize (g - x)*(g - x)+(0 - y)*(0 - y)=D at*
 have e:((b+c)*(b+c) - D)*(D - (b - c)*(b - c))=E*(D*D)*4:=by grind
 rw [e];have DD:=GD D0 D0
 constructor
 ·intro h;have:=Gz (a:=E) (b:=D*D) (by grind) (by grind)
  grind
 ·intro h z;have:=eY (x:=E) (y:=D*D) z DD;grind
theorem yc {a b c g:Rat} {o:Ha Rat}:sL a b c g o≠[]↔cL (cB o*a) (cG o*a) (b*b) g 0 (c*c)≠[]:=by
 unfold sL;rw [Ne,List.map_eq_nil_iff]
theorem zy {a g:Rat}:u9 a g (some 0)=(g - a)*(g - a):=by
 unfold u9 cB cG;grind
theorem qj {a g:Rat}:u9 a g none=(g+a)*(g+a):=by
 unfold u9 cB cG;grind
theorem xg {a b c g:Rat} (p:qN a b c g) (h0:u9 a g (some 0)≠0):dh a b c g=true↔sL a b c g (some 0)≠[]/\sL a b c g none≠[]:=by
 have h1:u9 a g none≠0:=by
  rw [qj];have:=p.a;have:=p.g;have:=GD (show 0 < g+a by grind) (show 0 < g+a by grind)
  grind
 have k0:=wD (x:=cB (some 0)*a) (y:=cG (some 0)*a) (b:=b) (c:=c) (g:=g) h0;have k1:=wD (x:=cB none*a) (y:=cG none*a) (b:=b) (c:=c) (g:=g) h1;have q0:(g - cB (some 0)*a)*(g - cB (some 0)*a)+(0 - cG (some 0)*a)*(0 - cG (some 0)*a)=(g - a)*(g - a):=zy;have q1:(g - cB none*a)*(g - cB none*a)+(0 - cG none*a)*(0 - cG none*a)=(g+a)*(g+a):=qj;rw [q0] at k0;rw [q1] at k1;rw [yc,yc,k0,k1,rm p.b p.c,rm p.b p.c];unfold dh;rw [GP,G3,G3,vU];have ha:=p.a;have hb:=p.b;have hc:=p.c;have hg:=p.g;have ag:=GD ha hg;have le2:(g+a)*(g+a)<=(b+c)*(b+c)↔g+a<=b+c:=by
  constructor
  ·intro h;rcases Rat.le_total (a:=g+a) (b:=b+c) with z | z
   ·exact z
   ·by_cases e:g+a=b+c
    ·exact cH e
    ·have:=gN (x:=b+c) (y:=g+a) (by grind) (by grind)
     grind
  ·intro h;have:=Gz (show 0<=b+c - (g+a) by grind) (show 0<=b+c+(g+a) by grind)
   grind
 constructor
 ·rintro⟨h1,h2⟩;have h3:=le2.mpr h2;refine⟨⟨h1,?_⟩,?_,h3⟩ <;> grind
 ·rintro⟨⟨h1,_⟩,_,h3⟩;exact⟨h1,le2.mp h3⟩
theorem wc {x t:Rat} (ht:0 < t):ab (x*t)=ab x*t:=by
 unfold ab
 by_cases h:x < 0
 ·have:x*t < 0:=eY h ht;rw [if_pos h,if_pos this];grind
 ·have:¬ x*t < 0:=λz=>by
   have:=Gz (show 0<=x by grind) (Rat.le_of_lt ht)
   grind
  rw [if_neg h,if_neg this]
theorem bS {x y t:Rat} (ht:0 < t):x*t<=y*t↔x<=y:=⟨λh=>Rat.le_of_mul_le_mul_right h ht,λh=>Rat.mul_le_mul_of_nonneg_right h (Rat.le_of_lt ht)⟩
theorem j_ {t o q g β:Rat} (h:0 < β):dh (t*β) (o*β) (q*β) (g*β)=dh t o q g:=by
 unfold dh;rw [show o*β - q*β=(o - q)*β by grind,show g*β - t*β=(g - t)*β by grind,wc h,wc h,show g*β+t*β=(g+t)*β by grind,show o*β+q*β=(o+q)*β by grind]
 rw [decide_eq_decide.mpr (bS h),decide_eq_decide.mpr (bS h)]
theorem uQ {a b c g β:Rat} (h:0 < β):nX (a*β) (b*β) (c*β) (g*β)=nX a b c g:=by
 have hf:fits (a*β) (b*β) (c*β) (g*β)↔fits a b c g:=by
  unfold fits;rw [show b*β+c*β+g*β=(b+c+g)*β by grind,show a*β+c*β+g*β=(a+c+g)*β by grind,show a*β+b*β+g*β=(a+b+g)*β by grind,show a*β+b*β+c*β=(a+b+c)*β by grind,bS h,bS h,bS h,bS h]
 have hm:∀ l:Rat,(l=a\/l=b\/l=c\/l=g)->(l*β=a*β\/l*β=b*β\/l*β=c*β\/l*β=g*β):=λl hl=>by
  rcases hl with rfl | rfl | rfl | rfl
  ·exact .inl rfl
  ·exact .inr (.inl rfl)
  ·exact .inr (.inr (.inl rfl))
  ·exact .inr (.inr (.inr rfl))
 have ht:two a b c g->two (a*β) (b*β) (c*β) (g*β):=by
  rintro⟨l,m,⟨l0,l1,l2,l3,l4⟩,⟨m0,m1,m2,m3,m4⟩,k⟩;refine⟨l*β,m*β,⟨hm l l0,(bS h).mpr l1,(bS h).mpr l2,(bS h).mpr l3,(bS h).mpr l4⟩,⟨hm m m0,(bS h).mpr m1,(bS h).mpr m2,(bS h).mpr m3,(bS h).mpr m4⟩,?_⟩;have:=GD (show 0 < a+b+c+g - (l+m+(l+m)) by grind) h
  grind
 have hn:two (a*β) (b*β) (c*β) (g*β)->two a b c g:=by
  rintro⟨l,m,⟨l0,l1,l2,l3,l4⟩,⟨m0,m1,m2,m3,m4⟩,k⟩;have un:∀ l:Rat,(l=a*β\/l=b*β\/l=c*β\/l=g*β)->∃ x,(x=a\/x=b\/x=c\/x=g)/\l=x*β:=λl hl=>by
   rcases hl with rfl | rfl | rfl | rfl
   ·exact⟨a,.inl rfl,rfl⟩
   ·exact⟨b,.inr (.inl rfl),rfl⟩
   ·exact⟨c,.inr (.inr (.inl rfl)),rfl⟩
   ·exact⟨g,.inr (.inr (.inr rfl)),rfl⟩
  obtain⟨x,hx,rfl⟩:=un l l0;obtain⟨y,hy,rfl⟩:=un m m0;refine⟨x,y,⟨hx,(bS h).mp l1,(bS h).mp l2,(bS h).mp l3,(bS h).mp l4⟩,⟨hy,(bS h).mp m1,(bS h).mp m2,(bS h).mp m3,(bS h).mp m4⟩,?_⟩;rcases Rat.le_total (a:=a+b+c+g) (b:=x+y+(x+y)) with z | z
  ·have:=(bS h).mpr z;grind
  ·by_cases e:x+y+(x+y)=a+b+c+g
   ·have:=congrArg (·*β) e;grind
   ·grind
 unfold nX
 by_cases f:fits a b c g
 ·rw [if_pos f,if_pos (hf.mpr f)]
  by_cases t:two a b c g
  ·rw [if_pos t,if_pos (ht t)]
  ·rw [if_neg t,if_neg λz=>t (hn z)]
 ·rw [if_neg f,if_neg λz=>f (hf.mp z)]
theorem sQ {a b c g:Rat} (h:two a b c g) (hl:lV g a b c g):dh a b c g=true/\dh c a b g=true/\dh b a c g=true:=by
 obtain⟨l,m,⟨l0,l1,l2,l3,l4⟩,⟨m0,m1,m2,m3,m4⟩,k⟩:=h;obtain⟨_,g1,g2,g3,_⟩:=hl;have el:l=g:=by grind
 subst el;have ab_le:∀ {x y:Rat},x<=-y->-x<=-y->ab x<=ab y:=λh1 h2=>by
  unfold ab
  split <;> split <;> grind
 unfold dh;simp only [GP,G3];rcases m0 with rfl | rfl | rfl | rfl <;> refine⟨⟨ab_le ?_ ?_,?_⟩,⟨ab_le ?_ ?_,?_⟩,ab_le ?_ ?_,?_⟩ <;> grind
set_option maxHeartbeats 4000000
def l6:bO:=λds S k=>∃ (a b c g:Rat) (o:Ha Rat),ds=[RD a b c g,ve o]/\G4 14 a b c g/\kw o/\(u9 a g o=0->k .non S)/\(u9 a g o≠0->∀ S' p,bU S S'->S p=none->S' p=some (.lst (sL a b c g o))->k (.ref p) S')
theorem fw:aq ["rods","drive","found"] ["rods","drive"] (ai i5):=cV
theorem qk {bh:G_} (Fn:FN K "_law_told" i5 f fd) (hU:oa P w K mg base "stands_at" 8 (kO bh)) (gJ:mg "NoMeet"=some (.ref bh)) (gL:PySem.W.exmOne K (.ref bh) (.ref bh)=some true):
  aH P w K mg base cm 9 f fd ["rods","drive"] (cn K l6):=by
 refine Fn.okJ fw (λds S k h=>?_) (λcdv A outer s H E hr=>⟨_,(ae (aj (i:=2) fw.nd cQ) (ae (vv (i:=2) (λex=>(sw hU (hr.mono (by decide)) rfl (ar 0 (ar 1 ac)))) (λ_=>hr.hd) rfl rfl rfl rfl gJ fw.nd rfl (.inl rfl) (λv=>(af (aj (i:=2) fw.nd cQ)))) (af (ah (ak 2))))),λds S k h=>?_⟩)
 ·obtain⟨_,_,_,_,_,rfl,_⟩:=h
  rfl
 ·obtain⟨a,b,c,g,o,rfl,g4,ho,w0,w1⟩:=h;exact⟨a,b,c,g,o,rfl,g4,ho,λh0=>⟨gL,w0 h0⟩,w1⟩
def jU:bO:=λds S k=>∃ (x:D) (p q:Rat),ds=[.tup [x,.tup [fr p,fr q]]]/\k (.tup [x,.tup [fr (-p),fr (-q)]]) S
theorem f_:aq ["point","part","under"] ["point"] (ai gw):=cV
theorem mQ (Fn:FN K "_law_turned" gw f fd):
  aH P w K mg base cm 1 f fd ["point"] (cn K jU):=by
 refine Fn.okJ f_ (λds S k h=>?_) (λcdv A outer s H E hr=>⟨_,(ae (gM (aJ 0) (kF (n:=2) rfl (cj (aI (i:=1) f_.nd) (cj (aI (i:=2) f_.nd) js)))) (af (ah (aC (aa (aJ 0) (aa (aC (aa (aC (aa (av kR am (aJ 1)) (aa (aJ 1) ac))) (aa (aC (aa (av kR am (aJ 2)) (aa (aJ 2) ac))) ac))) ac)))))),λds S k h=>?_⟩)
 ·obtain⟨_,_,_,rfl,_⟩:=h
  rfl
 ·obtain⟨x,p,q,rfl,w⟩:=h;rw [<- tH,<- tH,<- Int.zero_sub,<- Int.zero_sub] at w;exact⟨([fr p,fr q],none),rfl,rfl,rfl,cD,cD,cD,cD,w⟩
def k6:bO:=λds S k=>∃ (a b c g:Rat) (κ:Hi) (u x:Rat) (AY BX BY:Q),ds=[RD a b c g,zj u x AY BX BY]/\G4 14 a b c g/\St a b c g κ u x AY BX BY/\∀ S',bU S S'->k (.bl true) S'
theorem jP:aq ["rods","pose","flipped"] ["rods","pose"] (ai hJ):=cV
theorem on (Fn:FN K "_law_right" hJ f fd) (eM:aM P w K mg base "_law_turned" 1 jU) (ik:aM P w K mg base "is_stand" 9 nj) (gj:aM P w K mg base "one_piece" 10 jg) (aZ:aM P w K mg base "many_pieces" 3 eK):
  aH P w K mg base cm 11 f fd ["rods","pose"] (cn K k6):=by
 refine Fn.okJ jP (λds S k h=>?_) (λcdv A outer s H E hr=>⟨_,(ae (aj (i:=2) jP.nd (aC (aa (dq eM hr (aa (aJ 1) ac)) (aa (dq eM hr (aa (aJ 1) ac)) ac)))) (ae (aA (WJ.pt (pK (au pW (dq ik hr (ar 0 (ar 1 ac))) ek (aw _)) (mG (au pW (dq ik hr (ar 0 (ar 2 ac))) ek (aw _))))) (af (ah ek)) aB) (af (ah (wl (fc (oY hr) (dq gj hr (ar 0 (ar 1 (ar 2 ac)))) (fc (oY hr) (dq aZ hr (ar 0 ac)) am (aw _)) (aw _)) (tU (fc sP (dq gj hr (ar 0 (ar 1 (ar 1 ac)))) ek (aw _)))))))),λds S k h=>?_⟩)
 ·obtain⟨_,_,_,_,_,_,_,_,_,_,rfl,_⟩:=h
  rfl
 ·obtain⟨a,b,c,g,κ,u,x,AY,BX,BY,rfl,g4,st,w⟩:=h;have nP:∀ {u:Rat} {Y:Q},(D.tup [fr (-Y.1),fr (-(ss Y.2*u))]:D)=N u (-Y.1) (-Y.2):=λ{u Y}=>Dy
  have mr:=st.mir;have ft:=st.fits g4.pos;have fl:D.tup [D.tup [N u (qo x).1 (qo x).2,D.tup [fr (-AY.1),fr (-(ss AY.2*u))]],D.tup [N u BX.1 BX.2,D.tup [fr (-BY.1),fr (-(ss BY.2*u))]]]=zj u x (ng AY) BX (ng BY):=by rw [nP,nP]; rfl
  refine⟨_,AY.1,ss AY.2*u,rfl,_,BY.1,ss BY.2*u,rfl,cD,?_⟩;rw [fl];have hp:nX a b c g=1\/nX a b c g=2:=by
   unfold nX;rw [if_pos ft]
   split
   ·exact .inr rfl
   ·exact .inl rfl
  have b1:(decide (nX a b c g < 2) || (uI a b c g u x AY BX BY == uI a b c g u x (ng AY) BX (ng BY)))=decide (nX a b c g=1):=by
   rcases hp with e | e
   ·rw [e]; rfl
   ·have tw:two a b c g:=Classical.byContradiction λn=>by
     unfold nX at e;rw [if_pos ft,if_neg n] at e;exact absurd e (by decide)
    have n:=A8 g4.pos st tw;rw [e,AO,show decide ((2:Int) < 2)=false by decide,Bool.false_or,show decide ((2:Int)=1)=false by decide]
    exact beq_eq_false_iff_ne.mpr (by omega)
  have b2:(decide (nX a b c g < 2) || (uI a b c g u x AY BX BY == uI a b c g u x AY BX BY))=true:=by rw [beq_self_eq_true,Bool.or_true]
  refine⟨a,b,c,g,κ,u,x,AY,BX,BY,rfl,g4,st,λS1 e1=>⟨a,b,c,g,κ,u,x,ng AY,BX,ng BY,rfl,g4,mr,λS2 e2=>⟨a,b,c,g,κ,κ,u,x,AY,BX,BY,ng AY,ng BY,(),rfl,g4,st,mr,λS3 e3=>⟨a,b,c,g,rfl,g4.up2,λS4 e4=>?_⟩⟩⟩⟩
  rw [b1];have X4:=e1.trans (e2.trans (e3.trans e4));have fin:jg [RD a b c g,zj u x AY BX BY,zj u x AY BX BY] S4 (λd S5=>Fp d (.bl true) S5 k):=⟨a,b,c,g,κ,κ,u,x,AY,BX,BY,AY,BY,(),rfl,g4,st,st,λS5 e5=>by rw [b2]; exact w S5 (X4.trans e5)⟩
  rcases hp with e | e <;> rw [e]
  ·exact⟨true,rfl,true,rfl,fin⟩
  ·exact⟨false,rfl,true,rfl,fin⟩
set_option maxHeartbeats 4000000
theorem wz {M:jd} {L:Lo} {S:DH} (h:M.nx L S):Aj M L S:=h
theorem sU {S:DH} {a:G_} {ds:List D}:aQ (put S a (.lst ds)) (.ref a)=some (ds,some a):=by simp only [aQ,ao]
theorem xW {b:Hi}:iP 8 (.bl b) (.bl b)=some true:=by cases b <;> rfl
theorem gn {S S':DH} {a:G_} (h:mD S a) (x:bU S S'):mD S' a:=by
 obtain⟨n,b,e,w⟩:=h;exact⟨n,b,x _ _ e,w⟩
theorem po {all:List D} {S:DH} {p:G_} {ok:DH->Prop} {bd:DB} {k:DK} {L1:Lo} (hp:S p=none) (hok:∀ S',bU S S'->ok S')
  (hbd:∀ (x:D) (S':DH) (k':Ha D->DH->Prop),x∈all->bU S S'->(∀ S2,bU S' S2->k' none S2)->bd (some x::L1) S' k'):
  ∀ (r:List D) (S1:DH) (l0:Ha D),(∀ x∈r,x∈all)->bU S S1->S1 p=some (.lst [])->(∀ S',bU S S'->S' p=some (.lst [])->k (.ref p) S')->cO ok p (jm 0) bd k r [] (l0::L1) S1
 | [],S1,l0,_,e1,h1,w=>⟨hok _ e1,w _ e1 h1⟩
 | x::r,S1,l0,hr,e1,h1,w=>⟨hok _ e1,hbd x S1 _ (hr x Gn) e1 λS2 e2=>po hp hok hbd r S2 _ (λy hy=>hr y (Go _ hy)) (e1.trans e2) (e2 _ _ h1) w⟩
theorem rD {α:Type} {f g:α->D} {all:List α} {S:DH} {p:G_} {ok:DH->Prop} {bd:DB} {k:DK} {L1:Lo} (hp:S p=none) (hok:∀ S',bU S S'->ok S')
  (hbd:∀ (x:α) (S':DH) (k':Ha D->DH->Prop),x∈all->bU S S'->(∀ S2,bU S' S2->k' (some (g x)) S2)->bd (some (f x)::L1) S' k'):
  ∀ (r:List α) (acc:List D) (S1:DH) (l0:Ha D),(∀ x∈r,x∈all)->bU S S1->S1 p=some (.lst acc)->acc.length+r.length<=100->(∀ S',bU S S'->S' p=some (.lst (acc++r.map g))->k (.ref p) S')->cO ok p (jm 0) bd k (r.map f) acc (l0::L1) S1
 | [],acc,S1,l0,_,e1,h1,_,w=>⟨hok _ e1,w _ e1 (by rw [h1]; simp)⟩
 | x::r,acc,S1,l0,hr,e1,h1,hl,w=>by
  have hl:acc.length+(r.length+1)<=100:=hl;refine⟨hok _ e1,hbd x S1 _ (hr x Gn) e1 λS2 e2=>⟨e2 _ _ h1,qx (by omega),?_⟩⟩
  exact rD hp hok hbd r _ _ _ (λy hy=>hr y (Go _ hy)) ((e1.trans e2).put hp) ao (by rw [Gx]; show acc.length+1+r.length<=100; omega) λS' e h=>w S' e (by rw [h,List.append_assoc]; rfl)
abbrev Wd:=Str×Rat×Rat×Rat
def ws (a b c:Rat):List Wd:=[("crank",a,b,c),("rocker",c,a,b),("coupler",b,a,c)]
def wf (e:Wd):D:=.str e.1
def wg (g:Rat) (e:Wd):D:=.bl (dh e.2.1 e.2.2.1 e.2.2.2 g)
theorem De {a b c:Rat} {e:Wd} (h:e∈ws a b c):(e.1,e.2.1,e.2.2.1,e.2.2.2)∈[(("crank":Str),a,b,c),("coupler",b,a,c),("rocker",c,a,b)]:=by
 unfold ws at h;simp only [Gk,Gs,or_false] at h ⊢;rcases h with rfl | rfl | rfl
 ·exact .inl rfl
 ·exact .inr (.inr rfl)
 ·exact .inr (.inl rfl)
theorem x5 {p q r:Hi}:gD (iP 7) [D.bl p,D.bl q,D.bl r] [D.bl p,D.bl q,D.bl r]=some true:=by cases p <;> cases q <;> cases r <;> rfl
def C6 (a b c g:Rat) (d:D):Prop:=∃ κ u x AY BX BY,d=zj u x AY BX BY/\St a b c g κ u x AY BX BY
theorem CD {a b c g:Rat} {o:Ha Rat} (h:G4 14 a b c g) (ho:kw o) (h0:u9 a g o≠0):∀ d∈sL a b c g o,C6 a b c g d:=λd hd=>by
 obtain⟨p,hp,rfl⟩:=List.mem_map.mp hd;obtain⟨κ,u,BX,BY,rfl,st⟩:=CH h ho h0 p hp;exact⟨κ,u,_,_,BX,BY,by rw [lQ (u:=u)],st⟩
theorem AE {a b c g:Rat} {o:Ha Rat}:(sL a b c g o).length<=2:=by
 unfold sL;rw [Gh];exact m8
theorem vV {a b c g:Rat}:decide (fits a b c g)=decide (nX a b c g > 0):=by
 rw [decide_eq_decide];unfold nX
 by_cases f:fits a b c g
 ·rw [if_pos f];refine⟨λ_=>?_,λ_=>f⟩
  split <;> decide
 ·rw [if_neg f];exact⟨λz=>absurd z f,λz=>absurd z (by decide)⟩
theorem Dj {q:Rat} {m n:Int} (h:Tn 14 q) (p:0 < q) (hm:0 < m/\m<=5) (hn:0 < n/\n<=3):∃ β:Rat,0 < β/\∀ x:Rat,Rat.divInt (x.num*m) ((x.den:Int)*n)=x*β:=⟨Rat.divInt m n,Eh hm.1 hn.1,λx=>by
 have a2:(n:Rat)≠0:=λz=>by
  have:n=0:=by exact_mod_cast z
  omega
 have d0:=um x;have dm:=dW x;rw [GK,GK,Ge,Ge,<- dm];grind⟩
theorem yf {q:Rat} {m n:Int} (h:Tn 14 q) (hm:0 < m/\m<=5) (hn:0 < n/\n<=3):Tn 20 (Rat.divInt (q.num*m) ((q.den:Int)*n)):=by
 obtain⟨h1,h2⟩:=Tn.fourteen.mp h;have b0:(q.den:Int)*n≠0:=by
  have:=l9 q;exact Int.mul_ne_zero (by omega) (by omega)
 obtain⟨f1,f2⟩:=pM (t:=q.num*m) b0;rw [GY] at f1 f2
 have e1:q.num.natAbs*m.natAbs<=108*5:=Nat.mul_le_mul h1 (by omega)
 have e2:(q.den:Int).natAbs*n.natAbs<=8*3:=Nat.mul_le_mul (by omega) (by omega)
 exact Tn.twenty.mpr ⟨by omega,by omega⟩
def rH:bO:=λds _ k=>∃ ns:List Int,ds=[.rl (List.map D.int ns)]/\ns.length<=63/\∀ S',k (.bl true) S'
theorem eF:aq ["script","k","state","rods","drive","ends","by","bigger","words","some","word","one","other"] ["script"] (ai ym):=cV
theorem B0 (Fn:FN K "law" ym f fd) (gQ:aM P w K mg base "_law_state" 2 kQ) (iR:aM P w K mg base "_law_rods" 4 l_) (dN:aM P w K mg base "can_stand" 2 jy) (aZ:aM P w K mg base "many_pieces" 3 eK) (fD:aM P w K mg base "_law_drive" 4 ku) (eR:aM P w K mg base "_law_told" 9 l6) (fE:aM P w K mg base "_law_right" 11 k6) (gv:aM P w K mg base "dead_stands" 10 jS) (hV:aM P w K mg base "turns" 2 mz) (aG:aM P w K mg base "_law_take" 1 eV) (g6:aM P w K mg base "_law_times" 3 kY) (gG:aM P w K mg base "_law_sorted" 5 jN) (jB:mg "range"=none) (pk:mg "max"=none) (nv:mg "min"=none) (jO:mg "len"=none) (jK:mg "tuple"=none):
  aH P w K mg base cm 12 f fd ["script"] (cn K rH):=by
 refine Fn.okJ eF (λds S k h=>?_) (λcdv A outer s H E hr=>⟨_,(ae (vN PassesOwn.never rfl rfl jB (aa (bw Ay rfl pk wM (aa am (aa (bw we rfl nv tO (aa (bw pV rfl jO qQ (ar 0 ac)) (aa am ac))) ac))) ac) (aI (i:=1) eF.nd) (ae (aj (i:=2) eF.nd (dq gQ hr (ar 0 (ar 1 ac)))) (ae (aj (i:=3) eF.nd (dq iR hr (ar 2 ac))) (ae (aA (au (mX hr) (dq dN hr (ar 3 ac)) (fc xf (dq aZ hr (ar 3 ac)) am (aw _)) (aw _)) (af (ah ek)) aB) (ae (fH PassesOwn.never rfl (b6 (aa (dq fD hr (ar 2 ac)) (aa (dq fD hr (ar 2 ac)) ac))) (aI (i:=4) eF.nd) (ae (aj (i:=9) eF.nd (BC (dq eR hr (ar 3 (ar 4 ac))) (tU (b6 ac)))) (af (aA (WJ.pt (pK (au xf (bw pV rfl jO qQ (ar 9 ac)) am (aw _)) (mG (au (mX hr) (jX rfl (eI (N:=["pose","rods"]) (cap:=[none,some 3]) rfl rfl rfl rfl ⟨rfl,trivial⟩ rfl rfl ⟨⟨rfl,.inl rfl,.inl rfl⟩,trivial⟩) (ak 9) (λ_ _ _ _=>(aI (i:=0) (show List.Nodup (["pose","rods"]:List Str) from by decide +kernel))) (λ_ _ _ _=>(kx (dz (dq fE hr (ar 1 (ar 0 ac)))))) (λ_ _ _ _=>(ak 0))) (b6 ac) (aw _))))) (af (ah ek)) aB)))) (ae (fH PassesOwn.never rfl (dq gv hr (ar 3 ac)) (kF (n:=3) rfl (cj (aI (i:=10) eF.nd) (cj (aI (i:=11) eF.nd) (cj (aI (i:=12) eF.nd) js)))) (af (aA (WJ.pt (pK (kx (dz (dq fE hr (ar 3 (aa (aC (ar 11 (ar 12 ac))) ac))))) (mG (WJ.pt (qF (dz (dq hV hr (ar 3 (aa ke ac)))) (nq (au (mX hr) (aJ 11) (aC (aa (aC (aa am (aa am ac))) (aa (aC (aa am (aa am ac))) ac))) (aw _)))))))) (af (ah ek)) aB))) (ae (aj (i:=5) eF.nd (b6 (aa (dq eR hr (ar 3 (aa (aC (aa am (aa am ac))) ac))) (aa (dq eR hr (ar 3 (aa cQ ac))) ac)))) (ae (aA (WJ.pt (qF (au (rV hr) cQ (ak 5) (by with_unfolding_all rfl)) (nq (au (mX hr) (dq hV hr (ar 3 (aa ke ac))) (fc (rV hr) (b6 ac) (ak 5) (by with_unfolding_all rfl)) (aw _))))) (af (ah ek)) aB) (ae (aj (i:=6) eF.nd (aC (aa (av dJ am (dq aG hr (ar 2 (aa am ac)))) (aa (av dJ am (dq aG hr (ar 2 (aa am ac)))) ac)))) (ae (aj (i:=7) eF.nd (sF uf rfl jK rA (aa (eP rfl (eI (N:=["one","by"]) (cap:=[none,some 6]) rfl rfl rfl rfl ⟨rfl,trivial⟩ rfl rfl ⟨⟨rfl,.inl rfl,.inl rfl⟩,trivial⟩) (ak 3) (λ_ _ _ _=>(aI (i:=0) (show List.Nodup (["one","by"]:List Str) from by decide +kernel))) (λ_ _ _ _=>(dq g6 hr (ar 0 (ar 1 ac))))) ac))) (ae (aj (i:=8) eF.nd (b6 (aa ke (aa ke (aa ke ac))))) (ae (aA (au (mX hr) (eP rfl (eI (N:=["word","bigger"]) (cap:=[none,some 7]) rfl rfl rfl rfl ⟨rfl,trivial⟩ rfl rfl ⟨⟨rfl,.inl rfl,.inl rfl⟩,trivial⟩) (ak 8) (λ_ _ _ _=>(aI (i:=0) (show List.Nodup (["word","bigger"]:List Str) from by decide +kernel))) (λ_ _ _ _=>(dq hV hr (ar 1 (ar 0 ac))))) (eP rfl (eI (N:=["word","rods"]) (cap:=[none,some 3]) rfl rfl rfl rfl ⟨rfl,trivial⟩ rfl rfl ⟨⟨rfl,.inl rfl,.inl rfl⟩,trivial⟩) (ak 8) (λ_ _ _ _=>(aI (i:=0) (show List.Nodup (["word","rods"]:List Str) from by decide +kernel))) (λ_ _ _ _=>(dq hV hr (ar 1 (ar 0 ac))))) (aw _)) (af (ah ek)) aB) (ae (aA (au (mX hr) (dq aZ hr (ar 7 ac)) (dq aZ hr (ar 3 ac)) (aw _)) (af (ah ek)) aB) (af (aA (WJ.pt (qF (au (zY hr) (dq aZ hr (ar 3 ac)) am (aw _)) (nq (au (zY hr) (cN eh (dq gG hr (ar 3 ac)) am Zf) (aJ 3) (aw _))))) (af (aA (au (mX hr) (eP rfl (eI (N:=["word","rods"]) (cap:=[none,some 3]) rfl rfl rfl rfl ⟨rfl,trivial⟩ rfl rfl ⟨⟨rfl,.inl rfl,.inl rfl⟩,trivial⟩) (ak 8) (λ_ _ _ _=>(aI (i:=0) (show List.Nodup (["word","rods"]:List Str) from by decide +kernel))) (λ_ _ _ _=>(dq hV hr (ar 1 (ar 0 ac))))) (av wH (b6 (aa ek ac)) am) (aw _)) (af (ah ek)) aB)) aB))))))))))))))) (af (ah ek))),λds S k h=>?_⟩)
 ·obtain⟨_,rfl,_⟩:=h
  rfl
 ·obtain⟨ns,rfl,hl,w⟩:=h;have hb:∀ z:Int,0<=z->z<=63->-(2 ^ 62)<=z/\z < 2 ^ 62:=λz _ _=>by omega
  refine⟨hb _ (by split <;> (try split) <;> omega) (by rw [Gh]; split <;> (try split) <;> omega),?_⟩
  refine kP (P:=λd=>∃ i:Int,d=.int i/\0<=i) (λL _=>∃ r1 r2 r3 r4 r5 r6 r7 r8 r9 r10 r11 r12,L=[some (.rl (List.map D.int ns)),r1,r2,r3,r4,r5,r6,r7,r8,r9,r10,r11,r12]) (λ_ _ _=>trivial) ?_ (λL S' _=>w S') _ ?_ _ _ ⟨_,_,_,_,_,_,_,_,_,_,_,_,rfl⟩
  ·rintro d L S1 N1 ⟨i,rfl,hi⟩ ⟨r1,r2,r3,r4,r5,r6,r7,r8,r9,r10,r11,r12,rfl⟩ hN;refine⟨ns,i,rfl,hi,λp n b hp hnb=>?_⟩
   have hS:mD (put S1 p (.lst [.int n,.bl b])) p:=⟨n,b,ao,hnb⟩;refine⟨p,rfl,hS,λa b c g S2 g4 d2=>?_⟩
   have p4:=g4.pos;have g20:=g4.up2;have h4:=g4.r4;refine⟨a,b,c,g,rfl,g20,λS3 e3=>⟨a,b,c,g,rfl,g20,λS4 e4=>?_⟩⟩
   rw [vV];refine⟨true,xW,?_⟩;have hS4:=gn d2.1 (e3.trans e4);clear hS e3 e4 d2;refine xE (wz ?_);dsimp only;refine kz (λL S'=>(∃ r4 r5 r6 r7 r8 r9 r10 r11 r12,L=[some (.rl (List.map D.int ns)),some (.int i),some (.ref p),some (RD a b c g),r4,r5,r6,r7,r8,r9,r10,r11,r12])/\mD S' p) ?_ (λgo=>?_)
   rotate_left
   ·refine⟨p,rfl,hS4,λo1 S5 ho1 d5=>⟨p,rfl,d5.1,λo2 S6 ho2 d6=>⟨cD,λl hl=>⟨([ve o1,ve o2],some l),sU,?_⟩⟩⟩⟩
    refine kP (P:=λd=>∃ o,d=ve o/\kw o) (λL S'=>(∃ r4 r5 r6 r7 r8 r9 r10 r11 r12,L=[some (.rl (List.map D.int ns)),some (.int i),some (.ref p),some (RD a b c g),r4,r5,r6,r7,r8,r9,r10,r11,r12])/\mD S' p/\S' l=some (.lst [ve o1,ve o2])) (λ_ _ h=>h.2.2) ?_ (λL S' h=>go _ _ ⟨h.1,h.2.1⟩) _ ?_ _ _ ⟨⟨_,_,_,_,_,_,_,_,_,rfl⟩,d6.1.new hl,ao⟩
    ·rintro d L S7 N7 ⟨o,rfl,ho⟩ ⟨⟨r4,r5,r6,r7,r8,r9,r10,r11,r12,rfl⟩,hS7,hl7⟩ hN7;refine kz (λL S'=>∃ q ps,L=[some (.rl (List.map D.int ns)),some (.int i),some (.ref p),some (RD a b c g),some (ve o),r5,r6,r7,r8,some (.ref q),r10,r11,r12]/\bU S7 S'/\S' q=some (.lst ps)/\ps.length<=2/\∀ d∈ps,C6 a b c g d) ?_ (λgo=>?_)
     rotate_left
     ·refine⟨a,b,c,g,o,rfl,g4,ho,λz0=>⟨cD,λq hq=>go _ _ ⟨q,[],rfl,bU.new hq,ao,by decide,λ_ h=>by cases h⟩⟩,λn0 S8 q e8 n8 h8=>⟨_,h8,λhne=>go _ _ ⟨q,_,rfl,e8,h8,AE,CD g4 ho n0⟩,λhe=>⟨cD,λq hq=>go _ _ ⟨q,[],rfl,e8.trans (bU.new hq),ao,by decide,λ_ h=>by cases h⟩⟩⟩⟩
     ·rintro _ S8 ⟨q,ps,rfl,e8,hq,hl2,ok⟩;refine⟨_,hq,aR (λh=>?_) (λ_=>?_)⟩
      ·exact absurd h (by omega)
      ·refine⟨(ps,some q),by simp only [aQ,hq],λr hr=>?_⟩
       refine po (all:=ps) hr (λS' e=>e _ _ hq) (λx S' k' hx e h=>?_) ps _ none (λ_ h=>h) (bU.new hr) ao (λS' e h=>?_)
       ·obtain⟨κ,u,x,AY,BX,BY,rfl,st⟩:=ok x hx;exact⟨a,b,c,g,κ,u,x,AY,BX,BY,rfl,g4,st,λS2 e2=>h S2 e2⟩
       ·refine⟨cD,λt ht=>⟨[],[],true,cF ht h,ao,.inl ⟨rfl,rfl⟩,?_⟩⟩
        have X:bU S7 (put S' t (.lst [])):=e8.trans (e.trans (bU.new ht));exact hN7 _ _ ⟨⟨_,_,_,_,_,_,_,_,_,rfl⟩,gn hS7 X,X _ _ hl7⟩
    ·intro d hd;have hd:d∈[ve o1,ve o2]:=hd;simp only [Gk,Gs,or_false] at hd;rcases hd with rfl | rfl
     ·exact⟨o1,rfl,ho1⟩
     ·exact⟨o2,rfl,ho2⟩
   clear hS4;rintro _ S5 ⟨⟨r4,r5,r6,r7,r8,r9,r10,r11,r12,rfl⟩,hS5⟩;refine kz (λL S'=>(∃ r4 r5 r6 r7 r8 r9 r10 r11 r12,L=[some (.rl (List.map D.int ns)),some (.int i),some (.ref p),some (RD a b c g),r4,r5,r6,r7,r8,r9,r10,r11,r12])/\mD S' p) ?_ (λgo=>?_)
   rotate_left
   ·refine⟨a,b,c,g,rfl,g4,λS6 q l e6 n6 h6 hd hl4=>⟨(l,some q),by simp only [aQ,h6],?_⟩⟩
    refine kP (P:=zv a b c g) (λL S'=>(∃ r4 r5 r6 r7 r8 r9 r10 r11 r12,L=[some (.rl (List.map D.int ns)),some (.int i),some (.ref p),some (RD a b c g),r4,r5,r6,r7,r8,r9,r10,r11,r12])/\mD S' p/\S' q=some (.lst l)) (λ_ _ h=>h.2.2) ?_ (λL S' h=>go _ _ ⟨h.1,h.2.1⟩) _ hd _ _ ⟨⟨_,_,_,_,_,_,_,_,_,rfl⟩,gn hS5 e6,h6⟩
    rintro d L S7 N7 ⟨wd,κ,u,x,AY,BX,BY,rfl,st,tn⟩ ⟨⟨r4,r5,r6,r7,r8,r9,r10,r11,r12,rfl⟩,hS7,hq7⟩ hN7;refine⟨([.str wd,Pq u (qo x) AY,Pq u BX BY],none),rfl,rfl,rfl,cD,a,b,c,g,κ,u,x,AY,BX,BY,rfl,g4,st,λS8 e8=>⟨a,b,c,g,_,rfl,g20,a,b,c,by simp,λS9 e9=>?_⟩⟩
    have X:=e8.trans e9;cases hB:dh a b c g with
    | false=>exact hN7 _ _ ⟨⟨_,_,_,_,_,_,_,_,_,rfl⟩,gn hS7 X,X _ _ hq7⟩
    | true=>
     obtain rfl:=tn hB;refine⟨cD,cD,cD,true,?_,hN7 _ _ ⟨⟨_,_,_,_,_,_,_,_,_,rfl⟩,gn hS7 X,X _ _ hq7⟩⟩;rw [show N u ((0:Rat),(0:Rat)).1 ((0:Rat),(0:Rat)).2=.tup [fr 0,fr 0] from mE]
     exact xF (n:=7) qA qA
   clear hS5;rintro _ S6 ⟨⟨r4,r5,r6,r7,r8,r9,r10,r11,r12,rfl⟩,hS6⟩;refine kz (λL S'=>∃ (q:G_) (os:List (Ha G_)),L=[some (.rl (List.map D.int ns)),some (.int i),some (.ref p),some (RD a b c g),r4,some (.ref q),r6,r7,r8,r9,r10,r11,r12]/\mD S' p/\S' q=some (.lst (os.map oD))/\(∀ l,some l∈os->∃ xs,S' l=some (.lst xs))/\(none∈os\/(none∉os/\(dh a b c g=true↔∀ l,some l∈os->S' l≠some (.lst []))))) ?_ (λgo=>?_)
   rotate_left
   ·have z4:kw (some 0):=λt e=>by cases e; exact Sz.zero.mono (by decide)
    have zn:kw none:=λt e=>by cases e
    have n1:u9 a g none≠0:=by
     rw [qj];have:=p4.a;have:=p4.g;have:=GD (show 0 < g+a by grind) (show 0 < g+a by grind)
     grind
    refine⟨cD,a,b,c,g,some 0,rfl,g4,z4,λz0=>?_,λn0 S7 q1 e7 m1 h1=>?_⟩
    ·refine⟨a,b,c,g,none,rfl,g4,zn,λz=>absurd z n1,λ_ S8 q2 e8 m2 h2=>⟨cD,λq hq=>go _ _ ⟨q,[none,some q2],rfl,gn hS6 (e8.trans (bU.new hq)),ao,λl hl=>?_,.inl (by simp)⟩⟩⟩
     have hl:l=q2:=by simpa using hl
     subst hl;exact⟨_,cF hq h2⟩
    ·refine⟨a,b,c,g,none,rfl,g4,zn,λz=>absurd z n1,λ_ S8 q2 e8 m2 h2=>⟨cD,λq hq=>go _ _ ⟨q,[some q1,some q2],rfl,gn hS6 (e7.trans (e8.trans (bU.new hq))),ao,λl hl=>?_,.inr ⟨by simp,?_⟩⟩⟩⟩
     ·have hl:l=q1\/l=q2:=by simpa using hl
      rcases hl with rfl | rfl
      ·exact⟨_,cF hq (e8 _ _ h1)⟩
      ·exact⟨_,cF hq h2⟩
     ·have y1:=cF (o:=.lst ([some q1,some q2].map oD)) hq (e8 _ _ h1);have y2:=cF (o:=.lst ([some q1,some q2].map oD)) hq h2;rw [xg p4 n0]
      constructor
      ·rintro⟨k1,k2⟩ l hl;have hl:l=q1\/l=q2:=by simpa using hl
       rcases hl with rfl | rfl
       ·rw [y1];exact λz=>k1 (by injection z with z; injection z)
       ·rw [y2];exact λz=>k2 (by injection z with z; injection z)
      ·intro hh;exact⟨λz=>hh q1 (by simp) (by rw [y1,z]),λz=>hh q2 (by simp) (by rw [y2,z])⟩
   clear hS6;rintro _ S7 ⟨q,os,rfl,hS7,hq,hls,hc⟩;refine kz (λL S'=>(∃ r4 r5 r6 r7 r8 r9 r10 r11 r12,L=[some (.rl (List.map D.int ns)),some (.int i),some (.ref p),some (RD a b c g),r4,r5,r6,r7,r8,r9,r10,r11,r12])/\mD S' p) ?_ (λgo=>?_)
   rotate_left
   ·refine⟨q,os,rfl,hq,hls,.inl ⟨rfl,?_⟩⟩;rcases hc with h | ⟨h,iff⟩
    ·rw [GU (not_not_intro h)];exact go _ _ ⟨⟨_,_,_,_,_,_,_,_,_,rfl⟩,hS7⟩
    ·rw [decide_eq_true h];refine⟨a,b,c,g,_,rfl,g20,a,b,c,by simp,λS8 e8=>⟨cD,λr hr=>⟨q,os,rfl,cF hr (e8 _ _ hq),λl hl=>?_,.inr ⟨r,dh a b c g,rfl,ao,h,λz=>?_,?_,true,xW,?_⟩⟩⟩⟩
     ·obtain⟨xs,hx⟩:=hls l hl;exact⟨xs,cF hr (e8 _ _ hx)⟩
     ·obtain⟨xs,hx⟩:=hls r z;rw [e8 _ _ hx] at hr;cases hr
     ·rw [iff]
      constructor
      ·intro hh l hl z;obtain⟨xs,hx⟩:=hls l hl;rw [cF hr (e8 _ _ hx)] at z;exact hh l hl (by rw [hx]; exact z)
      ·intro hh l hl z;exact hh l hl (cF hr (e8 _ _ z))
     ·exact go _ _ ⟨⟨_,_,_,_,_,_,_,_,_,rfl⟩,gn hS7 (e8.trans (bU.new hr))⟩
   clear hq hls hc hS7;rintro _ S8 ⟨⟨r4,r5,r6,r7,r8,r9,r10,r11,r12,rfl⟩,hS8⟩;refine⟨p,5,rfl,by decide,by decide,hS8,λm5 S9 m50 m51 d9=>⟨p,3,rfl,by decide,by decide,d9.1,λm3 S10 m30 m31 d10=>⟨cD,?_⟩⟩⟩
   have hm:0 < 1+m5/\1+m5<=5:=by omega
   have hn:0 < 1+m3/\1+m3<=3:=by omega
   have bm:Bt 4000 (1+m5):=(show Bt 3 (1+m5) by unfold Bt; omega).mono (by decide)
   have bn:Bt 4000 (1+m3):=(show Bt 3 (1+m3) by unfold Bt; omega).mono (by decide)
   obtain⟨β,β0,hβ⟩:=Dj (q:=a) g4.ta g4.a.2 hm hn;have sm:∀ x∈[a,b,c,g],Sz 14 x:=λx hx=>by
    simp only [Gk,Gs,or_false] at hx;rcases hx with rfl | rfl | rfl | rfl
    ·exact h4.a
    ·exact h4.b
    ·exact h4.c
    ·exact h4.g
   have gB:G4 20 (a*β) (b*β) (c*β) (g*β):=by
    have t:∀ {x:Rat},Tn 14 x->Tn 20 (x*β):=λ{x} h=>by rw [<- hβ x]; exact yf h hm hn
    have k:∀ {x:Rat},Tn 14 x->0 < x->Sz 20 (x*β)/\0 < x*β:=λh h0=>⟨(rJ (t h)).mono (by decide),GD h0 β0⟩
    exact⟨k g4.ta p4.a,k g4.tb p4.b,k g4.tc p4.c,k g4.tg p4.g,t g4.ta,t g4.tb,t g4.tc,t g4.tg⟩
   refine⟨([fr a,fr b,fr c,fr g],none),rfl,λqb hqb=>?_⟩
   refine kX (f:=fr) (g:=λx=>fr (x*β)) (all:=[a,b,c,g]) hqb (λ_ _=>trivial) (λx S' k' hx e z=>⟨x.num,x.den,1+m5,1+m3,x*β,rfl,Int.mul_ne_zero (by have:=l9 x; omega) (by omega),(sm x hx).num.mono (by decide),(sm x hx).den.mono (by decide),bm,bn,hβ x,z⟩) [a,b,c,g] [] none (λ_ z=>z) (by show 0+4<=100; decide) λS11 e11 h11=>?_
   have h11:S11 qb=some (.lst [fr (a*β),fr (b*β),fr (c*β),fr (g*β)]):=h11;refine⟨_,h11,cD,λq8 hq8=>?_⟩
   have hw:put S11 q8 (.lst [D.str "crank",D.str "rocker",D.str "coupler"]) q8=some (.lst [D.str "crank",D.str "rocker",D.str "coupler"]):=ao
   generalize put S11 q8 (.lst [D.str "crank",D.str "rocker",D.str "coupler"])=S12 at hw ⊢
   dsimp only;have cmp:∀ {a b c g:Rat} {S:DH} {pr:G_} {k:DK} {L1:Lo} {l0:Ha D},G4 20 a b c g->S q8=some (.lst [D.str "crank",D.str "rocker",D.str "coupler"])->S pr=none->(∀ S',bU S S'->S' pr=some (.lst [.bl (dh a b c g),.bl (dh c a b g),.bl (dh b a c g)])->k (.ref pr) S')->cO (cU ([D.str "crank",D.str "rocker",D.str "coupler"],some q8)) pr (jm 0) (kJ (lU mz (lX (oC 1) (lX (oC 0) zD)))) k [D.str "crank",D.str "rocker",D.str "coupler"] [] (l0::some (RD a b c g)::L1) (put S pr (.lst [])):=λ{a b c g S pr k L1 l0} g2 hq hr w=>by
    have z:=rD (α:=Wd) (f:=wf) (g:=wg g) (all:=ws a b c) (ok:=cU ([D.str "crank",D.str "rocker",D.str "coupler"],some q8)) (bd:=kJ (lU mz (lX (oC 1) (lX (oC 0) zD)))) (k:=k) (L1:=some (RD a b c g)::L1) hr (λS' e=>e _ _ hq) (λe S' k' he ex h=>⟨a,b,c,g,e.1,rfl,g2,e.2.1,e.2.2.1,e.2.2.2,De he,λS2 e2=>h S2 e2⟩) (ws a b c) [] _ l0 (λ_ h=>h) (bU.new hr) ao (by show 0+3<=100; decide) w
    exact z
   refine⟨([D.str "crank",D.str "rocker",D.str "coupler"],some q8),by simp only [aQ,hw],λra hra=>cmp gB hw hra λS13 e13 h13=>?_⟩
   have hw13:=e13 _ _ hw;refine⟨([D.str "crank",D.str "rocker",D.str "coupler"],some q8),by simp only [aQ,hw13],λrb hrb=>cmp g20 hw13 hrb λS14 e14 h14=>?_⟩
   have hw14:=e14 _ _ hw13;refine⟨_,_,true,e14 _ _ h13,h14,.inl ⟨rfl,by rw [j_ β0,j_ β0,j_ β0]; exact x5⟩,?_⟩
   refine xE (wz ?_);dsimp only;refine⟨a*β,b*β,c*β,g*β,rfl,gB,λS15 e15=>⟨a,b,c,g,rfl,g20,λS16 e16=>⟨true,by rw [uQ β0,eq_int,beq_self_eq_true],?_⟩⟩⟩
   refine xE (wz ?_);dsimp only;have hw16:=e16 _ _ (e15 _ _ hw14);refine⟨a,b,c,g,rfl,g20,λS17 e17=>⟨_,eq_int,xT (λh2=>?_) (λ_=>hN _ _ ⟨_,_,_,_,_,_,_,_,_,_,_,_,rfl⟩)⟩⟩
   have hw17:=e17 _ _ hw16;refine⟨a,b,c,g,rfl,h4,λS18 q l ho hpm e18 hq=>?_⟩
   obtain⟨l0,l1,l2,l3,rfl⟩:=CJ hpm.length_eq;have hq:S18 q=some (.lst [fr l0,fr l1,fr l2,fr l3]):=hq;refine⟨_,_,hq,eG,_,wA,xT (λhg=>?_) (λ_=>hN _ _ ⟨_,_,_,_,_,_,_,_,_,_,_,_,rfl⟩)⟩
   have hg:l0=g:=by simpa using hg
   have hw18:=e18 _ _ hw17;have tw:two a b c g:=Classical.byContradiction λn=>by
    have e:nX a b c g=2:=by simpa using h2
    unfold nX at e;rw [if_neg n] at e
    split at e <;> exact absurd e (by decide)
   have ls:lV g a b c g:=by
    unfold Cr at ho;simp only [List.pairwise_cons,Gk,Gs,or_false,forall_eq_or_imp,forall_eq] at ho;obtain⟨⟨o1,o2,o3⟩,_⟩:=ho;have lo:∀ x∈[a,b,c,g],g<=x:=λx hx=>by
     have:=hpm.mem_iff.mpr hx;simp only [Gk,Gs,or_false] at this;grind
    exact⟨.inr (.inr (.inr rfl)),lo a (by simp),lo b (by simp),lo c (by simp),lo g (by simp)⟩
   obtain⟨t1,t2,t3⟩:=sQ tw ls;refine⟨([D.str "crank",D.str "rocker",D.str "coupler"],some q8),by simp only [aQ,hw18],λrc hrc=>cmp g20 hw18 hrc λS19 e19 h19=>?_⟩
   refine⟨cD,λt ht=>⟨_,ao,by decide,by decide,Gu rfl,λt' ht'=>⟨_,_,true,cF ht' (cF ht h19),ao,.inl ⟨rfl,?_⟩,hN _ _ ⟨_,_,_,_,_,_,_,_,_,_,_,_,rfl⟩⟩⟩⟩
   rw [t1,t2,t3]
   rfl
  ·intro d hd;obtain⟨z,_,rfl⟩:=List.mem_map.mp hd;exact⟨_,rfl,by omega⟩
theorem yM (ns:List Int) (h:ns.length<=63):rH [.rl (List.map D.int ns)] (λ_=>none) (λd _=>d=.bl true):=⟨ns,rfl,h,λ_=>rfl⟩
end My
def PySem.W.Fast.tw1019383156018876201:Unit:=()
def PySem.W.Fast.tw620388558739594667:Unit:=()
def PySem.W.Fast.tw1342892800307005127:Unit:=()
def PySem.W.Fast.tw7892181004742117888:Unit:=()
def PySem.W.Fast.tw14570232213023539416:Unit:=()
def PySem.W.Fast.tw18183280796110672098:Unit:=()
def PySem.W.Fast.tw970893630145028120:Unit:=()
def PySem.W.Fast.tw1738017018888110096:Unit:=()
def PySem.W.Fast.tw3133799278252273870:Unit:=()
def PySem.W.Fast.tw17964895967146417876:Unit:=()
def PySem.W.Fast.tw3618070453880482371:Unit:=()
def PySem.W.Fast.tw16173389849344299439:Unit:=()
def PySem.W.Fast.tw5909375349773884:Unit:=()
def PySem.W.Fast.tw2098148294743428478:Unit:=()
def PySem.W.Fast.tw2439155128765263741:Unit:=()
def PySem.W.Fast.tw12670381419377530054:Unit:=()
def PySem.W.Fast.tw8329089306761647602:Unit:=()
def PySem.W.Fast.tw2279402742555040468:Unit:=()
def PySem.W.Fast.tw3434408914709841120:Unit:=()
def PySem.W.Fast.tw939004509961168518:Unit:=()
def PySem.W.Fast.tw8311932350065687790:Unit:=()
def PySem.W.Fast.tw11555059605826071715:Unit:=()
def PySem.W.Fast.tw1674420467790681511:Unit:=()
def PySem.W.Fast.tw14406802785917957355:Unit:=()
def PySem.W.Fast.tw15289492826338807150:Unit:=()
def PySem.W.Fast.tw15540938603236977535:Unit:=()
def PySem.W.Fast.tw16128667363999792654:Unit:=()
def PySem.W.Fast.tw180927041190898893:Unit:=()
def PySem.W.Fast.tw6953221660338745484:Unit:=()
def PySem.W.Fast.tw12040250687738164524:Unit:=()
def PySem.W.Fast.tw17967454770779634415:Unit:=()
def PySem.W.Fast.tw3430267689556924097:Unit:=()
def PySem.W.Fast.tw5259727771757838956:Unit:=()
def PySem.W.Fast.tw7374001117869754814:Unit:=()
def PySem.W.Fast.tw8286789977398171974:Unit:=()
def PySem.W.Fast.tw8643461296451880016:Unit:=()
def PySem.W.Fast.tw17403497655152939609:Unit:=()
def PySem.W.Fast.tw10788566606101436525:Unit:=()
def PySem.W.Fast.tw7202286045129015065:Unit:=()
def PySem.W.Fast.tw3861075860364782345:Unit:=()
def PySem.W.Fast.tw15468347576706921738:Unit:=()
def PySem.W.Fast.tw671777999584962053:Unit:=()
def PySem.W.Fast.tw5418421490243784085:Unit:=()
def PySem.W.Fast.tw4451581117009566259:Unit:=()
def PySem.W.Fast.tw2744528313769307641:Unit:=()
def PySem.W.Fast.tw16244981579261913026:Unit:=()
def PySem.W.Fast.tw15348388485376690246:Unit:=()
def PySem.W.Fast.tw13015450982062747512:Unit:=()
def PySem.W.Fast.tw4823583952854223547:Unit:=()
def PySem.W.Fast.tw7333273486766873414:Unit:=()
def PySem.W.Fast.tw11657075581538019861:Unit:=()
def PySem.W.Fast.tw11476550827250453777:Unit:=()
def PySem.W.Fast.tw13999221977397669353:Unit:=()
def PySem.W.Fast.tw18222416833201061707:Unit:=()
def PySem.W.Fast.tw6243646546772472766:Unit:=()
def PySem.W.Fast.tw9415645512381039630:Unit:=()
def PySem.W.Fast.tw18280917621894231255:Unit:=()
def PySem.W.Fast.tw9759310962501812534:Unit:=()
def PySem.W.Fast.tw6921706390865436837:Unit:=()
def PySem.W.Fast.tw11182996543032506369:Unit:=()
def PySem.W.Fast.tw8415790908389112025:Unit:=()
def PySem.W.Fast.tw4955336375706901183:Unit:=()
def PySem.W.Fast.tw17145503516031935978:Unit:=()
def PySem.W.Fast.tw4045675602721109254:Unit:=()
def PySem.W.Fast.tw13876950376745602530:Unit:=()
def PySem.W.Fast.tw13894042480985394559:Unit:=()
namespace My
open PySem PySem.Spec PyProof.Rows L2 DL HM
set_option maxHeartbeats 4000000
theorem Ba {l:PySem.W.OpenLaw} {w:He} {K:Fg} {h:Hf} {mg:Str->Ha G9} {fa:G_} (X:K.In h) (G:h.Ns mainGlobals mg) (hfa:mg "law"=some (.ref fa))
  {f1 f2 f3 f4 f5 f6 f7 f8 f9 f10 f11 f12 f13 f14 f15 f16 f17 f18 f19 f20 f21 f22 f23 f24 f25 f26 f27 f28 f29 f30 f31 f32 f33 f34 f35 f36 f37 f38 f39 f40 f41 f42 f43 f44 f45 f46 f47 f48 f49 f50 f51 f52 f53 f54 f55 f56 f57 f58 f59 f60 f61 f62 f63 f64 f65 f66 f67 f68 f69 f70:G_} {cd1 cd2 cd3 cd4 cd5 cd6 cd7 cd8 cd9 cd10 cd11 cd12 cd13 cd14 cd15 cd16 cd17 cd18 cd19 cd20 cd21 cd22 cd23 cd24 cd25 cd26 cd27 cd28 cd29 cd30 cd31 cd32 cd33 cd34 cd35 cd36 cd37 cd38 cd39 cd40 cd41 cd42 cd43 cd44 cd45 cd46 cd47 cd48 cd49 cd50 cd51 cd52 cd53 cd54 cd55 cd56 cd57 cd58 cd59 cd60 cd61 cd62 cd63 cd64 cd65 cd66 cd67 cd68 cd69 cd70:G9}
  {qh:G_} {wb:Ha G_} {yn:Hh (Ha G9)} {zG:Nat} {p0_START:G_} {od0_START:Ha G_} {sl0_START:Hh (Ha G9)} {n0_START:Nat} {p0_0_START:G_} {od0_0_START:Ha G_} {sl0_0_START:Hh (Ha G9)} {n0_0_START:Nat} {t0_0_0_START t1_0_0_START:Tok} {p1_0_START:G_} {od1_0_START:Ha G_} {sl1_0_START:Hh (Ha G9)} {n1_0_START:Nat} {t0_1_0_START t1_1_0_START:Tok} {p1_START:G_} {od1_START:Ha G_} {sl1_START:Hh (Ha G9)} {n1_START:Nat} {p0_1_START:G_} {od0_1_START:Ha G_} {sl0_1_START:Hh (Ha G9)} {n0_1_START:Nat} {t0_0_1_START t1_0_1_START:Tok} {p1_1_START:G_} {od1_1_START:Ha G_} {sl1_1_START:Hh (Ha G9)} {n1_1_START:Nat} {t0_1_1_START t1_1_1_START:Tok}
  {lw:G_} {tm:Nat} {h0_TURNING h1_TURNING h2_TURNING:Int} {tk0_TURNING tk1_TURNING tk2_TURNING:Tok} {p0_TURNING:G_} {od0_TURNING:Ha G_} {sl0_TURNING:Hh (Ha G9)} {n0_TURNING:Nat} {t0_0_TURNING t1_0_TURNING t2_0_TURNING:Tok} {p1_TURNING:G_} {od1_TURNING:Ha G_} {sl1_TURNING:Hh (Ha G9)} {n1_TURNING:Nat} {t0_1_TURNING t1_1_TURNING t2_1_TURNING:Tok} {p2_TURNING:G_} {od2_TURNING:Ha G_} {sl2_TURNING:Hh (Ha G9)} {n2_TURNING:Nat} {t0_2_TURNING t1_2_TURNING t2_2_TURNING:Tok}
  {ny:G_} {vd:Ha G_} {vf:Hh (Ha G9)} {wa:Nat} {vq vx:Tok}
  {wv:G_} {B':Ha G_} {AK:Hh (Ha G9)} {C4:Nat} {B6 Bp:Tok}
  {dk:G_}
  {bh:G_}
  (d1:DI K "common_divisor" eC f1 cd1)
  (d2:DI K "ratio" ql f2 cd2)
  (d3:DI K "plus" tN f3 cd3)
  (d4:DI K "minus" qv f4 cd4)
  (d5:DI K "times" p9 f5 cd5)
  (d6:DI K "over" tq f6 cd6)
  (d7:DI K "negative" kg f7 cd7)
  (d8:DI K "without_sign" fQ f8 cd8)
  (d9:DI K "whole_root" gT f9 cd9)
  (d10:DI K "square_root_or_none" cJ f10 cd10)
  (d11:DI K "root_in" lh f11 cd11)
  (d12:DI K "is_plain" j8 f12 cd12)
  (d13:DI K "with_sign_of" fY f13 cd13)
  (d14:DI K "made" tf f14 cd14)
  (d15:DI K "field_base" ii f15 cd15)
  (d16:DI K "share" qL f16 cd16)
  (d17:DI K "joined" mI f17 cd17)
  (d18:DI K "root_negative" fj f18 cd18)
  (d19:DI K "root_plus" jc f19 cd19)
  (d20:DI K "root_minus" iy f20 cd20)
  (d21:DI K "root_times" g9 f21 cd21)
  (d22:DI K "sign_of" ly f22 cd22)
  (d23:DI K "root_sign" jq f23 cd23)
  (d24:DI K "one_field" ja f24 cd24)
  (d25:DI K "ask_one_field" fh f25 cd25)
  (d26:DI K "way_between" gC f26 cd26)
  (d27:DI K "square_of_way" fk f27 cd27)
  (d28:DI K "like_at" lp f28 cd28)
  (d29:DI K "side_of" lq f29 cd29)
  (d30:DI K "plain_point" gA f30 cd30)
  (d31:DI K "place_of" j0 f31 cd31)
  (d32:DI K "plain_way" i4 f32 cd32)
  (d33:DI K "product_of_ways" dU f33 cd33)
  (d34:DI K "moved" qP f34 cd34)
  (d35:DI K "moved_by_root" fq f35 cd35)
  (d36:DI K "both_moved" gR f36 cd36)
  (d37:DI K "square_of_unlike" cr f37 cd37)
  (d38:DI K "circles_meet" dZ f38 cd38)
  (d39:DI K "_law_cell_at" fK f39 cd39)
  (d40:DI K "_law_state" hX f40 cd40)
  (d41:DI K "_law_take" jn f41 cd41)
  (d42:DI K "_law_divisor" fS f42 cd42)
  (d43:DI K "_law_ratio" iu f43 cd43)
  (d44:DI K "_law_times" gU f44 cd44)
  (d45:DI K "_law_plus" iY f45 cd45)
  (d46:DI K "_law_minus" ij f46 cd46)
  (d47:DI K "_law_fraction" fg f47 cd47)
  (d48:DI K "_law_drive" il f48 cd48)
  (d49:DI K "_law_rods" iU f49 cd49)
  (d50:DI K "in_wholes" jo f50 cd50)
  (d51:DI K "ground_end" hZ f51 cd51)
  (d52:DI K "can_stand" iX f52 cd52)
  (d53:DI K "many_pieces" gH f53 cd53)
  (d54:DI K "_law_most" je f54 cd54)
  (d55:DI K "_law_sorted" gz f55 cd55)
  (d56:DI K "direction_of" fW f56 cd56)
  (d57:DI K "crank_end" iT f57 cd57)
  (d58:DI K "square_of" i8 f58 cd58)
  (d59:DI K "stands_at" gd f59 cd59)
  (d60:DI K "first_wrong" eN f60 cd60)
  (d61:DI K "is_stand" j' f61 cd61)
  (d62:DI K "side_of_piece" fe f62 cd62)
  (d63:DI K "one_piece" jw f63 cd63)
  (d64:DI K "dead_ones" jl f64 cd64)
  (d65:DI K "dead_stands" gy f65 cd65)
  (d66:DI K "turns" pH f66 cd66)
  (d67:DI K "_law_told" i5 f67 cd67)
  (d68:DI K "_law_turned" gw f68 cd68)
  (d69:DI K "_law_right" hJ f69 cd69)
  (d70:DI K "law" ym f70 cd70)
  (mT:PySem.W.nsIn K mainGlobals "START"=some (some (.ref qh))) (nA:K.lookup qh=some ⟨.type "tuple",wb,.seq #[.ref p0_START,.ref p1_START] zG,yn⟩) (lg0_START:K.lookup p0_START=some ⟨.type "tuple",od0_START,.seq #[.ref p0_0_START,.ref p1_0_START] n0_START,sl0_START⟩) (lg0_0_START:K.lookup p0_0_START=some ⟨.type "tuple",od0_0_START,.seq #[.int 0 t0_0_0_START,.int 1 t1_0_0_START] n0_0_START,sl0_0_START⟩) (lg1_0_START:K.lookup p1_0_START=some ⟨.type "tuple",od1_0_START,.seq #[.int 0 t0_1_0_START,.int 1 t1_1_0_START] n1_0_START,sl1_0_START⟩) (lg1_START:K.lookup p1_START=some ⟨.type "tuple",od1_START,.seq #[.ref p0_1_START,.ref p1_1_START] n1_START,sl1_START⟩) (lg0_1_START:K.lookup p0_1_START=some ⟨.type "tuple",od0_1_START,.seq #[.int 0 t0_0_1_START,.int 1 t1_0_1_START] n0_1_START,sl0_1_START⟩) (lg1_1_START:K.lookup p1_1_START=some ⟨.type "tuple",od1_1_START,.seq #[.int 0 t0_1_1_START,.int 1 t1_1_1_START] n1_1_START,sl1_1_START⟩)
  (kd:PySem.W.nsIn K mainGlobals "TURNING"=some (some (.ref lw))) (ka:K.lookup lw=some ⟨.type "dict",none,.dict #[⟨h0_TURNING,.str "crank" tk0_TURNING,.ref p0_TURNING⟩,⟨h1_TURNING,.str "coupler" tk1_TURNING,.ref p1_TURNING⟩,⟨h2_TURNING,.str "rocker" tk2_TURNING,.ref p2_TURNING⟩] tm,#[]⟩) (lg0_TURNING:K.lookup p0_TURNING=some ⟨.type "tuple",od0_TURNING,.seq #[.int 0 t0_0_TURNING,.int 1 t1_0_TURNING,.int 2 t2_0_TURNING] n0_TURNING,sl0_TURNING⟩) (hh0_TURNING:h0_TURNING=hashStr w "crank") (lg1_TURNING:K.lookup p1_TURNING=some ⟨.type "tuple",od1_TURNING,.seq #[.int 1 t0_1_TURNING,.int 0 t1_1_TURNING,.int 2 t2_1_TURNING] n1_TURNING,sl1_TURNING⟩) (hh1_TURNING:h1_TURNING=hashStr w "coupler") (lg2_TURNING:K.lookup p2_TURNING=some ⟨.type "tuple",od2_TURNING,.seq #[.int 2 t0_2_TURNING,.int 0 t1_2_TURNING,.int 1 t2_2_TURNING] n2_TURNING,sl2_TURNING⟩) (hh2_TURNING:h2_TURNING=hashStr w "rocker")
  (lH:PySem.W.nsIn K mainGlobals "NOUGHT"=some (some (.ref ny))) (lM:K.lookup ny=some ⟨.type "tuple",vd,.seq #[.int 0 vq,.int 1 vx] wa,vf⟩)
  (t6:PySem.W.nsIn K mainGlobals "ONE"=some (some (.ref wv))) (tX:K.lookup wv=some ⟨.type "tuple",B',.seq #[.int 1 B6,.int 1 Bp] C4,AK⟩)
  (kb:PySem.W.nsIn K mainGlobals "NoField"=some (some (.ref dk)))
  (lK:PySem.W.nsIn K mainGlobals "NoMeet"=some (some (.ref bh)))
  (lu:PySem.W.excIn K bh [.type "ValueError",.type "Exception",.type "BaseException",.type "object"] "ValueError.__new__"=true)
  (im:PySem.W.exmOne K (.ref dk) (.ref dk)=some true)
  (gL:PySem.W.exmOne K (.ref bh) (.ref bh)=some true)
  (xJ:PySem.W.nsIn K mainGlobals "abs"=some none) (xa:PySem.W.nsIn K mainGlobals "zip"=some none) (vQ:PySem.W.nsIn K mainGlobals "len"=some none) (qi:PySem.W.nsIn K mainGlobals "range"=some none) (pS:PySem.W.nsIn K mainGlobals "tuple"=some none) (wC:PySem.W.nsIn K mainGlobals "max"=some none) (wB:PySem.W.nsIn K mainGlobals "sum"=some none) (nt:PySem.W.nsIn K mainGlobals "sorted"=some none) (jb:PySem.W.nsIn K mainGlobals "enumerate"=some none) (wj:PySem.W.nsIn K mainGlobals "min"=some none):
  ∃ fd:FuncData,(∀ (s:G8) (v:G9),BindsTo s fd ⟨[v],[]⟩ [("script",v)])/\∀ base:Hf,K.In base->base.Ns mainGlobals mg->aH l.prog w K mg base cm 12 fa fd ["script"] (cn K rH):=by
 have e:=hfa.symm.trans (PySem.W.mg_of X G d70.a);cases e;have gh:=GR X G xJ;have xO:=GR X G xa;have jO:=GR X G vQ;have jB:=GR X G qi;have jK:=GR X G pS;have pk:=GR X G wC;have x8:=GR X G wB;have nH:=GR X G nt;have dI:=GR X G jb;have nv:=GR X G wj;have k9:=PySem.W.mg_of X G kb;have gJ:=PySem.W.mg_of X G lK;have cw:nV K mg "START" [[[0,1],[0,1]],[[0,1],[0,1]]]:=⟨qh,_,_,_,PySem.W.mg_of X G mT,nA,rfl,rfl,Gu rfl,.cons lg0_START rfl rfl (Gu rfl) (.cons lg0_0_START rfl rfl (Gu rfl) (.cons ⟨_,rfl⟩ (.cons ⟨_,rfl⟩ (.nil))) (.cons lg1_0_START rfl rfl (Gu rfl) (.cons ⟨_,rfl⟩ (.cons ⟨_,rfl⟩ (.nil))) (.nil))) (.cons lg1_START rfl rfl (Gu rfl) (.cons lg0_1_START rfl rfl (Gu rfl) (.cons ⟨_,rfl⟩ (.cons ⟨_,rfl⟩ (.nil))) (.cons lg1_1_START rfl rfl (Gu rfl) (.cons ⟨_,rfl⟩ (.cons ⟨_,rfl⟩ (.nil))) (.nil))) (.nil))⟩
 have lF:Bf K mg w "TURNING" [("crank",[0,1,2]),("coupler",[1,0,2]),("rocker",[2,0,1])]:=⟨lw,_,_,_,PySem.W.mg_of X G kd,ka,⟨rfl,rfl,rfl⟩,rfl,.cons hh0_TURNING ⟨_,_,_,lg0_TURNING,rfl,rfl,Gu rfl,.cons ⟨_,rfl⟩ (.cons ⟨_,rfl⟩ (.cons ⟨_,rfl⟩ (.nil)))⟩ (.cons hh1_TURNING ⟨_,_,_,lg1_TURNING,rfl,rfl,Gu rfl,.cons ⟨_,rfl⟩ (.cons ⟨_,rfl⟩ (.cons ⟨_,rfl⟩ (.nil)))⟩ (.cons hh2_TURNING ⟨_,_,_,lg2_TURNING,rfl,rfl,Gu rfl,.cons ⟨_,rfl⟩ (.cons ⟨_,rfl⟩ (.cons ⟨_,rfl⟩ (.nil)))⟩ (.nil))),by decide⟩
 have aL:lL K mg "NOUGHT" [0,1]:=⟨ny,_,_,_,PySem.W.mg_of X G lH,lM,rfl,rfl,Gu rfl,.cons ⟨_,rfl⟩ (.cons ⟨_,rfl⟩ (.nil))⟩
 have rE:lL K mg "ONE" [1,1]:=⟨wv,_,_,_,PySem.W.mg_of X G t6,tX,rfl,rfl,Gu rfl,.cons ⟨_,rfl⟩ (.cons ⟨_,rfl⟩ (.nil))⟩
 obtain⟨fd,Fn,hc,hb⟩:=d70.fn;refine⟨fd,hb,λbase _ _=>?_⟩
 have zb:Bs l.prog w base:=.mk;have eE:=d1.own zb X G λ_ F _=>kD F gh
 have dA:=d2.own zb X G λ_ F _=>xL F eE
 have a9:=d3.own zb X G λ_ F _=>zt F dA
 have bq:=d4.own zb X G λ_ F _=>xY F dA
 have aF:=d5.own zb X G λ_ F _=>wO F dA
 have b7:=d6.own zb X G λ_ F _=>yV F dA
 have aP:=d7.own zb X G λ_ F _=>q9 F
 have aE:=d8.own zb X G λ_ F _=>mj F gh
 have hG:=d9.own zb X G λ_ F _=>oi F
 have bT:=d10.own zb X G λ_ F _=>ip F hG
 have df:=d11.own zb X G λ_ F _=>t5 F bT
 have bp:=d12.own zb X G λ_ F _=>rf F
 have aU:=d13.own zb X G λ_ F _=>mx F aP
 have tD:=d14.own zb X G λ_ F _=>zA F df aE a9 aU aL
 have c_:=d15.own zb X G λ_ F _=>oB F aE bp
 have gu:=d16.own zb X G λ_ F _=>yk F bp df b7 aE aU aL
 have gI:=d17.own zb X G λ_ F _=>vo F aF aU
 have fm:=d18.own zb X G λ_ F _=>li F aP
 have bv:=d19.own zb X G λ_ F _=>pP F c_ a9 gu gI
 have bu:=d20.own zb X G λ_ F _=>om F bv fm
 have aX:=d21.own zb X G λ_ F _=>ou F c_ gu a9 aF gI
 have jG:=d22.own zb X G λ_ F _=>sH F
 have jk:=d23.own zb X G λ_ F _=>qJ F bq aE aF jG
 have iS:=d24.own zb X G λ_ F _=>qH F bp df b7 aE
 have aO:=d25.own zb X G λ_ F _=>lA F bp iS
 have aV:=d26.own zb X G λ_ F _=>m_ F bu
 have b3:=d27.own zb X G λ_ F _=>lz F bv aX
 have lJ:=d28.own zb X G λ_ F _=>sS F aO aV bu aX bv aL
 have jC:=d29.own zb X G λ_ F _=>tE F aO aV jk bu aX
 have br:=d30.own zb X G λ_ F _=>mY F aL
 have bL:=d31.own zb X G λ_ F _=>sD F
 have dL:=d32.own zb X G λ_ F _=>pO F bq
 have bF:=d33.own zb X G λ_ F _=>kh F a9 aF
 have fF:=d34.own zb X G λ_ F _=>xi F a9 aF
 have dw:=d35.own zb X G λ_ F _=>lx F aF tD aU xO
 have cX:=d36.own zb X G λ_ F _=>nZ F br aP dw
 have dG:=d37.own zb X G λ_ F _=>jL F bF
 have di:=d37.ownX zb X G λ_ F=>jx F bF gJ lu
 have cf:=d38.own zb X G λ_ F _=>me F bL dL dG b7 a9 bq aF cX aP fF
 have fi:=d38.ownX zb X G λ_ F=>k_ F cX aP fF bq aF b7 a9 dL bL di
 have fT:=d39.own zb X G λ_ F _=>mw F jO
 have gQ:=d40.own zb X G λ_ F _=>n_ F fT
 have aG:=d41.own zb X G λ_ F _=>qw F
 have fR:=d42.own zb X G λ_ F _=>mn F gh
 have aS:=d43.own zb X G λ_ F _=>ox F fR
 have g6:=d44.own zb X G λ_ F _=>n4 F aS
 have dH:=d45.own zb X G λ_ F _=>qV F aS
 have c9:=d46.own zb X G λ_ F _=>oA F aS
 have e_:=d47.own zb X G λ_ F _=>lI F aS aG
 have fD:=d48.own zb X G λ_ F _=>oy F aG e_
 have iR:=d49.own zb X G λ_ F _=>pL F aS aG dH c9 jB jK
 have bj:=d50.own zb X G λ_ F _=>qR F
 have aT:=d51.own zb X G λ_ F _=>oo F br aL
 have dN:=d52.own zb X G λ_ F _=>qC F bj pk x8
 have aZ:=d53.own zb X G λ_ F _=>nS F dN bj nH
 have iW:=d54.own zb X G λ_ F _=>qS F c9
 have gG:=d55.own zb X G λ_ F _=>mS F iW jO
 have fP:=d56.own zb X G λ_ F _=>my F aP aF a9 b7 bq aL rE
 have dM:=d57.own zb X G λ_ F _=>qz F br fF fP bL
 have aY:=d58.own zb X G λ_ F _=>pG F aF
 have Ax:=d59.own zb X G λ_ F _=>pN F dM cf aY aT cw
 have hU:=d59.ownX zb X G λ_ F=>oj F aY aT dM fi cw
 have yv:=d60.own zb X G λ_ F _=>nF F aO b3 aV dI aL
 have fN:=d60.ownX zb X G λ_ F=>mm (dk:=dk) F b3 aV aO dI aL
 have ik:=d61.own zb X G λ_ F _=>rC F aY aT fN cw k9 im
 have du:=d62.own zb X G λ_ F _=>lj F bj aT jC nv cw
 have gj:=d63.own zb X G λ_ F _=>qe F aZ du
 have gs:=d64.own zb X G λ_ F _=>qg F aT b7 cf aY lJ cw aL
 have gv:=d65.own zb X G λ_ F _=>mO F gs a9 bq
 have hV:=d66.own zb X G λ_ F _=>xc F bj gh lF
 have eR:=d67.own zb X G λ_ F _=>qk F hU gJ gL
 have eM:=d68.own zb X G λ_ F _=>mQ F
 have fE:=d69.own zb X G λ_ F _=>on F eM ik gj aZ
 exact B0 Fn gQ iR dN aZ fD eR fE gv hV aG g6 gG jB pk nv jO jK
theorem walk {l:PySem.W.OpenLaw} {q:Hc} {loose:List Str} {XP:(Str->Ha G9)->Hf->Prop} {YP:He->Hf->Prop} {d:DefRec} {K:Params->Fg} (hn:l.most=some 63) (hdf:d.params.defaults=[])
  (hY:∀ (w:He) (h:Hf),YP w h->(K w.params).In h)
  (F:∀ (w:He) (mg:Str->Ha G9) (fa:G_) (h:Hf),(K w.params).In h->h.Ns mainGlobals mg->mg d.name=some (.ref fa)->
   ∃ fd:FuncData,(∀ (s:G8) (u:G9),BindsTo s fd ⟨[u],[]⟩ [("script",u)])/\∀ base:Hf,(K w.params).In base->base.Ns mainGlobals mg->aH l.prog w (K w.params) mg base cm 12 fa fd ["script"] (cn (K w.params) rH)):
  PySem.W.WalkO q loose XP YP l.row.toRowW d [] (λf vs=>PySem.call f vs):=
 L2.y_ (n:=63) (k:=12) (x:="script") (CX:=λ_=>cm) (sp:=λw=>cn (K w.params) rH) hn (by decide) hdf ⟨rfl,by decide,by decide⟩ hY F
  (λw H a ns hl ho hS=>DL.Cm ho hS (yM ns hl)) λ_ _ _ _ _ z=>z
end My
open PySem PySem.W PyProof.Rows
set_option maxRecDepth 100000 in
set_option maxHeartbeats 0 in
theorem PySem.Challenge.cw_hingedraw_k56_whole_four_rods_holds : PySem.Challenge.rw_hingedraw_k56_whole_four_rods.Holds := by
 w_on; o_law; k_head; (case hw=>w_witness2)
 k_fill
 refine My.walk (l := PySem.Challenge.rw_hingedraw_k56_whole_four_rods) rfl rfl (λw h Y => PySem.W.kIn_of Y) ?F
 case F=>
  intro w mg fa h KX G hmg;refine' My.Ba KX G hmg ?d1 ?d2 ?d3 ?d4 ?d5 ?d6 ?d7 ?d8 ?d9 ?d10 ?d11 ?d12 ?d13 ?d14 ?d15 ?d16 ?d17 ?d18 ?d19 ?d20 ?d21 ?d22 ?d23 ?d24 ?d25 ?d26 ?d27 ?d28 ?d29 ?d30 ?d31 ?d32 ?d33 ?d34 ?d35 ?d36 ?d37 ?d38 ?d39 ?d40 ?d41 ?d42 ?d43 ?d44 ?d45 ?d46 ?d47 ?d48 ?d49 ?d50 ?d51 ?d52 ?d53 ?d54 ?d55 ?d56 ?d57 ?d58 ?d59 ?d60 ?d61 ?d62 ?d63 ?d64 ?d65 ?d66 ?d67 ?d68 ?d69 ?d70 ?mT ?nA ?lg0_START ?lg0_0_START ?lg1_0_START ?lg1_START ?lg0_1_START ?lg1_1_START ?kd ?ka ?lg0_TURNING ?hh0_TURNING ?lg1_TURNING ?hh1_TURNING ?lg2_TURNING ?hh2_TURNING ?lH ?lM ?t6 ?tX ?kb ?lK ?lu ?im ?gL ?xJ ?xa ?vQ ?qi ?pS ?wC ?wB ?nt ?jb ?wj
  case d1 | d2 | d3 | d4 | d5 | d6 | d7 | d8 | d9 | d10 | d11 | d12 | d13 | d14 | d15 | d16 | d17 | d18 | d19 | d20 | d21 | d22 | d23 | d24 | d25 | d26 | d27 | d28 | d29 | d30 | d31 | d32 | d33 | d34 | d35 | d36 | d37 | d38 | d39 | d40 | d41 | d42 | d43 | d44 | d45 | d46 | d47 | d48 | d49 | d50 | d51 | d52 | d53 | d54 | d55 | d56 | d57 | d58 | d59 | d60 | d61 | d62 | d63 | d64 | d65 | d66 | d67 | d68 | d69 | d70=>refine' ⟨?a,.mk ?l,?e,?k⟩; (case a=>k_is); (case l=>k_is); (case e=>k_is); (case k=>k_is)
  (case mT=>k_is)
  (case nA=>k_is)
  (case lg0_START=>k_is)
  (case lg0_0_START=>k_is)
  (case lg1_0_START=>k_is)
  (case lg1_START=>k_is)
  (case lg0_1_START=>k_is)
  (case lg1_1_START=>k_is)
  (case kd=>k_is)
  (case ka=>k_is)
  (case lg0_TURNING=>k_is)
  (case hh0_TURNING=>kernel_rfl)
  (case lg1_TURNING=>k_is)
  (case hh1_TURNING=>kernel_rfl)
  (case lg2_TURNING=>k_is)
  (case hh2_TURNING=>kernel_rfl)
  (case lH=>k_is)
  (case lM=>k_is)
  (case t6=>k_is)
  (case tX=>k_is)
  (case kb=>k_is)
  (case lK=>k_is)
  (case lu=>kernel_rfl)
  (case im=>kernel_rfl)
  (case gL=>kernel_rfl)
  (case xJ=>k_is)
  (case xa=>k_is)
  (case vQ=>k_is)
  (case qi=>k_is)
  (case pS=>k_is)
  (case wC=>k_is)
  (case wB=>k_is)
  (case nt=>k_is)
  (case jb=>k_is)
  (case wj=>k_is)
