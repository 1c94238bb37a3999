import PyProof.Rows.All
import Wide.All
import OpenK.AllK
import Wide.FinOn
import Lean
import PyProof.EqAt
import PyProof.EqKinds
import PyProof.TupleCall
import PySem.Challenge.RW_hingedraw_k45_whole_machines_shifted_and
set_option compiler.extract_closed false
set_option genSizeOfSpec false
set_option Elab.async false
set_option linter.all false
set_option maxRecDepth 100000
set_option Elab.async false
set_option linter.all false
set_option maxRecDepth 100000
theorem Zf {α β γ:Sort _} {f:α->β->γ}:∀ a b,f a b=f a b:=λ_ _=>rfl
section
open PySem PySem.Spec PyProof.Rows
abbrev pp:=@wpAny_bind
abbrev Gi:=@Heap.get?_push_of_some
abbrev Gj:=@wpAny_pure
abbrev Gk:=@Heap.get?_push_size
abbrev Gm:=@Rat.intCast_mul
abbrev Go:=@Heap.lt_size
abbrev Gq:=@Nat.le_refl
abbrev Gr:=@List.length_map
abbrev Gs:=@Bool.false_ne_true
abbrev Gv:=@List.size_toArray
abbrev Gw:=@List.mem_cons
abbrev Gx:=@Nat.ne_of_lt
abbrev Gy:=@List.mem_cons_self
abbrev Gz:=@List.mem_cons_of_mem
abbrev GA:=@Nat.lt_of_lt_of_le
abbrev GB:=@List.mem_append_right
abbrev GC:=@List.length_cons
abbrev GD:=@List.not_mem_nil
abbrev GE:=@Nat.le_of_ble_eq_true
abbrev GF:=@Rat.intCast_add
abbrev GG:=@Prod.ext
abbrev GH:=@List.length_append
abbrev GI:=@List.append_nil
abbrev GK:=@Rat.mul_nonneg
abbrev GL:=@wpAny_setField_rec
abbrev GM:=@wpAny_holding
abbrev GN:=@List.getElem?_eq_getElem
abbrev GO:=@wpAny_newObj_type
abbrev GP:=@List.getElem?_map
abbrev GQ:=@Rat.mul_pos
abbrev GR:=@Heap.get?_update_other
abbrev GS:=@Option.some.inj
abbrev GT:=@wpAny_seqItems
abbrev GU:=@Rat.intCast_sub
abbrev GV:=@Rat.divInt_eq_div
abbrev GW:=@List.getElem?_eq_some_iff
abbrev GX:=@wpAny_mono
abbrev GY:=@wpAny_field
abbrev GZ:=@Nat.le_trans
abbrev G3:=@Bool.and_eq_true
abbrev G4:=@PySem.mem_of_lookup
abbrev G5:=@Heap.get?_update_self
abbrev G6:=@PySem.W.mg_none_of
abbrev G7:=@wpAny_call_entry
abbrev G8:=@Int.fmod_nonneg_of_pos
abbrev G9:=@List.drop_eq_getElem_cons
abbrev G_:=@decide_eq_false
abbrev Ha:=@Nat.zero_le
abbrev Hb:=@Nat.lt_irrefl
abbrev Hc:=@Heap.size_push
abbrev Hd:=@List.all_eq_true
abbrev Hf:=@wpAny_callSpecial?_slot
abbrev Hg:=@Int.fmod_lt_of_pos
abbrev Hi:=@Option.isSome_iff_exists
abbrev Hj:=@List.length_eq_zero_iff
end
section
open PySem PySem.Spec
abbrev Hk:=Shared
abbrev Hl:=Value
abbrev Hm:=Addr
abbrev Hn:=Option
abbrev Ho:=Expr
abbrev Hq:=Program
abbrev Hr:=Around
abbrev Ht:=World
abbrev Hu:=Heap
abbrev Hv:=Stmt
abbrev Hw:=Array
abbrev Hx:=Bool
abbrev Hy:=String
abbrev Hz:=Obj
end
namespace L2
open PySem PySem.Spec PyProof.Rows
abbrev pM:=Sum Int Str
def Ac:pM->Hl->Hx
 | .inl k,v=>Value.isInt k v
 | .inr x,v=>Value.isStrOf x v
def EY (w:Ht):pM->Int
 | .inl k=>hashInt k
 | .inr x=>hashStr w x
theorem bT:∀ {k:pM} {v:Hl},Ac k v=true->(∃ i t,k=Sum.inl i/\v=Value.int i t)\/(∃ x t,k=Sum.inr x/\v=Value.str x t)
 | .inl i,v,h=>by
  obtain⟨t,e⟩:=Value.isInt_shape (k:=i) (v:=v) h;exact .inl ⟨i,t,rfl,e⟩
 | .inr x,v,h=>by
  obtain⟨t,e⟩:=Value.isStrOf_shape (x:=x) (v:=v) h;exact .inr ⟨x,t,rfl,e⟩
theorem A9 (a b:Int):decide ((Sum.inl a:pM)=Sum.inl b)=(a == b):=by
 by_cases e:a=b
 ·subst e; simp
 ·have h:¬ (Sum.inl a:pM)=Sum.inl b:=λq=>e (Sum.inl.inj q)
  rw [G_ h];exact(beq_eq_false_iff_ne.mpr e).symm
theorem A_ (a b:Str):decide ((Sum.inr a:pM)=Sum.inr b)=decide (a=b):=by
 by_cases e:a=b
 ·subst e; simp
 ·have h:¬ (Sum.inr a:pM)=Sum.inr b:=λq=>e (Sum.inr.inj q)
  rw [G_ h,G_ e]
theorem Bu (a:Int) (b:Str):decide ((Sum.inl a:pM)=Sum.inr b)=false:=G_ (λq=>nomatch q)
theorem BX (a:Str) (b:Int):decide ((Sum.inr a:pM)=Sum.inl b)=false:=G_ (λq=>nomatch q)
def tv (prog:Hq) (w:Ht):PySem.KeyKind prog w pM where
 is:=Ac
 hash:=EY w
 inj:=λv a b ha hb=>by
  rcases bT ha with ⟨i,t,rfl,rfl⟩ | ⟨x,t,rfl,rfl⟩
  ·rcases bT hb with ⟨j,u,rfl,e⟩ | ⟨y,u,rfl,e⟩
   ·injection e with e1 _; rw [e1]
   ·exact nomatch e
  ·rcases bT hb with ⟨j,u,rfl,e⟩ | ⟨y,u,rfl,e⟩
   ·exact nomatch e
   ·injection e with e1 _; rw [e1]
 byValue:=λk v h=>by
  rcases bT h with ⟨i,t,rfl,rfl⟩ | ⟨x,t,rfl,rfl⟩ <;> rfl
 pyHash:=λhv h=>by
  rcases bT hv with ⟨i,t,rfl,rfl⟩ | ⟨x,t,rfl,rfl⟩
  ·exact wpAny_pyHash_int h
  ·exact wpAny_pyHash_str h
 eqBool:=λhu hv h=>by
  rcases bT hu with ⟨i,t,rfl,rfl⟩ | ⟨x,t,rfl,rfl⟩
  ·rcases bT hv with ⟨j,u,rfl,rfl⟩ | ⟨y,u,rfl,rfl⟩
   ·rw [A9] at h; exact wpAny_eqBool_int h
   ·rw [Bu] at h; exact SeqAt.EqAt.int_str i t y u _ _ _ _ h
  ·rcases bT hv with ⟨j,u,rfl,rfl⟩ | ⟨y,u,rfl,rfl⟩
   ·rw [BX] at h; exact SeqAt.EqAt.str_int x t j u _ _ _ _ h
   ·rw [A_] at h; exact wpAny_eqBool_str h
 «strs»:=λk x t v h=>by
  rcases bT h with ⟨i,u,rfl,e⟩ | ⟨y,u,rfl,e⟩
  ·exact nomatch e
  ·injection e with e1 _
   subst e1;cases v <;> rfl
inductive V where
 | non | bl (b:Hx) | int (i:Int) | str (x:Str) | byt (b:Hw UInt8) | flt (b:UInt64) | ref (a:Hm) | ty (n:Hy)
 deriving DecidableEq
def bh:V->Hl->Prop
 | .non,u=>u=Value.none
 | .bl b,u=>u=Value.bool b
 | .int i,u=>∃ t,u=Value.int i t
 | .str x,u=>∃ t,u=Value.str x t
 | .byt b,u=>∃ t,u=Value.bytes b t
 | .flt b,u=>∃ t,u=Value.float b t
 | .ref a,u=>u=Value.ref a
 | .ty n,u=>u=Value.type n
abbrev bb:List V->List Hl->Prop:=Paired bh
theorem bb.length {xs:List V} {us:List Hl} (r:bb xs us):xs.length=us.length:=Paired.length r
theorem bb.get:∀ {xs:List V} {us:List Hl} {i:Nat} {x:V},bb xs us->xs[i]?=some x->∃ u,us[i]?=some u/\bh x u
 | _,_,_,_,.nil,e=>by simp at e
 | _,_,0,_,.cons r _,e=>by simp at e; subst e; exact⟨_,rfl,r⟩
 | _,_,i+1,x,.cons _ t,e=>by
  obtain⟨u,h1,h2⟩:=bb.get (i:=i) (x:=x) t (by simpa using e)
  exact⟨u,by simpa using h1,h2⟩
theorem bb.set {x:V} {u:Hl} (r:bh x u):∀ {xs:List V} {us:List Hl} (i:Nat),bb xs us->bb (xs.set i x) (us.set i u)
 | _,_,_,.nil=>.nil
 | _,_,0,.cons _ t=>.cons r t
 | _,_,i+1,.cons q t=>.cons q (bb.set r i t)
theorem bb.append:∀ {xs ys:List V} {us ws:List Hl},bb xs us->bb ys ws->bb (xs++ys) (us++ws)
 | _,_,_,_,.nil,s=>s
 | _,_,_,_,.cons r t,s=>.cons r (bb.append t s)
theorem bb.take:∀ {xs:List V} {us:List Hl} (n:Nat),bb xs us->bb (xs.take n) (us.take n)
 | _,_,0,_=>.nil
 | _,_,_+1,.nil=>.nil
 | _,_,n+1,.cons r t=>.cons r (bb.take n t)
theorem bb.drop:∀ {xs:List V} {us:List Hl} (n:Nat),bb xs us->bb (xs.drop n) (us.drop n)
 | _,_,0,r=>r
 | _,_,_+1,.nil=>.nil
 | _,_,n+1,.cons _ t=>bb.drop n t
def wP:Hn V->Hn Hl->Prop
 | some v,some u=>bh v u
 | none,none=>True
 | _,_=>False
def KV {κ:Type}:List (κ×V)->List (κ×Hl)->Prop:=Paired fun(p:κ×V) (q:κ×Hl)=>p.1=q.1/\bh p.2 q.2
def kV:pM->V
 | .inl i=>.int i
 | .inr x=>.str x
inductive HO where
 | lst (xs:List V)
 | tup (xs:List V)
 | dK (kvs:List (pM×V)) | dT (kvs:List (List pM×V))
 | set (S:Int->Hx) (n:Nat)
 | ins (C dx:Hm) (fs:List (Str×V))
 | own (x:Hm)
 | xd (fs:List (Str×V))
 | met (f x:Hm)
 | rng (lo hi:Int)
 | frz (o:Hz) (u:HO)
 | tbl (ps:Hw Hl)
 | ext (φ:Hu->Prop)
abbrev Hp:=Hm->Hn HO
def bt (H:Hp) (a:Hm) (o:HO):Hp:=λb=>if b=a then some o else H b
theorem bA {H:Hp} {a:Hm} {o:HO}:bt H a o a=some o:=by unfold bt; rw [if_pos rfl]
theorem ax {H:Hp} {a b:Hm} {o:HO} (h:b≠a):bt H a o b=H b:=by unfold bt; rw [if_neg h]
theorem aZ {H:Hp} {a b:Hm} {o:HO} (h:H a=some o) (h':H b=none):a≠b:=by
 intro e; subst e; rw [h] at h'; cases h'
section
variable (P:Hq) (w:Ht)
def dg (H:Hp) (h:Hu) (a:Hm):HO->Prop
 | .lst xs=>xs.length<=sizeLine/\∃ (its:List Hl) (n:Nat),bb xs its/\h.get? a=some {cls:=.type "list",data:=.seq its.toArray n}
 | .tup xs=>xs.length<=sizeLine/\∃ its:List Hl,bb xs its/\IsTup h a its.toArray
 | .dK kvs=>kvs.length<=sizeLine/\(a == sysModules)=false/\∃ vs,KV kvs vs/\h.DictOf (tv P w) a vs
 | .dT kvs=>kvs.length<=sizeLine/\(a == sysModules)=false/\∃ xs:List (List pM×Hm×Hl),
   Paired (λ(p:List pM×V) (q:List pM×Hm×Hl)=>p.1=q.1/\H q.2.1=some (.tup (p.1.map kV))/\bh p.2 q.2.2) kvs xs/\
   ∃ o es ep,h.get? a=some o/\o.ExactDict/\o.data=.dict es ep/\es.toList=xs.map (entryOfKey (tupleKind (tv P w)))/\(xs.map (·.1)).Nodup
 | .set S n=>h.SetOf (intKind P w) a S n
 | .ins C dx fs=>H dx=some (.own a)/\fs.length<=1000/\dx≠a/\h.get? a=some (PySem.W.instObj C dx)/\
   ∃ mA,h.Ns1 dx mA/\(∀ f,wP (fs.lookup f) (mA f))/\PySem.Within mA (fs.map (·.1))
 | .own _=>∃ o,h.get? a=some o
 | .xd fs=>∃ mA,h.Ns1 a mA/\∀ f,wP (fs.lookup f) (mA f)
 | .rng lo hi=>∃ t u v,h.get? a=some {cls:=.type "range",data:=.fields #[.int lo t,.int hi u,.int 1 v]}
 | .frz o u=>h.get? a=some o/\dg H h a u
 | .tbl ps=>h.get? a=some {cls:=.none,data:=.fields ps}
 | .met f x=>h.get? a=some (PySem.W.methodObj (.ref f) (.ref x))
 | .ext φ=>φ h/\(∃ o,h.get? a=some o)/\∀ h1 h2:Hu,φ h1->(∀ o,h1.get? a=some o->h2.get? a=some o)->φ h2
def kl (H:Hp) (h:Hu):Prop:=∀ a o,H a=some o->dg P w H h a o
end
section
variable {P:Hq} {w:Ht} {H H':Hp} {h h':Hu} {a:Hm} {o:HO}
theorem dg.lt (x:dg P w H h a o):a < h.objs.size:=by
 cases o with
 | lst xs=>obtain⟨_,_,_,_,e⟩:=x; exact Go e
 | tup xs=>obtain⟨_,_,_,p⟩:=x; exact p.lt
 | dK kvs=>obtain⟨_,_,_,_,o,_,_,e,_⟩:=x; exact Go e
 | dT kvs=>obtain⟨_,_,_,_,o,_,_,e,_⟩:=x; exact Go e
 | set S n=>obtain⟨o,_,_,_,e,_⟩:=x; exact Go e
 | ins C dx fs=>obtain⟨_,_,_,e,_⟩:=x; exact Go e
 | own y=>obtain⟨_,e⟩:=x; exact Go e
 | xd fs=>obtain⟨_,⟨_,_,_,e,_⟩,_⟩:=x; exact Go e
 | rng lo hi=>obtain⟨_,_,_,e⟩:=x; exact Go e
 | frz ob u=>obtain⟨e,_⟩:=x; exact Go e
 | tbl ps=>exact Go (show h.get? a=some _ from x)
 | met f y=>exact Go (show h.get? a=some _ from x)
 | ext φ=>obtain⟨_,⟨_,e⟩,_⟩:=x; exact Go e
theorem Paired.mapP {α β:Type} {F G:α->β->Prop}:∀ {l₁:List α} {l₂:List β},Paired F l₁ l₂->(∀ a b,F a b->G a b)->Paired G l₁ l₂
 | _,_,.nil,_=>.nil
 | _,_,.cons r t,f=>.cons (f _ _ r) (Paired.mapP t f)
theorem dg.stay (x:dg P w H h a o) (k:∀ b u,(b=a\/H b=some (.own a))->h.get? b=some u->h'.get? b=some u)
  (ho:∀ b,H b=some (.own a)->H' b=some (.own a)) (ht:∀ b xs,H b=some (.tup xs)->H' b=some (.tup xs)):dg P w H' h' a o:=by
 induction o with
 | lst xs=>obtain⟨z,its,n,r,e⟩:=x; exact⟨z,its,n,r,k _ _ (.inl rfl) e⟩
 | tup xs=>obtain⟨z,its,r,ob,e,c⟩:=x; exact⟨z,its,r,ob,k _ _ (.inl rfl) e,c⟩
 | dK kvs=>obtain⟨z,y,vs,r,ob,es,ep,e,c⟩:=x; exact⟨z,y,vs,r,ob,es,ep,k _ _ (.inl rfl) e,c⟩
 | dT kvs=>
  obtain⟨z,y,xs,r,ob,es,ep,e,c⟩:=x;exact⟨z,y,xs,Paired.mapP r λp q z=>⟨z.1,ht _ _ z.2.1,z.2.2⟩,ob,es,ep,k _ _ (.inl rfl) e,c⟩
 | set S n=>obtain⟨ob,es,ep,t,e,c⟩:=x; exact⟨ob,es,ep,t,k _ _ (.inl rfl) e,c⟩
 | ins C dx fs=>
  obtain⟨d,z,ne,e,mA,⟨od,es,ep,e2,c⟩,r⟩:=x;exact⟨ho _ d,z,ne,k _ _ (.inl rfl) e,mA,⟨od,es,ep,k _ _ (.inr d) e2,c⟩,r⟩
 | own y=>obtain⟨ob,e⟩:=x; exact⟨ob,k _ _ (.inl rfl) e⟩
 | xd fs=>obtain⟨mA,⟨od,es,ep,e,c⟩,r⟩:=x; exact⟨mA,⟨od,es,ep,k _ _ (.inl rfl) e,c⟩,r⟩
 | rng lo hi=>obtain⟨t,u,v,e⟩:=x; exact⟨t,u,v,k _ _ (.inl rfl) e⟩
 | frz ob u ih=>obtain⟨e,q⟩:=x; exact⟨k _ _ (.inl rfl) e,ih q⟩
 | tbl ps=>
  have e:h.get? a=some {cls:=.none,data:=.fields ps}:=x
  show h'.get? a=some {cls:=.none,data:=.fields ps}
  exact k a _ (.inl rfl) e
 | met f y=>
  have e:h.get? a=some (PySem.W.methodObj (.ref f) (.ref y)):=x
  show h'.get? a=some (PySem.W.methodObj (.ref f) (.ref y))
  exact k a _ (.inl rfl) e
 | ext φ=>obtain⟨p,⟨o,e⟩,st⟩:=x; exact⟨st _ _ p λo q=>k _ _ (.inl rfl) q,⟨o,k _ _ (.inl rfl) e⟩,st⟩
theorem kl.lt (x:kl P w H h) (e:H a=some o):a < h.objs.size:=(x a o e).lt
theorem kl.fresh (x:kl P w H h) (e:h.objs.size<=a):H a=none:=by
 cases q:H a with
 | none=>rfl
 | some u=>exact absurd (GA (x.lt q) e) (Hb _)
theorem kl.kept (x:kl P w H h) (k:∀ b u,h.get? b=some u->h'.get? b=some u):kl P w H h':=λa o e=>
 (x a o e).stay (λb u _ q=>k b u q) (λ_ q=>q) λ_ _ q=>q
theorem kl.laid (x:kl P w H h) (k:∀ b u,h.get? b=some u->h'.get? b=some u) (hp:h.objs.size<=a) (new:dg P w (bt H a o) h' a o):kl P w (bt H a o) h':=λb u e=>by
 have hn:=x.fresh hp
 by_cases hb:b=a
 ·subst hb; rw [bA] at e; cases e; exact new
 ·rw [ax hb] at e;exact(x b u e).stay (λc v _ q=>k c v q) (λc q=>by rw [ax (aZ q hn)]; exact q) λc xs q=>by rw [ax (aZ q hn)]; exact q
end
def Rd (H:Hp) (a:Hm) (u:HO):Prop:=H a=some u\/∃ o,H a=some (.frz o u)
theorem Rd.ok {P:Hq} {w:Ht} {H:Hp} {h:Hu} {a:Hm} {u:HO} (r:Rd H a u) (x:kl P w H h):dg P w H h a u:=by
 rcases r with r | ⟨o,r⟩
 ·exact x a u r
 ·obtain⟨_,q⟩:=x a _ r;exact q
def Ec:Hn HO->Prop
 | some (.lst _)=>True
 | some (.dK _)=>True
 | some (.dT _)=>True
 | some (.set _ _)=>True
 | some (.ins _ _ _)=>True
 | some (.ext _)=>True
 | _=>False
section
variable {P:Hq} {w:Ht} {H:Hp} {h h':Hu} {x e:Hm} {o':HO}
theorem kl.write (ok:kl P w H h) (mu:Ec (H x)) (he:e=x\/H e=some (.own x)) (k:∀ b u,b≠e->h.get? b=some u->h'.get? b=some u) (heo:∃ u,h'.get? e=some u)
  (new:dg P w (bt H x o') h' x o'):kl P w (bt H x o') h':=λb u q=>by
 have nown:∀ c y,H c=some (.own y)->c≠x:=λc y r z=>by subst z; rw [r] at mu; exact mu
 have ntup:∀ c xs,H c=some (.tup xs)->c≠x:=λc xs r z=>by subst z; rw [r] at mu; exact mu
 by_cases hb:b=x
 ·subst hb; rw [bA] at q; cases q; exact new
 ·rw [ax hb] at q
  by_cases hbe:b=e
  ·have q':H b=some (.own x):=by
    rcases he with z | z
    ·exact absurd (hbe.trans z) hb
    ·rw [hbe]; exact z
   rw [q] at q'; cases q'
   obtain⟨v,hv⟩:=heo;exact⟨v,by rw [hbe]; exact hv⟩
  ·refine(ok b u q).stay (λc v hc r=>k c v ?_ r) (λc r=>by rw [ax (nown c b r)]; exact r) λc xs r=>by rw [ax (ntup c xs r)]; exact r
   rcases hc with rfl | hc
   ·exact hbe
   ·rintro rfl;rcases he with z | z
    ·exact nown c b hc z
    ·rw [hc] at z; cases z; exact hb rfl
end
structure Un (fs ex:List Hm) (H H':Hp) (h h':Hu):Prop where
 keep:∀ b o,h.get? b=some o->H b=none->b∉fs->b∉ex->h'.get? b=some o
 slot:∀ b o,h.get? b=some o->H b=none->b∈fs->b∉ex->∃ sl,h'.get? b=some {o with slots:=sl}
 free:∀ b o,h.get? b=some o->H b=none->b∉ex->H' b=none
 there:∀ b o,h.get? b=some o->b∉ex->∃ o',h'.get? b=some o'
 tups:∀ b xs,H b=some (.tup xs)->H' b=some (.tup xs)
 frzs:∀ b o u,H b=some (.frz o u)->H' b=some (.frz o u)
 tbls:∀ b ps,H b=some (.tbl ps)->∃ more,H' b=some (.tbl (ps++more))
section
variable {fs fs' ex ex':List Hm} {H H1 H2:Hp} {h h1 h2 h':Hu} {a x e:Hm} {o:HO}
theorem Un.any (u:Un fs ex H H1 h h1) {b:Hm} {ob:Hz} (q:h.get? b=some ob) (n:H b=none) (hx:b∉ex):∃ sl,h1.get? b=some {ob with slots:=sl}:=by
 by_cases hb:b∈fs
 ·exact u.slot b ob q n hb hx
 ·exact⟨ob.slots,u.keep b ob q n hb hx⟩
theorem Un.trans (a:Un fs ex H H1 h h1) (b:Un fs ex H1 H2 h1 h2):Un fs ex H H2 h h2 where
 keep:=λc ob q n hc hx=>b.keep c ob (a.keep c ob q n hc hx) (a.free c ob q n hx) hc hx
 slot:=λc ob q n hc hx=>by
  obtain⟨sl,e1⟩:=a.slot c ob q n hc hx;obtain⟨sl',e2⟩:=b.slot c _ e1 (a.free c ob q n hx) hc hx;exact⟨sl',e2⟩
 free:=λc ob q n hx=>by
  obtain⟨o',e1⟩:=a.there c ob q hx;exact b.free c o' e1 (a.free c ob q n hx) hx
 there:=λc ob q hx=>by
  obtain⟨o',e1⟩:=a.there c ob q hx;exact b.there c o' e1 hx
 tups:=λc xs q=>b.tups c xs (a.tups c xs q)
 frzs:=λc ob xs q=>b.frzs c ob xs (a.frzs c ob xs q)
 tbls:=λc ps q=>by
  obtain⟨m1,e1⟩:=a.tbls c ps q;obtain⟨m2,e2⟩:=b.tbls c _ e1;exact⟨m1++m2,by rw [e2,Array.append_assoc]⟩
theorem Un.kept (k:∀ b u,h.get? b=some u->h'.get? b=some u):Un fs ex H H h h':=
 ⟨λb ob q _ _ _=>k b ob q,λb ob q _ _ _=>⟨ob.slots,k b ob q⟩,λ_ _ _ n _=>n,λb ob q _=>⟨ob,k b ob q⟩,λ_ _ q=>q,λ_ _ _ q=>q,λ_ ps q=>⟨#[],by rw [q]; simp⟩⟩
theorem Un.refl:Un fs ex H H h h:=Un.kept λ_ _ q=>q
theorem Un.laid (k:∀ b u,h.get? b=some u->h'.get? b=some u) (hp:h.objs.size<=a) (hn:H a=none):Un fs ex H (bt H a o) h h' where
 keep:=λb u q _ _ _=>k b u q
 slot:=λb u q _ _ _=>⟨u.slots,k b u q⟩
 free:=λb u q n _=>by rw [ax (Gx (GA (Go q) hp))]; exact n
 there:=λb u q _=>⟨u,k b u q⟩
 tups:=λb xs q=>by rw [ax (aZ q hn)]; exact q
 frzs:=λb u xs q=>by rw [ax (aZ q hn)]; exact q
 tbls:=λb ps q=>⟨#[],by rw [ax (aZ q hn),q]; simp⟩
theorem Un.write (mu:Ec (H x)) (he:e=x\/H e=some (.own x)) (k:∀ b u,b≠e->h.get? b=some u->h'.get? b=some u) (heo:∃ u,h'.get? e=some u):Un fs ex H (bt H x o) h h':=by
 have hx:∀ b,H b=none->b≠x:=λb n z=>by subst z; rw [n] at mu; exact mu
 have hb:∀ b,H b=none->b≠e:=λb n z=>by
  subst z;rcases he with r | r
  ·exact hx b n r
  ·rw [n] at r; cases r
 have hm:∀ b u,H b=some u->¬ Ec (some u)->b≠x:=λb u q nm z=>by subst z; rw [q] at mu; exact nm mu
 refine⟨λb u q n _ _=>k b u (hb b n) q,λb u q n _ _=>⟨u.slots,k b u (hb b n) q⟩,λb u q n _=>by rw [ax (hx b n)]; exact n,λb u q _=>?_,
  λb xs q=>by rw [ax (hm b _ q λz=>z)]; exact q,λb u xs q=>by rw [ax (hm b _ q λz=>z)]; exact q,λb ps q=>⟨#[],by rw [ax (hm b _ q λz=>z),q]; simp⟩⟩
 by_cases hbe:b=e
 ·subst hbe; exact heo
 ·exact⟨u,k b u hbe q⟩
end
def Em (h:Hu) (H:Hp):List Hm:=(List.range h.objs.size).filter λa=>(H a).isSome
def ng (h:Hu) (H:Hp):Hu:=PySem.W.hideAll h (Em h H)
theorem uR (h:Hu) (H:Hp):(ng h H).objs.size=h.objs.size:=PySem.W.hideAll_size _ _
theorem wK {h:Hu} {H:Hp} {b:Hm} {o:Hz} (e:h.get? b=some o) (n:H b=none):(ng h H).get? b=some o:=
 PySem.W.hideAll_get _ e λhm=>by
  have q:(H b).isSome=true:=(List.mem_filter.mp hm).2;rw [n] at q; simp at q
theorem yz {h:Hu} {H:Hp} {b:Hm} {o:Hz} (e:(ng h H).get? b=some o):h.get? b=some o/\H b=none:=by
 have e':h.get? b=some o:=PySem.W.of_hideAll (Em h H) e;refine⟨e',?_⟩;cases q:H b with
 | none=>rfl
 | some x=>
  have hm:b∈Em h H:=List.mem_filter.mpr ⟨List.mem_range.mpr (Go e'),by simp [q]⟩
  have z:(ng h H).get? b=none:=PySem.W.hideAll_none (Em h H) hm;rw [z] at e; cases e
def zt (g h:Hu) (L:Hm):List (Hm×Hz):=(List.range h.objs.size).filterMap λa=>if a=L\/(g.get? a).isSome=true then none else(h.get? a).map λo=>(a,o)
def gA (g h:Hu) (L d:Hm):List (Hm×Hz):=(zt g h L).filter λp=>decide (p.1≠d)
structure Mod (K:PySem.W.Frag) (mg:Str->Hn Hl) (base:Hu):Prop where
 kin:K.In base
 glob:base.Ns mainGlobals mg
 blt:∃ mb,base.Ns builtinsNs mb/\∀ x:Str,x≠"__name__"->mb x=bootBuiltins x
 nolimit:base.NoLimit
structure Cx where
 prog:Hq
 w:Ht
 K:PySem.W.Frag
 mg:Str->Hn Hl
 base:Hu
 A:Hr
 N:List Str
 s₀:Hk
 H₀:Hp
 env:Env
 outer:List Env
 stack:List Env
 ex:List Hm
 fn:Str->Hx
 calm:Hx
 pn:List (Hm×Hz)
 xe:Hl->Hk->Prop
def fo (l:List Env):List Hm:=l.filterMap (·.frame)
abbrev Cx.fs (X:Cx):List Hm:=fo X.outer
def qQ (sc:Scope) (x:Str):Prop:=sc.names.lookup x=some .local\/sc.names.lookup x=some .cell\/sc.names.lookup x=some .free
def xF (sc:Scope) (x:Str):Prop:=sc.names.lookup x=some .local\/sc.names.lookup x=some .cell
def Fm (env:Env) (h:Hu) (m:Str->Hn Hl) (x:Str) (u:Hl):Prop:=
 (env.kindOf x=some .local/\m x=some u)\/((env.kindOf x=some .cell\/env.kindOf x=some .free)/\∃ c,env.cells.lookup x=some c/\h.IsCell c (some u))
structure Cx.Ok (X:Cx):Prop where
 mod:Mod X.K X.mg X.base
 kind:X.env.scope.kind=.function
 glob:X.env.globals=mainGlobals
 blt:X.env.builtins=builtinsNs
 above:X.s₀.heap.objs.size<=X.env.locals
 inj:∀ x y c,X.env.cells.lookup x=some c->X.env.cells.lookup y=some c->x=y
 has:∀ x,(X.env.kindOf x=some .cell\/X.env.kindOf x=some .free)->∃ c,X.env.cells.lookup x=some c
 cab:∀ x c,X.fn x=true->X.env.cells.lookup x=some c->X.s₀.heap.objs.size<=c
 hd:X.calm=true->X.A.handled=none
 frames:X.A.frames=some X.stack
 stk:X.stack=X.outer\/(X.stack=X.env::X.outer/\X.env.frame=some X.env.locals)
 exf:∀ b∈X.ex,b≠X.env.locals/\∀ x c,X.env.cells.lookup x=some c->c≠b
 bs:∀ b o,X.base.get? b=some o->X.s₀.heap.get? b=some o/\X.H₀ b=none
 bsz:X.base.objs.size<=X.s₀.heap.objs.size
 noex:∀ b o,X.base.get? b=some o->b∉X.ex
 exfs:∀ b∈X.ex,b∉X.fs
 funs:X.s₀.heap.FunFrames X.base X.outer
 frf:∀ b∈X.fs,X.H₀ b=none
structure av (X:Cx) (HA:List (Hm×Hz)) (σ:List (Hn V)) (H:Hp) (s:Hk):Prop where
 ok:X.Ok
 os:s.os=X.s₀.os
 bare:AllBare s.gens
 base:Un X.fs X.ex X.H₀ H X.s₀.heap s.heap
 loc:∃ m,s.heap.Ns X.env.locals m/\∀ (i:Nat) (x:Str) (v:V),X.N[i]?=some x->σ[i]?=some (some v)->qQ X.env.scope x->∃ u,bh v u/\Fm X.env s.heap m x u
 cell:∀ x c,X.env.cells.lookup x=some c->∃ v,s.heap.IsCell c v
 free:H X.env.locals=none
 freeC:∀ x c,X.env.cells.lookup x=some c->H c=none
 pin:∀ p∈X.pn++HA,s.heap.get? p.1=some p.2/\H p.1=none/\p.1≠X.env.locals/\p.1∉X.fs/\∀ v,p.2.data≠.cell v
 hok:kl X.prog X.w H s.heap
 len:σ.length=X.N.length
section
variable {X:Cx} {HA:List (Hm×Hz)} {σ:List (Hn V)} {H H':Hp} {s:Hk} {h':Hu}
theorem Cx.Ok.nofr (ok:X.Ok) {b:Hm} {o:Hz} (e:X.base.get? b=some o):b∉X.fs:=λhb=>by
 have:=(ok.funs.mem hb).1;rw [e] at this; cases this
theorem av.bs (I:av X HA σ H s):∀ b o,X.base.get? b=some o->s.heap.get? b=some o/\H b=none:=λb o e=>
 ⟨I.base.keep b o (I.ok.bs b o e).1 (I.ok.bs b o e).2 (I.ok.nofr e) (I.ok.noex b o e),I.base.free b o (I.ok.bs b o e).1 (I.ok.bs b o e).2 (I.ok.noex b o e)⟩
theorem av.bk (I:av X HA σ H s):∀ b o,X.base.get? b=some o->s.heap.get? b=some o:=λb o e=>(I.bs b o e).1
theorem av.mod (I:av X HA σ H s):Mod X.K X.mg X.base:=I.ok.mod
theorem av.kIn (I:av X HA σ H s):X.K.In s.heap:=I.ok.mod.kin.keeps I.bk
theorem av.nolimit (I:av X HA σ H s):s.heap.NoLimit:=I.ok.mod.nolimit.keeps I.bk
theorem av.lt (I:av X HA σ H s):X.env.locals < s.heap.objs.size:=let ⟨_,hn,_⟩:=I.loc; hn.lt
theorem av.sz (I:av X HA σ H s):X.s₀.heap.objs.size<=s.heap.objs.size:=GZ I.ok.above (Nat.le_of_lt I.lt)
theorem av.nofs (I:av X HA σ H s) {a:Hm} (h:s.heap.objs.size<=a):a∉X.fs:=λhb=>by
 obtain⟨_,o,ho,_⟩:=I.ok.funs.mem hb;exact absurd (GA (Go ho) (GZ I.sz h)) (Hb _)
theorem av.cne (I:av X HA σ H s):∀ x c,X.env.cells.lookup x=some c->c≠X.env.locals:=λx c e z=>by
 obtain⟨v,o,ho,hd⟩:=I.cell x c e;obtain⟨m,⟨o',es,ep,ho',hd',_⟩,_⟩:=I.loc;rw [z,ho'] at ho; cases ho; rw [hd'] at hd; cases hd
theorem av.funs (I:av X HA σ H s):s.heap.FunFrames X.base X.outer:=by
 have all:∀ (l:List Env),(∀ b∈fo l,b∈X.fs)->X.s₀.heap.FunFrames X.base l->s.heap.FunFrames X.base l:=by
  intro l
  induction l with
  | nil=>intro _ _; trivial
  | cons env r ih=>
   intro hs hl;obtain⟨hk,⟨L,o,hf,hn,ho,hd⟩,hr⟩:=hl;have hL:L∈X.fs:=hs L (by unfold fo; rw [List.filterMap_cons,hf]; exact Gy)
   obtain⟨sl,e⟩:=I.base.slot L o ho (I.ok.frf L hL) hL λz=>I.ok.exfs L z hL
   exact⟨hk,⟨L,_,hf,hn,e,hd⟩,ih (λb hb=>hs b (by unfold fo; rw [List.filterMap_cons,hf]; exact Gz _ hb)) hr⟩
 exact all X.outer (λ_ hb=>hb) I.ok.funs
theorem av.stack (I:av X HA σ H s):s.heap.FunFrames X.base X.stack:=by
 rcases I.ok.stk with e | ⟨e,hf⟩
 ·rw [e]; exact I.funs
 ·rw [e];obtain⟨m,hn,_⟩:=I.loc;refine .cons (by rw [I.ok.kind]; decide) hf hn ?_ I.funs
  exact Heap.get?_none_of_le (GZ I.ok.bsz I.ok.above)
theorem av.stkSub (I:av X HA σ H s):∀ b∈fo X.stack,b∈X.env.locals::X.fs:=λb hb=>by
 rcases I.ok.stk with e | ⟨e,hf⟩
 ·rw [e] at hb; exact Gz _ hb
 ·rw [e] at hb;unfold fo at hb;rw [List.filterMap_cons,hf] at hb;exact hb
theorem av.stkFree (I:av X HA σ H s):∀ b∈fo X.stack,H b=none:=λb hb=>by
 rcases Gw.mp (I.stkSub b hb) with e | hb
 ·rw [e]; exact I.free
 ·obtain⟨_,o,ho,_⟩:=I.ok.funs.mem hb;exact I.base.free b o ho (I.ok.frf b hb) λz=>I.ok.exfs b z hb
theorem av.step {g':Hw GenState} {t':Nat} {d':Drawn} {ch:List Hm} (I:av X HA σ H s)
  (hch:∀ b∈ch,(b∈X.ex\/X.s₀.heap.objs.size<=b)/\b≠X.env.locals/\(∀ x c,X.env.cells.lookup x=some c->c≠b)/\∀ p∈X.pn++HA,p.1≠b)
  (keep:∀ b o,b≠X.env.locals->b∉X.fs->b∉ch->s.heap.get? b=some o->H b=none->h'.get? b=some o)
  (slot:∀ b o,b≠X.env.locals->b∈X.fs->b∉ch->s.heap.get? b=some o->H b=none->∃ sl,h'.get? b=some {o with slots:=sl}) (free:∀ b o,b∉ch->s.heap.get? b=some o->H b=none->H' b=none)
  (there:∀ b o,b∉ch->s.heap.get? b=some o->∃ o',h'.get? b=some o')
  (tups:∀ b xs,H b=some (.tup xs)->H' b=some (.tup xs)) (frzs:∀ b o u,H b=some (.frz o u)->H' b=some (.frz o u)) (tbls:∀ b ps,H b=some (.tbl ps)->∃ more,H' b=some (.tbl (ps++more)))
  (ns:∀ m,s.heap.Ns X.env.locals m->h'.Ns X.env.locals m) (hok:kl X.prog X.w H' h') (hg:AllBare g'):
  av X HA σ H' {s with heap:=h',gens:=g',drawn:=d',toks:=t'}:=by
 have neL:∀ b o,X.s₀.heap.get? b=some o->b≠X.env.locals:=λb o e=>Gx (GA (Go e) I.ok.above)
 have neC:∀ b o,X.s₀.heap.get? b=some o->b∉X.ex->b∉ch:=λb o e hx hb=>by
  rcases(hch b hb).1 with z | z
  ·exact hx z
  ·exact absurd (GA (Go e) z) (Hb _)
 have cellK:∀ x c,X.env.cells.lookup x=some c->∀ v,s.heap.IsCell c v->h'.IsCell c v:=λx c e v ⟨o,ho,hd⟩=>by
  have nch:c∉ch:=λz=>(hch c z).2.2.1 x c e rfl
  by_cases hc:c∈X.fs
  ·obtain⟨sl,q⟩:=slot c o (I.cne x c e) hc nch ho (I.freeC x c e);exact⟨_,q,hd⟩
  ·exact⟨o,keep c o (I.cne x c e) hc nch ho (I.freeC x c e),hd⟩
 refine⟨I.ok,I.os,hg,⟨λb o e n hb hx=>?_,λb o e n hb hx=>?_,λb o e n hx=>?_,λb o e hx=>?_,λb xs e=>tups b xs (I.base.tups b xs e),λb o xs e=>frzs b o xs (I.base.frzs b o xs e),λb ps e=>?_⟩,?_,λx c e=>?_,?_,λx c e=>?_,λp hp=>?_,hok,I.len⟩
 ·exact keep b o (neL b o e) hb (neC b o e hx) (I.base.keep b o e n hb hx) (I.base.free b o e n hx)
 ·obtain⟨sl,e1⟩:=I.base.slot b o e n hb hx;obtain⟨sl',e2⟩:=slot b _ (neL b o e) hb (neC b o e hx) e1 (I.base.free b o e n hx);exact⟨sl',e2⟩
 ·obtain⟨o',e1⟩:=I.base.there b o e hx;exact free b o' (neC b o e hx) e1 (I.base.free b o e n hx)
 ·obtain⟨o',e1⟩:=I.base.there b o e hx;exact there b o' (neC b o e hx) e1
 ·obtain⟨m1,e1⟩:=I.base.tbls b ps e;obtain⟨m2,e2⟩:=tbls b _ e1;exact⟨m1++m2,by rw [e2,Array.append_assoc]⟩
 ·obtain⟨m,hn,hl⟩:=I.loc;refine⟨m,ns m hn,λi x v e1 e2 e3=>?_⟩
  obtain⟨u,r,l⟩:=hl i x v e1 e2 e3;refine⟨u,r,?_⟩;rcases l with l | ⟨k,c,e,z⟩
  ·exact .inl l
  ·exact .inr ⟨k,c,e,cellK x c e _ z⟩
 ·obtain⟨v,z⟩:=I.cell x c e;exact⟨v,cellK x c e v z⟩
 ·obtain⟨m,⟨o,_,_,ho,_⟩,_⟩:=I.loc;exact free _ o (λz=>(hch _ z).2.1 rfl) ho I.free
 ·obtain⟨v,o,ho,hd⟩:=I.cell x c e;exact free c o (λz=>(hch c z).2.2.1 x c e rfl) ho (I.freeC x c e)
 ·obtain⟨e,n,ne,nf,d⟩:=I.pin p hp;have nch:p.1∉ch:=λz=>(hch p.1 z).2.2.2 p hp rfl
  exact⟨keep p.1 p.2 ne nf nch e n,free p.1 p.2 nch e n,ne,nf,d⟩
theorem av.un {t':Nat} (I:av X HA σ H s) (u:Un X.fs [] H H' s.heap h') (hok:kl X.prog X.w H' h'):av X HA σ H' {s with heap:=h',toks:=t'}:=by
 obtain⟨m,⟨o,es,ep,ho,r⟩,_⟩:=id I.loc;obtain⟨sl,hL⟩:=u.any ho I.free (by simp)
 exact I.step (g':=s.gens) (d':=s.drawn) (ch:=[]) (λ_ z=>nomatch z) (λb o _ hb _ e n=>u.keep b o e n hb (by simp)) (λb o _ hb _ e n=>u.slot b o e n hb (by simp)) (λb o _ e n=>u.free b o e n (by simp)) (λb o _ e=>u.there b o e (by simp)) u.tups u.frzs u.tbls (λm' hm=>by
  obtain⟨o',es',ep',ho',r'⟩:=hm;rw [ho] at ho'; cases ho'
  exact⟨_,es',ep',hL,r'⟩) hok I.bare
theorem av.call {g':Hw GenState} {t':Nat} {d':Drawn} {ch:List Hm} (I:av X HA σ H s) (u:Un (fo X.stack) ch H H' s.heap h') (hok:kl X.prog X.w H' h') (hg:AllBare g')
  (hch:∀ b∈ch,(b∈X.ex\/X.s₀.heap.objs.size<=b)/\b≠X.env.locals/\(∀ x c,X.env.cells.lookup x=some c->c≠b)/\∀ p∈X.pn++HA,p.1≠b):
  av X HA σ H' {s with heap:=h',gens:=g',drawn:=d',toks:=t'}:=by
 obtain⟨m,⟨o,es,ep,ho,r⟩,_⟩:=id I.loc;obtain⟨sl,hL⟩:=u.any ho I.free λz=>(hch _ z).2.1 rfl
 exact I.step (ch:=ch) hch (λb o hL hb hc e n=>u.keep b o e n (λz=>(Gw.mp (I.stkSub b z)).elim hL hb) hc) (λb o _ _ hc e n=>u.any e n hc) (λb o hc e n=>u.free b o e n hc) (λb o hc e=>u.there b o e hc) u.tups u.frzs u.tbls (λm' hm=>by
  obtain⟨o',es',ep',ho',r'⟩:=hm;rw [ho] at ho'; cases ho'
  exact⟨_,es',ep',hL,r'⟩) hok hg
theorem av.turned {t':Nat} {it:Hm} (I:av X HA σ H s) (k:∀ b o,b≠it->s.heap.get? b=some o->h'.get? b=some o) (hn:H it=none) (hL:it≠X.env.locals)
  (h1:it∈X.ex\/X.s₀.heap.objs.size<=it) (h2:∀ x c,X.env.cells.lookup x=some c->c≠it) (h3:∀ p∈X.pn++HA,p.1≠it):av X HA σ H {s with heap:=h',toks:=t'}:=by
 have nit:∀ b u,H b=some u->b≠it:=λb u e z=>by rw [z,hn] at e; cases e
 refine I.step (g':=s.gens) (d':=s.drawn) (ch:=[it]) (λb hb=>?_) (λb o _ _ hc e _=>k b o (λz=>hc (by simp [z])) e) (λb o _ _ hc e _=>⟨o.slots,k b o (λz=>hc (by simp [z])) e⟩) (λ_ _ _ _ n=>n)
  (λb o hc e=>⟨o,k b o (λz=>hc (by simp [z])) e⟩) (λ_ _ e=>e) (λ_ _ _ e=>e) (λb ps e=>⟨#[],by rw [e]; simp⟩) (λm hm=>?_) (λb u e=>?_) I.bare
 ·have e:b=it:=by simpa using hb
  subst e;exact⟨h1,hL,h2,h3⟩
 ·obtain⟨o,es,ep,ho,r⟩:=hm;exact⟨o,es,ep,k _ o (Ne.symm hL) ho,r⟩
 ·refine(I.hok b u e).stay (λc v hc q=>k c v ?_ q) (λ_ q=>q) λ_ _ q=>q
  rcases hc with z | z
  ·rw [z]; exact nit b u e
  ·exact nit c _ z
theorem av.tok (I:av X HA σ H s) (t:Nat):av X HA σ H {s with toks:=t}:=I.un (h':=s.heap) (t':=t) Un.refl I.hok
theorem av.kept {t':Nat} (I:av X HA σ H s) (k:∀ b u,s.heap.get? b=some u->h'.get? b=some u):av X HA σ H {s with heap:=h',toks:=t'}:=I.un (Un.kept k) (I.hok.kept k)
theorem av.laid {a:Hm} {o:HO} {t':Nat} (I:av X HA σ H s) (k:∀ b u,s.heap.get? b=some u->h'.get? b=some u) (hp:s.heap.objs.size<=a) (new:dg X.prog X.w (bt H a o) h' a o):
  av X HA σ (bt H a o) {s with heap:=h',toks:=t'}:=I.un (Un.laid k hp (I.hok.fresh hp)) (I.hok.laid k hp new)
theorem av.write {x e:Hm} {o:HO} {t':Nat} (I:av X HA σ H s) (mu:Ec (H x)) (he:e=x\/H e=some (.own x)) (k:∀ b u,b≠e->s.heap.get? b=some u->h'.get? b=some u) (heo:∃ u,h'.get? e=some u)
  (new:dg X.prog X.w (bt H x o) h' x o):av X HA σ (bt H x o) {s with heap:=h',toks:=t'}:=I.un (Un.write mu he k heo) (I.hok.write mu he k heo new)
theorem av.pins_of {pins':List (Hm×Hz)} (I:av X HA σ H s) (h:∀ p∈pins',s.heap.get? p.1=some p.2/\H p.1=none/\p.1≠X.env.locals/\p.1∉X.fs/\∀ v,p.2.data≠.cell v):av X pins' σ H s:=
 ⟨I.ok,I.os,I.bare,I.base,I.loc,I.cell,I.free,I.freeC,λp hp=>(List.mem_append.mp hp).elim (λz=>I.pin p (List.mem_append_left _ z)) (h p),I.hok,I.len⟩
theorem mI {N:List Str} (hN:N.Nodup) {i j:Nat} {x:Str} (a:N[i]?=some x) (b:N[j]?=some x):i=j:=by
 obtain⟨h1,e1⟩:=GW.mp a;obtain⟨h2,e2⟩:=GW.mp b;exact(List.getElem_inj hN).mp (e1.trans e2.symm)
theorem uV {M:Model} {A:Hr} {E:Hl->Hk->Prop} {i:Nat} {x:Str} {v:V} {u:Hl} {Q:Unit->Hk->Prop} (I:av X HA σ H s) (hN:X.N.Nodup) (hi:X.N[i]?=some x) (hx:xF X.env.scope x) (r:bh v u)
  (h:∀ s',av X HA (σ.set i (some v)) H s'->(∃ a,Heap.SameBut a s.heap s'.heap/\(a=X.env.locals\/X.env.cells.lookup x=some a))->Q () s') (hf:X.fn x=true\/X.env.scope.names.lookup x=some .local:=by first | exact .inl rfl | exact .inr rfl | assumption):wpAny M A (storeName X.env x u) Q E s:=by
 obtain⟨m,hn,hl⟩:=id I.loc;have hcls:(X.env.scope.kind == .class || (X.env.scope.kind == .module && X.env.locals != X.env.globals))=false:=by rw [I.ok.kind]; rfl
 have hiσ:i < σ.length:=by rw [I.len]; exact(GW.mp hi).1
 have cne:=I.cne;have tracked:∀ {a:Hm} {h':Hu},(∃ o,s.heap.get? a=some o/\H a=none)->Heap.SameBut a s.heap h'->kl X.prog X.w H h':=λ{a h'} ha hs b ob e=>by
  obtain⟨_,_,hfree⟩:=ha;refine(I.hok b ob e).stay (λc w' hc q=>(hs.2 c ?_).trans q) (λ_ q=>q) λ_ _ q=>q
  rintro rfl;rcases hc with rfl | hc
  ·rw [hfree] at e; cases e
  ·rw [hfree] at hc; cases hc
 rcases hx with hk | hk
 ·refine wpAny_storeName_local hk hn (λh' hn' hs=>?_) hcls
  obtain⟨oL,_,_,hoL,_⟩:=id hn;refine h _ ⟨I.ok,I.os,I.bare,⟨λb o e n hb hx=>?_,λb o e n hb hx=>?_,I.base.free,λb o e hx=>?_,I.base.tups,I.base.frzs,I.base.tbls⟩,⟨_,hn',λj y v' e1 e2 e3=>?_⟩,λy c e=>?_,I.free,I.freeC,λp hp=>?_,tracked ⟨oL,hoL,I.free⟩ hs,by simpa using I.len⟩ ⟨_,hs,.inl rfl⟩
  ·exact(hs.2 b (Gx (GA (Go e) I.ok.above))).trans (I.base.keep b o e n hb hx)
  ·obtain⟨sl,e1⟩:=I.base.slot b o e n hb hx;exact⟨sl,(hs.2 b (Gx (GA (Go e) I.ok.above))).trans e1⟩
  ·obtain⟨o',e1⟩:=I.base.there b o e hx;exact⟨o',(hs.2 b (Gx (GA (Go e) I.ok.above))).trans e1⟩
  ·by_cases hj:j=i
   ·subst hj;rw [hi] at e1; cases e1
    rw [List.getElem?_set_self hiσ] at e2;cases e2;exact⟨u,r,.inl ⟨hk,by simp⟩⟩
   ·rw [List.getElem?_set_ne (Ne.symm hj)] at e2;obtain⟨u',r',q⟩:=hl j y v' e1 e2 e3;refine⟨u',r',?_⟩;rcases q with ⟨k,e⟩ | ⟨k,c,e,z⟩
    ·refine .inl ⟨k,?_⟩;have:y≠x:=λe=>hj (mI hN e1 (e▸hi))
     simp [this,e]
    ·exact .inr ⟨k,c,e,z.sameBut hs (cne y c e)⟩
  ·obtain⟨w',z⟩:=I.cell y c e;exact⟨w',z.sameBut hs (cne y c e)⟩
  ·obtain⟨e,n,ne,nf,d⟩:=I.pin p hp;exact⟨(hs.2 p.1 ne).trans e,n,ne,nf,d⟩
 ·have hfn:X.fn x=true:=by
   rcases hf with z | z
   ·exact z
   ·rw [z] at hk; cases hk
  obtain⟨c,hc⟩:=I.ok.has x (.inl hk);obtain⟨w',z⟩:=I.cell x c hc;refine wpAny_storeName_cell I.ok.kind hk hc z (λh' hc' hs=>?_)
  obtain⟨oc,hoc,hocd⟩:=id z;refine h {s with heap:=h'} ⟨I.ok,I.os,I.bare,⟨λb o e n hb hx=>?_,λb o e n hb hx=>?_,I.base.free,λb o e hx=>?_,I.base.tups,I.base.frzs,I.base.tbls⟩,⟨m,hn.sameBut hs (Ne.symm (cne x c hc)),λj y v' e1 e2 e3=>?_⟩,λy c' e=>?_,I.free,I.freeC,λp hp=>?_,tracked ⟨oc,hoc,I.freeC x c hc⟩ hs,by simpa using I.len⟩ ⟨c,hs,.inr hc⟩
  ·exact(hs.2 b (Gx (GA (Go e) (I.ok.cab x c hfn hc)))).trans (I.base.keep b o e n hb hx)
  ·obtain⟨sl,e1⟩:=I.base.slot b o e n hb hx;exact⟨sl,(hs.2 b (Gx (GA (Go e) (I.ok.cab x c hfn hc)))).trans e1⟩
  ·obtain⟨o',e1⟩:=I.base.there b o e hx;exact⟨o',(hs.2 b (Gx (GA (Go e) (I.ok.cab x c hfn hc)))).trans e1⟩
  ·by_cases hj:j=i
   ·subst hj;rw [hi] at e1; cases e1
    rw [List.getElem?_set_self hiσ] at e2;cases e2;exact⟨u,r,.inr ⟨.inl hk,c,hc,hc'⟩⟩
   ·rw [List.getElem?_set_ne (Ne.symm hj)] at e2;obtain⟨u',r',q⟩:=hl j y v' e1 e2 e3;refine⟨u',r',?_⟩;rcases q with q | ⟨k,c',e,z'⟩
    ·exact .inl q
    ·refine .inr ⟨k,c',e,z'.sameBut hs ?_⟩;rintro rfl;exact hj (mI hN e1 (I.ok.inj _ _ _ e hc▸hi))
  ·by_cases hcc:c'=c
   ·subst hcc; exact⟨_,hc'⟩
   ·obtain⟨w2,z2⟩:=I.cell y c' e;exact⟨w2,z2.sameBut hs hcc⟩
  ·obtain⟨e,n,ne,nf,d⟩:=I.pin p hp;refine⟨(hs.2 p.1 ?_).trans e,n,ne,nf,d⟩;intro q;rw [q,hoc] at e;have q':oc=p.2:=GS e;exact d w' (by rw [<- q']; exact hocd)
theorem eG {M:Model} {A:Hr} {E:Hl->Hk->Prop} {i:Nat} {x:Str} {v:V} {u:Hl} {Q:Unit->Hk->Prop} (I:av X HA σ H s) (hN:X.N.Nodup) (hi:X.N[i]?=some x) (hx:xF X.env.scope x) (r:bh v u)
  (h:∀ s',av X HA (σ.set i (some v)) H s'->Q () s') (hf:X.fn x=true\/X.env.scope.names.lookup x=some .local:=by first | exact .inl rfl | exact .inr rfl | assumption):wpAny M A (storeName X.env x u) Q E s:=
 uV I hN hi hx r (λs' I' _=>h s' I') hf
theorem av.call' {s':Hk} {ch:List Hm} (I:av X HA σ H s) (ho:s'.os=s.os) (u:Un (fo X.stack) ch H H' s.heap s'.heap) (hok:kl X.prog X.w H' s'.heap) (hg:AllBare s'.gens)
  (hch:∀ b∈ch,(b∈X.ex\/X.s₀.heap.objs.size<=b)/\b≠X.env.locals/\(∀ x c,X.env.cells.lookup x=some c->c≠b)/\∀ p∈X.pn++HA,p.1≠b):av X HA σ H' s':=by
 obtain⟨h',g',d',t',o'⟩:=s';have e:o'=s.os:=ho;subst e;exact I.call (g':=g') (t':=t') (d':=d') u hok hg hch
end
abbrev XK:=Hl->Hn Hm->Hp->Prop
abbrev St:=List (Hn V)
abbrev VK:=V->Hp->Prop
abbrev TE:=St->Hp->VK->Prop
abbrev TT:=St->Hp->(Hx->Hp->Prop)->Prop
abbrev TA:=St->Hp->(List V->Hp->Prop)->Prop
structure me where
 nx:St->Hp->Prop
 rt:VK
 bk:St->Hp->Prop:=λ_ _=>False
 ct:St->Hp->Prop:=λ_ _=>False
abbrev TS:=me->St->Hp->Prop
def EP (X:Cx) (HA:List (Hm×Hz)) (σ:St) (Q:VK) (u:Hl) (s':Hk):Prop:=∃ v H',av X HA σ H' s'/\bh v u/\Q v H'
def TP (X:Cx) (HA:List (Hm×Hz)) (σ:St) (Q:Hx->Hp->Prop) (b:Hx) (s':Hk):Prop:=∃ H',av X HA σ H' s'/\Q b H'
def AP (X:Cx) (HA:List (Hm×Hz)) (σ:St) (Q:List V->Hp->Prop) (us:List Hl) (s':Hk):Prop:=∃ vs H',av X HA σ H' s'/\bb vs us/\Q vs H'
def SP (X:Cx) (HA:List (Hm×Hz)) (D:me) (f:Flow) (s':Hk):Prop:=
 match f with
 | .next=>∃ σ' H',av X HA σ' H' s'/\D.nx σ' H'
 | .brk=>∃ σ' H',av X HA σ' H' s'/\D.bk σ' H'
 | .cont=>∃ σ' H',av X HA σ' H' s'/\D.ct σ' H'
 | .ret u=>∃ v σ' H',av X HA σ' H' s'/\bh v u/\D.rt v H'
def PE (X:Cx) (e:Ho) (t:TE):Prop:=
 ∀ (HA:List (Hm×Hz)) (s:Hk) (σ:St) (H:Hp) (Q:VK),av X HA σ H s->t σ H Q->wpAny (model X.prog X.w) X.A (eval e X.env) (EP X HA σ Q) X.xe s
def PT (X:Cx) (e:Ho) (t:TT):Prop:=
 ∀ (HA:List (Hm×Hz)) (s:Hk) (σ:St) (H:Hp) (Q:Hx->Hp->Prop),av X HA σ H s->t σ H Q->wpAny (model X.prog X.w) X.A (isTrue e X.env (eval e X.env)) (TP X HA σ Q) X.xe s
def PW (X:Cx) (e:Ho) (t:TT):Prop:=
 ∀ (whole:Sem Hl) (HA:List (Hm×Hz)) (s:Hk) (σ:St) (H:Hp) (Q:Hx->Hp->Prop),av X HA σ H s->t σ H Q->wpAny (model X.prog X.w) X.A (isTrue e X.env whole) (TP X HA σ Q) X.xe s
theorem PW.pt {X:Cx} {e:Ho} {t:TT} (h:PW X e t):PT X e t:=h _
def PA (X:Cx) (es:List Ho) (t:TA):Prop:=
 ∀ (pos:Pos) (HA:List (Hm×Hz)) (s:Hk) (σ:St) (H:Hp) (Q:List V->Hp->Prop),av X HA σ H s->t σ H Q->wpAny (model X.prog X.w) X.A (spliced (backTo pos (starEach es X.env))) (AP X HA σ Q) X.xe s
def PS (X:Cx) (st:Hv) (t:TS):Prop:=
 ∀ (HA:List (Hm×Hz)) (s:Hk) (σ:St) (H:Hp) (D:me),av X HA σ H s->t D σ H->wpAny (model X.prog X.w) X.A (exec st X.env) (SP X HA D) X.xe s
def nJ (X:Cx) (st:List Hv) (t:TS):Prop:=
 ∀ (HA:List (Hm×Hz)) (s:Hk) (σ:St) (H:Hp) (D:me),av X HA σ H s->t D σ H->wpAny (model X.prog X.w) X.A (execs st X.env) (SP X HA D) X.xe s
theorem bB {α:Type} {t:Sem α} {Q Q':α->Hk->Prop} {M:Model} {A:Hr} {E:Hl->Hk->Prop} {s:Hk} (h:wpAny M A t Q E s) (hQ:∀ a s,Q a s->Q' a s):wpAny M A t Q' E s:=GX h hQ λ_ _ x=>x
section
variable {X:Cx}
def EL (i:Nat):TE:=fun σ H Q=>∃ v,σ[i]?=some (some v)/\Q v H
def tC (v:V):TE:=λ_ H Q=>Q v H
theorem BL {i:Nat} {x:Str} {pos:Pos} (hN:X.N[i]?=some x) (hv:qQ X.env.scope x) (hd:(x == ("__debug__":Str))=false:=by decide) (hcd:(x == ("__classdict__":Str))=false:=by decide):PE X (.Name x pos) (EL i):=by
 intro HA s σ H Q I h;obtain⟨v,e,h⟩:=h;obtain⟨m,hn,hl⟩:=I.loc;obtain⟨u,r,l⟩:=hl i x v hN e hv;have fin:EP X HA σ Q u s:=⟨v,H,I,r,h⟩;rcases l with ⟨hk,hm⟩ | ⟨hk,c,hc,hcell⟩
 ·exact wpAny_Name (wpAny_loadName_local I.ok.kind hk hn hm fin) hd
 ·rcases hk with hk | hk
  ·exact wpAny_Name (wpAny_loadName_cell I.ok.kind hk hc hcell fin) hd
  ·exact wpAny_Name (wpAny_loadName_free I.ok.kind hk hc hcell fin hcd) hd
theorem BM {i j pos}:PE X (.Constant (.int i) j pos) (tC (.int i)):=λ_ _ _ H _ I h=>wpAny_Constant_int ⟨.int i,H,I.tok _,⟨_,rfl⟩,h⟩
theorem CB {b j pos}:PE X (.Constant (.bool b) j pos) (tC (.bl b)):=λ_ _ _ H _ I h=>Constant_bool ⟨.bl b,H,I,rfl,h⟩
theorem A6 {j pos}:PE X (.Constant .none j pos) (tC .non):=λ_ _ _ H _ I h=>Constant_none ⟨.non,H,I,rfl,h⟩
theorem BR {x j pos}:PE X (.Constant (.str x) j pos) (tC (.str x)):=λ_ _ _ H _ I h=>Calls.Constant_str ⟨.str x,H,I.tok _,⟨_,rfl⟩,h⟩
def Gl (X:Cx) (x:Str):Prop:=X.env.kindOf x=some .globalImplicit
theorem ff {E:Hl->Hk->Prop} {HA:List (Hm×Hz)} {s:Hk} {σ:St} {H:Hp} {x:Str} {u:Hl} {pos:Pos} {Q:Hl->Hk->Prop} (I:av X HA σ H s) (hg:Gl X x) (hm:X.mg x=some u) (h:Q u s)
  (hd:(x == ("__debug__":Str))=false:=by decide):wpAny (model X.prog X.w) X.A (eval (.Name x pos) X.env) Q E s:=
 Calls.Name_function_global I.ok.kind hg (Calls.loadGlobal_global (by rw [I.ok.glob]; exact I.mod.glob.keeps I.bk) hm h) hd
theorem lC {E:Hl->Hk->Prop} {HA:List (Hm×Hz)} {s:Hk} {σ:St} {H:Hp} {x:Str} {u:Hl} {pos:Pos} {Q:Hl->Hk->Prop} (I:av X HA σ H s) (hg:Gl X x) (hm:X.mg x=none) (hv:bootBuiltins x=some u) (h:Q u s)
  (hn:x≠"__name__":=by decide) (hd:(x == ("__debug__":Str))=false:=by decide):wpAny (model X.prog X.w) X.A (eval (.Name x pos) X.env) Q E s:=by
 obtain⟨mb,h1,h2⟩:=I.mod.blt;exact Calls.Name_function_global I.ok.kind hg (Calls.loadGlobal_builtin (by rw [I.ok.glob]; exact I.mod.glob.keeps I.bk) hm (by rw [I.ok.blt]; exact h1.keeps I.bk) ((h2 x hn).trans hv) h) hd
theorem y_ {x:Str} {v:V} {u:Hl} {pos:Pos} (hg:Gl X x) (hm:X.mg x=some u) (r:bh v u) (hd:(x == ("__debug__":Str))=false:=by decide):PE X (.Name x pos) (tC v):=
 λ_ _ _ H _ I h=>ff I hg hm ⟨v,H,I,r,h⟩ hd
theorem zd {x:Str} {v:V} {u:Hl} {pos:Pos} (hg:Gl X x) (hm:X.mg x=none) (hv:bootBuiltins x=some u) (r:bh v u) (hn:x≠"__name__":=by decide) (hd:(x == ("__debug__":Str))=false:=by decide):PE X (.Name x pos) (tC v):=
 λ_ _ _ H _ I h=>lC I hg hm hv ⟨v,H,I,r,h⟩ hn hd
variable {a b:Ho} {ta tb:TE} {pos:Pos}
def tB (t:TE):TT:=fun σ H Q=>t σ H λx H1=>∃ c,x=.bl c/\Q c H1
theorem Bj {e:Ho} {t:TE} (h:PE X e t) (he:∀ whole,isTrue e X.env whole=(do let v <- whole; standAt e.pos; holding [v] (truthy v)):=by intro _; rfl):PT X e (tB t):=by
 intro HA s σ H Q I hw;refine isTrue_plain (bB (h HA s σ H _ I hw) λv s1 ⟨x,H1,I1,r1,q1⟩=>?_) (he _)
 obtain⟨d,rfl,q⟩:=q1;cases r1;exact wpAny_truthy_bool ⟨H1,I1,q⟩
variable {tA tB':TT} {gA:List Ho}
def EV (t u:TT):TT:=fun σ H Q=>t σ H λc H1=>if c=true then u σ H1 Q else Q false H1
def Gg (t u:TT):TT:=fun σ H Q=>t σ H λc H1=>if c=true then Q true H1 else u σ H1 Q
def Fq (t:TT):TT:=fun σ H Q=>t σ H λc H1=>Q (!c) H1
theorem zE (ha:PT X a tA):PW X (.BoolOp .And [a] pos) tA:=by
 intro wh HA s σ H Q I h;refine isTrue_and (bB (ha HA s σ H Q I h) λc s1 e=>?_)
 cases c with
 | true=>exact isTrue_and_nil e
 | false=>exact e
theorem AE (ha:PT X a tA):PW X (.BoolOp .Or [a] pos) tA:=by
 intro wh HA s σ H Q I h;refine isTrue_or (bB (ha HA s σ H Q I h) λc s1 e=>?_)
 cases c with
 | false=>exact isTrue_or_nil e
 | true=>exact e
theorem BY (ha:PT X a tA) (hb:PW X (.BoolOp .And (b::gA) pos) tB'):PW X (.BoolOp .And (a::b::gA) pos) (EV tA tB'):=by
 intro wh HA s σ H Q I h;refine isTrue_and (bB (ha HA s σ H _ I h) λc s1 z9=>?_)
 obtain⟨H1,I1,q1⟩:=z9;cases c with
 | true=>exact hb wh HA s1 σ H1 Q I1 q1
 | false=>exact⟨H1,I1,q1⟩
theorem D6 (ha:PT X a tA) (hb:PW X (.BoolOp .Or (b::gA) pos) tB'):PW X (.BoolOp .Or (a::b::gA) pos) (Gg tA tB'):=by
 intro wh HA s σ H Q I h;refine isTrue_or (bB (ha HA s σ H _ I h) λc s1 z9=>?_)
 obtain⟨H1,I1,q1⟩:=z9;cases c with
 | true=>exact⟨H1,I1,q1⟩
 | false=>exact hb wh HA s1 σ H1 Q I1 q1
theorem Bg (ha:PT X a tA):PT X (.UnaryOp .Not a pos) (Fq tA):=by
 intro HA s σ H Q I h;exact isTrue_not (ha HA s σ H (λc H1=>Q (!c) H1) I h)
def Cu (ta tb:TE):TE:=fun σ H Q=>ta σ H λx H1=>∃ c,x=.bl c/\if c=true then tb σ H1 Q else Q (.bl false) H1
theorem AN {op} {t:TE} (h:PE X a t):PE X (.BoolOp op [a] pos) t:=λHA s σ H Q I hw=>BoolOp_one (h HA s σ H Q I hw)
theorem AO (ha:PE X a ta) (hb:PE X (.BoolOp .And (b::gA) pos) tb):PE X (.BoolOp .And (a::b::gA) pos) (Cu ta tb):=by
 intro HA s σ H Q I h;refine BoolOp_and (bB (ha HA s σ H _ I h) λv s1 z9=>?_)
 obtain⟨x,H1,I1,r1,q1⟩:=z9;obtain⟨c,rfl,q1⟩:=q1;cases r1;refine wpAny_truthy_bool ?_;cases c with
 | true=>exact hb HA s1 σ H1 Q I1 q1
 | false=>exact⟨.bl false,H1,I1,rfl,q1⟩
def F_ (t:TT) (ta tb:TE):TE:=fun σ H Q=>t σ H λc H1=>if c=true then ta σ H1 Q else tb σ H1 Q
theorem xR {c:Ho} (hc:PT X c tA) (ha:PE X a ta) (hb:PE X b tb):PE X (.IfExp c a b pos) (F_ tA ta tb):=by
 intro HA s σ H Q I h;refine wpAny_IfExp (bB (hc HA s σ H _ I h) λd s1 z9=>?_)
 obtain⟨H1,I1,q1⟩:=z9;cases d with
 | true=>exact ha HA s1 σ H1 Q I1 q1
 | false=>exact hb HA s1 σ H1 Q I1 q1
end
def ir (K:PySem.W.Frag) (H:Hp) (a:Hm) (xs:List V):Prop:=
 Rd H a (.lst xs)\/
  ∃ (o:Hz) (its:Hw Hl) (n:Nat),K.lookup a=some o/\o.cls=.type "list"/\o.dict=none/\o.data=.seq its n/\its.size<=sizeLine/\bb xs its.toList
def jN (K:PySem.W.Frag) (H:Hp) (a:Hm) (xs:List V):Prop:=
 Rd H a (.tup xs)\/
  ∃ (o:Hz) (its:Hw Hl) (n:Nat),K.lookup a=some o/\o.cls=.type "tuple"/\o.data=.seq its n/\its.size<=sizeLine/\bb xs its.toList
def EW:Hl->Hn V
 | .none=>some .non
 | .bool b=>some (.bl b)
 | .int i _=>some (.int i)
 | .str x _=>some (.str x)
 | .bytes b _=>some (.byt b)
 | .float b _=>some (.flt b)
 | .ref a=>some (.ref a)
 | .type n=>some (.ty n)
 | _=>none
theorem bh.abs {x:V} {u:Hl} (r:bh x u):EW u=some x:=by
 cases x with
 | non=>cases r; rfl
 | bl _=>cases r; rfl
 | int _=>obtain⟨t,rfl⟩:=r; rfl
 | str _=>obtain⟨t,rfl⟩:=r; rfl
 | byt _=>obtain⟨t,rfl⟩:=r; rfl
 | flt _=>obtain⟨t,rfl⟩:=r; rfl
 | ref _=>cases r; rfl
 | ty _=>cases r; rfl
theorem bh.inj {x y:V} {u:Hl} (r:bh x u) (q:bh y u):x=y:=GS (r.abs.symm.trans q.abs)
theorem bb.inj:∀ {xs ys:List V} {us:List Hl},bb xs us->bb ys us->xs=ys
 | _,_,_,.nil,.nil=>rfl
 | _,_,_,.cons r t,.cons r' t'=>by rw [r.inj r',bb.inj t t']
section
variable {X:Cx} {HA:List (Hm×Hz)} {σ:St} {H:Hp} {s:Hk} {a:Hm} {xs ys:List V}
theorem ir.of {K:PySem.W.Frag} (h:H a=some (.lst xs)):ir K H a xs:=.inl (.inl h)
theorem jN.of {K:PySem.W.Frag} (h:H a=some (.tup xs)):jN K H a xs:=.inl (.inl h)
theorem av.list (I:av X HA σ H s) (h:ir X.K H a xs):∃ its:List Hl,bb xs its/\PlainL s.heap a its.toArray/\xs.length<=sizeLine:=by
 rcases h with h | ⟨o,its,n,hk,hc,hd,hs,hz,r⟩
 ·obtain⟨z,its,n,r,e⟩:=h.ok I.hok;exact⟨its,r,⟨_,n,e,rfl,rfl,rfl⟩,z⟩
 ·refine⟨its.toList,r,⟨o,n,I.kIn a o hk,hc,hd,by simpa using hs⟩,?_⟩
  have e:=r.length;simp only [Array.length_toList] at e;omega
theorem av.tuple (I:av X HA σ H s) (h:jN X.K H a xs):∃ its:List Hl,bb xs its/\IsTup s.heap a its.toArray/\xs.length<=sizeLine:=by
 rcases h with h | ⟨o,its,n,hk,hc,hs,hz,r⟩
 ·obtain⟨z,its,r,p⟩:=h.ok I.hok;exact⟨its,r,p,z⟩
 ·refine⟨its.toList,r,⟨o,I.kIn a o hk,hc,n,by simpa using hs⟩,?_⟩
  have e:=r.length;simp only [Array.length_toList] at e;omega
theorem av.list_inj (I:av X HA σ H s) (h:ir X.K H a xs) (h':ir X.K H a ys):xs=ys:=by
 obtain⟨its,r,⟨o,n,e,_,_,d⟩,_⟩:=I.list h;obtain⟨its',r',⟨o',n',e',_,_,d'⟩,_⟩:=I.list h';rw [e] at e'; cases e'
 rw [d] at d';injection d' with d1 _
 have:its=its':=by simpa using congrArg Array.toList d1
 subst this;exact r.inj r'
theorem av.tuple_inj (I:av X HA σ H s) (h:jN X.K H a xs) (h':jN X.K H a ys):xs=ys:=by
 obtain⟨its,r,⟨o,e,_,n,d⟩,_⟩:=I.tuple h;obtain⟨its',r',⟨o',e',_,n',d'⟩,_⟩:=I.tuple h';rw [e] at e'; cases e'
 rw [d] at d';injection d' with d1 _
 have:its=its':=by simpa using congrArg Array.toList d1
 subst this;exact r.inj r'
end
abbrev Cx.wish (X:Cx) (E:Hl->Hk->Prop):Cx:={X with xe:=E}
abbrev Cx.nox (X:Cx):Cx:=X.wish λ_ _=>False
theorem Cx.Ok.wish {X:Cx} (ok:X.Ok) (E:Hl->Hk->Prop):(X.wish E).Ok:=
 ⟨ok.mod,ok.kind,ok.glob,ok.blt,ok.above,ok.inj,ok.has,ok.cab,ok.hd,ok.frames,ok.stk,ok.exf,ok.bs,ok.bsz,ok.noex,ok.exfs,ok.funs,ok.frf⟩
theorem Cx.Ok.unwish {X:Cx} {E:Hl->Hk->Prop} (ok:(X.wish E).Ok):X.Ok:=
 ⟨ok.mod,ok.kind,ok.glob,ok.blt,ok.above,ok.inj,ok.has,ok.cab,ok.hd,ok.frames,ok.stk,ok.exf,ok.bs,ok.bsz,ok.noex,ok.exfs,ok.funs,ok.frf⟩
section
variable {X:Cx} {HA:List (Hm×Hz)} {σ:St} {H:Hp} {s:Hk} {E:Hl->Hk->Prop}
theorem av.wish (I:av X HA σ H s) (E:Hl->Hk->Prop):av (X.wish E) HA σ H s:=⟨I.ok.wish E,I.os,I.bare,I.base,I.loc,I.cell,I.free,I.freeC,I.pin,I.hok,I.len⟩
theorem av.unwish (I:av (X.wish E) HA σ H s):av X HA σ H s:=⟨I.ok.unwish,I.os,I.bare,I.base,I.loc,I.cell,I.free,I.freeC,I.pin,I.hok,I.len⟩
theorem SP.unwish {D:me} {f:Flow} {s':Hk} (h:SP (X.wish E) HA D f s'):SP X HA D f s':=by
 cases f with
 | next=>obtain⟨σ',H',I,q⟩:=h; exact⟨σ',H',I.unwish,q⟩
 | brk=>obtain⟨σ',H',I,q⟩:=h; exact⟨σ',H',I.unwish,q⟩
 | cont=>obtain⟨σ',H',I,q⟩:=h; exact⟨σ',H',I.unwish,q⟩
 | ret u=>obtain⟨v,σ',H',I,r,q⟩:=h; exact⟨v,σ',H',I.unwish,r,q⟩
theorem nJ.nox {st:List Hv} {t:TS} (h:nJ X.nox st t):nJ X st t:=λHA s σ H D I hw=>
 GX (h HA s σ H D (I.wish _) hw) (λ_ _ q=>q.unwish) λ_ _ z=>False.elim z
end
section
variable {X:Cx} {st:Hv} {gA:List Hv} {t u:TS} {e:Ho} {te:TE} {pos:Pos}
def DN:TS:=λD σ H=>D.nx σ H
def D7 (t u:TS):TS:=λD σ H=>t {D with nx:=u D} σ H
theorem yt:nJ X [] DN:=λ_ _ σ H _ I h=>wpAny_execs_nil ⟨σ,H,I,h⟩
theorem vD (h1:PS X st t) (h2:nJ X gA u):nJ X (st::gA) (D7 t u):=by
 intro HA s σ H D I h;refine wpAny_execs_cons (bB (h1 HA s σ H {D with nx:=u D} I h) λf s1 q=>?_)
 cases f with
 | next=>
  obtain⟨σ',H',I',q⟩:=q;exact h2 HA s1 σ' H' D I' q
 | ret v=>exact q
 | brk=>exact q
 | cont=>exact q
theorem yT (h1:PS X st t):nJ X [st] t:=by
 intro HA s σ H D I h;refine wpAny_execs_cons (bB (h1 HA s σ H D I h) λf s1 q=>?_)
 cases f with
 | next=>exact wpAny_execs_nil q
 | ret v=>exact q
 | brk=>exact q
 | cont=>exact q
theorem av.quiet {HA:List (Hm×Hz)} {σ:St} {H:Hp} {s:Hk} (I:av X HA σ H s):interactive X.env=false:=by simp [interactive,I.ok.kind]
def Cw (te:TE):TS:=λD σ H=>te σ H λ_ H1=>D.nx σ H1
theorem yH (he:PE X e te) (hs:swapsWith e none pos.line X.env=pure false:=by rfl):PS X (.Expr e pos) (Cw te):=by
 intro HA s σ H D I h;exact wpAny_Expr_any (bB (he HA s σ H _ I h) λv s1 z9=>by obtain⟨x,H1,I1,r1,q1⟩:=z9; exact⟨σ,H1,I1,q1⟩) I.quiet hs
def Fu (te:TE):TS:=λD σ H=>te σ H D.rt
theorem Cb (he:PE X e te):PS X (.Return (some e) pos) (Fu te):=by
 intro HA s σ H D I h;exact wpAny_Return_some (bB (he HA s σ H _ I h) λv s1 z9=>by obtain⟨x,H1,I1,r1,q1⟩:=z9; exact⟨x,σ,H1,I1,r1,q1⟩)
def EA (c:TT) (t u:TS):TS:=λD σ H=>c σ H λb H1=>if b=true then t D σ H1 else u D σ H1
theorem Dx {c:Ho} {a b:List Hv} {tc:TT} (hc:PT X c tc) (ha:nJ X a t) (hb:nJ X b u):PS X (.If c a b pos) (EA tc t u):=by
 intro HA s σ H D I h;refine wpAny_If (bB (hc HA s σ H _ I h) λd s1 z9=>?_)
 obtain⟨H1,I1,q1⟩:=z9;cases d with
 | true=>exact ha HA s1 σ H1 D I1 q1
 | false=>exact hb HA s1 σ H1 D I1 q1
def Bl:TS:=λ_ _ _=>False
theorem x_:PS X st Bl:=λ_ _ _ _ _ _ h=>h.elim
end
abbrev TG:=V->St->Hp->(St->Hp->Prop)->Prop
abbrev vt:=List V->St->Hp->(St->Hp->Prop)->Prop
def PG (X:Cx) (target:Ho) (t:TG):Prop:=
 ∀ (HA:List (Hm×Hz)) (s:Hk) (σ:St) (H:Hp) (v:V) (u:Hl) (Q:St->Hp->Prop),av X HA σ H s->bh v u->t v σ H Q->
  wpAny (model X.prog X.w) X.A (assign target X.env u) (λ_ s'=>∃ σ' H',av X HA σ' H' s'/\Q σ' H') X.xe s
def w9 (X:Cx) (ts:List Ho) (t:vt):Prop:=
 ∀ (HA:List (Hm×Hz)) (s:Hk) (σ:St) (H:Hp) (vs:List V) (us:List Hl) (Q:St->Hp->Prop),av X HA σ H s->bb vs us->t vs σ H Q->
  wpAny (model X.prog X.w) X.A (assignInOrder ((assignEach ts X.env).map (·.2)) us) (λ_ s'=>∃ σ' H',av X HA σ' H' s'/\Q σ' H') X.xe s
abbrev BS:=V->V->V->Hp->(Hp->Prop)->Prop
def DU (X:Cx) (t:BS):Prop:=
 ∀ (HA:List (Hm×Hz)) (s:Hk) (σ:St) (H:Hp) (o i v:V) (ov iv u:Hl) (Q:Hp->Prop),av X HA σ H s->bh o ov->bh i iv->bh v u->t o i v H Q->
  wpAny (model X.prog X.w) X.A (setItem ov iv u) (λ_ s'=>∃ H',av X HA σ H' s'/\Q H') X.xe s
section
variable {X:Cx} {pos:Pos}
def lQ (i:Nat):TG:=λv σ H Q=>Q (σ.set i (some v)) H
theorem po {i:Nat} {x:Str} (hN:X.N.Nodup) (hi:X.N[i]?=some x) (hx:xF X.env.scope x) (hf:X.fn x=true\/X.env.scope.names.lookup x=some .local:=by first | exact .inl rfl | exact .inr rfl | assumption):PG X (.Name x pos) (lQ i):=by
 intro HA s σ H v u Q I r h;exact wpAny_assign_Name (eG I hN hi hx r (λs' I'=>⟨_,H,I',h⟩) hf)
def Ft:vt:=λvs σ H Q=>vs=[]/\Q σ H
def D3 (t:TG) (u:vt):vt:=λvs σ H Q=>∃ v r,vs=v::r/\t v σ H fun σ' H'=>u r σ' H' Q
theorem yZ:w9 X [] Ft:=by
 intro HA s σ H vs us Q I r h;obtain⟨e,h⟩:=h;subst e;cases r;exact assignInOrder_nil ⟨σ,H,I,h⟩
theorem wc {e:Ho} {es:List Ho} {t:TG} {u:vt} (h1:PG X e t) (h2:w9 X es u)
  (hs:(assignEach (e::es) X.env).map (·.2)=assign e X.env::(assignEach es X.env).map (·.2):=by rfl):w9 X (e::es) (D3 t u):=by
 intro HA s σ H vs us Q I r h;obtain⟨v,vr,e1,h⟩:=h;subst e1;cases r with
 | cons r rr=>
  rw [hs];refine assignInOrder_cons (bB (h1 HA s σ H _ _ _ I r h) λ_ s1 z9=>?_)
  obtain⟨σ1,H1,I1,q1⟩:=z9;exact h2 HA s1 σ1 H1 _ _ Q I1 rr q1
def EB (K:PySem.W.Frag) (n:Nat) (t:vt):TG:=λv σ H Q=>∃ a xs,v=.ref a/\jN K H a xs/\xs.length=n/\t xs σ H Q
theorem BK {es:List Ho} {k:Nat} {t:vt} {n:Nat} (hc:X.calm=true) (h:w9 X es t)
  (hn:(assignEach es X.env).length=n:=by rfl) (hst:(assignEach es X.env).findIdx? (·.1)=none:=by rfl):PG X (.Tuple es k pos) (EB X.K n t):=by
 intro HA s σ H v u Q I r hw;obtain⟨a,xs,e1,hq,hl,hw⟩:=hw;subst e1;cases r;obtain⟨its,rv,ht,hz⟩:=I.tuple hq;refine assign_Tuple_tuple (I.ok.hd hc) ht (by simp [hn,<- hl,rv.length]) hst λh' hx=>?_
 have I1:av X HA σ H {s with heap:=h'}:=I.kept (t':=s.toks) λb o e=>hx b o (Gx (Go e)) e
 exact h HA _ σ H xs _ Q I1 (by simpa using rv) hw
def EE (to ti:TE) (t:BS):TG:=λv σ H Q=>to σ H λo H1=>ti σ H1 λi H2=>t o i v H2 λH3=>Q σ H3
theorem AB {o i:Ho} {to ti:TE} {t:BS} (ho:PE X o to) (hi:PE X i ti) (hs:DU X t)
  (ha:∀ v,assign (.Subscript o i pos) X.env v=(do
   let ov <- holding [v] (eval o X.env)
   let iv <- holding [v,ov] (eval i X.env)
   standAt pos
   holding [v,ov,iv] (setItem ov iv v)
   release [v,ov,iv] []):=by intro _; rfl):PG X (.Subscript o i pos) (EE to ti t):=by
 intro HA s σ H v u Q I r h;rw [ha];refine pp (GM (bB (ho HA s σ H _ I h) λov s1 z9=>?_))
 obtain⟨x,H1,I1,r1,q1⟩:=z9;refine pp (GM (bB (hi HA s1 σ H1 _ I1 q1) λiv s2 z9=>?_))
 obtain⟨y,H2,I2,r2,q2⟩:=z9;refine pp (wpAny_standAt (pp (GM (bB (hs HA s2 σ H2 x y v ov iv u _ I2 r1 r2 r q2) λ_ s3 z9=>?_))))
 obtain⟨H3,I3,q3⟩:=z9;exact wpAny_release ⟨σ,H3,I3,q3⟩
def vC (te:TE) (g:TG):TS:=λD σ H=>te σ H λx H1=>g x σ H1 D.nx
theorem As {tg e:Ho} {te:TE} {g:TG} (he:PE X e te) (hg:PG X tg g) (hs:swapsWithSole [tg] e pos.line X.env=pure false:=by rfl) (hw:swappedStores [tg] e X.env=pure none:=by rfl)
  (h1:(assignEach [tg] X.env).map (·.2)=[assign tg X.env]:=by rfl):PS X (.Assign [tg] e pos) (vC te g):=by
 intro HA s σ H D I h;refine wpAny_Assign_stores (bB (he HA s σ H _ I h) λv s1 ⟨x,H1,I1,r1,q1⟩=>?_) hs hw
 rw [h1];exact bB (hg HA s1 σ H1 x v _ I1 r1 q1) λ_ s2 q=>q
theorem By {i:Nat} {x:Str} {e:Ho} {te:TE} {pos':Pos} (hN:X.N.Nodup) (hi:X.N[i]?=some x) (hx:xF X.env.scope x) (he:PE X e te) (hs:swapsWith e (some (.Name x pos')) pos.line X.env=pure false:=by rfl) (hf:X.fn x=true\/X.env.scope.names.lookup x=some .local:=by first | exact .inl rfl | exact .inr rfl | assumption):
  PS X (.Assign [.Name x pos'] e pos) (vC te (lQ i)):=by
 intro HA s σ H D I h;refine wpAny_Assign_Name (bB (he HA s σ H _ I h) λv s1 ⟨y,H1,I1,r1,q1⟩=>?_) hs
 exact eG I1 hN hi hx r1 (λs2 I2=>⟨_,H1,I2,q1⟩) hf
def E6 (i j:Nat) (ta:TA):TS:=λD σ H=>ta σ H λvs H1=>∃ v w,vs=[v,w]/\D.nx ((σ.set i (some v)).set j (some w)) H1
theorem A0 {i j:Nat} {x y:Str} {a b:Ho} {ta:TA} {px py pt:Pos} {kt k2 pt2} (hc:X.calm=true) (hN:X.N.Nodup) (hi:X.N[i]?=some x) (hj:X.N[j]?=some y) (hij:i≠j)
  (hx:X.env.scope.names.lookup x=some .local) (hy:X.env.scope.names.lookup y=some .local) (ha:PA X [a,b] ta)
  (hw:swappedStores [.Tuple [.Name x px,.Name y py] kt pt] (.Tuple [a,b] k2 pt2) X.env=pure (some [x,y]))
  (hs:swapsWithSole [.Tuple [.Name x px,.Name y py] kt pt] (.Tuple [a,b] k2 pt2) pos.line X.env=pure false:=by rfl):
  PS X (.Assign [.Tuple [.Name x px,.Name y py] kt pt] (.Tuple [a,b] k2 pt2) pos) (E6 i j ta):=by
 intro HA s σ H D I h;rw [exec_Assign_arm];refine pp (wpAny_standAt ?_);rw [hs];refine pp (Gj ?_);rw [if_neg (by decide)]
 refine pp (Tuple_ (bB (ha _ HA s σ H _ I h) λus s1 z9=>?_))
 obtain⟨vs,H1,I1,r1,q1⟩:=z9;obtain⟨v,w,e1,q1⟩:=q1;subst e1;obtain⟨u1,u2,rfl,rv,rw'⟩:∃ u1 u2,us=[u1,u2]/\bh v u1/\bh w u2:=by
  cases r1 with
  | cons p q=>
   cases q with
   | cons p' q'=>
    cases q';exact⟨_,_,rfl,p,p'⟩
 refine GO ?_ (by show 2<=sizeLine; decide)
 have I2:av X HA σ H1 {s1 with heap:=s1.heap.push {cls:=.type "tuple",data:=.seq [u1,u2].toArray}}:=I1.kept (t':=s1.toks) λb o e=>Gi _ e
 rw [hw];refine pp (Gj ?_)
 show wpAny (model X.prog X.w) X.A (do rule "assign.swapped-stores"; let items <- unpackItems (.ref s1.heap.objs.size) 2 none; assignInOrder [λv=>bindName X.env y v,λv=>bindName X.env x v] items.reverse; pure Flow.next) _ _ _
 refine pp (wpAny_rule (pp (unpackItems_tuple (items:=#[u1,u2]) (I.ok.hd hc) (IsTup.new s1.heap _) λh' hx'=>?_)))
 have I3:=I2.kept (h':=h') (t':=s1.toks) λb o e=>hx' b o (Gx (Go e)) e
 show wpAny _ _ (assignInOrder [λv=>bindName X.env y v,λv=>bindName X.env x v] [u2,u1] >>= λ_=>pure Flow.next) _ _ _
 refine pp (assignInOrder_cons (wpAny_bindName (eG I3 hN hj (.inl hy) rw' (λs2 I4=>?_) (.inr hy))))
 refine assignInOrder_cons (wpAny_bindName (eG I4 hN hi (.inl hx) rv (λs3 I5=>assignInOrder_nil (Gj ?_)) (.inr hx)))
 rw [List.set_comm _ _ (Ne.symm hij)] at I5;exact⟨_,H1,I5,q1⟩
def Cf (c:TT) (tb:TS):TS:=λD σ H=>∃ W:Nat->St->Hp->Prop,(∃ m,W m σ H)/\∀ m σ H,W m σ H->
 c σ H λb H1=>if b=true then ∃ N:St->Hp->Prop,(∀ σ' H',N σ' H'->∃ m',m' < m/\W m' σ' H')/\tb {D with nx:=N,ct:=N,bk:=D.nx} σ H1 else D.nx σ H1
theorem vQ {c:Ho} {body:List Hv} {tc:TT} {tb:TS} (hp:PassesOwn (model X.prog X.w) X.A X.env X.xe) (hc:PT X c tc) (hb:nJ X body tb):PS X (.While c body [] pos) (Cf tc tb):=by
 intro HA s σ H D I h;obtain⟨W,⟨m0,w0⟩,turn⟩:=h;refine wpAny_While (codeAny_whileLoop (λn s'=>∃ σ' H',av X HA σ' H' s'/\W n σ' H') ?_ m0 ⟨σ,H,I,w0⟩)
 rintro n s1 ⟨σ1,H1,I1,w1⟩;refine wpAny_passesOwn hp (bB (hc HA s1 σ1 H1 _ I1 (turn n σ1 H1 w1)) λb s2 z9=>?_)
 obtain⟨H2,I2,q2⟩:=z9;cases b with
 | true=>
  obtain⟨N,hN,q2⟩:=q2;rw [if_pos rfl];refine wpAny_passesOwn hp (bB (hb HA s2 σ1 H2 _ I2 q2) λf s3 q3=>?_)
  cases f with
  | next=>
   obtain⟨σ3,H3,I3,n3⟩:=q3;obtain⟨m',hm,w3⟩:=hN σ3 H3 n3;exact⟨m',hm,σ3,H3,I3,w3⟩
  | cont=>
   obtain⟨σ3,H3,I3,n3⟩:=q3;obtain⟨m',hm,w3⟩:=hN σ3 H3 n3;exact⟨m',hm,σ3,H3,I3,w3⟩
  | brk=>exact q3
  | ret v=>exact q3
 | false=>
  rw [if_neg Gs];exact wpAny_execs_nil ⟨σ1,H2,I2,q2⟩
end
structure It where
 go:Nat->Hp->Prop
 yld:Nat->Hp->V->Hp->Prop
 stop:Nat->Hp->Prop
def mh (X:Cx) (HA:List (Hm×Hz)) (H:Hp) (b:Hm):Prop:=
 H b=none/\b≠X.env.locals/\b∉X.fs/\(b∈X.ex\/X.s₀.heap.objs.size<=b)/\(∀ x c,X.env.cells.lookup x=some c->c≠b)/\∀ p∈X.pn++HA,p.1≠b
theorem av.fpOk {X:Cx} {HA:List (Hm×Hz)} {σ:St} {H H':Hp} {s:Hk} {b:Hm} (I:av X HA σ H s) (hb:s.heap.objs.size<=b) (hn:H' b=none):mh X HA H' b:=by
 refine⟨hn,Nat.ne_of_gt (GA I.lt hb),I.nofs hb,.inr (GZ I.sz hb),λx c e z=>?_,λp hp z=>?_⟩
 ·obtain⟨v,q⟩:=I.cell x c e;exact absurd (GA q.lt (by rw [z]; exact hb)) (Hb _)
 ·exact absurd (GA (Go (I.pin p hp).1) (by rw [z]; exact hb)) (Hb _)
structure uN (P:Hq) (w:Ht) (K:PySem.W.Frag) (tg:Ho) (J:It) (fp:List Hm) (it:Hm) (tn:Nat->Hu->Prop):Prop where
 mem:it∈fp
 obj:∀ i h,tn i h->∀ b∈fp,∃ o,h.get? b=some o/\∀ v,o.data≠.cell v
 keep:∀ i h h',tn i h->(∀ b∈fp,∀ o,h.get? b=some o->h'.get? b=some o)->tn i h'
 item:∀ (X:Cx),X.prog=P->X.w=w->X.K=K->X.calm=true->∀ (i:Nat) (HA:List (Hm×Hz)) (s:Hk) (σ:St) (H:Hp) (E:Hl->Hk->Prop),av X HA σ H s->(∀ b∈fp,mh X HA H b)->tn i s.heap->J.go i H->
  wpAny (model P w) X.A (pyNext (.ref it)) (λr s1=>∃ u,r=some u/\
   wpAny (model P w) X.A (letOwnedTupleGo tg (.ref it) u) (λ_ s2=>∃ x H',av X HA σ H' s2/\bh x u/\J.yld i H x H'/\tn (i+1) s2.heap/\∀ b∈fp,H' b=none) E s1) E s
 done:∀ (X:Cx),X.prog=P->X.w=w->X.K=K->X.calm=true->∀ (i:Nat) (HA:List (Hm×Hz)) (s:Hk) (σ:St) (H:Hp) (E:Hl->Hk->Prop),av X HA σ H s->(∀ b∈fp,mh X HA H b)->tn i s.heap->J.stop i H->
  wpAny (model P w) X.A (pyNext (.ref it)) (λr s1=>r=none/\av X HA σ H s1) E s
 self:∀ (A:Hr) (i:Nat) (s:Hk) (Q:Hl->Hk->Prop) (E:Hl->Hk->Prop),tn i s.heap->Q (.ref it) s->wpAny (model P w) A (pyIter (.ref it)) Q E s
abbrev TI:=St->Hp->(It->Hp->Prop)->Prop
def FH (X:Cx) (HA:List (Hm×Hz)) (σ:St) (tg:Ho) (R:It->Hp->Prop) (itv:Hl) (s2:Hk):Prop:=
 ∃ (it:Hm) (fp:List Hm) (tn:Nat->Hu->Prop) (J:It) (H':Hp),itv=.ref it/\av X HA σ H' s2/\uN X.prog X.w X.K tg J fp it tn/\tn 0 s2.heap/\(∀ b∈fp,mh X HA H' b)/\R J H'
def PI (X:Cx) (tg iter:Ho) (wi:TI):Prop:=
 ∀ (HA:List (Hm×Hz)) (s:Hk) (σ:St) (H:Hp) (R:It->Hp->Prop),av X HA σ H s->wi σ H R->
  wpAny (model X.prog X.w) X.A (eval iter X.env) (λv s1=>wpAny (model X.prog X.w) X.A (pyIter v) (FH X HA σ tg R) X.xe s1) X.xe s
theorem vR {M:Model} {A:Hr} {E:Hl->Hk->Prop} {s:Hk} {tg:Ho} {it:Hm} {u:Hl} {o:Hz} {n:Hy} {vs:Hw Hl} {Q:Unit->Hk->Prop} (ho:s.heap.get? it=some o) (hc:o.cls=.type n) (hd:o.data=.fields vs)
  (hn:["enumerate","zip","dict_itemiterator","dict_reverseitemiterator","odict_iterator","itertools.zip_longest","itertools.pairwise"].contains n=false) (hQ:Q () s):wpAny M A (letOwnedTupleGo tg (.ref it) u) Q E s:=by
 unfold letOwnedTupleGo;cases tg <;> first
  | exact Gj hQ
  | (cases u <;> first
    | exact Gj hQ
    | (refine pp (wpAny_load ho ?_)
       rw [hc,hd]
       show wpAny M A (if (["enumerate","zip","dict_itemiterator","dict_reverseitemiterator","odict_iterator","itertools.zip_longest","itertools.pairwise"].contains n && vs[0]? == some (rawInt _))=true then _ else _) Q E s
       rw [if_neg (by intro h; rw [hn,Bool.false_and] at h; cases h)]
       exact Gj hQ))
def DM (K:PySem.W.Frag) (a:Hm):It:=
 ⟨λi H=>∃ xs x,ir K H a xs/\xs[i]?=some x,λi H x H'=>H'=H/\∀ xs,ir K H a xs->xs[i]?=some x,λi H=>∃ xs,ir K H a xs/\xs.length<=i⟩
def CG (K:PySem.W.Frag) (a:Hm):It:=
 ⟨λi H=>∃ xs x,jN K H a xs/\xs[i]?=some x,λi H x H'=>H'=H/\∀ xs,jN K H a xs->xs[i]?=some x,λi H=>∃ xs,jN K H a xs/\xs.length<=i⟩
def Ds (lo:Int) (n:Nat):It:=⟨λi _=>i < n,λi H x H'=>H'=H/\x=.int (lo+i),λi _=>n<=i⟩
theorem vg {P:Hq} {w:Ht} {K:PySem.W.Frag} {tg:Ho} (a it:Hm):uN P w K tg (DM K a) [it] it (λi h=>h.IsListIter it a i) where
 mem:=by simp
 obj:=λi h st b hb=>by
  have e:b=it:=by simpa using hb
  subst e;obtain⟨o,e,c,d⟩:=st;exact⟨o,e,λv z=>by rw [d] at z; cases z⟩
 keep:=λi h h' st k=>st.at λo e=>k it (by simp) o e
 item:=by
  intro X hP hw hK hc i HA s σ H E I hf st hg;subst hP hw hK;obtain⟨xs,x,hq,hx⟩:=hg;obtain⟨its,rv,p,hz⟩:=I.list hq;obtain⟨u,hu,ru⟩:=rv.get hx;obtain⟨f0,f1,f2,f3,f4,f5⟩:=hf it (by simp)
  refine wpAny_pyNext_list_item st p.isList (x:=u) (by simpa using hu) λh' st' sb=>?_
  have I1:av X HA σ H {s with heap:=h'}:=I.turned (t':=s.toks) (λb o hb e=>(sb.2 b hb).trans e) f0 f1 f3 f4 f5
  obtain⟨o,e,c,d⟩:=id st';exact⟨u,rfl,vR (s:={s with heap:=h'}) e c d (by decide) ⟨x,H,I1,ru,⟨rfl,λys hy=>by rw [I.list_inj hy hq]; exact hx⟩,st',λb hb=>(hf b hb).1⟩⟩
 done:=by
  intro X hP hw hK hc i HA s σ H E I hf st hg;subst hP hw hK;obtain⟨xs,hq,hx⟩:=hg;obtain⟨its,rv,p,hz⟩:=I.list hq;obtain⟨f0,f1,f2,f3,f4,f5⟩:=hf it (by simp)
  have hl:=rv.length;exact wpAny_pyNext_list_end (I.ok.hd hc) st p.isList (by simp; omega) λh' eb=>⟨rfl,I.turned (t':=s.toks) (λb o hb e=>eb b o hb e) f0 f1 f3 f4 f5⟩
 self:=λ_ _ _ _ _ st h=>wpAny_pyIter_listiter st h
theorem sK {P:Hq} {w:Ht} {K:PySem.W.Frag} {tg:Ho} (a it:Hm):uN P w K tg (CG K a) [it] it (λi h=>h.IsTupleIter it a i) where
 mem:=by simp
 obj:=λi h st b hb=>by
  have e:b=it:=by simpa using hb
  subst e;obtain⟨o,e,c,d⟩:=st;exact⟨o,e,λv z=>by rw [d] at z; cases z⟩
 keep:=λi h h' st k=>st.at λo e=>k it (by simp) o e
 item:=by
  intro X hP hw hK hc i HA s σ H E I hf st hg;subst hP hw hK;obtain⟨xs,x,hq,hx⟩:=hg;obtain⟨its,rv,p,hz⟩:=I.tuple hq;obtain⟨u,hu,ru⟩:=rv.get hx;obtain⟨f0,f1,f2,f3,f4,f5⟩:=hf it (by simp)
  refine wpAny_pyNext_tuple_item st (show s.heap.IsTuple a its.toArray from p) (x:=u) (by simpa using hu) λh' st' sb=>?_
  have I1:av X HA σ H {s with heap:=h'}:=I.turned (t':=s.toks) (λb o hb e=>(sb.2 b hb).trans e) f0 f1 f3 f4 f5
  obtain⟨o,e,c,d⟩:=id st';exact⟨u,rfl,vR (s:={s with heap:=h'}) e c d (by decide) ⟨x,H,I1,ru,⟨rfl,λys hy=>by rw [I.tuple_inj hy hq]; exact hx⟩,st',λb hb=>(hf b hb).1⟩⟩
 done:=by
  intro X hP hw hK hc i HA s σ H E I hf st hg;subst hP hw hK;obtain⟨xs,hq,hx⟩:=hg;obtain⟨its,rv,p,hz⟩:=I.tuple hq;obtain⟨f0,f1,f2,f3,f4,f5⟩:=hf it (by simp)
  have hl:=rv.length;exact wpAny_pyNext_tuple_end (I.ok.hd hc) st (show s.heap.IsTuple a its.toArray from p) (by simp; omega) λh' eb=>⟨rfl,I.turned (t':=s.toks) (λb o hb e=>eb b o hb e) f0 f1 f3 f4 f5⟩
 self:=λ_ _ _ _ _ st h=>wpAny_pyIter_tupleiter st h
theorem sI {P:Hq} {w:Ht} {K:PySem.W.Frag} {tg:Ho} (it:Hm) (lo:Int) (n:Nat):uN P w K tg (Ds lo n) [it] it (λi h=>IsRangeIter h it (lo+(i:Nat)*1) ((n:Int) - (i:Nat)) 1) where
 mem:=by simp
 obj:=λi h st b hb=>by
  have e:b=it:=by simpa using hb
  subst e;exact⟨_,st,λv z=>by
   have z':Data.fields _=Data.cell v:=z;cases z'⟩
 keep:=λi h h' st k=>k it (by simp) _ st
 item:=by
  intro X hP hw hK hc i HA s σ H E I hf st hg;subst hP hw hK;obtain⟨f0,f1,f2,f3,f4,f5⟩:=hf it (by simp)
  have W:=Walks.range (prog:=X.prog) (w:=X.w) (I.ok.hd hc) it lo 1 n;refine W.item i s _ _ hg st λv h' tk hv st' kk=>?_
  obtain⟨t,rfl⟩:=hv;have I1:av X HA σ H {s with heap:=h',toks:=tk}:=I.turned (λb o hb e=>kk b o (by simpa using hb) e) f0 f1 f3 f4 f5
  refine⟨_,rfl,vR (s:={s with heap:=h',toks:=tk}) (n:="range_iterator") st' rfl rfl (by decide) ⟨.int (lo+i),H,I1,⟨t,?_⟩,⟨rfl,rfl⟩,st',λb hb=>(hf b hb).1⟩⟩
  rw [Int.mul_one]
 done:=by
  intro X hP hw hK hc i HA s σ H E I hf st hg;subst hP hw hK;obtain⟨f0,f1,f2,f3,f4,f5⟩:=hf it (by simp)
  exact wpAny_pyNext_range_end (I.ok.hd hc) st (by have:n<=i:=hg; omega) λh' eb=>⟨rfl,I.turned (t':=s.toks) (λb o hb e=>eb b o hb e) f0 f1 f3 f4 f5⟩
 self:=λ_ _ _ _ _ st h=>wpAny_pyIter_rangeiter st h
section
variable {X:Cx} {tg:Ho}
theorem vS {HA:List (Hm×Hz)} {σ:St} {H:Hp} {s:Hk} {R:It->Hp->Prop} {E:Hl->Hk->Prop} {lo hi:Int} {t u v:Tok} {tk:Nat} (I:av X HA σ H s) (h1:-(2 ^ 62)<=lo) (h2:lo < 2 ^ 62) (h3:-(2 ^ 62)<=hi) (h4:hi < 2 ^ 62)
  (q:R (Ds lo (hi - lo).toNat) H):wpAny (model X.prog X.w) X.A (pyIter (.ref s.heap.objs.size)) (FH X HA σ tg R) E {s with heap:=s.heap.push {cls:=.type "range",data:=.fields #[.int lo t,.int hi u,.int 1 v]},toks:=tk}:=by
 refine wpAny_pyIter_range (IsRange.new ..) (small_one h1 h2 h3 h4) ?_;have I1:av X HA σ H {s with heap:=s.heap.push {cls:=.type "range",data:=.fields #[.int lo t,.int hi u,.int 1 v]},toks:=tk}:=I.kept λb o e=>Gi _ e
 refine⟨(s.heap.push {cls:=.type "range",data:=.fields #[.int lo t,.int hi u,.int 1 v]}).objs.size,[(s.heap.push {cls:=.type "range",data:=.fields #[.int lo t,.int hi u,.int 1 v]}).objs.size],_,_,H,rfl,
  I1.kept (t':=tk) λb o e=>Gi _ e,sI _ lo (hi - lo).toNat,?_,λb hb=>?_,q⟩
 ·have e1:lo+((0:Nat):Int)*1=lo:=by simp
  have e2:(((hi - lo).toNat:Nat):Int) - ((0:Nat):Int)=Builtin.Range.rangeSize lo hi 1:=by rw [rangeSize_one]; split <;> omega
  show IsRangeIter _ _ (lo+((0:Nat):Int)*1) ((((hi - lo).toNat:Nat):Int) - ((0:Nat):Int)) 1
  rw [e1,e2];exact Gk _ rfl
 ·have e:b=(s.heap.push {cls:=.type "range",data:=.fields #[.int lo t,.int hi u,.int 1 v]}).objs.size:=by simpa using hb
  subst e;exact I1.fpOk (Gq _) (I1.hok.fresh (Gq _))
def Dh (ta:TA):TI:=fun σ H R=>ta σ H λvs H1=>∃ j:Int,vs=[.int j]/\-(2 ^ 62)<=j/\j < 2 ^ 62/\R (Ds 0 j.toNat) H1
theorem lz {a:Ho} {ta:TA} {p pos:Pos} (hg:Gl X "range") (hm:X.mg "range"=none) (ha:PA X [a] ta) (hs:starEach [a] X.env=[(false,eval a X.env)]:=by rfl):PI X tg (.Call (.Name "range" p) [a] [] pos) (Dh ta):=by
 intro HA s σ H R I h;refine Call_ (lC I hg hm boot_range (PyProof.Rows.callWith_type1 (bB (ha pos HA s σ H _ I h) λus s1 ⟨vs,H1,I1,r1,q1⟩=>?_) hs rfl))
 obtain⟨j,e,q1,q2,q⟩:=q1;subst e;cases r1 with
 | cons r rr=>
  cases rr;obtain⟨t,rfl⟩:=r;exact call_range_1 (vS I1 (by omega) (by omega) q1 q2 (by simpa using q))
def EM (wi:TI) (g:TG) (tb:TS):TS:=λD σ H=>wi σ H λJ H1=>∃ W:Nat->Nat->St->Hp->Prop,(∃ m,W 0 m σ H1)/\∀ i m σ H,W i m σ H->
 (J.stop i H/\D.nx σ H)\/(J.go i H/\∃ N:St->Hp->Prop,(∀ σ' H',N σ' H'->∃ m',m' < m/\W (i+1) m' σ' H')/\∀ x H',J.yld i H x H'->g x σ H' fun σ2 H2=>tb {D with nx:=N,ct:=N,bk:=D.nx} σ2 H2)
def ls (fp:List Hm) (h:Hu):List (Hm×Hz):=fp.filterMap λb=>(h.get? b).map λo=>(b,o)
theorem bV {fp:List Hm} {h:Hu} {b:Hm} {o:Hz} (hb:b∈fp) (e:h.get? b=some o):(b,o)∈ls fp h:=List.mem_filterMap.mpr ⟨b,hb,by rw [e]; rfl⟩
theorem u5 {fp:List Hm} {h:Hu} {p:Hm×Hz} (hp:p∈ls fp h):p.1∈fp/\h.get? p.1=some p.2:=by
 obtain⟨b,hb,e⟩:=List.mem_filterMap.mp hp;cases q:h.get? b with
 | none=>rw [q] at e; cases e
 | some o=>
  rw [q] at e;have e':(b,o)=p:=GS e;subst e';exact⟨hb,q⟩
theorem av.pinned {HA:List (Hm×Hz)} {σ:St} {H:Hp} {s:Hk} {fp:List Hm} (I:av X HA σ H s) (hf:∀ b∈fp,mh X HA H b) (ho:∀ b∈fp,∃ o,s.heap.get? b=some o/\∀ v,o.data≠.cell v):av X (HA++ls fp s.heap) σ H s:=
 I.pins_of λp hp=>(List.mem_append.mp hp).elim (λz=>I.pin p (GB _ z)) λz=>by
  obtain⟨hb,e⟩:=u5 z;obtain⟨f0,f1,f2,_⟩:=hf p.1 hb;obtain⟨o,e',d⟩:=ho p.1 hb;rw [e] at e'; cases e'
  exact⟨e,f0,f1,f2,d⟩
theorem av.unpinned {HA pl:List (Hm×Hz)} {σ:St} {H:Hp} {s:Hk} (I:av X (HA++pl) σ H s):av X HA σ H s:=I.pins_of λp hp=>I.pin p (GB _ (List.mem_append_left _ hp))
theorem pf {iter:Ho} {body:List Hv} {wi:TI} {g:TG} {tb:TS} {pos:Pos} (hp:PassesOwn (model X.prog X.w) X.A X.env X.xe) (hc:X.calm=true) (hi:PI X tg iter wi) (hg:PG X tg g) (hb:nJ X body tb)
  (hs:∀ x,foldedSetIterable iter X.env x=pure x:=by intro _; rfl):PS X (.For tg iter body [] pos) (EM wi g tb):=by
 intro HA s σ H D I h;refine wpAny_For (bB (hi HA s σ H _ I h) λv s1 h1=>bB h1 λitv s2 h2=>?_) hs
 obtain⟨it,fp,tn,J,H2,e,I2,T,st2,f2,W,⟨m0,w0⟩,turn⟩:=h2;subst e;have stat:∀ {H':Hp},(∀ b∈fp,H' b=none)->∀ b∈fp,mh X HA H' b:=λhn b hb=>⟨hn b hb,(f2 b hb).2⟩
 refine codeAny_forLoop_any (λn s'=>∃ i σ' H',av X HA σ' H' s'/\tn i s'.heap/\(∀ b∈fp,H' b=none)/\W i n σ' H') ?_ m0 ⟨0,σ,H2,I2,st2,λb hb=>(f2 b hb).1,w0⟩
 rintro n s3 ⟨i,σ3,H3,I3,st3,fr3,w3⟩;rcases turn i n σ3 H3 w3 with ⟨stop,qn⟩ | ⟨go,N,hN,step⟩
 ·refine wpAny_passesOwn hp (bB (T.done X rfl rfl rfl hc i HA s3 σ3 H3 X.xe I3 (stat fr3) st3 stop) λr s4 z9=>?_)
  obtain⟨hr,I4⟩:=z9;subst hr;exact wpAny_execs_nil ⟨σ3,H3,I4,qn⟩
 ·refine wpAny_passesOwn hp (bB (T.item X rfl rfl rfl hc i HA s3 σ3 H3 X.xe I3 (stat fr3) st3 go) λr s4 z9=>?_)
  obtain⟨u,hr,h4⟩:=z9;subst hr;refine wpAny_passesOwn hp (bB h4 λ_ s5 z9=>?_)
  obtain⟨x,H5,I5,r5,y5,st5,fr5⟩:=z9;have I5':=I5.pinned (stat fr5) (T.obj _ _ st5);refine wpAny_passesOwn hp (bB (hg _ s5 σ3 H5 x u _ I5' r5 (step x H5 y5)) λ_ s6 z9=>?_)
  obtain⟨σ6,H6,I6,q6⟩:=z9;refine wpAny_passesOwn hp (bB (hb _ s6 σ6 H6 _ I6 q6) λf s7 q7=>?_)
  have again:∀ {σ7:St} {H7:Hp},av X (HA++ls fp s5.heap) σ7 H7 s7->N σ7 H7->∃ m,m < n/\∃ i σ' H',av X HA σ' H' s7/\tn i s7.heap/\(∀ b∈fp,H' b=none)/\W i m σ' H':=λ{σ7 H7} I7 n7=>by
   obtain⟨m',hm,w7⟩:=hN σ7 H7 n7;refine⟨m',hm,i+1,σ7,H7,I7.unpinned,T.keep _ _ _ st5 λb hb o e=>(I7.pin (b,o) (GB _ (GB _ (bV hb e)))).1,λb hb=>?_,w7⟩
   obtain⟨o,e,d⟩:=T.obj _ _ st5 b hb;exact(I7.pin (b,o) (GB _ (GB _ (bV hb e)))).2.1
  cases f with
  | next=>obtain⟨σ7,H7,I7,n7⟩:=q7; exact again I7 n7
  | cont=>obtain⟨σ7,H7,I7,n7⟩:=q7; exact again I7 n7
  | brk=>obtain⟨σ7,H7,I7,q7⟩:=q7; exact⟨σ7,H7,I7.unpinned,q7⟩
  | ret v=>obtain⟨x7,σ7,H7,I7,r7,q7⟩:=q7; exact⟨x7,σ7,H7,I7.unpinned,r7,q7⟩
end
abbrev R2:=V->V->Hp->VK->Prop
def gn (X:Cx) (f:Hl->Hl->Sem Hl) (r:R2):Prop:=
 ∀ (HA:List (Hm×Hz)) (s:Hk) (σ:St) (H:Hp) (x y:V) (v u:Hl) (Q:VK),av X HA σ H s->bh x v->bh y u->r x y H Q->
  wpAny (model X.prog X.w) X.A (f v u) (EP X HA σ Q) X.xe s
def Db (X:Cx) (f:Hl->Sem Hl) (r:V->Hp->VK->Prop):Prop:=
 ∀ (HA:List (Hm×Hz)) (s:Hk) (σ:St) (H:Hp) (x:V) (v:Hl) (Q:VK),av X HA σ H s->bh x v->r x H Q->
  wpAny (model X.prog X.w) X.A (f v) (EP X HA σ Q) X.xe s
def dW (X:Cx) (f:Hl) (r:List V->Hp->VK->Prop):Prop:=
 ∀ (HA:List (Hm×Hz)) (s:Hk) (σ:St) (H:Hp) (xs:List V) (us:List Hl) (Q:VK),av X HA σ H s->bb xs us->r xs H Q->
  wpAny (model X.prog X.w) X.A (call f us) (EP X HA σ Q) X.xe s
def CL (r:R2) (ta tb:TE):TE:=fun σ H Q=>ta σ H λx H1=>tb σ H1 λy H2=>r x y H2 Q
def FY (r:V->Hp->VK->Prop) (ta:TE):TE:=fun σ H Q=>ta σ H λx H1=>r x H1 Q
def rI (C:Int->Int->Prop) (g:Int->Int->V):R2:=λx y H Q=>∃ i j,x=.int i/\y=.int j/\C i j/\Q (g i j) H
def Ag (g:Int->Int->V):R2:=λx y H Q=>∃ i j,x=.int i/\y=.int j/\Q (g i j) H
def rU (g:Int->V):V->Hp->VK->Prop:=λx H Q=>∃ i,x=.int i/\Q (g i) H
section
variable {X:Cx} {a b c:Ho} {ta tb tc:TE} {pos:Pos}
theorem BW (ha:PE X a ta) (hb:PE X b tb) {HA:List (Hm×Hz)} {s:Hk} {σ:St} {H:Hp} {R:V->V->Hp->Prop} (I:av X HA σ H s)
  (h:ta σ H λx H1=>tb σ H1 λy H2=>R x y H2) {Q:Hl->Hk->Prop} {f:Hl->Hl->Sem Hl}
  (hf:∀ v u s2 x y H2,av X HA σ H2 s2->bh x v->bh y u->R x y H2->wpAny (model X.prog X.w) X.A (f v u) Q X.xe s2):
  wpAny (model X.prog X.w) X.A (eval a X.env) (λv s₁=>wpAny (model X.prog X.w) X.A (eval b X.env) (λu s₂=>wpAny (model X.prog X.w) X.A (f v u) Q X.xe s₂) X.xe s₁) X.xe s:=by
 refine bB (ha HA s σ H _ I h) λv s1 z9=>?_
 obtain⟨x,H1,I1,r1,q1⟩:=z9;refine bB (hb HA s1 σ H1 _ I1 q1) λu s2 z9=>?_
 obtain⟨y,H2,I2,r2,q2⟩:=z9;exact hf v u s2 x y H2 I2 r1 r2 q2
theorem CD {op:Operator} {r:R2} (ho:gn X (binaryOp op) r) (ha:PE X a ta) (hb:PE X b tb):PE X (.BinOp a op b pos) (CL r ta tb):=by
 intro HA s σ H Q I h;exact wpAny_BinOp (BW ha hb I h λv u s2 x y H2 I2 rx ry q=>ho HA s2 σ H2 x y v u Q I2 rx ry q)
theorem CJ {op:UnaryOp} {r:V->Hp->VK->Prop} (ho:Db X (unaryOp op) r) (ha:PE X a ta):PE X (.UnaryOp op a pos) (FY r ta):=by
 intro HA s σ H Q I h;exact UnaryOp_ (bB (ha HA s σ H _ I h) λv s1 z9=>by obtain⟨x,H1,I1,r1,q1⟩:=z9; exact ho HA s1 σ H1 x v Q I1 r1 q1)
theorem Co {f:Hl->Hl->Sem Hl} {C:Int->Int->Prop} {g:Int->Int->Int}
  (rule:∀ (i j:Int) (t u:Tok) (s:Hk) (Q:Hl->Hk->Prop) (E:Hl->Hk->Prop),C i j->Q (.int (g i j) s.toks) {s with toks:=s.toks+1}->wpAny (model X.prog X.w) X.A (f (.int i t) (.int j u)) Q E s):
  gn X f (rI C λi j=>.int (g i j)):=by
 intro HA s σ H x y v u Q I rx ry h;obtain⟨i,j,rfl,rfl,hc,q⟩:=h;obtain⟨t,rfl⟩:=rx;obtain⟨t',rfl⟩:=ry;exact rule i j t t' s _ _ hc ⟨.int (g i j),H,I.tok _,⟨_,rfl⟩,q⟩
theorem C3 {f:Hl->Hl->Sem Hl} {g:Int->Int->Int}
  (rule:∀ (i j:Int) (t u:Tok) (s:Hk) (Q:Hl->Hk->Prop) (E:Hl->Hk->Prop),Q (.int (g i j) s.toks) {s with toks:=s.toks+1}->wpAny (model X.prog X.w) X.A (f (.int i t) (.int j u)) Q E s):
  gn X f (Ag λi j=>.int (g i j)):=by
 intro HA s σ H x y v u Q I rx ry h;obtain⟨i,j,rfl,rfl,q⟩:=h;obtain⟨t,rfl⟩:=rx;obtain⟨t',rfl⟩:=ry;exact rule i j t t' s _ _ ⟨.int (g i j),H,I.tok _,⟨_,rfl⟩,q⟩
theorem BC {f:Hl->Hl->Sem Hl} {g:Int->Int->Hx}
  (rule:∀ (i j:Int) (t u:Tok) (s:Hk) (Q:Hl->Hk->Prop) (E:Hl->Hk->Prop),Q (.bool (g i j)) s->wpAny (model X.prog X.w) X.A (f (.int i t) (.int j u)) Q E s):
  gn X f (Ag λi j=>.bl (g i j)):=by
 intro HA s σ H x y v u Q I rx ry h;obtain⟨i,j,rfl,rfl,q⟩:=h;obtain⟨t,rfl⟩:=rx;obtain⟨t',rfl⟩:=ry;exact rule i j t t' s _ _ ⟨.bl (g i j),H,I,rfl,q⟩
def BV (i j:Int):Prop:=0<=j/\j<=1000000/\i.natAbs < 2 ^ 64
theorem Bk:gn X (binaryOp .Add) (Ag λi j=>.int (i+j)):=C3 λ_ _ _ _ _ _ _ q=>add_int q
theorem AY:gn X (binaryOp .Sub) (Ag λi j=>.int (i - j)):=C3 λ_ _ _ _ _ _ _ q=>sub_int q
theorem y6:gn X (binaryOp .Mod) (rI (λ_ j=>j≠0) λi j=>.int (i.fmod j)):=Co λ_ _ _ _ _ _ _ hc q=>mod_int' hc q
theorem Bp:gn X (binaryOp .Pow) (rI BV λi j=>.int (i ^ j.toNat)):=Co λ_ _ _ _ _ _ _ hc q=>pow_int_small hc.1 hc.2.1 hc.2.2 q
theorem F3 {f:Hl->Sem Hl} {g:Int->Int}
  (rule:∀ (i:Int) (t:Tok) (s:Hk) (Q:Hl->Hk->Prop) (E:Hl->Hk->Prop),Q (.int (g i) s.toks) {s with toks:=s.toks+1}->wpAny (model X.prog X.w) X.A (f (.int i t)) Q E s):
  Db X f (rU λi=>.int (g i)):=by
 intro HA s σ H x v Q I rx h;obtain⟨i,rfl,q⟩:=h;obtain⟨t,rfl⟩:=rx;exact rule i t s _ _ ⟨.int (g i),H,I.tok _,⟨_,rfl⟩,q⟩
theorem A2:Db X (unaryOp .USub) (rU λi=>.int (-i)):=F3 λ_ _ _ _ _ q=>neg_int q
end
def BO:V->V->Hx
 | .non,.non=>true | .non,.int _=>true | .int _,.non=>true | .non,.bl _=>true | .bl _,.non=>true | .non,.str _=>true | .str _,.non=>true
 | .int _,.int _=>true | .bl _,.bl _=>true | .str _,.str _=>true | .byt _,.byt _=>true
 | .int _,.str _=>true | .str _,.int _=>true | .bl _,.str _=>true | .str _,.bl _=>true
 | _,_=>false
def Ga:R2:=λx y H Q=>BO x y=true/\Q (.bl (decide (x=y))) H
def FX:R2:=λx y H Q=>BO x y=true/\Q (.bl (!decide (x=y))) H
theorem tE {i j:Int}:decide (V.int i=V.int j)=(i == j):=by
 rw [Bool.eq_iff_iff];simp
theorem xM {i j:Hx}:decide (V.bl i=V.bl j)=(i == j):=by
 rw [Bool.eq_iff_iff];simp
theorem tZ {i j:Str}:decide (V.str i=V.str j)=(i == j):=by
 rw [Bool.eq_iff_iff];simp
theorem tY {i j:Hw UInt8}:decide (V.byt i=V.byt j)=(i.toList == j.toList):=by
 rw [Bool.eq_iff_iff];cases i;cases j;simp
section
variable {X:Cx} {a b c:Ho} {ta tb tc:TE} {pos:Pos}
theorem a8 {HA:List (Hm×Hz)} {σ:St} {H:Hp} {s:Hk} {Q:VK} {k k':Hx} (I:av X HA σ H s) (q:Q (.bl k) H) (e:k=k'):EP X HA σ Q (.bool k') s:=by
 subst e;exact⟨.bl k,H,I,rfl,q⟩
theorem C5:gn X (compareOp .Eq) Ga:=by
 intro HA s σ H x y v u Q I rx ry h;obtain⟨hs,q⟩:=h;cases x with
 | non=>
  cases rx;cases y with
  | non=>cases ry; exact PySem.EqNone.eq_none_none (a8 I q (by simp))
  | bl j=>cases ry; exact PySem.EqNone.eq_none_bool (a8 I q (by simp))
  | int j=>obtain⟨t',rfl⟩:=ry; exact PySem.EqNone.eq_none_int (a8 I q (by simp))
  | str j=>obtain⟨t',rfl⟩:=ry; exact PySem.EqNone.eq_none_str (a8 I q (by simp))
  | _=>exact absurd (show false=true from hs) Gs
 | bl i=>
  cases rx;cases y with
  | non=>cases ry; exact PySem.EqNone.eq_bool_none (a8 I q (by simp))
  | bl j=>cases ry; exact eq_bool (a8 I q xM)
  | str j=>obtain⟨t',rfl⟩:=ry; exact PySem.EqMixed.eq_bool_str (a8 I q (by simp))
  | _=>exact absurd (show false=true from hs) Gs
 | int i=>
  obtain⟨t,rfl⟩:=rx;cases y with
  | non=>cases ry; exact PySem.EqNone.eq_int_none (a8 I q (by simp))
  | int j=>obtain⟨t',rfl⟩:=ry; exact eq_int (a8 I q tE)
  | str j=>obtain⟨t',rfl⟩:=ry; exact PySem.EqMixed.eq_int_str (a8 I q (by simp))
  | _=>exact absurd (show false=true from hs) Gs
 | str i=>
  obtain⟨t,rfl⟩:=rx;cases y with
  | non=>cases ry; exact PySem.EqNone.eq_str_none (a8 I q (by simp))
  | bl j=>cases ry; exact PySem.EqMixed.eq_str_bool (a8 I q (by simp))
  | int j=>obtain⟨t',rfl⟩:=ry; exact PySem.EqMixed.eq_str_int (a8 I q (by simp))
  | str j=>obtain⟨t',rfl⟩:=ry; exact eq_str (a8 I q tZ)
  | _=>exact absurd (show false=true from hs) Gs
 | byt i=>
  obtain⟨t,rfl⟩:=rx;cases y with
  | byt j=>obtain⟨t',rfl⟩:=ry; exact PySem.W.eq_bytes (a8 I q tY)
  | _=>exact absurd (show false=true from hs) Gs
 | _=>cases y <;> exact absurd (show false=true from hs) Gs
theorem D8:gn X (compareOp .NotEq) FX:=by
 intro HA s σ H x y v u Q I rx ry h;obtain⟨hs,q⟩:=h;cases x with
 | non=>
  cases rx;cases y with
  | non=>cases ry; exact PySem.EqNone.ne_none_none (a8 I q (by simp))
  | bl j=>cases ry; exact PySem.EqNone.ne_none_bool (a8 I q (by simp))
  | int j=>obtain⟨t',rfl⟩:=ry; exact PySem.EqNone.ne_none_int (a8 I q (by simp))
  | str j=>obtain⟨t',rfl⟩:=ry; exact PySem.EqNone.ne_none_str (a8 I q (by simp))
  | _=>exact absurd (show false=true from hs) Gs
 | bl i=>
  cases rx;cases y with
  | non=>cases ry; exact PySem.EqNone.ne_bool_none (a8 I q (by simp))
  | bl j=>cases ry; exact ne_bool (a8 I q (congrArg not xM))
  | str j=>obtain⟨t',rfl⟩:=ry; exact PySem.EqMixed.ne_bool_str (a8 I q (by simp))
  | _=>exact absurd (show false=true from hs) Gs
 | int i=>
  obtain⟨t,rfl⟩:=rx;cases y with
  | non=>cases ry; exact PySem.EqNone.ne_int_none (a8 I q (by simp))
  | int j=>obtain⟨t',rfl⟩:=ry; exact ne_int (a8 I q (congrArg not tE))
  | str j=>obtain⟨t',rfl⟩:=ry; exact PySem.EqMixed.ne_int_str (a8 I q (by simp))
  | _=>exact absurd (show false=true from hs) Gs
 | str i=>
  obtain⟨t,rfl⟩:=rx;cases y with
  | non=>cases ry; exact PySem.EqNone.ne_str_none (a8 I q (by simp))
  | bl j=>cases ry; exact PySem.EqMixed.ne_str_bool (a8 I q (by simp))
  | int j=>obtain⟨t',rfl⟩:=ry; exact PySem.EqMixed.ne_str_int (a8 I q (by simp))
  | str j=>obtain⟨t',rfl⟩:=ry; exact ne_str (a8 I q (congrArg not tZ))
  | _=>exact absurd (show false=true from hs) Gs
 | byt i=>
  obtain⟨t,rfl⟩:=rx;cases y with
  | byt j=>obtain⟨t',rfl⟩:=ry; exact PySem.W.ne_bytes (a8 I q (congrArg not tY))
  | _=>exact absurd (show false=true from hs) Gs
 | _=>cases y <;> exact absurd (show false=true from hs) Gs
theorem Cs:gn X (compareOp .Lt) (Ag λi j=>.bl (decide (i < j))):=BC λ_ _ _ _ _ _ _ q=>lt_int q
theorem Dz:gn X (compareOp .Gt) (Ag λi j=>.bl (decide (j < i))):=BC λ_ _ _ _ _ _ _ q=>gt_int q
theorem CT:gn X (compareOp .GtE) (Ag λi j=>.bl (decide (j<=i))):=BC λ_ _ _ _ _ _ _ q=>ge_int q
theorem BH:gn X (compareOp .Is) (λx y H Q=>y=.non/\Q (.bl (decide (x=.non))) H):=by
 intro HA s σ H x y v u Q I rx ry h;obtain⟨rfl,q⟩:=h;cases ry;refine is_none_gen (a8 I q ?_);cases x <;> first
  | (cases rx; rfl)
  | (obtain ⟨t,rfl⟩:=rx; rfl)
theorem yS:gn X (compareOp .IsNot) (λx y H Q=>y=.non/\Q (.bl (!decide (x=.non))) H):=by
 intro HA s σ H x y v u Q I rx ry h;obtain⟨rfl,q⟩:=h;cases ry;refine isnot_none_gen (a8 I q ?_);cases x <;> first
  | (cases rx; rfl)
  | (obtain ⟨t,rfl⟩:=rx; rfl)
theorem aE (b:Ho) {op:CmpOp} (h:op≠.In:=by decide) (h2:op≠.NotIn:=by decide):behindInMarks op b=false:=by
 have e1:(op == CmpOp.In)=false:=by cases op <;> first | rfl | exact absurd rfl h
 have e2:(op == CmpOp.NotIn)=false:=by cases op <;> first | rfl | exact absurd rfl h2
 cases b <;> simp [behindInMarks,e1,e2]
theorem yp {op:CmpOp} {r:R2} (ho:gn X (compareOp op) r) (ha:PE X a ta) (hb:PE X b tb) (hm:behindInMarks op b=false):PE X (.Compare a [op] [b] pos) (CL r ta tb):=by
 intro HA s σ H Q I h;exact wpAny_Compare1 (BW ha hb I h λv u s2 x y H2 I2 rx ry q=>ho HA s2 σ H2 x y v u Q I2 rx ry q) hm
def Af (t:TE):TT:=fun σ H Q=>t σ H λx H'=>∃ k,x=.bl k/\Q k H'
theorem zy {op:CmpOp} {r:R2} (ho:gn X (compareOp op) r) (ha:PE X a ta) (hb:PE X b tb) (hm:behindInMarks op b=false):PT X (.Compare a [op] [b] pos) (Af (CL r ta tb)):=by
 intro HA s σ H Q I h;refine wpAny_isTrue_Compare1 (bB (ha HA s σ H _ I h) λv s1 ⟨x,H1,I1,r1,q1⟩=>bB (hb HA s1 σ H1 _ I1 q1) λu s2 ⟨y,H2,I2,r2,q2⟩=>
  bB (ho HA s2 σ H2 x y v u _ I2 r1 r2 q2) λc s3 ⟨z,H3,I3,r3,k,e,q3⟩=>?_) hm
 subst e;cases r3;exact wpAny_truthy_bool ⟨H3,I3,q3⟩
theorem qg:(sizeLine:Nat) < 2 ^ 63:=by rw [sizeLine_eq]; decide
theorem sU:gn X (binaryOp .Add) (λx y H Q=>∃ i j,x=.str i/\y=.str j/\i.length+j.length<=sizeLine/\Q (.str (i++j)) H):=by
 intro HA s σ H x y v u Q I rx ry h;obtain⟨i,j,rfl,rfl,hz,q⟩:=h;obtain⟨t,rfl⟩:=rx;obtain⟨t',rfl⟩:=ry;exact add_str (λt' tk=>⟨.str (i++j),H,I.tok _,⟨_,rfl⟩,q⟩) hz
theorem xn {x:V} {us:List Hl} (r:bb [x] us):∃ u,us=[u]/\bh x u:=by
 cases r with
 | cons r1 r2=>cases r2; exact⟨_,rfl,r1⟩
theorem tT {x y:V} {us:List Hl} (r:bb [x,y] us):∃ u w',us=[u,w']/\bh x u/\bh y w':=by
 cases r with
 | cons r1 r2=>
  cases r2 with
  | cons r3 r4=>cases r4; exact⟨_,_,rfl,r1,r3⟩
theorem w_:dW X (.builtin "abs") (λxs H Q=>∃ i,xs=[.int i]/\Q (.int (if i < 0 then -i else i)) H):=by
 intro HA s σ H xs us Q I r h;obtain⟨i,rfl,q⟩:=h;obtain⟨u,rfl,t,rfl⟩:=xn r;exact call_abs_int λu tk=>⟨.int (if i < 0 then -i else i),H,I.tok _,⟨_,rfl⟩,q⟩
theorem uM (hc:X.calm=true):dW X (.builtin "max") (λxs H Q=>∃ i j,xs=[.int i,.int j]/\Q (.int (if j > i then j else i)) H):=by
 intro HA s σ H xs us Q I r h;obtain⟨i,j,rfl,q⟩:=h;obtain⟨u,w',rfl,⟨t,rfl⟩,⟨t',rfl⟩⟩:=tT r;refine max_two_ints (I.ok.hd hc) λh' tk k=>⟨_,H,I.kept k,?_,q⟩
 by_cases hj:j > i
 ·rw [if_pos hj,if_pos hj]; exact⟨_,rfl⟩
 ·rw [if_neg hj,if_neg hj]; exact⟨_,rfl⟩
theorem uP (hc:X.calm=true):dW X (.builtin "min") (λxs H Q=>∃ i j,xs=[.int i,.int j]/\Q (.int (if j < i then j else i)) H):=by
 intro HA s σ H xs us Q I r h;obtain⟨i,j,rfl,q⟩:=h;obtain⟨u,w',rfl,⟨t,rfl⟩,⟨t',rfl⟩⟩:=tT r;refine min_two_ints (I.ok.hd hc) λh' tk k=>⟨_,H,I.kept k,?_,q⟩
 by_cases hj:j < i
 ·rw [if_pos hj,if_pos hj]; exact⟨_,rfl⟩
 ·rw [if_neg hj,if_neg hj]; exact⟨_,rfl⟩
end
section
variable {X:Cx} {HA:List (Hm×Hz)} {σ:St} {H:Hp} {s:Hk} {a C dx:Hm} {fs:List (Str×V)} {f:Str} {v:V} {A:Hr} {E:Hl->Hk->Prop}
theorem zg {prog:Hq} {w:Ht} {env:Env} {e:Ho} {f:Str} {pos:Pos} {s:Hk} {Q:Hl->Hk->Prop} (hb:attributeBase e f env (eval e env)=eval e env)
  (h:wpAny (model prog w) A (eval e env) (λo s₁=>wpAny (model prog w) A (getAttr o f true) Q E s₁) E s):wpAny (model prog w) A (eval (.Attribute e f pos) env) Q E s:=
 Attribute_any_ h (by rw [arm_eval_Attribute,hb])
end
structure ce (k:Nat) (A:Hr):Prop where
 hd:A.handled=none
 dp:A.depth+3*k+5 < recursionLimit
 un:A.units+16*k+200 < cLine
theorem ce.mono {j k:Nat} {A:Hr} (r:ce k A) (h:j<=k):ce j A:=⟨r.hd,by have:=r.dp; omega,by have:=r.un; omega⟩
theorem ce.deeper {k:Nat} {A:Hr} (r:ce (k+1) A) (env:Env):ce k (A.deeper env):=
 ⟨r.hd,by have:=r.dp; show A.depth+1+3*k+5 < _; omega,by have:=r.un; show A.units+3+16*k+200 < _; omega⟩
theorem sV {A:Hr} {C:Hm} {us:List Hl} {kw:List (Str×Hl)}:(A.under (.builtin "type.__call__" ⟨.ref C::us,kw⟩)).depth=A.depth+1:=by
 first | rfl | simp [Around.under,Code.weight,Code.isCreation,Code.isGuard,Code.isCaller,Code.frames,Code.isFrame,guardIds]
theorem sF {A:Hr} {C:Hm} {us:List Hl} {kw:List (Str×Hl)}:(A.under (.builtin "type.__call__" ⟨.ref C::us,kw⟩)).units=A.units+1:=by
 first | rfl | simp [Around.under,Code.cUnits,Code.frames,Code.isFrame]
theorem ce.make {k:Nat} {A:Hr} (r:ce (k+1) A) (C:Hm) (us:List Hl) (kw:List (Str×Hl)):ce k (A.under (.builtin "type.__call__" ⟨.ref C::us,kw⟩)):=
 ⟨r.hd,by have:=r.dp; rw [sV]; omega,by have:=r.un; rw [sF]; omega⟩
theorem ce.depth {k:Nat} {A:Hr} (r:ce k A):A.depth < recursionLimit:=by have:=r.dp; omega
theorem ce.units {k:Nat} {A:Hr} (r:ce k A):A.units+64 < cLine:=by have:=r.un; omega
def Fa:TA:=λ_ H Q=>Q [] H
def DR (ta:TE) (tr:TA):TA:=fun σ H Q=>ta σ H λx H1=>tr σ H1 λxs H2=>Q (x::xs) H2
section
variable {X:Cx} {e:Ho} {es:List Ho} {te:TE} {t:TA} {pos:Pos}
theorem sh:PA X [] Fa:=λ_ _ _ _ H Q I h=>Calls.spliced_nil ⟨[],H,I,.nil,h⟩
theorem qf (ha:PE X e te) (hr:PA X es t) (hs:starEach (e::es) X.env=(false,eval e X.env)::starEach es X.env:=by rfl):PA X (e::es) (DR te t):=by
 intro pos HA s σ H Q I h;rw [hs]
 show wpAny _ _ (spliced ((false,eval e X.env)::backTo pos (starEach es X.env))) _ _ s
 refine Calls.spliced_cons (bB (ha HA s σ H _ I h) λu s1 z9=>?_)
 obtain⟨x,H1,I1,r1,q1⟩:=z9;exact bB (hr pos HA s1 σ H1 _ I1 q1) λus s2 z9=>by obtain⟨xs,H2,I2,r2,q2⟩:=z9; exact⟨x::xs,H2,I2,.cons r1 r2,q2⟩
def EN (t:TA):TE:=fun σ H Q=>t σ H λxs H1=>xs.length<=sizeLine/\∀ p,H1 p=none->Q (.ref p) (bt H1 p (.tup xs))
def Es (t:TA):TE:=fun σ H Q=>t σ H λxs H1=>xs.length<=sizeLine/\∀ p,H1 p=none->Q (.ref p) (bt H1 p (.lst xs))
theorem AM {x1} (h:PA X es t):PE X (.Tuple es x1 pos) (EN t):=by
 intro HA s σ H Q I hq;refine wpAny_Tuple_spliced (bB (h pos HA s σ H _ I hq) λus s1 ⟨xs,H1,I1,r,z,q⟩=>⟨by rw [<- r.length]; exact z,?_⟩)
 have hf:H1 s1.heap.objs.size=none:=I1.hok.fresh (Gq _);refine⟨.ref s1.heap.objs.size,bt H1 s1.heap.objs.size (.tup xs),I1.laid (t':=s1.toks) (λb u e=>Gi _ e) (Gq _) ?_,rfl,q _ hf⟩
 exact⟨z,us,r,⟨_,Gk _ rfl,rfl,_,rfl⟩⟩
theorem A7 (h:PA X es t):PE X (.List es pos) (Es t):=by
 intro HA s σ H Q I hq;refine wpAny_List_spliced (bB (h pos HA s σ H _ I hq) λus s1 ⟨xs,H1,I1,r,z,q⟩=>⟨by rw [<- r.length]; exact z,?_⟩)
 have hf:H1 s1.heap.objs.size=none:=I1.hok.fresh (Gq _);refine⟨.ref s1.heap.objs.size,bt H1 s1.heap.objs.size (.lst xs),I1.laid (t':=s1.toks) (λb u e=>Gi _ e) (Gq _) ?_,rfl,q _ hf⟩
 exact⟨z,us,0,r,Gk _ rfl⟩
end
abbrev Sp:=List V->Hp->VK->XK->Prop
abbrev vx:=List Env->Hp->Hk->XK->Hl->Hk->Prop
structure qV (P:Hq) (w:Ht) (K:PySem.W.Frag) (mg:Str->Hn Hl) (base:Hu) (A:Hr) (outer:List Env) (s:Hk) (H:Hp):Prop where
 frames:A.frames=some outer
 mod:Mod K mg base
 bs:∀ b o,base.get? b=some o->s.heap.get? b=some o/\H b=none
 bsz:base.objs.size<=s.heap.objs.size
 funs:s.heap.FunFrames base outer
 frf:∀ b∈fo outer,H b=none
 hok:kl P w H s.heap
 bare:AllBare s.gens
def CE (outer:List Env) (P:Hq) (w:Ht) (H:Hp) (s:Hk) (Q:VK) (u:Hl) (s':Hk):Prop:=
 ∃ v H',s'.os=s.os/\AllBare s'.gens/\Un (fo outer) [] H H' s.heap s'.heap/\kl P w H' s'.heap/\bh v u/\Q v H'
def CR (CX:vx) (outer:List Env) (P:Hq) (w:Ht) (H:Hp) (s:Hk) (Q:VK) (E:XK) (r:Result) (s':Hk):Prop:=
 match r with
 | .ok (.ret u)=>CE outer P w H s Q u s'
 | .ok _=>False
 | .error e=>CX outer H s E e s'
structure aJ (P:Hq) (w:Ht) (K:PySem.W.Frag) (mg:Str->Hn Hl) (base:Hu) (CX:vx) (k:Nat) (f:Hm) (fd:FuncData) (ps:List Str) (sp:Sp):Prop where
 len:∀ vs H Q E,sp vs H Q E->vs.length=ps.length
 run:∀ (A:Hr) (outer:List Env) (s:Hk) (H:Hp) (args:Args) (us:List Hl) (vs:List V) (Q:VK) (E:XK),ce k A->qV P w K mg base A outer s H->BindsTo s fd args (ps.zip us)->bb vs us->sp vs H Q E->
  codeAny (model P w) A (.call (.ref f) args) (CR CX outer P w H s Q E) s
theorem qV.make {P:Hq} {w:Ht} {K:PySem.W.Frag} {mg:Str->Hn Hl} {base:Hu} {A:Hr} {outer:List Env} {s:Hk} {H:Hp} (e:qV P w K mg base A outer s H) (C:Hm) (us:List Hl) (kw:List (Str×Hl)):
  qV P w K mg base (A.under (.builtin "type.__call__" ⟨.ref C::us,kw⟩)) outer s H:=⟨by first | exact e.frames | (simpa [Around.under,Code.envs,Code.isFrame,pushEnvs] using e.frames),e.mod,e.bs,e.bsz,e.funs,e.frf,e.hok,e.bare⟩
section
variable {X:Cx} {HA:List (Hm×Hz)} {σ:St} {H:Hp} {s s':Hk}
theorem av.env0 (I:av X HA σ H s):qV X.prog X.w X.K X.mg X.base X.A X.stack s H:=
 ⟨I.ok.frames,I.ok.mod,I.bs,GZ I.ok.bsz I.sz,I.stack,I.stkFree,I.hok,I.bare⟩
theorem av.after {Q:VK} {u:Hl} (I:av X HA σ H s) (h:CE X.stack X.prog X.w H s Q u s'):EP X HA σ Q u s':=by
 obtain⟨v,H',os,bare,un,hok,r,q⟩:=h;obtain⟨hh,g,d,t,os'⟩:=s';obtain rfl:os'=s.os:=os;exact⟨v,H',I.call (h':=hh) (g':=g) (d':=d) (t':=t) (ch:=[]) un hok bare (λb z=>absurd z (by simp)),r,q⟩
end
def DX (sp:Sp) (dvs:List V) (E:XK) (t:TA):TE:=fun σ H Q=>t σ H λvs H1=>sp (vs++dvs) H1 Q E
def gL (K:PySem.W.Frag) (fd:FuncData) (ps:List Str) (ds:List Hl):Prop:=
 ∀ (s:Hk) (us:List Hl),K.In s.heap->(us++ds).length=ps.length->BindsTo s fd ⟨us,[]⟩ (ps.zip (us++ds))
theorem gL.all {K:PySem.W.Frag} {fd:FuncData} {ps:List Str} (h:∀ us:List Hl,us.length=ps.length->bindArgs fd ⟨us,[]⟩=pure (ps.zip us)):gL K fd ps []:=λs us _ hl=>by
 rw [GI] at hl ⊢;exact .of_eq (h us hl)
def pO (CX:vx) (X:Cx) (E:XK):Prop:=∀ (HA:List (Hm×Hz)) (σ:St) (H:Hp) (s:Hk) (e:Hl) (s':Hk),av X HA σ H s->CX X.stack H s E e s'->X.xe e s'
section
variable {X:Cx} {CX:vx} {k:Nat} {f C:Hm} {fd:FuncData} {ps:List Str} {sp:Sp} {dvs:List V} {ds:List Hl} {E:XK} {x m:Str} {p pos apos:Pos} {e o:Ho} {es:List Ho} {ta:TE} {t:TA}
theorem B4 {HA:List (Hm×Hz)} {σ:St} {H:Hp} {s:Hk} {Q:VK} {us:List Hl} {vs:List V} (F:aJ X.prog X.w X.K X.mg X.base CX k f fd ps sp) (hr:ce k X.A) (hb:gL X.K fd ps ds) (hd:bb dvs ds) (hx:pO CX X E)
  (I:av X HA σ H s) (r:bb vs us) (h:sp (vs++dvs) H Q E):wpAny (model X.prog X.w) X.A (call (.ref f) us) (EP X HA σ Q) X.xe s:=by
 have r2:bb (vs++dvs) (us++ds):=r.append hd;have hl:(us++ds).length=ps.length:=by rw [<- r2.length]; exact F.len _ _ _ _ h
 refine wpAny_call (codeAny_mono (F.run X.A X.stack s H ⟨us,[]⟩ (us++ds) (vs++dvs) Q E hr I.env0 (hb s us I.kIn hl) r2 h) λr s' hq=>?_)
 cases r with
 | error e=>exact hx HA σ H s e s' I hq
 | ok fl=>
  cases fl with
  | ret u=>exact I.after hq
  | next=>exact False.elim hq
  | brk=>exact False.elim hq
  | cont=>exact False.elim hq
theorem ua (F:aJ X.prog X.w X.K X.mg X.base CX k f fd ps sp) (hr:ce k X.A) (hg:Gl X x) (hm:X.mg x=some (.ref f)) (hk:PySem.W.keepIn X.K (.ref f)=true) (hb:gL X.K fd ps ds) (hd:bb dvs ds) (hx:pO CX X E)
  (ha:PA X (e::es) t) (hdb:(x == ("__debug__":Str))=false:=by decide) (he:starEach (e::es) X.env=(false,eval e X.env)::starEach es X.env:=by rfl) (hpl:(backTo pos (starEach es X.env)).any (·.1)=false:=by rfl):
  PE X (.Call (.Name x p) (e::es) [] pos) (DX sp dvs E t):=by
 intro HA s σ H Q I h;refine wpAny_Call_Name_kw (ff I hg hm ?_ hdb);refine PySem.W.callWith_K (h₀:=X.base) I.ok.mod.kin hk (bB (ha pos HA s σ H _ I h) λus s1 ⟨vs,H1,I1,r,q⟩=>⟨I1.kIn,?_⟩) he hpl
 exact B4 F hr hb hd hx I1 r q
end
structure ar (N P:List Str) (sc:Scope):Prop where
 kind:sc.kind=.function
 co:sc.isCoroutine=false
 gen:sc.isGenerator=false
 nd:N.Nodup
 pre:N.take P.length=P
 par:∀ x∈P,sc.names.lookup x=some .local\/sc.names.lookup x=some .cell
 nofree:∀ y∈sc.names,y.2≠.free
theorem eu {N P:List Str} {sc:Scope} (a:sc.kind=.function:=by rfl) (b:sc.isCoroutine=false:=by rfl) (c:sc.isGenerator=false:=by rfl) (d:N.Nodup:=by decide +kernel) (e:N.take P.length=P:=by rfl) (f:∀ x∈P,sc.names.lookup x=some .local\/sc.names.lookup x=some .cell:=by decide +kernel) (g:∀ y∈sc.names,y.2≠.free:=by decide +kernel):ar N P sc:=⟨a,b,c,d,e,f,g⟩
theorem oF {kindOf:Str->Hn NameKind} {x:Str}:∀ {binds:List (Str×Hl)} {m:Str->Hn Hl},(∀ v,(x,v)∉binds)->bindL kindOf binds m x=m x
 | [],_,_=>rfl
 | (n,v)::r,m,h=>by
  unfold bindL;rw [oF λw hw=>h w (Gz _ hw)]
  split
  ·have:x≠n:=by rintro rfl; exact h v Gy
   simp [this]
  ·rfl
theorem oP {kindOf:Str->Hn NameKind} {x:Str}:∀ {binds:List (Str×Hl)} {m:Str->Hn Hl},(∀ v,(x,v)∉binds)->bindC kindOf binds m x=m x
 | [],_,_=>rfl
 | (n,v)::r,m,h=>by
  unfold bindC;rw [oP λw hw=>h w (Gz _ hw)]
  split
  ·rfl
  ·have:x≠n:=by rintro rfl; exact h v Gy
   simp [this]
theorem oR {kindOf:Str->Hn NameKind} {x:Str} {v:Hl}:∀ {P:List Str} {vs:List Hl} {i:Nat} {m:Str->Hn Hl},P.Nodup->P[i]?=some x->vs[i]?=some v->kindOf x=some .local->
  bindL kindOf (P.zip vs) m x=some v
 | [],_,_,_,_,h,_,_=>by simp at h
 | _::_,[],_,_,_,_,h,_=>by simp at h
 | p::P,w::vs,0,m,nd,h1,h2,hk=>by
  simp at h1 h2; subst h1; subst h2
  show bindL kindOf ((p,w)::P.zip vs) m p=_
  unfold bindL;rw [oF λv hv=>(List.nodup_cons.mp nd).1 (List.of_mem_zip hv).1,if_pos hk]
  simp
 | p::P,w::vs,i+1,m,nd,h1,h2,hk=>by
  show bindL kindOf ((p,w)::P.zip vs) m x=_
  unfold bindL;exact oR (i:=i) (List.nodup_cons.mp nd).2 (by simpa using h1) (by simpa using h2) hk
theorem o0 {kindOf:Str->Hn NameKind} {x:Str} {v:Hl}:∀ {P:List Str} {vs:List Hl} {i:Nat} {m:Str->Hn Hl},P.Nodup->P[i]?=some x->vs[i]?=some v->kindOf x≠some .local->
  bindC kindOf (P.zip vs) m x=some v
 | [],_,_,_,_,h,_,_=>by simp at h
 | _::_,[],_,_,_,_,h,_=>by simp at h
 | p::P,w::vs,0,m,nd,h1,h2,hk=>by
  simp at h1 h2; subst h1; subst h2
  show bindC kindOf ((p,w)::P.zip vs) m p=_
  unfold bindC;rw [oP λv hv=>(List.nodup_cons.mp nd).1 (List.of_mem_zip hv).1,if_neg hk]
  simp
 | p::P,w::vs,i+1,m,nd,h1,h2,hk=>by
  show bindC kindOf ((p,w)::P.zip vs) m x=_
  unfold bindC;exact o0 (i:=i) (List.nodup_cons.mp nd).2 (by simpa using h1) (by simpa using h2) hk
def start (N:List Str) (vs:List V):St:=vs.map some++List.replicate (N.length - vs.length) none
def bW (CX:vx) (P:Hq) (w:Ht) (K:PySem.W.Frag) (mg:Str->Hn Hl) (base:Hu) (N:List Str) (HB:Str) (scope:Scope) (f:Hm) (cd:Hl) (A:Hr) (outer:List Env) (s:Hk) (H:Hp) (E:XK):Cx where
 prog:=P
 w:=w
 K:=K
 mg:=mg
 base:=base
 A:=A.deeper (envOfC HB scope s.heap.objs.size f cd)
 N:=N
 s₀:=s
 H₀:=H
 env:=envOfC HB scope s.heap.objs.size f cd
 outer:=outer
 stack:=envOfC HB scope s.heap.objs.size f cd::outer
 ex:=[]
 calm:=true
 fn:=λ_=>true
 pn:=[]
 xe:=λe s'=>wpAny (model P w) (A.deeper (envOfC HB scope s.heap.objs.size f cd)) (leaving (envOfC HB scope s.heap.objs.size f cd) e) (λ_ s''=>CX outer H s E e s'') (λe' s''=>CX outer H s E e' s'') s'
theorem qR {sc:Scope} {n:Nat} {x:Str} (h:sc.names.lookup x=some .cell):∃ c,(cellsFrom n sc.names []).lookup x=some c:=by
 have q:=PySem.W.cellsFrom_some sc.names n [] (.inl h);exact Hi.mp q
theorem oB {CX:vx} {P:Hq} {w:Ht} {K:PySem.W.Frag} {mg:Str->Hn Hl} {base:Hu} {N ps:List Str} {HB:Str} {scope:Scope} {f:Hm} {cd:Hl} {A:Hr} {outer:List Env} {s s1:Hk} {H:Hp} {E:XK} {us:List Hl} {vs:List V}
  (S:ar N ps scope) (hd:A.handled=none) (e0:qV P w K mg base A outer s H) (hl:vs.length=ps.length) (r:bb vs us)
  (x:InCallC s s.heap.objs.size (bindL (envOfC HB scope s.heap.objs.size f cd).kindOf (ps.zip us) λ_=>none) (cellsFrom (s.heap.objs.size+1) scope.names []) (bindC (envOfC HB scope s.heap.objs.size f cd).kindOf (ps.zip us) λ_=>none) s1):
  av (bW CX P w K mg base N HB scope f cd A outer s H E) [] (start N vs) H s1:=by
 have hpl:ps.length<=N.length:=by have:=congrArg List.length S.pre; rw [List.length_take] at this; omega
 obtain⟨h1,tk,rfl,hk⟩:=x.done;have noA:∀ b:Hm,b∉(bW CX P w K mg base N HB scope f cd A outer s H E).ex:=λb z=>absurd (show b∈([]:List Hm) from z) (by simp)
 refine⟨⟨e0.mod,S.kind,rfl,rfl,Gq _,λy z c h1 h2=>?_,λy hy=>?_,λy c _ h=>?_,λ_=>hd,Around.frames_deeper e0.frames,.inr ⟨rfl,rfl⟩,λb z=>absurd z (noA b),e0.bs,e0.bsz,λb _ _=>noA b,λb z=>absurd z (noA b),e0.funs,e0.frf⟩,
  rfl,e0.bare,Un.kept hk,⟨_,x.toInCall.ns,λi y v h1 h2 h3=>?_⟩,λy c h=>⟨_,x.cell y c h⟩,e0.hok.fresh (Gq _),λy c h=>?_,λp hp=>absurd (show p∈([]:List (Hm×Hz)) from hp) (by simp),e0.hok.kept hk,?_⟩
 ·exact name_of_addr x.apart (G4 h1) (G4 h2)
 ·have hy:scope.names.lookup y=some .cell\/scope.names.lookup y=some .free:=hy;rcases hy with hy | hy
  ·exact qR hy
  ·exact absurd rfl (S.nofree _ (G4 hy))
 ·exact Nat.le_of_lt (x.above y c (G4 h))
 ·have hi:i < vs.length:=by
   unfold start at h2
   by_cases hi:i < vs.length
   ·exact hi
   ·rw [List.getElem?_append_right (by simpa using hi)] at h2
    rw [List.getElem?_replicate] at h2
    split at h2 <;> cases h2
  have ha:vs[i]?=some v:=by
   unfold start at h2;rw [List.getElem?_append_left (by simpa using hi),GP] at h2
   cases e:vs[i]? with
   | none=>rw [e] at h2; cases h2
   | some a=>rw [e] at h2; cases h2; rfl
  obtain⟨u,hu,rv⟩:=r.get ha;have hp:ps[i]?=some y:=by
   rw [<- S.pre,List.getElem?_take_of_lt (by omega)]; exact h1
  have ndP:ps.Nodup:=by rw [<- S.pre]; exact S.nd.sublist (List.take_sublist _ _)
  refine⟨u,rv,?_⟩;rcases S.par y (List.mem_of_getElem? hp) with k | k
  ·exact .inl ⟨k,oR ndP hp hu k⟩
  ·obtain⟨c,e⟩:=qR (n:=s.heap.objs.size+1) k;refine .inr ⟨.inl k,c,e,?_⟩;have q:=x.cell y c e;rw [o0 ndP hp hu (by show scope.names.lookup y≠_; rw [k]; decide)] at q
   exact q
 ·exact e0.hok.fresh (Nat.le_of_lt (x.above y c (G4 h)))
 ·unfold start
  show _=N.length
  rw [GH,Gr,List.length_replicate];omega
theorem zU {CX:vx} {P:Hq} {w:Ht} {K:PySem.W.Frag} {mg:Str->Hn Hl} {base:Hu} {k:Nat} {f:Hm} {name HB:Str} {params:Arguments} {body:List Hv} {scope:Scope} {dV kV doc pm cdv ct oc:Hl} {an od:Hn Hm}
  {osl:Hw (Hn Hl)} {N ps:List Str} {sp:Sp} (lk:K.lookup f=some ⟨oc,od,.func (PySem.W.fnOf name HB params body scope dV kV doc pm an cdv ct),osl⟩) (hcd:PySem.W.codeIn K cdv HB=true) (S:ar N ps scope)
  (len:∀ vs H Q E,sp vs H Q E->vs.length=ps.length)
  (hbody:∀ (A:Hr) (outer:List Env) (s:Hk) (H:Hp) (vs:List V) (Q:VK) (E:XK),ce k (A.deeper (envOfC HB scope s.heap.objs.size f cdv))->sp vs H Q E->
   ∃ t,nJ (bW CX P w K mg base N HB scope f cdv A outer s H E) body t/\t {nx:=λ_ H'=>Q .non H',rt:=Q} (start N vs) H):
  aJ P w K mg base CX (k+1) f (PySem.W.fnOf name HB params body scope dV kV doc pm an cdv ct) ps sp:=by
 refine⟨len,λA outer s H args us vs Q E hr e0 hb r hsp=>?_⟩
 have hl:=len _ _ _ _ hsp;have KX:K.In s.heap:=e0.mod.kin.keeps λb o e=>(e0.bs b o e).1
 have lim:s.heap.NoLimit:=e0.mod.nolimit.keeps λb o e=>(e0.bs b o e).1
 have hkind:∀ y∈ps.zip us,scope.names.lookup y.1=some .local\/(scope.names.lookup y.1=some .cell/\((cellsFrom (s.heap.objs.size+1) scope.names []).lookup y.1).isSome=true):=λ⟨n,v⟩ hy=>by
  rcases S.par n (List.of_mem_zip hy).1 with q | q
  ·exact .inl q
  ·exact .inr ⟨q,PySem.W.cellsFrom_some _ _ _ (.inl q)⟩
 refine codeAny_call_function hr.depth (KX _ _ lk) rfl S.co S.gen rfl (PySem.W.codeRec_of KX hcd) (hb _ _ _ _ ?_);refine wpAny_newFunctionEnv_cells S.kind hkind λenv he s1 x=>?_
 subst he;refine⟨lim.keeps x.toInCall.keep,codeAny_func ?_⟩;obtain⟨t,ht,hq⟩:=hbody A outer s H vs Q E (hr.deeper _) hsp;have I:av (bW CX P w K mg base N HB scope f cdv A outer s H E) [] (start N vs) H s1:=oB S hr.hd e0 hl r x;refine GX (ht [] s1 (start N vs) H _ I hq) (λfl s' hs=>?_) λe s' hs=>hs
 have fin:∀ {σ':St} {H':Hp} {v:V} {u:Hl},av (bW CX P w K mg base N HB scope f cdv A outer s H E) [] σ' H' s'->bh v u->Q v H'->CE outer P w H s Q u s':=
  λ{σ' H' v u} J rv q=>⟨v,H',J.os,J.bare,J.base,J.hok,rv,q⟩
 cases fl with
 | ret u=>
  obtain⟨v,σ',H',J,rv,q⟩:=hs;exact fin J rv q
 | next=>
  obtain⟨σ',H',J,q⟩:=hs;exact fin (v:=V.non) (u:=Value.none) J rfl q
 | brk=>
  obtain⟨_,_,_,q⟩:=hs;exact False.elim q
 | cont=>
  obtain⟨_,_,_,q⟩:=hs;exact False.elim q
section
variable {X:Cx} {x:Str} {p pos:Pos} {e:Ho} {es:List Ho} {t:TA} {id T:Hy} {r:List V->Hp->VK->Prop}
def Fv (r:List V->Hp->VK->Prop) (t:TA):TE:=fun σ H Q=>t σ H λvs H1=>r vs H1 Q
theorem wW (hc:dW X (.builtin id) r) (hg:Gl X x) (hm:X.mg x=none) (hv:bootBuiltins x=some (.builtin id)) (ha:PA X (e::es) t) (hn:x≠"__name__":=by decide) (hdb:(x == ("__debug__":Str))=false:=by decide)
  (he:starEach (e::es) X.env=(false,eval e X.env)::starEach es X.env:=by rfl) (hpl:(backTo pos (starEach es X.env)).any (·.1)=false:=by rfl):PE X (.Call (.Name x p) (e::es) [] pos) (Fv r t):=by
 intro HA s σ H Q I h;refine wpAny_Call_Name_kw (lC I hg hm hv ?_ hn hdb);exact PyProof.Rows.callWith_builtin1 (bB (ha pos HA s σ H _ I h) λus s1 z9=>by obtain⟨vs,H1,I1,r1,q1⟩:=z9; exact hc HA s1 σ H1 vs us Q I1 r1 q1) he hpl
theorem vi (hc:dW X (.type T) r) (hg:Gl X x) (hm:X.mg x=none) (hv:bootBuiltins x=some (.type T)) (ha:PA X (e::es) t) (hn:x≠"__name__":=by decide) (hdb:(x == ("__debug__":Str))=false:=by decide)
  (he:starEach (e::es) X.env=(false,eval e X.env)::starEach es X.env:=by rfl) (hpl:(backTo pos (starEach es X.env)).any (·.1)=false:=by rfl):PE X (.Call (.Name x p) (e::es) [] pos) (Fv r t):=by
 intro HA s σ H Q I h;refine wpAny_Call_Name_kw (lC I hg hm hv ?_ hn hdb);exact PyProof.Rows.callWith_type1 (bB (ha pos HA s σ H _ I h) λus s1 z9=>by obtain⟨vs,H1,I1,r1,q1⟩:=z9; exact hc HA s1 σ H1 vs us Q I1 r1 q1) he hpl
end
end L2
namespace HT
open PySem PyProof.Rows
section
variable {prog:Hq} {w:Ht} {A:Hr} {E:Hl->Hk->Prop} {s:Hk}
theorem za {t b:Hm} {vs ws:List Hl} {Q:Hl->Hk->Prop} (ht:IsTup s.heap t vs.toArray) (hb:IsTup s.heap b ws.toArray) (hv:vs≠[])
  (h1:ws=[]->Q (.ref t) s) (h2:ws≠[]->Q (.ref s.heap.objs.size) {s with heap:=s.heap.push {cls:=.type "tuple",data:=.seq (vs++ws).toArray}})
  (hsz:vs.length+ws.length<=sizeLine):wpAny (model prog w) A (binaryOp .Add (.ref t) (.ref b)) Q E s:=by
 obtain⟨⟨cls,dd,data,sl⟩,ho,hc,n,hd⟩:=id ht;obtain⟨⟨cls2,dd2,data2,sl2⟩,ho2,hc2,n2,hd2⟩:=id hb;simp only at hc hd hc2 hd2
 subst hc hd hc2 hd2;have e:vs.toArray++ws.toArray=(vs++ws).toArray:=by simp
 by_cases hw:ws=[]
 ·exact concat_meets ⟨_,ho,rfl⟩ ⟨_,ho2,rfl⟩ noFill_tuple_add seq_tuple_add PySem.F.slot_tuple_add PySem.F.entry_tuple_add (PySem.F.args_tuple_add_2 _ _)
   (tuple_addW1 t b vs.toArray ws.toArray n n2 dd dd2 sl sl2 (by simpa using hv) (by simp [hw])) ⟨ho,ho2,h1 hw⟩
 ·refine concat_meets ⟨_,ho,rfl⟩ ⟨_,ho2,rfl⟩ noFill_tuple_add seq_tuple_add PySem.F.slot_tuple_add PySem.F.entry_tuple_add (PySem.F.args_tuple_add_2 _ _)
   (tuple_addW2 t b vs.toArray ws.toArray n n2 dd dd2 sl sl2 (by simpa using hv) (by simpa using hw) (by rw [Gv,Gv]; exact hsz)) ⟨ho,ho2,?_⟩
  rw [e];exact h2 hw
def cS (n d:Nat):Hn Int->Nat
 | none=>d
 | some v=>if v < 0 then(v+(n:Int)).toNat else min v.toNat n
theorem Ax (n d:Nat) (hd:d<=n) (o:Hn Int):cS n d o<=n:=by
 cases o with
 | none=>exact hd
 | some v=>
  show(if v < 0 then(v+(n:Int)).toNat else min v.toNat n)<=n
  by_cases hv:v < 0
  ·rw [if_pos hv]; omega
  ·rw [if_neg hv]; exact Nat.min_le_right _ _
theorem tV (v:Int) (n d:Nat):(if v < 0 then max (v+(n:Int)) 0 else min v (n:Int))=((cS n d (some v):Nat):Int):=by
 show(if v < 0 then max (v+(n:Int)) 0 else min v (n:Int))=(((if v < 0 then(v+(n:Int)).toNat else min v.toNat n):Nat):Int)
 by_cases hv:v < 0
 ·simp only [if_pos hv]; omega
 ·simp only [if_neg hv]; omega
theorem sW (lo hi:Hn Int) (n:Nat):Builtin.Slice.sliceAdjust lo hi 1 (n:Int)=(((cS n 0 lo:Nat):Int),((cS n n hi:Nat):Int)):=by
 have h1:¬ ((1:Int) < 0):=by omega
 unfold Builtin.Slice.sliceAdjust;simp only [h1,if_false];refine GG ?_ ?_
 ·cases lo with
  | none=>rfl
  | some v=>exact tV v n 0
 ·cases hi with
  | none=>rfl
  | some v=>exact tV v n n
theorem sr (i j:Nat):Builtin.Slice.slicePlaces (i:Int) (j:Int) 1=j - i:=by
 unfold Builtin.Slice.slicePlaces;have h1:(1:Int) > 0:=by omega
 simp only [h1,if_true,Int.ediv_one]
 split <;> omega
theorem m8 {v:Hl} {o:Hn Int} {Q:Hn Int->Hk->Prop} (p:IsPart v o) (h:Q o s):wpAny (model prog w) A (Builtin.Slice.slicePartIndex v) Q E s:=by
 cases p with
 | none=>exact slicePart_none h
 | int i t=>exact slicePart_int h
theorem hJ {sl:Hm} {vl vu:Hl} {lo hi:Hn Int} {n:Nat} {Q:Int×Int×Nat->Hk->Prop} (hs:s.heap.IsSliceOf sl vl vu .none) (pl:IsPart vl lo) (pu:IsPart vu hi)
  (h:Q (((cS n 0 lo:Nat):Int),1,cS n n hi - cS n 0 lo) s):wpAny (model prog w) A (Builtin.Slice.sliceApplied (.ref sl) (pure (n:Int))) Q E s:=by
 obtain⟨os,hos,hcs,hds⟩:=id hs;unfold Builtin.Slice.sliceApplied Builtin.Slice.sliceFields;refine pp (pp (GY hos hds (x:=vl) rfl (pp (GY hos hds (x:=vu) rfl (pp (GY hos hds (x:=.none) rfl (Gj ?_)))))));refine pp (slicePart_none ?_)
 show wpAny _ _ (if ((1:Int) == 0)=true then _ else _) _ _ s
 rw [if_neg (by decide)]
 refine pp (m8 pl (pp (m8 pu (pp (Gj ?_)))))
 show wpAny _ _ (match Builtin.Slice.sliceAdjust lo hi 1 (n:Int) with | (lo,hi)=>pure (lo,(1:Int),Builtin.Slice.slicePlaces lo hi 1)) _ _ s
 rw [sW lo hi n]
 show wpAny _ _ (pure (((cS n 0 lo:Nat):Int),(1:Int),Builtin.Slice.slicePlaces ((cS n 0 lo:Nat):Int) ((cS n n hi:Nat):Int) 1)) _ _ s
 rw [sr];exact Gj h
theorem vO (xs:Hw Hl) (i k:Nat):((List.range k).filterMap fun(m:Nat)=>xs[((i:Int)+(m:Int)*1).toNat]?).toArray=((xs.toList.drop i).take k).toArray:=by
 have e:(λ(m:Nat)=>xs[((i:Int)+(m:Int)*1).toNat]?)=λm=>xs[i+m]?:=by
  funext m
  have:((i:Int)+(m:Int)*1).toNat=i+m:=by omega
  rw [this]
 rw [e];have:=pick_run xs i k;rw [List.filterMap_map] at this;have e2:((λx=>xs[x]?) ∘ λx=>i+x)=λm=>xs[i+m]?:=rfl
 rw [e2] at this;rw [this]
theorem kW {t sl:Hm} {items:Hw Hl} {vl vu:Hl} {lo hi:Hn Int} {Q:Hl->Hk->Prop} (ht:IsTup s.heap t items) (hs:s.heap.IsSliceOf sl vl vu .none) (pl:IsPart vl lo) (pu:IsPart vu hi)
  (hw:¬ (cS items.size 0 lo=0/\cS items.size items.size hi=items.size))
  (h:Q (.ref s.heap.objs.size) {s with heap:=s.heap.push {cls:=.type "tuple",data:=.seq ((items.toList.drop (cS items.size 0 lo)).take (cS items.size items.size hi - cS items.size 0 lo)).toArray}})
  (hsz:items.size<=sizeLine):wpAny (model prog w) A (getItem (.ref t) (.ref sl)) Q E s:=by
 have htake:sizeOk (.seq ((items.toList.drop (cS items.size 0 lo)).take (cS items.size items.size hi - cS items.size 0 lo)).toArray):=by
  show((items.toList.drop (cS items.size 0 lo)).take (cS items.size items.size hi - cS items.size 0 lo)).toArray.size<=sizeLine
  rw [Gv,List.length_take,List.length_drop,Array.length_toList];omega
 have hj:cS items.size items.size hi<=items.size:=Ax _ _ (Gq _) hi;obtain⟨os,hos,hcs,hds⟩:=id hs;have hTs:s.TypeIs (.ref sl) "slice":=⟨os,hos,hcs⟩
 unfold getItem
 try with_reducible refine GM ?_
 first | refine pp (Gj ?_) | skip
 refine pp (wpAny_sequenceKey ht.typeIs (by decide) ?_)
 refine pp (Hf (name:=Str.ofString "__getitem__") ht.typeIs PyProof.Rows.slot_tuple_getitem
  (G7 PyProof.Rows.slot_tuple_getitem ht.typeIs entry_tuple_getitem ?_ (args_tuple_getitem _ _)))
 show wpAny _ _ (Builtin.Tuple.tupleItemsOf (.ref t) >>= _) _ _ s
 refine pp (tupleItemsOf_ ht ?_);refine pp (wpAny_typeOf hTs ?_);rw [if_pos (by decide)]
 refine pp (hJ hs pl pu ?_);have hno:¬ ((((cS items.size 0 lo:Nat):Int) == 0 && (1:Int) == 1 && (cS items.size items.size hi - cS items.size 0 lo) == items.size)=true):=by
  intro q;rw [G3,G3] at q;have q1:((cS items.size 0 lo:Nat):Int)=0:=eq_of_beq q.1.1;have q2:cS items.size items.size hi - cS items.size 0 lo=items.size:=eq_of_beq q.2;exact hw ⟨by omega,by omega⟩
 show wpAny _ _ (if (((cS items.size 0 lo:Nat):Int) == 0 && (1:Int) == 1 && (cS items.size items.size hi - cS items.size 0 lo) == items.size)=true then _ else _) _ _ s
 rw [if_neg hno,vO]
 first
  | exact pp (m:=Builtin.Tuple.tupleExact _) (GO (Gj ⟨_,rfl,Gj h⟩) htake)
  | exact pp (m:=Builtin.Tuple.tupleExact _) (GO (pp (Gj (Gj ⟨_,rfl,Gj h⟩))) htake)
  | exact pp (pp (m:=Builtin.Tuple.tupleExact _) (GO (Gj (Gj ⟨_,rfl,Gj h⟩)) htake))
  | exact pp (pp (m:=Builtin.Tuple.tupleExact _) (GO (Gj ⟨_,rfl,Gj h⟩) htake))
end
end HT
namespace L2
open PySem PySem.Spec PyProof.Rows
abbrev TO:=St->Hp->(Hn Int->Hp->Prop)->Prop
def PO (X:Cx) (e:Hn Ho) (t:TO):Prop:=
 ∀ (HA:List (Hm×Hz)) (s:Hk) (σ:St) (H:Hp) (Q:Hn Int->Hp->Prop),av X HA σ H s->t σ H Q->
  wpAny (model X.prog X.w) X.A (evalPart e X.env) (λu s'=>∃ o H',av X HA σ H' s'/\IsPart u o/\Q o H') X.xe s
def yG:TO:=λ_ H Q=>Q none H
def Do (t:TE):TO:=fun σ H Q=>t σ H λx H1=>∃ i,x=.int i/\Q (some i) H1
section
variable {X:Cx} {e:Ho} {te:TE} {lo hi:Hn Ho} {tl th:TO} {pos p2:Pos}
theorem yr:PO X none yG:=by
 intro HA s σ H Q I h;rw [evalPart_none];exact Gj ⟨none,H,I,.none,h⟩
theorem zq (h:PE X e te):PO X (some e) (Do te):=by
 intro HA s σ H Q I hw;rw [evalPart_some];refine bB (h HA s σ H _ I hw) λu s1 z9=>?_
 obtain⟨x,H1,I1,r1,q1⟩:=z9;obtain⟨i,rfl,q⟩:=q1;obtain⟨t,rfl⟩:=r1;exact⟨some i,H1,I1,.int i t,q⟩
def yc (X:Cx) (r:V->Hn Int->Hn Int->Hp->VK->Prop):Prop:=
 ∀ (HA:List (Hm×Hz)) (s:Hk) (σ:St) (H:Hp) (x:V) (v vl vu:Hl) (lo hi:Hn Int) (sl:Hm) (Q:VK),av X HA σ H s->bh x v->s.heap.IsSliceOf sl vl vu .none->IsPart vl lo->IsPart vu hi->r x lo hi H Q->
  ∃ T id,typeLookup (.type T) "__getitem__"=pure (some (.builtin id))/\s.TypeIs v T/\wpAny (model X.prog X.w) X.A (getItem v (.ref sl)) (EP X HA σ Q) X.xe s
theorem yc.or {r r':V->Hn Int->Hn Int->Hp->VK->Prop} (h:yc X r) (h':yc X r'):yc X (λx lo hi H Q=>r x lo hi H Q\/r' x lo hi H Q):=by
 intro HA s σ H x v vl vu lo hi sl Q I rx hs pl pu q;rcases q with q | q
 ·exact h HA s σ H x v vl vu lo hi sl Q I rx hs pl pu q
 ·exact h' HA s σ H x v vl vu lo hi sl Q I rx hs pl pu q
def FS (r:V->Hn Int->Hn Int->Hp->VK->Prop) (te:TE) (tl th:TO):TE:=fun σ H Q=>te σ H λx H1=>tl σ H1 λl H2=>th σ H2 λu H3=>r x l u H3 Q
theorem mZ {r:V->Hn Int->Hn Int->Hp->VK->Prop} (hr:yc X r) (he:PE X e te) (hl:PO X lo tl) (hu:PO X hi th):PE X (.Subscript e (.Slice lo hi none p2) pos) (FS r te tl th):=by
 intro HA s σ H Q I h;refine Subscript_ (bB (he HA s σ H _ I h) λv s1 z9=>?_)
 obtain⟨x,H1,I1,r1,q1⟩:=z9;refine wpAny_Slice (bB (hl HA s1 σ H1 _ I1 q1) λvl s2 ⟨l,H2,I2,pl,q2⟩=>bB (hu HA s2 σ H2 _ I2 q2) λvu s3 z9=>?_)
 obtain⟨u,H3,I3,pu,q3⟩:=z9;rw [evalPart_none];refine Gj ?_;have I4:av X HA σ H3 {s3 with heap:=s3.heap.push {cls:=.type "slice",data:=.fields #[vl,vu,.none]}}:=I3.kept (t':=s3.toks) λb ob q=>Gi _ q
 obtain⟨T,id,hT,ht,hg⟩:=hr HA {s3 with heap:=s3.heap.push {cls:=.type "slice",data:=.fields #[vl,vu,.none]}} σ H3 x v vl vu l u s3.heap.objs.size Q I4 r1 (Heap.IsSliceOf.new ..) pl pu q3
 show wpAny (model X.prog X.w) X.A (subscriptTail e (.Slice lo hi none p2) v (.ref s3.heap.objs.size)) (EP X HA σ Q) X.xe {s3 with heap:=s3.heap.push {cls:=.type "slice",data:=.fields #[vl,vu,.none]}}
 exact tail_any (ops:=[.ref s3.heap.objs.size,v]) ht hT hg (by with_unfolding_all rfl)
def ly (xs:List V) (lo hi:Hn Int):List V:=(xs.drop (HT.cS xs.length 0 lo)).take (HT.cS xs.length xs.length hi - HT.cS xs.length 0 lo)
theorem lS (xs:List V) (lo hi:Hn Int):(ly xs lo hi).length<=xs.length:=by
 unfold ly;rw [List.length_take,List.length_drop];omega
def E7 (K:PySem.W.Frag):V->Hn Int->Hn Int->Hp->VK->Prop:=λx lo hi H Q=>∃ a xs,x=.ref a/\jN K H a xs/\
 ¬ (HT.cS xs.length 0 lo=0/\HT.cS xs.length xs.length hi=xs.length)/\∀ p,H p=none->Q (.ref p) (bt H p (.tup (ly xs lo hi)))
theorem xN:yc X (E7 X.K):=by
 intro HA s σ H x v vl vu lo hi sl Q I rx hs pl pu h;obtain⟨a,xs,rfl,hx,hw,q⟩:=h;cases rx;obtain⟨its,r,ht,hz⟩:=I.tuple hx;have hlen:its.toArray.size=xs.length:=by rw [Gv]; exact r.length.symm
 refine⟨"tuple",_,PyProof.Rows.slot_tuple_getitem.lookup,ht.typeIs,?_⟩
 refine HT.kW ht hs pl pu (by rw [hlen]; exact hw) ?_ (by rw [hlen]; exact hz)
 rw [hlen];refine⟨.ref s.heap.objs.size,_,I.laid (t':=s.toks) (o:=.tup (ly xs lo hi)) (λb ob q=>Gi _ q) (Gq _) ?_,rfl,q _ (I.hok.fresh (Gq _))⟩
 exact⟨GZ (lS xs lo hi) hz,_,(r.drop (HT.cS xs.length 0 lo)).take (HT.cS xs.length xs.length hi - HT.cS xs.length 0 lo),IsTup.new _ _⟩
def C8 (K:PySem.W.Frag):R2:=λx y H Q=>∃ a b xs ys,x=.ref a/\y=.ref b/\jN K H a xs/\jN K H b ys/\xs≠[]/\xs.length+ys.length<=sizeLine/\
 (ys=[]->Q (.ref a) H)/\(ys≠[]->∀ p,H p=none->Q (.ref p) (bt H p (.tup (xs++ys))))
theorem bb.nil_iff {xs:List V} {us:List Hl} (r:bb xs us):us=[]↔xs=[]:=by
 cases r with
 | nil=>simp
 | cons _ _=>simp
theorem uh:gn X (binaryOp .Add) (C8 X.K):=by
 intro HA s σ H x y v u Q I rx ry h;obtain⟨a,b,xs,ys,rfl,rfl,ha,hb,hx,hz,q1,q2⟩:=h;cases rx;cases ry;obtain⟨its,r1,p1,_⟩:=I.tuple ha;obtain⟨its2,r2,p2,_⟩:=I.tuple hb;refine HT.za p1 p2 (λz=>hx (r1.nil_iff.mp z)) (λz=>⟨.ref a,H,I,rfl,q1 (r2.nil_iff.mp z)⟩) (λz=>?_) (by rw [<- r1.length,<- r2.length]; exact hz)
 refine⟨.ref s.heap.objs.size,_,I.laid (t':=s.toks) (o:=.tup (xs++ys)) (λb ob q=>Gi _ q) (Gq _) ?_,rfl,q2 (λw=>z (r2.nil_iff.mpr w)) _ (I.hok.fresh (Gq _))⟩
 exact⟨by rw [GH]; exact hz,_,r1.append r2,IsTup.new _ _⟩
end
def xt (n:Nat) (i:Int):Hn Nat:=if 0<=i then(if i < n then some i.toNat else none) else if -(n:Int)<=i then some (i+n).toNat else none
def atI {α:Type} (xs:List α) (i:Int):Hn α:=(xt xs.length i).bind λj=>xs[j]?
theorem tG {n:Nat} {i:Int} {j:Nat} (h:xt n i=some j):seqIndex? i n=some j/\j < n/\-(n:Int)<=i/\i < n:=by
 unfold xt at h
 by_cases h0:0<=i
 ·rw [if_pos h0] at h
  by_cases h1:i < n
  ·rw [if_pos h1] at h;have e:i.toNat=j:=GS h;exact⟨by rw [seqIndex_of h0 h1,e],by omega,by omega,h1⟩
  ·rw [if_neg h1] at h; cases h
 ·rw [if_neg h0] at h
  by_cases h1:-(n:Int)<=i
  ·rw [if_pos h1] at h;have e:(i+n).toNat=j:=GS h;exact⟨by rw [seqIndex_neg (by omega) h1,e],by omega,h1,by omega⟩
  ·rw [if_neg h1] at h; cases h
theorem tW {α:Type} {xs:List α} {i:Int} {v:α} (h:atI xs i=some v):∃ j,seqIndex? i xs.length=some j/\xs[j]?=some v/\j < xs.length/\-(xs.length:Int)<=i/\i < xs.length:=by
 unfold atI at h;cases e:xt xs.length i with
 | none=>rw [e] at h; cases h
 | some j=>
  rw [e] at h;obtain⟨h1,h2,h3,h4⟩:=tG e;exact⟨j,h1,h,h2,h3,h4⟩
theorem io {α:Type} {xs:List α} {j:Nat} {v:α} (h:xs[j]?=some v):atI xs (j:Int)=some v:=by
 have hj:j < xs.length:=(GW.mp h).1;have e:xt xs.length (j:Int)=some j:=by
  unfold xt;rw [if_pos (by omega),if_pos (by omega)]; simp
 unfold atI; rw [e]; exact h
def tM (b:Ho):Prop:=∀ o i,subscripted b false o i=operate [o,i] (getItem o i)
def vp (X:Cx) (r:R2):Prop:=
 ∀ (value slice:Ho) (HA:List (Hm×Hz)) (s:Hk) (σ:St) (H:Hp) (x y:V) (v u:Hl) (Q:VK),av X HA σ H s->bh x v->bh y u->r x y H Q->
  subscripted slice false v u=operate [v,u] (getItem v u)->wpAny (model X.prog X.w) X.A (subscriptTail value slice v u) (EP X HA σ Q) X.xe s
def FF (X:Cx) (id:Hy) (r:V->List V->Hp->VK->Prop):Prop:=
 ∀ (HA:List (Hm×Hz)) (s:Hk) (σ:St) (H:Hp) (x:V) (xs:List V) (v:Hl) (us:List Hl) (Q:VK),av X HA σ H s->bh x v->bb xs us->r x xs H Q->
  wpAny (model X.prog X.w) X.A (call (.builtin id) (v::us)) (EP X HA σ Q) X.xe s
section
variable {X:Cx} {a b:Ho} {ta tb:TE} {pos:Pos}
theorem Ct {r:R2} (hr:vp X r) (ha:PE X a ta) (hb:PE X b tb) (hs:tM b):PE X (.Subscript a b pos) (CL r ta tb):=by
 intro HA s σ H Q I h;exact Subscript_ (BW ha hb I h λv u s2 x y H2 I2 rx ry q=>hr a b HA s2 σ H2 x y v u Q I2 rx ry q (hs _ _))
def Eu (K:PySem.W.Frag):R2:=λx y H Q=>∃ p xs i v,x=.ref p/\y=.int i/\ir K H p xs/\atI xs i=some v/\Q v H
def Fb (K:PySem.W.Frag):R2:=λx y H Q=>∃ p xs i v,x=.ref p/\y=.int i/\jN K H p xs/\atI xs i=some v/\Q v H
theorem tL:vp X (Eu X.K):=by
 intro value slice HA s σ H x y v u Q I rx ry h hs;obtain⟨p,xs,i,z,rfl,rfl,hq,he,q⟩:=h;cases rx;obtain⟨t,rfl⟩:=ry;obtain⟨its,r,pl,hz⟩:=I.list hq;obtain⟨j,h1,h2,h3,h4,h5⟩:=tW he;obtain⟨w,ew,rw'⟩:=r.get h2;have hl:=r.length;have hn:=qg;have fin:EP X HA σ Q w s:=⟨z,H,I,rw',q⟩
 by_cases h0:0<=i
 ·have hj:i.toNat=j:=by
   rw [seqIndex_of h0 h5] at h1;exact GS h1
  exact item_listR pl.isList h0 (by omega) (by rw [hj]; simpa using ew) fin hs
 ·have hj:(i+(its.toArray.size:Int)).toNat=j:=by
   rw [seqIndex_neg (by omega) h4] at h1
   rw [Gv,<- hl];exact GS h1
  exact subscriptTail_builtinR (x:=w) pl.isList.typeIs slot_list_getitem.lookup
   (wpAny_getItem_list_neg (Q:=λr s'=>r=w/\EP X HA σ Q r s') pl.isList (by omega) (by rw [Gv] <;> omega) (by omega) (by rw [hj]; simpa using ew) ⟨rfl,fin⟩) hs
theorem At:vp X (Fb X.K):=by
 intro value slice HA s σ H x y v u Q I rx ry h hs;obtain⟨p,xs,i,z,rfl,rfl,hq,he,q⟩:=h;cases rx;obtain⟨t,rfl⟩:=ry;obtain⟨its,r,pl,hz⟩:=I.tuple hq;obtain⟨j,h1,h2,h3,h4,h5⟩:=tW he;obtain⟨w,ew,rw'⟩:=r.get h2;have hl:=r.length;have hn:=qg;have fin:EP X HA σ Q w s:=⟨z,H,I,rw',q⟩;exact subscriptTail_builtinR (x:=w) pl.typeIs slot_tuple_getitem.lookup
  (getItem_tuple (j:=j) (Q:=λr s'=>r=w/\EP X HA σ Q r s') pl (by omega) (by omega) (by rw [Gv,<- hl]; exact h1) (by simpa using ew) ⟨rfl,fin⟩) hs
theorem sM (its:List Hl) (n j:Nat) (u:Hl):Obj.mapSeq (·.setIfInBounds j u) {cls:=.type "list",data:=.seq its.toArray n}={cls:=.type "list",data:=.seq (its.set j u).toArray n}:=by
 simp [Obj.mapSeq]
theorem av.lst {HA:List (Hm×Hz)} {σ:St} {H:Hp} {s:Hk} {p:Hm} {xs:List V} (I:av X HA σ H s) (h:H p=some (.lst xs)):
  ∃ (its:List Hl) (n:Nat),bb xs its/\s.heap.get? p=some {cls:=.type "list",data:=.seq its.toArray n}/\xs.length<=sizeLine:=by
 obtain⟨z,its,n,r,e⟩:=I.hok p _ h;exact⟨its,n,r,e,z⟩
theorem av.lstUpd {HA:List (Hm×Hz)} {σ:St} {H:Hp} {s:Hk} {p:Hm} {xs ys:List V} {its its':List Hl} {n n':Nat} {f:Hz->Hz} (I:av X HA σ H s) (h:H p=some (.lst xs))
  (ho:s.heap.get? p=some {cls:=.type "list",data:=.seq its.toArray n}) (hf:f {cls:=.type "list",data:=.seq its.toArray n}={cls:=.type "list",data:=.seq its'.toArray n'}) (r:bb ys its') (hz:ys.length<=sizeLine) (t:Nat):
  av X HA σ (bt H p (.lst ys)) {s with heap:=s.heap.update p f,toks:=t}:=by
 have e:(s.heap.update p f).get? p=some {cls:=.type "list",data:=.seq its'.toArray n'}:=by
  rw [G5 f ho (by rw [hf] <;> rfl),hf]
 refine I.write (x:=p) (e:=p) (by rw [h]; trivial) (.inl rfl) (λb u hb q=>(GR _ _ (Ne.symm hb)).trans q) ⟨_,e⟩ ?_
 exact⟨hz,its',n',r,e⟩
def Dq:V->V->V->Hp->(Hp->Prop)->Prop:=λo i v H Q=>∃ p xs k j,o=.ref p/\i=.int k/\H p=some (.lst xs)/\xt xs.length k=some j/\Q (bt H p (.lst (xs.set j v)))
theorem xW:DU X Dq:=by
 intro HA s σ H o i v ov iv u Q I ro ri rv h;obtain⟨p,xs,k,j,rfl,rfl,hp,hj,q⟩:=h;cases ro;obtain⟨t,rfl⟩:=ri;obtain⟨its,n,r,ho,hz⟩:=I.lst hp;obtain⟨h1,h2,h3,h4⟩:=tG hj;have hl:=r.length;have hn:=qg;have I':av X HA σ (bt H p (.lst (xs.set j v))) {s with heap:=s.heap.update p (Obj.mapSeq (·.setIfInBounds j u))}:=
  I.lstUpd hp ho (sM its n j u) (r.set rv j) (by rw [List.length_set]; exact hz) s.toks
 by_cases h0:0<=k
 ·have hk:k.toNat=j:=by
   rw [seqIndex_of h0 h4] at h1;exact GS h1
  exact PySem.W.ki_setAt ho h0 (by omega) (by rw [Gv,<- hl]; exact h4) (by rw [hk]; exact⟨_,I',q⟩)
 ·have hk:(k+(its.toArray.size:Int)).toNat=j:=by
   rw [seqIndex_neg (by omega) h3] at h1
   rw [Gv,<- hl];exact GS h1
  exact PySem.W.ki_setBack ho (by omega) (by rw [Gv,<- hl]; exact h3) (by omega) (by rw [hk]; exact⟨_,I',q⟩)
theorem p8 (lo hi:Hn Int) (n:Nat):(sliceBounds lo hi none n).1=((HT.cS n 0 lo:Nat):Int)/\(sliceBounds lo hi none n).2.1=((HT.cS n n hi:Nat):Int)/\(sliceBounds lo hi none n).2.2=1:=by
 refine⟨?_,?_,rfl⟩
 ·cases lo with
  | none=>simp [sliceBounds,HT.cS]
  | some i=>
   simp only [sliceBounds,HT.cS,Option.getD_none,show(1:Int) > 0 by decide,if_true]
   by_cases h:i < 0
   ·simp only [h,if_true] <;> omega
   ·simp only [h,if_false] <;> omega
 ·cases hi with
  | none=>simp [sliceBounds,HT.cS]
  | some i=>
   simp only [sliceBounds,HT.cS,Option.getD_none,show(1:Int) > 0 by decide,if_true]
   by_cases h:i < 0
   ·simp only [h,if_true] <;> omega
   ·simp only [h,if_false] <;> omega
theorem nW (its:List Hl) (lo hi:Hn Int):slicePick its.toArray lo hi none=((its.drop (HT.cS its.length 0 lo)).take (HT.cS its.length its.length hi - HT.cS its.length 0 lo)).toArray:=by
 obtain⟨h1,h2,h3⟩:=p8 lo hi its.toArray.size;unfold slicePick;rw [h1,h2,h3];simp only [sliceRange_one,pick_run,Gv] <;> rfl
def Ey (K:PySem.W.Frag):V->Hn Int->Hn Int->Hp->VK->Prop:=λx lo hi H Q=>∃ a xs,x=.ref a/\ir K H a xs/\∀ p,H p=none->Q (.ref p) (bt H p (.lst (ly xs lo hi)))
theorem tD:yc X (Ey X.K):=by
 intro HA s σ H x v vl vu lo hi sl Q I rx hs pl pu h;obtain⟨a,xs,rfl,hx,q⟩:=h;cases rx;obtain⟨its,r,ht,hz⟩:=I.list hx;have hlen:=r.length;refine⟨"list",_,slot_list_getitem.lookup,ht.isList.typeIs,?_⟩
 refine wpAny_getItem_list_slice ht.isList hs pl pu .none (by simp) ?_ (by rw [Gv] <;> omega)
 rw [nW,<- hlen];refine⟨.ref s.heap.objs.size,_,I.laid (t':=s.toks) (o:=.lst (ly xs lo hi)) (λb ob q=>Gi _ q) (Gq _) ?_,rfl,q _ (I.hok.fresh (Gq _))⟩
 exact⟨GZ (lS xs lo hi) hz,_,0,(r.drop (HT.cS xs.length 0 lo)).take (HT.cS xs.length xs.length hi - HT.cS xs.length 0 lo),Gk _ rfl⟩
theorem iL:dW X (.builtin "len") (λxs H Q=>∃ p ys,xs=[.ref p]/\(ir X.K H p ys\/jN X.K H p ys)/\Q (.int ys.length) H):=by
 intro HA s σ H xs us Q I r h;obtain⟨p,ys,rfl,hq,q⟩:=h;obtain⟨u,rfl,rx⟩:=xn r;cases rx;have hn:=qg;rcases hq with hq | hq
 ·obtain⟨its,r',pl,hz⟩:=I.list hq;have hlen:=r'.length;exact Calls.call_len_list pl.isList (by simp only [Gv] <;> omega) ⟨.int ys.length,H,I.tok _,⟨s.toks+1,by rw [Gv,hlen]⟩,q⟩
 ·obtain⟨its,r',pl,hz⟩:=I.tuple hq;have hlen:=r'.length;exact len_tuple pl (by simp only [Gv] <;> omega) ⟨.int ys.length,H,I.tok _,⟨s.toks+1,by rw [Gv,hlen]⟩,q⟩
theorem jQ:dW X (.type "tuple") (λxs H Q=>∃ p ys,xs=[.ref p]/\((ir X.K H p ys/\∀ l,H l=none->Q (.ref l) (bt H l (.tup ys)))\/(jN X.K H p ys/\Q (.ref p) H))):=by
 intro HA s σ H xs us Q I r h;obtain⟨p,ys,rfl,h⟩:=h;obtain⟨u,rfl,rx⟩:=xn r;cases rx;rcases h with ⟨hq,q⟩ | ⟨hq,q⟩
 ·obtain⟨its,r',pl,hz⟩:=I.list hq;have hlen:=r'.length;refine call_tuple_list pl.isList (λh' kp=>?_) (by simp only [Gv] <;> omega)
  have I1:av X HA σ H {s with heap:=h'}:=I.kept (t':=s.toks) kp
  have I2:av X HA σ (bt H h'.objs.size (.tup ys)) {s with heap:=h'.push {cls:=.type "tuple",data:=.seq its.toArray}}:=
   I1.laid (t':=s.toks) (λb o e=>Gi _ e) (Gq _) (show dg X.prog X.w _ _ _ (.tup ys) from⟨hz,its,r',IsTup.new _ _⟩)
  exact⟨.ref h'.objs.size,_,I2,rfl,q _ (I1.hok.fresh (Gq _))⟩
 ·obtain⟨its,r',pl,hz⟩:=I.tuple hq;exact call_tuple_same pl ⟨.ref p,H,I,rfl,q⟩
def E8 (K:PySem.W.Frag) (T:Hy) (x:V) (H:Hp):Prop:=match x with
 | .str _=>T="str"
 | .int _=>T="int"
 | .ref p=>(T="list"/\∃ xs,ir K H p xs)\/(T="tuple"/\∃ o,K.lookup p=some o/\o.cls=.type "tuple"/\o.dict=none)\/
   (T="dict"/\((∃ kvs,H p=some (.dK kvs))\/∃ kvs,H p=some (.dT kvs)))\/(T="set"/\∃ S n,H p=some (.set S n))
 | _=>False
theorem xX {HA:List (Hm×Hz)} {σ:St} {H:Hp} {s:Hk} {T:Hy} {x:V} {v:Hl} (I:av X HA σ H s) (r:bh x v) (ty:E8 X.K T x H):
  s.TypeIs v T/\∀ a,v=.ref a->∃ ob,s.heap.get? a=some ob/\ob.dict=none:=by
 cases x with
 | str z=>
  obtain⟨t,rfl⟩:=r;cases (show T="str" from ty)
  exact⟨typeIs_str s z t,λ_ e=>nomatch e⟩
 | int i=>
  obtain⟨t,rfl⟩:=r;cases (show T="int" from ty)
  exact⟨typeIs_int s i t,λ_ e=>nomatch e⟩
 | ref p=>
  cases r;rcases ty with ⟨rfl,xs,hq⟩ | ⟨rfl,o,hk,hc,hd⟩ | ⟨rfl,hk⟩ | ⟨rfl,S,n,hk⟩
  ·obtain⟨its,_,pl,_⟩:=I.list hq;refine⟨pl.isList.typeIs,λa e=>?_⟩
   cases e;obtain⟨o,n,e,c,hd,_⟩:=pl;exact⟨o,e,hd⟩
  ·refine⟨⟨o,I.kIn p o hk,hc⟩,λa e=>?_⟩
   cases e;exact⟨o,I.kIn _ o hk,hd⟩
  ·have z:∃ o,s.heap.get? p=some o/\o.ExactDict:=by
    rcases hk with ⟨kvs,hk⟩ | ⟨kvs,hk⟩
    ·obtain⟨_,_,_,_,o,_,_,e,ex,_⟩:=I.hok p _ hk;exact⟨o,e,ex⟩
    ·obtain⟨_,_,_,_,o,_,_,e,ex,_⟩:=I.hok p _ hk;exact⟨o,e,ex⟩
   obtain⟨o,e,ex⟩:=z;refine⟨⟨o,e,ex.1⟩,λa e2=>?_⟩
   cases e2;exact⟨o,e,ex.2.1⟩
  ·obtain⟨o,_,_,_,e,ex,_⟩:=I.hok p _ hk;refine⟨⟨o,e,ex.1⟩,λa e2=>?_⟩
   cases e2;exact⟨o,e,ex.2.1⟩
 | _=>exact False.elim ty
def EH (K:PySem.W.Frag) (T:Hy) (r:V->List V->Hp->VK->Prop) (to:TE):TE:=fun σ H Q=>to σ H λx H1=>E8 K T x H1/\r x [] H1 Q
def F0 (K:PySem.W.Frag) (T:Hy) (r:V->List V->Hp->VK->Prop) (to:TE) (t:TA):TE:=fun σ H Q=>to σ H λx H1=>E8 K T x H1/\t σ H1 λxs H2=>r x xs H2 Q
variable {o e:Ho} {es:List Ho} {to:TE} {t:TA} {name:Str} {apos cpos:Pos} {T id:Hy} {r:V->List V->Hp->VK->Prop}
theorem A5 (pa:PlainAttrs T) (slot:Slot T name id) (hty:typeOf (.builtin id)=pure (.type "method_descriptor")) (hm:FF X id r) (ho:PE X o to)
  (hbase:attributeBase o name X.env (eval o X.env)=eval o X.env:=by rfl) (hline:(apos.endLine == cpos.line)=true:=by rfl):PE X (.Call (.Attribute o name apos) [] [] cpos) (EH X.K T r to):=by
 intro HA s σ H Q I h;refine wpAny_Call_method0_late hbase hline (bB (ho HA s σ H _ I h) λv s1 z9=>?_)
 obtain⟨x,H1,I1,r1,ty,q1⟩:=z9;obtain⟨h1,h2⟩:=xX I1 r1 ty;exact⟨T,id,pa,slot,hty,h1,h2,Calls.callWith_builtin rfl (PySem.evalArgs_none (hm HA s1 σ H1 x [] v [] Q I1 r1 .nil q1))⟩
theorem zY (pa:PlainAttrs T) (slot:Slot T name id) (hty:typeOf (.builtin id)=pure (.type "method_descriptor")) (hm:FF X id r) (ho:PE X o to) (ha:PA X (e::es) t)
  (hbase:attributeBase o name X.env (eval o X.env)=eval o X.env:=by rfl)
  (hfew:((backTo cpos (starEach (e::es) X.env)).all (λx=>!x.1) && (backToKw cpos (keywordEach [] X.env)).all (λx=>x.1.isSome)
   && decide ((e::es).length+([]:List Keyword).length+(if ([]:List Keyword).isEmpty then 0 else 1) < 30))=true:=by rfl)
  (hline:(apos.endLine == cpos.line)=true:=by rfl) (hs:starEach (e::es) X.env=(false,eval e X.env)::starEach es X.env:=by rfl) (hplain:(backTo cpos (starEach es X.env)).any (·.1)=false:=by rfl):
  PE X (.Call (.Attribute o name apos) (e::es) [] cpos) (F0 X.K T r to t):=by
 intro HA s σ H Q I h;refine wpAny_Call_method_late hbase hfew hline rfl (bB (ho HA s σ H _ I h) λv s1 z9=>?_)
 obtain⟨x,H1,I1,r1,ty,q1⟩:=z9;obtain⟨h1,h2⟩:=xX I1 r1 ty;refine⟨T,id,pa,slot,hty,h1,h2,?_⟩;have hA:=ha cpos HA s1 σ H1 _ I1 q1;rw [hs] at hA ⊢;refine Calls.callWith_builtin (by show(false || (backTo cpos (starEach es X.env)).any (·.1))=false; rw [hplain] <;> rfl) (Calls.evalArgs_plain ?_)
 exact bB hA λus s2 z9=>by obtain⟨vs,H2,I2,r2,q2⟩:=z9; exact hm HA s2 σ H2 x vs v us Q I2 r1 r2 q2
end
def Fx (X:Cx) (id:Hy) (r:V->List V->Hp->VK->Prop):Prop:=
 ∀ (HA:List (Hm×Hz)) (s:Hk) (σ:St) (H:Hp) (x:V) (xs:List V) (v:Hl) (us:List Hl) (Q:VK),av X HA σ H s->bh x v->bb xs us->r x xs H Q->
  wpAny (model X.prog X.w) X.A (call (.builtin id) (v::us)) (EP X HA σ Q) X.xe s
theorem bb.one:∀ {x:V} {us:List Hl},bb [x] us->∃ u,us=[u]/\bh x u
 | _,_,.cons r .nil=>⟨_,rfl,r⟩
section
variable {X:Cx} {HA:List (Hm×Hz)} {σ:St} {H:Hp} {s:Hk} {l b:Hm} {xs ys zs:List V}
theorem av.lset {its its':List Hl} {n:Nat} {f:Hw Hl->Hw Hl} {t':Nat} (I:av X HA σ H s) (hH:H l=some (.lst xs))
  (e:s.heap.get? l=some {cls:=.type "list",data:=.seq its.toArray n}) (hf:f its.toArray=its'.toArray) (hv:bb ys its') (hz:ys.length<=sizeLine):
  av X HA σ (bt H l (.lst ys)) {s with heap:=s.heap.update l (Obj.mapSeq f),toks:=t'}:=by
 have q:=PySem.IsL.update e f;rw [hf] at q;refine I.write (x:=l) (e:=l) (by rw [hH]; exact trivial) (.inl rfl) (λb' u hb hu=>(GR s.heap (Obj.mapSeq f) (Ne.symm hb)).trans hu) ⟨_,q⟩ ?_
 exact⟨hz,its',_,hv,q⟩
theorem av.lnew {its:List Hl} {t':Nat} (I:av X HA σ H s) (hv:bb ys its) (hz:ys.length<=sizeLine):
  av X HA σ (bt H s.heap.objs.size (.lst ys)) {s with heap:=s.heap.push {cls:=.type "list",data:=.seq its.toArray},toks:=t'}:=
 I.laid (λ_ _ q=>Gi _ q) (Gq _) ⟨hz,its,0,hv,Gk _ rfl⟩
theorem av.fresh (I:av X HA σ H s):H s.heap.objs.size=none:=I.hok.fresh (Gq _)
theorem av.lstM (I:av X HA σ H s) (hH:H l=some (.lst xs)):xs.length<=sizeLine/\∃ (its:List Hl) (n:Nat),bb xs its/\xs.length=its.length/\s.heap.get? l=some {cls:=.type "list",data:=.seq its.toArray n}:=by
 obtain⟨z,its,n,r,e⟩:=I.hok l _ hH;exact⟨z,its,n,r,r.length,e⟩
theorem wj {n:Nat} (h:n<=sizeLine):Builtin.List.listTooLong n=false:=by
 unfold Builtin.List.listTooLong;exact G_ (by omega)
end
section
variable {X:Cx}
def yo:V->List V->Hp->VK->Prop:=λx vs H Q=>∃ l xs y,x=.ref l/\vs=[y]/\H l=some (.lst xs)/\xs.length < sizeLine/\Q .non (bt H l (.lst (xs++[y])))
theorem hU:Fx X "list.append" yo:=by
 intro HA s σ H x vs v us Q I rx rv h;obtain⟨l,xs,y,rfl,rfl,hH,hz,q⟩:=h;cases rx;obtain⟨u,rfl,ru⟩:=rv.one;obtain⟨z,its,n,r,hl,e⟩:=I.lstM hH;refine call_meets F.slot_list_append ⟨_,e,rfl⟩ F.entry_list_append (F.args_list_append_2 _ _) (PySem.list_append l its.toArray n u (by rw [Gv]; omega)) ⟨e,?_⟩
 refine⟨.non,_,I.lset (its':=its++[u]) hH e (by simp) (r.append (.cons ru .nil)) ?_,rfl,q⟩
 rw [GH,List.length_singleton];omega
def yD:V->List V->Hp->VK->Prop:=λx vs H Q=>∃ l b xs zs,x=.ref l/\vs=[.ref b]/\H l=some (.lst xs)/\H b=some (.lst zs)/\xs.length+zs.length<=sizeLine/\Q .non (bt H l (.lst (xs++zs)))
theorem uK:Fx X "list.extend" yD:=by
 intro HA s σ H x vs v us Q I rx rv h;obtain⟨l,b,xs,zs,rfl,rfl,hH,hB,hz,q⟩:=h;cases rx;obtain⟨u,rfl,ru⟩:=rv.one;cases ru;obtain⟨z,its,n,r,hl,e⟩:=I.lstM hH;obtain⟨z2,its2,n2,r2,hl2,e2⟩:=I.lstM hB;have hsz:its.toArray.size+its2.toArray.size<=sizeLine:=by rw [Gv,Gv]; omega
 have hlong:¬ (!its.toArray.isEmpty && Builtin.List.listTooLong (its.toArray.size+its2.toArray.size))=true:=by
  rw [wj hsz,Bool.and_false];exact Gs
 refine call_meets F.slot_list_extend ⟨_,e,rfl⟩ F.entry_list_extend (F.args_list_extend_2 _ _)
  (AutoSeq1.list_extend_list_list_0 l its.toArray n b its2.toArray n2 hlong (by rw [Gv]; omega) (by omega)) ⟨e,e2,?_⟩
 refine⟨.non,_,I.lset (its':=its++its2) hH e (by simp) (r.append r2) ?_,rfl,q⟩
 rw [GH];omega
def En:R2:=λx y H Q=>∃ l b xs zs,x=.ref l/\y=.ref b/\H l=some (.lst xs)/\H b=some (.lst zs)/\xs.length+zs.length<=sizeLine/\∀ p,H p=none->Q (.ref p) (bt H p (.lst (xs++zs)))
theorem Cc:gn X (binaryOp .Add) En:=by
 intro HA s σ H x y v u Q I rx ry h;obtain⟨l,b,xs,zs,rfl,rfl,hH,hB,hz,q⟩:=h;cases rx;cases ry;obtain⟨z,its,n,r,hl,e⟩:=I.lstM hH;obtain⟨z2,its2,n2,r2,hl2,e2⟩:=I.lstM hB;refine PySem.P.add_list e e2 ?_ (by rw [Gv,Gv]; omega)
 have ea:its.toArray++its2.toArray=(its++its2).toArray:=by simp
 rw [ea];exact⟨.ref _,_,I.lnew (t':=s.toks) (r.append r2) (by rw [GH]; omega),rfl,q _ I.fresh⟩
end
def bH (H:Hp) (a:Hm):Prop:=(∃ kvs,Rd H a (.dK kvs))\/∃ kvs,Rd H a (.dT kvs)
end L2
namespace Att
open PySem PySem.W PySem.Calls PyProof.Rows
theorem l8 {P:Params} {h:Hu}:∀ (ns:List Int) (vs:List Hl),WellAll P h vs (ns.map WData.int)->IntsAre vs ns:=by
 intro ns
 induction ns with
 | nil=>
  intro vs w;rw [List.map_nil] at w;cases w;exact .nil
 | cons n ns ih=>
  intro vs w;rw [List.map_cons] at w;cases w with
  | cons a b=>
   cases a;exact .cons _ _ (ih _ b)
theorem uy {l:OpenLaw} {n:Nat} (hn:l.most=some n) {P:Params} {h:Hu} {args:List WData} {vals:List Hl}
  (hpre:l.row.toRowW.claim.pre args=true) (hwl:WellAll P h vals args):
  ∃ a vs ns,vals=[Value.ref a]/\args=[WData.list (ns.map WData.int)]/\h.get? a=some {cls:=.type "list",data:=.seq vs.toArray}/\IntsAre vs ns/\ns.length<=n:=by
 have hsh:WShape.hasAll [] args [.list .int]=true:=(pre_splitW hpre).1;have hc:l.pre.holds [] {args:=args}=true:=(pre_splitW hpre).2;obtain⟨d,r,rfl,h1,h2⟩:=hasAllW_cons hsh;obtain rfl:=hasAllW_nil h2;obtain⟨xs,rfl,h3⟩:=hasW_list h1;obtain⟨ns,rfl⟩:=items_int h3;have hlen:ns.length<=n:=by
  unfold OpenLaw.pre at hc;have h4:(WTm.not (.lt (.lit (.int (n:Int))) (.len (.arg 0)))).holds [] {args:=[.list (ns.map .int)]}=true:=by
   have h4:=(holds_andW hc).1;rw [hn] at h4;exact h4
  have h5:=condW_of h4 (w_not (w_lt w_lit (w_len_list (w_arg rfl))));rw [Gr] at h5;refine Nat.le_of_not_lt λq=>?_
  have q':(n:Int) < ((ns.length:Nat):Int):=by omega
  first
   | (rw [decide_eq_true q'] at h5; exact absurd h5 (by decide))
   | (simp at h5; omega)
 cases hwl with
 | cons w1 w2=>
  cases w2;cases w1 with
  | list ho hall=>exact⟨_,_,ns,rfl,rfl,ho,l8 ns _ hall,hlen⟩
theorem vf (l:OpenLaw) (args:List WData):l.row.toRowW.claim.post args (.bool true) args=true:=
 postW_of (r:=l.row.toRowW) (X:=(true == true))
  (show WShape.has [] (.bool true) .bool=true by first | rfl | decide | simp [WShape.has,WShape.arms,WShape.armsAll])
  (show (WTm.eq .res (.lit (.bool true))).value [] {args:=args,res:=some (.bool true),after:=args}=some (.bool (true == true)) from w_eq_bool (w_res rfl) w_lit) rfl
theorem attach_call {l:OpenLaw} {n:Nat} {q:Hq} {loose:List Str} {XP:(Str->Hn Hl)->Hu->Prop} {YP:Ht->Hu->Prop} {d:DefRec}
  (hn:l.most=some n) (hdf:d.params.defaults=[])
  (call:∀ (w:Ht) (s₀ s₁:Hk) (mg mb:Str->Hn Hl) (fa:Hm) (o:Hz) (pm cd doc:Hl) (a:Hm) (vs:List Hl) (ns:List Int),
   Ground q loose [] XP w s₀ mg mb s₁.heap->YP w s₁.heap->
   s₁.heap.get? fa=some o->o.data=.func (docDef d.name d.params d.body d.scope pm cd doc)->s₁.heap.CodeRec cd d.name->mg d.name=some (.ref fa)->
   s₁.heap.get? a=some {cls:=.type "list",data:=.seq vs.toArray}->IntsAre vs ns->ns.length<=n->s₁.gens=#[]->
   codeAny (model l.prog w) callerA (.call (.ref fa) ⟨[.ref a],[]⟩) (λr s'=>r=.ok (.ret (.bool true))/\OldK s₁.heap s'.heap/\s'.os=s₁.os/\AllBare s'.gens) s₁):
  WalkO q loose XP YP l.row.toRowW d [] (λf vs=>PySem.call f vs):=by
 intro w s₀ s₁ mg mb G Y fa o pm cd doc dV kV ho hd hcd hD hmg hg args vals as hpre hlay hrd hwl hlo;obtain rfl:dV=.none:=Dflts.none hD hdf;obtain rfl:kV=.none:=Dflts.noKw hD;obtain⟨a,vs,ns,rfl,rfl,hobj,hints,hlen⟩:=uy hn hpre hwl;refine enter_call (codeAny_mono (call w s₀ s₁ mg mb fa o pm cd doc a vs ns G Y ho (fd_plain hd) hcd hmg hobj hints hlen hg) λr s' hq=>?_)
 obtain⟨rfl,h2,h3,h4⟩:=hq;exact⟨.inl ⟨.bool true,.bool true,[],rfl,λ_=>rfl,.bool true,vf l _,λ_=>⟨List.Pairwise.nil,λ_ hm=>(nomatch hm)⟩⟩,h2,h3,h4⟩
section
variable {prog:Hq} {w:Ht} {A:Hr} {E:Hl->Hk->Prop} {s:Hk} {K:Frag}
def E1 (h:Hu) (L d:Hm):List (Hm×Hz):=(List.range h.objs.size).filterMap λa=>if a=L\/a=d then none else(h.get? a).map λo=>(a,o)
end
end Att
namespace L2
open PySem PySem.Spec PyProof.Rows
theorem oJ:∀ {vs:List Hl} {ns:List Int},IntsAre vs ns->bb (ns.map V.int) vs
 | _,_,.nil=>.nil
 | _,_,.cons n t h=>.cons ⟨t,rfl⟩ (oJ h)
abbrev Gh {K:PySem.W.Frag} {h:Hu} (_:K.In h):PySem.W.Frag:=K
def yX (s:Hv) (j:Nat):Hv:=match s with
 | .ClassDef _ _ _ body _ _ _ _ _ _ _=>body.getD j (.Pass ⟨0,0,0,0⟩)
 | _=>.Pass ⟨0,0,0,0⟩
def c9 (s:Hv):Arguments:=match s with
 | .FunctionDef _ a _ _ _ _ _ _ _ _=>a
 | _=>{posonlyargs:=[],args:=[],vararg:=none,kwonlyargs:=[],kw_defaults:=[],kwarg:=none,defaults:=[]}
def bu (s:Hv):List Hv:=match s with
 | .FunctionDef _ _ b _ _ _ _ _ _ _=>b
 | _=>[]
def ai (s:Hv):Scope:=match s with
 | .FunctionDef _ _ _ _ _ _ sc _ _ _=>sc
 | _=>{kind:=.function,names:=[],isGenerator:=false,isCoroutine:=false}
abbrev cJ:vx:=λ_ _ _ _ _ _=>False
abbrev E0:XK:=λ_ _ _=>False
theorem Cv {X:Cx}:pO cJ X E0:=λ_ _ _ _ _ _ _ h=>h.elim
structure qz (K:PySem.W.Frag) (x HB:Str) (st:Hv) (f:Hm) (fd:FuncData):Prop where
 ex:∃ (oc:Hl) (od:Hn Hm) (kV doc pm:Hl) (an:Hn Hm) (cdv ct:Hl) (osl:Hw (Hn Hl)),
  fd=PySem.W.fnOf x HB (c9 st) (bu st) (ai st) .none kV doc pm an cdv ct/\K.lookup f=some ⟨oc,od,.func fd,osl⟩/\PySem.W.codeIn K cdv HB=true
 kp:PySem.W.keepIn K (.ref f)=true
section
variable {P:Hq} {w:Ht} {K:PySem.W.Frag} {mg:Str->Hn Hl} {base:Hu}
theorem qz.ok {x HB:Str} {st:Hv} {f:Hm} {fd:FuncData} {N ps:List Str} {k:Nat} {sp:Sp} (F:qz K x HB st f fd) (S:ar N ps (ai st)) (len:∀ vs H Q E,sp vs H Q E->vs.length=ps.length)
  (hbody:∀ (cdv:Hl) (A:Hr) (outer:List Env) (s:Hk) (H:Hp) (vs:List V) (Q:VK) (E:XK),ce k (A.deeper (envOfC HB (ai st) s.heap.objs.size f cdv))->sp vs H Q E->
   ∃ t,nJ (bW cJ P w K mg base N HB (ai st) f cdv A outer s H E).nox (bu st) t/\t {nx:=λ_ H'=>Q .non H',rt:=Q} (start N vs) H):aJ P w K mg base cJ (k+1) f fd ps sp:=by
 obtain⟨oc,od,kV,doc,pm,an,cdv,ct,osl,rfl,lk,hcd⟩:=F.ex;refine zU lk hcd S len λA outer s H vs Q E hr hsp=>?_
 obtain⟨t,h,q⟩:=hbody cdv A outer s H vs Q E hr hsp;exact⟨t,h.nox,q⟩
theorem qz.binds {x HB:Str} {st:Hv} {f:Hm} {fd:FuncData} {ps:List Str} (F:qz K x HB st f fd)
  (h:∀ (kV doc pm:Hl) (an:Hn Hm) (cdv ct:Hl) (us:List Hl),us.length=ps.length->bindArgs (PySem.W.fnOf x HB (c9 st) (bu st) (ai st) .none kV doc pm an cdv ct) ⟨us,[]⟩=pure (ps.zip us)):gL K fd ps []:=by
 obtain⟨oc,od,kV,doc,pm,an,cdv,ct,osl,rfl,lk,hcd⟩:=F.ex;exact .all (h kV doc pm an cdv ct)
theorem pV {x HB:Str} {st:Hv} {f:Hm} {oc:Hl} {od an:Hn Hm} {osl:Hw (Hn Hl)} {kV doc pm cdv ct:Hl} (l:K.lookup f=some ⟨oc,od,.func (PySem.W.fnOf x HB (c9 st) (bu st) (ai st) .none kV doc pm an cdv ct),osl⟩)
  (c:PySem.W.codeIn K cdv HB=true) (k:PySem.W.keepIn K (.ref f)=true):qz K x HB st f (PySem.W.fnOf x HB (c9 st) (bu st) (ai st) .none kV doc pm an cdv ct):=⟨⟨oc,od,kV,doc,pm,an,cdv,ct,osl,rfl,l,c⟩,k⟩
end
theorem vA {A B:Prop} (h:B):if false=true then A else B:=by
 rw [if_neg Gs];exact h
theorem wH {A B:Prop} (h:A):if true=true then A else B:=by
 rw [if_pos rfl];exact h
end L2
set_option linter.all false
namespace HM
theorem qT (a b:Int):Int.gcd b (a.fmod b)=Int.gcd a b:=by
 have h:=Int.gcd_sub_mul_right_right b a (a.fdiv b);rw [Int.fmod_def,Int.mul_comm b,h,Int.gcd_comm]
theorem tK (a b:Int) (h:b≠0):(a.fmod b).natAbs < b.natAbs:=by
 rcases Int.lt_or_gt_of_ne h with hb | hb
 ·have e:a.fmod b=-((-a).fmod (-b)):=by rw [Int.neg_fmod_neg,Int.neg_neg]
  have h1:=G8 (-a) (show 0 < -b by omega)
  have h2:=Hg (-a) (show 0 < -b by omega)
  omega
 ·have h1:=G8 a hb;have h2:=Hg a hb;omega
theorem rD (a:Int):((Int.gcd a 0:Nat):Int)=if a < 0 then -a else a:=by
 rw [Int.gcd_zero_right]
 split <;> omega
def vk (t b:Int):Int:=if b < 0 then -((Int.gcd t b:Nat):Int) else((Int.gcd t b:Nat):Int)
theorem vJ {t b:Int} (h:b≠0):vk t b≠0:=by
 have h1:Int.gcd t b≠0:=λe=>h (Int.gcd_eq_zero_iff.mp e).2
 unfold vk
 split <;> omega
theorem mm {t b:Int} (h:b≠0):t.fdiv (vk t b)=(Rat.divInt t b).num:=by
 have hg:((Int.gcd t b:Nat):Int) ∣ t:=Int.gcd_dvd_left t b;rw [Rat.num_divInt,Int.gcd_comm b t];unfold vk;rcases Int.lt_or_gt_of_ne h with hb | hb
 ·rw [if_pos hb,Int.sign_eq_neg_one_of_neg hb,Int.fdiv_eq_ediv_of_dvd (Int.neg_dvd.mpr hg),Int.ediv_neg,Int.neg_mul,Int.one_mul,Int.neg_ediv_of_dvd hg]
 ·rw [if_neg (by omega),Int.sign_eq_one_of_pos hb,Int.fdiv_eq_ediv_of_dvd hg,Int.one_mul]
theorem kr {t b:Int} (h:b≠0):b.fdiv (vk t b)=((Rat.divInt t b).den:Int):=by
 have hg:((Int.gcd t b:Nat):Int) ∣ b:=Int.gcd_dvd_right t b;rw [Rat.den_divInt,Int.gcd_comm b t,if_neg h];unfold vk;rcases Int.lt_or_gt_of_ne h with hb | hb
 ·rw [if_pos hb,Int.fdiv_eq_ediv_of_dvd (Int.neg_dvd.mpr hg),Int.ediv_neg,Int.natCast_ediv];rw [show ((b.natAbs:Nat):Int)=-b by omega,Int.neg_ediv_of_dvd hg]
 ·rw [if_neg (by omega),Int.fdiv_eq_ediv_of_dvd hg,Int.natCast_ediv]
  rw [show ((b.natAbs:Nat):Int)=b by omega]
theorem pI (a b:Rat):Rat.divInt (a.num*b.den+b.num*a.den) (a.den*b.den)=a+b:=by
 rw [Rat.add_def',Rat.mkRat_eq_div,GV]; simp [Rat.intCast_natCast]
theorem wn (a b:Rat):Rat.divInt (a.num*b.den - b.num*a.den) (a.den*b.den)=a - b:=by
 rw [Rat.sub_def',Rat.mkRat_eq_div,GV]; simp [Rat.intCast_natCast]
theorem rT (a b:Rat):Rat.divInt (a.num*b.num) (a.den*b.den)=a*b:=by
 rw [Rat.mul_def',Rat.mkRat_eq_div,GV]; simp [Rat.intCast_natCast]
theorem xk (a b:Rat):Rat.divInt (a.num*b.den) (a.den*b.num)=a / b:=by
 rw [Rat.div_def,<- Rat.num_divInt_den b,Rat.inv_divInt]
 conv=>rhs; rw [<- Rat.num_divInt_den a]
 rw [Rat.divInt_mul_divInt,Rat.num_divInt_den]
def iN:Nat->Nat
 | 0=>0
 | n+1=>if (iN n+1)*(iN n+1)<=n+1 then iN n+1 else iN n
theorem oV:∀ n,iN n*iN n<=n/\n < (iN n+1)*(iN n+1)
 | 0=>by decide
 | n+1=>by
  obtain⟨h1,h2⟩:=oV n;unfold iN
  split
  ·rename_i h
   refine⟨h,?_⟩;have:(iN n+1+1)*(iN n+1+1)=(iN n+1)*(iN n+1)+2*(iN n+1)+1:=by grind
   omega
  ·rename_i h
   exact⟨Nat.le_succ_of_le h1,Nat.lt_of_not_le h⟩
def iZ (n:Int):Int:=(iN n.toNat:Nat)
structure Rt (n r:Int):Prop where
 nn:0<=r
 le:r*r<=n
 lt:n < (r+1)*(r+1)
theorem jw {n:Int} (h:0<=n):Rt n (iZ n):=by
 obtain⟨h1,h2⟩:=oV n.toNat;refine⟨by unfold iZ; omega,?_,?_⟩
 ·unfold iZ;have:((iN n.toNat*iN n.toNat:Nat):Int)<=(n.toNat:Int):=Int.ofNat_le.mpr h1;rw [Int.natCast_mul] at this;omega
 ·unfold iZ;have:((n.toNat:Nat):Int) < (((iN n.toNat+1)*(iN n.toNat+1):Nat):Int):=Int.ofNat_lt.mpr h2;rw [Int.natCast_mul,Int.natCast_add] at this;rw [show ((n.toNat:Nat):Int)=n by omega] at this
  exact this
theorem kL {a b:Int} (ha:0<=a) (h:a<=b):a*a<=b*b:=Int.mul_le_mul h h ha (by omega)
theorem Rt.le_of {n r x:Int} (h:Rt n r) (hx:x*x<=n):x<=r:=by
 apply Int.not_lt.mp;intro hl;have:=kL (a:=r+1) (b:=x) (by have:=h.nn; omega) (by omega)
 have:=h.lt;omega
theorem Rt.uniq {n r q:Int} (h:Rt n r) (h':Rt n q):r=q:=Int.le_antisymm (h'.le_of h.le) (h.le_of h'.le)
theorem vw {n r:Int} (h:Rt n r):iZ n=r:=(jw (Int.le_trans (by have:=kL (Int.le_refl 0) h.nn; omega) h.le)).uniq h
theorem vE {n x:Int} (e:x*x=n):iZ n*iZ n=n:=by
 have h:Rt n x.natAbs:=by
  refine⟨by omega,?_,?_⟩
  ·rw [Int.natAbs_mul_self' x]; omega
  ·have:((x.natAbs:Int)+1)*((x.natAbs:Int)+1)=(x.natAbs:Int)*(x.natAbs:Int)+2*x.natAbs+1:=by grind
   rw [Int.natAbs_mul_self' x] at this;omega
 rw [vw h,Int.natAbs_mul_self' x];exact e
theorem um {n g r:Int} (hg:0 < g) (hr:0<=r) (h:r*r<=n):r<=(g+n / g) / 2:=by
 apply Int.not_lt.mp;intro hl;have h1:g+n / g+1<=2*r:=by omega
 have hn:0<=n:=by have:=kL (Int.le_refl 0) hr; omega
 have hq:0<=n / g:=Int.ediv_nonneg hn (by omega)
 have h2:=kL (a:=g+n / g+1) (b:=2*r) (by omega) h1
 have h3:n < (n / g+1)*g:=by
  have:=Int.lt_ediv_add_one_mul_self n hg;exact this
 have h4:0<=(g - (n / g+1))*(g - (n / g+1)):=by
  rw [<- Int.natAbs_mul_self' (g - (n / g+1))]; exact Int.natCast_nonneg _
 generalize n / g=q at*
 grind
theorem u_ {n g r:Int} (hn:0<=n) (h:Rt n r) (hg:r < g):(g+n / g) / 2 < g:=by
 have h0:=h.nn;have h1:n / g < r+1:=by
  apply Int.ediv_lt_of_lt_mul (by omega)
  have:=h.lt;have h2:(r+1)*(r+1)<=(r+1)*g:=Int.mul_le_mul_of_nonneg_left (by omega) (by omega)
  omega
 omega
def Bt (n:Nat) (x:Int):Prop:=x.natAbs < 2 ^ n
theorem m_ {m n:Nat} (h:m<=n):2 ^ m<=2 ^ n:=Nat.pow_le_pow_right (by decide) h
theorem Bt.mono {m n:Nat} {x:Int} (h:Bt m x) (hm:m<=n):Bt n x:=GA h (m_ hm)
theorem Bt.mul {m n:Nat} {x y:Int} (hx:Bt m x) (hy:Bt n y):Bt (m+n) (x*y):=by
 unfold Bt at*
 rw [Int.natAbs_mul,Nat.pow_add];exact Nat.mul_lt_mul'' hx hy
theorem Bt.add {m n:Nat} {x y:Int} (hx:Bt m x) (hy:Bt n y):Bt (max m n+1) (x+y):=by
 have h1:=hx.mono (Nat.le_max_left m n);have h2:=hy.mono (Nat.le_max_right m n);unfold Bt at*
 have:=Int.natAbs_add_le x y;rw [Nat.pow_succ];omega
theorem Bt.neg {m:Nat} {x:Int} (hx:Bt m x):Bt m (-x):=by unfold Bt at *; omega
theorem Bt.sub {m n:Nat} {x y:Int} (hx:Bt m x) (hy:Bt n y):Bt (max m n+1) (x - y):=by
 rw [Int.sub_eq_add_neg]; exact hx.add hy.neg
theorem Bt.le {m:Nat} {x y:Int} (hx:Bt m x) (h:y.natAbs<=x.natAbs):Bt m y:=Nat.lt_of_le_of_lt h hx
structure Sz (n:Nat) (q:Rat):Prop where
 num:Bt n q.num
 den:Bt n q.den
theorem Sz.mono {m n:Nat} {q:Rat} (h:Sz m q) (hm:m<=n):Sz n q:=⟨h.num.mono hm,h.den.mono hm⟩
theorem cN:∀ a b:Int,(a.fdiv b).natAbs<=a.natAbs
 | .ofNat 0,b=>by
  have e:Int.fdiv (.ofNat 0) b=0:=Int.zero_fdiv b;rw [e]; exact Ha _
 | .ofNat (k+1),.ofNat j=>Nat.div_le_self (k+1) j
 | .ofNat (k+1),.negSucc j=>Nat.succ_le_succ (Nat.div_le_self k (j+1))
 | .negSucc _,.ofNat 0=>Ha _
 | .negSucc k,.ofNat (j+1)=>Nat.succ_le_succ (Nat.div_le_self k (j+1))
 | .negSucc k,.negSucc j=>Nat.div_le_self (k+1) (j+1)
theorem Sz.divInt {n:Nat} {t b:Int} (ht:Bt n t) (hb:Bt n b) (h:b≠0):Sz n (Rat.divInt t b):=
 ⟨by rw [<- mm h]; exact ht.le (cN _ _),by rw [<- kr h]; exact hb.le (cN _ _)⟩
theorem pR (q:Rat):(q.den:Int)≠0:=by have:=q.den_nz; omega
theorem cf (p q:Rat):(p.den:Int)*q.den≠0:=Int.mul_ne_zero (pR p) (pR q)
theorem Sz.add {m n:Nat} {a b:Rat} (ha:Sz m a) (hb:Sz n b):Sz (m+n+1) (a+b):=by
 rw [<- pI];refine .divInt ?_ ?_ (cf a b)
 ·exact((ha.num.mul hb.den).add (hb.num.mul ha.den)).mono (by omega)
 ·exact(ha.den.mul hb.den).mono (by omega)
theorem Sz.sub {m n:Nat} {a b:Rat} (ha:Sz m a) (hb:Sz n b):Sz (m+n+1) (a - b):=by
 rw [<- wn];refine .divInt ?_ ?_ (cf a b)
 ·exact((ha.num.mul hb.den).sub (hb.num.mul ha.den)).mono (by omega)
 ·exact(ha.den.mul hb.den).mono (by omega)
theorem Sz.mul {m n:Nat} {a b:Rat} (ha:Sz m a) (hb:Sz n b):Sz (m+n) (a*b):=by
 rw [<- rT];exact .divInt (ha.num.mul hb.num) (ha.den.mul hb.den) (cf a b)
theorem rW {q:Rat} (h:q≠0):q.num≠0:=λe=>h (Rat.num_eq_zero.mp e)
theorem Sz.div {m n:Nat} {a b:Rat} (ha:Sz m a) (hb:Sz n b) (h:b≠0):Sz (m+n) (a / b):=by
 rw [<- xk];exact .divInt (ha.num.mul hb.den) (ha.den.mul hb.num) (Int.mul_ne_zero (pR a) (rW h))
theorem Sz.neg {m:Nat} {a:Rat} (ha:Sz m a):Sz m (-a):=⟨by rw [Rat.neg_num]; exact ha.num.neg,by rw [Rat.neg_den]; exact ha.den⟩
theorem mW (r:Rat):(r*r).num=r.num*r.num:=by
 have h:=Rat.num_pow r 2;rw [show r ^ 2=r*r by grind,show r.num ^ 2=r.num*r.num by grind] at h
 exact h
theorem p4 (r:Rat):(r*r).den=r.den*r.den:=by
 have h:=Rat.den_pow r 2;rw [show r ^ 2=r*r by grind,show r.den ^ 2=r.den*r.den by grind] at h
 exact h
def i7 (u:Rat):Prop:=∀ r:Rat,r*r≠u
theorem Bh {n:Int} (h:0<=n):iZ n<=n:=by
 have rt:=jw h;have h0:=rt.nn;have h1:=rt.le;rcases Int.lt_or_le (iZ n) 1 with h2 | h2
 ·omega
 ·have:iZ n*1<=iZ n*iZ n:=Int.mul_le_mul_of_nonneg_left h2 h0;omega
theorem AD {n:Int} {m:Nat} (h:0<=n) (hb:Bt m n):Bt m (iZ n):=hb.le (by have:=Bh h; have:=(jw h).nn; omega)
theorem xc:iZ 0=0:=by decide
theorem oX (a:Int) {b:Int} (h:0 < b):a.fdiv b=a / b:=Int.fdiv_eq_ediv_of_nonneg a (by omega)
abbrev oo (a:Int):Int:=if a < 0 then -a else a
theorem ui (a:Int):0<=oo a:=by unfold oo; split <;> omega
theorem dy (r:Rat):0<=r*r:=by
 rcases Rat.le_total (a:=0) (b:=r) with h | h
 ·exact GK h h
 ·have:0<=-r:=by grind
  have:=GK this this;grind
theorem qD (w:Rat):(w.num:Rat)=w*(w.den:Rat):=by
 have h:=Rat.num_divInt_den w;rw [GV,Rat.intCast_natCast] at h;have hd:(w.den:Rat)≠0:=by
  have:=w.den_nz;exact λe=>this (by exact_mod_cast e)
 grind
theorem rQ (w:Rat):(w.den:Rat)≠0:=by
 have:=w.den_nz;exact λe=>this (by exact_mod_cast e)
def ab (b:Rat):Rat:=if b < 0 then -b else b
theorem kg (b:Rat):0<=ab b:=by unfold ab; split <;> grind
theorem ni (b:Rat):ab b*ab b=b*b:=by unfold ab; split <;> grind
def ss (b:Rat):Rat:=b*ab b
theorem dS (q:Rat):q.num < 0↔q < 0:=by
 have:=Rat.num_nonneg (q:=q)
 constructor
 ·intro h;apply Rat.not_le.mp;intro h2;have:=this.mpr h2;omega
 ·intro h;apply Int.not_le.mp;intro h2;exact absurd (this.mp h2) (Rat.not_le.mpr h)
theorem Be (q:Rat):(ab q).num=oo q.num:=by
 unfold ab oo
 by_cases h:q < 0
 ·rw [if_pos h,if_pos ((dS q).mpr h),Rat.neg_num]
 ·rw [if_neg h,if_neg (λe=>h ((dS q).mp e))]
theorem B8 (q:Rat):(ab q).den=q.den:=by
 unfold ab
 split
 ·exact Rat.neg_den _
 ·rfl
theorem qS {x:Int} (h:0<=x):iZ (x*x)=x:=vw ⟨h,Int.le_refl _,by grind⟩
theorem kM {b u:Rat} (hu:0 < u):ss b*u=0↔b=0:=by
 unfold ss ab
 constructor
 ·intro h;have hu':u≠0:=by grind
  split at h <;> grind
 ·intro h;subst h;grind
theorem wk {b u:Rat} (hu:0 < u):ab (ss b*u)=b*b*u:=by
 have h2:=dy b;have h3:=GK h2 (Rat.le_of_lt hu);unfold ss
 by_cases h:b < 0
 ·have e:b*ab b*u=-(b*b*u):=by unfold ab; rw [if_pos h]; grind
  rw [e];have hp:0 < b*b*u:=by
   have h4:0 < -b:=by grind
   have h5:=GQ h4 h4;have h6:=GQ h5 hu;grind
  unfold ab;rw [if_pos (by grind)]
  grind
 ·have e:b*ab b*u=b*b*u:=by unfold ab; rw [if_neg h]
  rw [e];unfold ab;rw [if_neg (by grind)]
theorem nh {b u:Rat} (hu:0 < u):ss b*u < 0↔b < 0:=by
 have h2:=dy b;have h3:=GK h2 (Rat.le_of_lt hu);unfold ss ab
 constructor
 ·intro h
  split at h
  ·assumption
  ·exfalso; grind
 ·intro h;rw [if_pos h];have h4:0 < -b:=by grind
  have h5:=GQ h4 h4;have h6:=GQ h5 hu;grind
theorem qb (a b:Rat):ss (a*b)=ss a*ss b:=by
 have e:ab (a*b)=ab a*ab b:=by
  unfold ab
  by_cases ha:a < 0 <;> by_cases hb:b < 0
  ·have:=GQ (show 0 < -a by grind) (show 0 < -b by grind)
   rw [if_neg (by grind),if_pos ha,if_pos hb]; grind
  ·rw [if_pos ha,if_neg hb]
   by_cases h0:b=0
   ·subst h0; grind
   ·have:=GQ (show 0 < -a by grind) (show 0 < b by grind)
    rw [if_pos (by grind)]; grind
  ·rw [if_neg ha,if_pos hb]
   by_cases h0:a=0
   ·subst h0; grind
   ·have:=GQ (show 0 < a by grind) (show 0 < -b by grind)
    rw [if_pos (by grind)]; grind
  ·have:=GK (show 0<=a by grind) (show 0<=b by grind)
   rw [if_neg (by grind),if_neg ha,if_neg hb]
 unfold ss;rw [e];grind
theorem df (b:Rat):ss (-b)=-ss b:=by
 unfold ss ab
 by_cases h:b < 0
 ·rw [if_neg (by grind),if_pos h]; grind
 ·by_cases h0:b=0
  ·subst h0; grind
  ·rw [if_pos (by grind),if_neg h]; grind
theorem ic {b:Rat} (h:0<=b):ss b=b*b:=by unfold ss ab; rw [if_neg (by grind)]
def sg (p q:Rat):Rat:=if q < 0 then -p else p
def yJ (q:Rat):Int:=if 0 < q then 1 else if q < 0 then -1 else 0
theorem pj {q:Rat} (h:0 < q):yJ q=1:=if_pos h
theorem mz {q:Rat} (h:q < 0):yJ q=-1:=by unfold yJ; rw [if_neg (by grind),if_pos h]
theorem tri (q:Rat):0 < q\/q < 0\/q=0:=by
 rcases Rat.le_total (a:=0) (b:=q) with h | h
 ·by_cases e:q=0
  ·exact .inr (.inr e)
  ·exact .inl (by grind)
 ·by_cases e:q=0
  ·exact .inr (.inr e)
  ·exact .inr (.inl (by grind))
def sf (a b u:Rat):Int:=if 0 < a*a - b*b*u then yJ a else yJ b
theorem jx {x y:Rat} (hx:0<=x) (hy:0<=y):0<=x / y:=by
 by_cases h:y=0
 ·subst h;rw [show x / 0=0 by grind]
  exact Rat.le_refl
 ·apply Rat.not_lt.mp;intro hl;have h1:=GQ (show 0 < -(x / y) by grind) (show 0 < y by grind)
  have h2:x / y*y=x:=by grind
  grind
theorem bI:ss 0=0:=by unfold ss; grind
theorem sR {q:Rat} (h:0<=q):0<=q.num:=Rat.num_nonneg.mpr h
theorem kb {q r:Rat} (h0:0<=r) (e:r*r=q):iZ q.num=r.num/\iZ (q.den:Int)=(r.den:Int):=by
 subst e;rw [mW,p4];refine⟨qS (sR h0),?_⟩;rw [Int.natCast_mul];exact qS (by omega)
theorem rM {q:Rat} (h0:0<=q) (s1:iZ q.num*iZ q.num=q.num) (s2:iZ (q.den:Int)*iZ (q.den:Int)=(q.den:Int)):∃ r:Rat,0<=r/\r*r=q:=by
 have n1:=(jw (sR h0)).nn;have n2:=(jw (n:=(q.den:Int)) (by omega)).nn
 generalize iZ q.num=x at s1 n1
 generalize iZ (q.den:Int)=y at s2 n2
 have t1:(x:Rat)*x=(q.num:Rat):=by
  have:=congrArg (λz:Int=>(z:Rat)) s1
  simpa [Gm] using this
 have t2:(y:Rat)*y=(q.den:Rat):=by
  have:=congrArg (λz:Int=>(z:Rat)) s2
  simpa [Gm,Rat.intCast_natCast] using this
 have hd:=rQ q;have hy0:(y:Rat)≠0:=by intro e; rw [e] at t2; exact hd (by grind)
 have hwn:=qD q;have x0:(0:Rat)<=x:=by exact_mod_cast n1
 have y0:(0:Rat)<=y:=by exact_mod_cast n2
 refine⟨(x:Rat) / y,?_,by grind⟩
 exact jx x0 y0
theorem iU {e:Rat} (h:e≠0):ab e≠0:=by unfold ab; split <;> grind
theorem pe {e:Rat} (h:e≠0):0 < ab e:=by have:=kg e; have:=iU h; grind
theorem CP {r s:Rat} (hr:0<=r) (hs:0<=s) (e:r*r=s*s):r=s:=by
 by_cases h:r+s=0
 ·grind
 ·have:(r - s)*(r+s)=0:=by grind
  grind
theorem rR {b e u r:Rat} (u0:0 < u) (he:e≠0) (hr:0<=r) (h:r*r=(b*b*u) / (e*e*u)):r=ab b / ab e:=by
 have u1:u≠0:=by grind
 have e1:=ni e;have b1:=ni b;have e2:=iU he;apply CP hr (jx (kg b) (kg e));rw [h];have:ab b / ab e*(ab b / ab e)=(ab b*ab b) / (ab e*ab e):=by grind
 rw [this,e1,b1];grind
theorem xB {b e u:Rat} (u0:0 < u) (he:e≠0):(ab b / ab e)*(ab b / ab e)=(b*b*u) / (e*e*u):=by
 have u1:u≠0:=by grind
 have e1:=ni e;have b1:=ni b;have e2:=iU he;have:ab b / ab e*(ab b / ab e)=(ab b*ab b) / (ab e*ab e):=by grind
 rw [this,e1,b1];grind
theorem wN {b e u:Rat} (u0:0 < u):sg (ab b / ab e) (ss b*u)=b / ab e:=by
 unfold sg
 by_cases h:b < 0
 ·rw [if_pos ((nh u0).mpr h)];unfold ab;rw [if_pos h];grind
 ·rw [if_neg (λz=>h ((nh u0).mp z))]
  unfold ab;rw [if_neg h]
theorem BI {x y:Rat} (hy:0 < y):ss (x / y)=ss x / (y*y):=by
 have h1:x / y=x*(1 / y):=by grind
 have h2:0<=1 / y:=jx (by decide) (Rat.le_of_lt hy)
 rw [h1,qb,ic h2];grind
theorem ub {x e u:Rat} (he:e≠0):ss (x / ab e)*(e*e*u)=ss x*u:=by
 have e1:=ni e;rw [BI (pe he),e1];grind
theorem wS (p base:Rat):sg (p*p*base) p=ss p*base:=by
 unfold sg ss ab
 by_cases h:p < 0
 ·rw [if_pos h,if_pos h]; grind
 ·rw [if_neg h,if_neg h]
def pick (b d:Rat):Rat:=if b=0 then d else b
theorem xV {b d:Rat}:b=0\/pick b d≠0:=by
 unfold pick
 by_cases h:b=0
 ·exact .inl h
 ·rw [if_neg h]; exact .inr h
theorem xj {b d:Rat}:d=0\/pick b d≠0:=by
 unfold pick
 by_cases h:b=0
 ·rw [if_pos h]
  by_cases h2:d=0
  ·exact .inl h2
  ·exact .inr h2
 ·rw [if_neg h]; exact .inr h
theorem lv {b d:Rat} (h:pick b d=0):b=0/\d=0:=by
 unfold pick at h
 by_cases h2:b=0
 ·rw [if_pos h2] at h; exact⟨h2,h⟩
 ·rw [if_neg h2] at h; exact absurd h h2
theorem uB {b d u:Rat}:ss (b / ab (pick b d)+d / ab (pick b d))*(pick b d*pick b d*u)=ss (b+d)*u:=by
 by_cases h:pick b d=0
 ·obtain⟨rfl,rfl⟩:=lv h;rw [h];have:ss ((0:Rat)+0)=0:=by rw [show (0:Rat)+0=0 by grind]; exact bI
  rw [this];grind
 ·rw [<- ub (x:=b+d) h]
  congr 2
  have:=iU h;grind
theorem sT {a b c d u:Rat}:a*c+(b / ab (pick b d))*(d / ab (pick b d))*(pick b d*pick b d*u)=a*c+b*d*u:=by
 by_cases h:pick b d=0
 ·obtain⟨rfl,rfl⟩:=lv h;rw [h];grind
 ·have e1:=ni (pick b d);have e2:=iU h;rw [<- e1];grind
theorem rJ {a b c d u:Rat}:ss (a*(d / ab (pick b d))+c*(b / ab (pick b d)))*(pick b d*pick b d*u)=ss (a*d+b*c)*u:=by
 by_cases h:pick b d=0
 ·obtain⟨rfl,rfl⟩:=lv h;rw [h,show a*(0 / ab (0:Rat))+c*(0 / ab 0)=0 by grind,show a*0+0*c=0 by grind,bI]
  grind
 ·rw [<- ub (x:=a*d+b*c) h]
  congr 2
  have:=iU h;grind
theorem oZ {b u:Rat} (u0:0 < u):ab (ss b*u)=b*b*u:=wk u0
theorem Sz.ab {n:Nat} {q:Rat} (h:Sz n q):Sz n (HM.ab q):=by
 unfold HM.ab
 split
 ·exact h.neg
 ·exact h
theorem Sz.ss {n:Nat} {q:Rat} (h:Sz n q):Sz (n+n) (HM.ss q):=h.mul h.ab
theorem Sz.sg {n:Nat} {p q:Rat} (h:Sz n p):Sz n (HM.sg p q):=by
 unfold HM.sg
 split
 ·exact h.neg
 ·exact h
theorem Sz.zero:Sz 1 0:=⟨by show(0:Int).natAbs < 2 ^ 1; decide,by show((1:Nat):Int).natAbs < 2 ^ 1; decide⟩
theorem Sz.pick {n:Nat} {b d:Rat} (hb:Sz n b) (hd:Sz n d):Sz n (HM.pick b d):=by
 unfold HM.pick
 split
 ·exact hd
 ·exact hb
theorem Sz.div' {m n:Nat} {a b:Rat} (ha:Sz m a) (hb:Sz n b):Sz (m+n+1) (a / b):=by
 by_cases h:b=0
 ·subst h;rw [show a / 0=0 by grind]
  exact Sz.zero.mono (by omega)
 ·exact(ha.div hb h).mono (by omega)
theorem Aw {b u:Rat} (u0:0 < u):yJ (ss b*u)=yJ b:=by
 rcases tri b with h | h | h
 ·have:=GQ (GQ h (pe (show b≠0 by grind))) u0
  unfold ss;rw [pj h,pj this]
 ·rw [mz h,mz ((nh u0).mpr h)]
 ·subst h;rw [bI,show(0:Rat)*u=0 by grind]
end HM
namespace L2
open PySem PySem.Spec PyProof.Rows
theorem pk (elt target iter:Ho) (scope:Scope) (pos:Pos) (it acc:Hl) (env:Env):
  compTurn (.ListComp elt [⟨target,iter,[],0⟩] scope pos) 0 it acc env=(standAt iter.pos >>= λ_=>pyNext it >>= λr=>match r with
   | none=>pure (.done .next)
   | some v=>letOwnedTupleGo target it v >>= λ_=>assign target env v >>= λ_=>
    (eval elt env >>= λx=>call (.builtin "list.append") [acc,x] >>= λ_=>pure ()) >>= λ_=>
     again (.compLoop (.ListComp elt [⟨target,iter,[],0⟩] scope pos) 0 it acc env)):=by rfl
section
variable {prog:Hq} {w:Ht} {A:Hr} {R:Result->Hk->Prop} {s:Hk}
abbrev i8:Hl->Hk->Prop:=λ_ _=>False
theorem wq {α:Type} {M:Model} {A:Hr} {t:Sem α} {Q:α->Hk->Prop} {E:Hl->Hk->Prop} {s:Hk} (h:wpAny M A t Q i8 s):wpAny M A t Q E s:=GX h (λ_ _ q=>q) λ_ _ z=>z.elim
theorem kH {elt target iter:Ho} {scope:Scope} {pos:Pos} {it acc:Hl} {env:Env} (I:Nat->Hk->Prop)
  (turn:∀ n s,I n s->wpAny (model prog w) A (pyNext it) (λr s1=>match r with
   | none=>R (.ok .next) s1
   | some v=>wpAny (model prog w) A (letOwnedTupleGo target it v) (λ_ s2=>wpAny (model prog w) A (assign target env v) (λ_ s3=>wpAny (model prog w) A (eval elt env) (λx s4=>
     wpAny (model prog w) A (call (.builtin "list.append") [acc,x]) (λ_ s5=>∃ m,m < n/\I m s5) i8 s4) i8 s3) i8 s2) i8 s1) i8 s)
  (n:Nat) (h:I n s):codeAny (model prog w) A (.compLoop (.ListComp elt [⟨target,iter,[],0⟩] scope pos) 0 it acc env) R s:=by
 refine codeAny_loop rfl I (λn s hI=>?_) n h
 show wpAny _ _ ((compTurn (.ListComp elt [⟨target,iter,[],0⟩] scope pos) 0 it acc env).onRaise (λx=>do noteFrame x env; theTreesLotGoes x)) _ _ s
 refine wpAny_noted ?_;rw [pk];refine pp (wpAny_standAt (pp (wq (GX (turn n s hI) (λr s1 h1=>?_) λ_ _ z=>z))))
 cases r with
 | none=>exact Gj h1
 | some v=>
  exact pp (wq (bB h1 λ_ s2 h2=>pp (wq (bB h2 λ_ s3 h3=>pp (pp (wq (bB h3 λx s4 h4=>pp (wq (bB h4 λ_ s5 h5=>Gj (Gj ⟨rfl,h5⟩))))))))))
theorem lV {M:Model} {A:Hr} {E:Hl->Hk->Prop} {c:Ho} {env:Env} {Q:Hx->Hk->Prop} {s:Hk} (h:wpAny M A (PySem.isTrue c env (eval c env)) Q E s):
  wpAny M A (forIn [c] true λc r=>if r=true then do let ok <- PySem.isTrue c env (eval c env); pure (ForInStep.yield ok) else pure (ForInStep.yield r)) Q E s:=by
 rw [List.forIn_cons];refine pp ?_;rw [if_pos rfl];refine pp (bB h λok s1 q=>Gj ?_)
 show wpAny M A (forIn [] ok _) Q E s1
 rw [List.forIn_nil];exact Gj q
theorem kh {elt target iter c:Ho} {scope:Scope} {pos:Pos} {it acc:Hl} {env:Env} (I:Nat->Hk->Prop)
  (turn:∀ n s,I n s->wpAny (model prog w) A (pyNext it) (λr s1=>match r with
   | none=>R (.ok .next) s1
   | some v=>wpAny (model prog w) A (letOwnedTupleGo target it v) (λ_ s2=>wpAny (model prog w) A (assign target env v) (λ_ s3=>wpAny (model prog w) A (isTrue c env (eval c env)) (λb s3'=>
     if b=true then wpAny (model prog w) A (eval elt env) (λx s4=>wpAny (model prog w) A (call (.builtin "list.append") [acc,x]) (λ_ s5=>∃ m,m < n/\I m s5) i8 s4) i8 s3'
     else ∃ m,m < n/\I m s3') i8 s3) i8 s2) i8 s1) i8 s)
  (n:Nat) (h:I n s):codeAny (model prog w) A (.compLoop (.ListComp elt [⟨target,iter,[c],0⟩] scope pos) 0 it acc env) R s:=by
 refine codeAny_loop rfl I (λn s hI=>?_) n h
 show wpAny _ _ ((compTurn (.ListComp elt [⟨target,iter,[c],0⟩] scope pos) 0 it acc env).onRaise (λx=>do noteFrame x env; theTreesLotGoes x)) _ _ s
 refine wpAny_noted ?_;rw [compTurn_list];refine pp (wpAny_standAt (pp (wq (GX (turn n s hI) (λr s1 h1=>?_) λ_ _ z=>z))))
 cases r with
 | none=>exact Gj h1
 | some v=>
  refine pp (wq (bB h1 λ_ s2 h2=>pp (wq (bB h2 λ_ s3 h3=>pp (lV (wq (bB h3 λb s3' h3'=>?_)))))))
  cases b with
  | true=>
   rw [if_pos rfl] at h3' ⊢;exact pp (pp (wq (bB h3' λx s4 h4=>pp (wq (bB h4 λ_ s5 h5=>Gj (Gj ⟨rfl,h5⟩))))))
  | false=>
   rw [if_neg Gs] at h3' ⊢;exact Gj ⟨rfl,h3'⟩
end
def gl (X:Cx) (scope:Scope) (cl:List (Str×Hm)) (N:List Str) (s0:Hk) (H0:Hp) (ex:List Hm) (C:Hm):Cx where
 prog:=X.prog
 w:=X.w
 K:=X.K
 mg:=X.mg
 base:=X.base
 A:=X.A
 N:=N
 s₀:=s0
 H₀:=H0
 env:=compEnvC scope cl C X.env
 outer:=X.stack
 stack:=X.stack
 ex:=ex
 fn:=λ_=>false
 calm:=X.calm
 pn:=[]
 xe:=i8
structure fC (X:Cx) (scope:Scope) (cl:List (Str×Hm)) (N:List Str) (cap:List (Hn Nat)):Prop where
 kind:scope.kind=.function
 clos:closureFor scope X.env=pure cl
 nocell:(scope.names.all λy=>y.2 != NameKind.cell)=true
 names:(scope.names.all λy=>y.2 != NameKind.local || scope.names.lookup y.1 == some NameKind.local)=true
 sub:∀ p∈cl,X.env.cells.lookup p.1=some p.2
 has:((relabel scope X.env).names.all λy=>(y.2 != NameKind.cell && y.2 != NameKind.free) || (cl.lookup y.1).isSome)=true
 len:cap.length=N.length
 caps:∀ (i j:Nat) (x:Str),cap[i]?=some (some j)->N[i]?=some x->X.N[j]?=some x/\(X.env.scope.names.lookup x=some .cell\/X.env.scope.names.lookup x=some .free)/\((relabel scope X.env).names.lookup x=some .cell\/(relabel scope X.env).names.lookup x=some .free)
def kG (cap:List (Hn Nat)) (σ:St):St:=cap.map λo=>match o with
 | some j=>(σ[j]?).join
 | none=>none
theorem u6 {cap:List (Hn Nat)} {σ:St} {i:Nat} {v:V} (h:(kG cap σ)[i]?=some (some v)):∃ j,cap[i]?=some (some j)/\σ[j]?=some (some v):=by
 unfold kG at h;rw [GP] at h;cases e:cap[i]? with
 | none=>rw [e] at h; cases h
 | some o=>
  rw [e] at h;cases o with
  | none=>cases h
  | some j=>
   refine⟨j,rfl,?_⟩;have h:(σ[j]?).join=some v:=GS h;cases e2:σ[j]? with
   | none=>rw [e2] at h; cases h
   | some q=>rw [e2] at h; exact congrArg some h
theorem eP {X:Cx} {cl:List (Str×Hm)} (h:∀ p∈cl,X.env.cells.lookup p.1=some p.2) {x:Str} {c:Hm} (e:cl.lookup x=some c):X.env.cells.lookup x=some c:=h (x,c) (G4 e)
theorem kz {X:Cx} {scope:Scope} {cl:List (Str×Hm)} {N:List Str} {cap:List (Hn Nat)} (Sc:fC X scope cl N cap) {HA:List (Hm×Hz)} {σ:St} {H:Hp} {s:Hk} {fp:List Hm} (I:av X HA σ H s)
  (hf:∀ b∈fp,mh X HA H b) (ho:∀ b∈fp,∃ o,s.heap.get? b=some o) {h1 h1':Hu} {m:Str->Hn Hl} {tk:Nat} {ob:Hz}
  (hD:s.heap.push {cls:=.type "list",data:=.seq ([]:List Hl).toArray}=h1') (hns:h1.Ns h1'.objs.size m) (hsb:Heap.SameBut h1'.objs.size (h1'.push ob) h1):
  av (gl X scope cl N {s with heap:=h1'} (bt H s.heap.objs.size (.lst [])) fp h1'.objs.size) [] (kG cap σ) (bt H s.heap.objs.size (.lst [])) {s with heap:=h1,toks:=tk}/\
   Un (fo X.stack) fp H (bt H s.heap.objs.size (.lst [])) s.heap h1':=by
 have hC:h1'.objs.size=s.heap.objs.size+1:=by rw [<- hD,Hc]
 have k1:∀ b o,s.heap.get? b=some o->h1'.get? b=some o:=λb o e=>by rw [<- hD]; exact Gi _ e
 have k2:∀ b o,h1'.get? b=some o->h1.get? b=some o:=λb o e=>(hsb.2 b (Gx (Go e))).trans (Gi _ e)
 have hHn:H s.heap.objs.size=none:=I.hok.fresh (Gq _);have neD:∀ b o,s.heap.get? b=some o->b≠s.heap.objs.size:=λb o e=>Gx (Go e)
 have un1:Un (fo X.stack) fp H (bt H s.heap.objs.size (.lst [])) s.heap h1':=Un.laid k1 (Gq _) hHn;have new:dg X.prog X.w (bt H s.heap.objs.size (.lst [])) h1' s.heap.objs.size (.lst []):=⟨Ha _,[],0,.nil,by rw [<- hD]; exact Gk _ rfl⟩
 have hok1:kl X.prog X.w (bt H s.heap.objs.size (.lst [])) h1':=I.hok.laid k1 (Gq _) new;have fsub:∀ b∈fp,b∉fo X.stack:=λb hb z=>by
  obtain⟨_,f1,f2,_⟩:=hf b hb;rcases Gw.mp (I.stkSub b z) with e | e
  ·exact f1 e
  ·exact f2 e
 have cellK:∀ x c,cl.lookup x=some c->∃ v,s.heap.IsCell c v:=λx c e=>I.cell x c (eP Sc.sub e)
 refine⟨⟨⟨I.ok.mod,?_,I.ok.glob,I.ok.blt,Gq _,λx y c e1 e2=>I.ok.inj x y c (eP Sc.sub e1) (eP Sc.sub e2),λx hx=>?_,λx c z=>(by cases z),I.ok.hd,I.ok.frames,.inl rfl,λb hb=>⟨?_,λx c e=>?_⟩,λb o e=>⟨?_,?_⟩,?_,λb o e hb=>?_,fsub,?_,λb hb=>?_⟩,
  rfl,I.bare,Un.kept k2,⟨m,hns,λi x v e1 e2 e3=>?_⟩,λx c e=>?_,?_,λx c e=>?_,λp hp=>absurd hp (by simp [gl]),hok1.kept k2,?_⟩,un1⟩
 ·exact Sc.kind
 ·have hx:(relabel scope X.env).names.lookup x=some .cell\/(relabel scope X.env).names.lookup x=some .free:=hx;have ha:=Hd.mp Sc.has
  show ∃ c,cl.lookup x=some c
  rcases hx with hx | hx
  ·have:=ha _ (G4 hx);exact Hi.mp (by simpa using this)
  ·have:=ha _ (G4 hx);exact Hi.mp (by simpa using this)
 ·obtain⟨o,e⟩:=ho b hb;have:=Go e
  show b≠h1'.objs.size
  rw [hC];exact Gx (Nat.lt_succ_of_lt this)
 ·exact(hf b hb).2.2.2.2.1 x c (eP Sc.sub e)
 ·exact k1 b o (I.bk b o e)
 ·show bt H s.heap.objs.size (.lst []) b=none
  rw [ax (neD b o (I.bk b o e))];exact(I.bs b o e).2
 ·show X.base.objs.size<=h1'.objs.size
  rw [hC];exact Nat.le_succ_of_le (GZ I.ok.bsz I.sz)
 ·obtain⟨_,_,_,f3,_⟩:=hf b hb;rcases f3 with f3 | f3
  ·exact I.ok.noex b o e f3
  ·have q1:=Go e;have q2:=I.ok.bsz;exact absurd (GA q1 (GZ q2 f3)) (Hb _)
 ·exact I.stack.of_keeps λb o e _=>⟨o,k1 b o e,rfl⟩
 ·show bt H s.heap.objs.size (.lst []) b=none
  obtain⟨_,o,e,_⟩:=I.stack.mem hb;rw [ax (neD b o e)];exact I.stkFree b hb
 ·obtain⟨j,c1,c2⟩:=u6 e2;obtain⟨d1,d2,d3⟩:=Sc.caps i j x c1 e1;obtain⟨m0,_,l0⟩:=I.loc;obtain⟨u,ru,lk⟩:=l0 j x v d1 c2 (d2.elim (λz=>.inr (.inl z)) λz=>.inr (.inr z))
  refine⟨u,ru,.inr ⟨d3,?_⟩⟩;rcases lk with ⟨z,_⟩ | ⟨_,c,z1,z2⟩
  ·have z:X.env.scope.names.lookup x=some .local:=z;rcases d2 with q | q <;> (rw [q] at z; cases z)
  ·have ha:=Hd.mp Sc.has;have hs:∃ c',cl.lookup x=some c':=by
    rcases d3 with q | q
    ·exact Hi.mp (by simpa using ha _ (G4 q))
    ·exact Hi.mp (by simpa using ha _ (G4 q))
   obtain⟨c',q⟩:=hs;have q2:=eP Sc.sub q;rw [z1] at q2;cases q2;obtain⟨o,e,d⟩:=z2;exact⟨c,q,o,k2 _ _ (k1 _ _ e),d⟩
 ·obtain⟨v,o,e1,d⟩:=cellK x c e;exact⟨v,o,k2 _ _ (k1 _ _ e1),d⟩
 ·show bt H s.heap.objs.size (.lst []) h1'.objs.size=none
  rw [hC,ax (Nat.succ_ne_self _)];exact I.hok.fresh (Nat.le_succ _)
 ·obtain⟨v,o,e1,d⟩:=cellK x c e
  show bt H s.heap.objs.size (.lst []) c=none
  rw [ax (neD c o e1)];exact I.freeC x c (eP Sc.sub e)
 ·show(kG cap σ).length=N.length
  unfold kG;rw [Gr];exact Sc.len
def zJ (cap:List (Hn Nat)) (wi:TI) (g:TG) (te:TE):TE:=fun σ H Q=>wi σ H λJ H1=>∀ D,H1 D=none->∃ W:Nat->Nat->St->Hp->Prop,(∃ m,W 0 m (kG cap σ) (bt H1 D (.lst [])))/\∀ i m σ' H',W i m σ' H'->
 (J.stop i H'/\Q (.ref D) H')\/(J.go i H'/\∃ N:St->Hp->Prop,(∀ σ2 H2,N σ2 H2->∃ m',m' < m/\W (i+1) m' σ2 H2)/\∀ x H2,J.yld i H' x H2->g x σ' H2 fun σ3 H3=>te σ3 H3 λv H4=>∃ ys,H4 D=some (.lst ys)/\ys.length < sizeLine/\N σ3 (bt H4 D (.lst (ys++[v]))))
def tO (cap:List (Hn Nat)) (wi:TI) (g:TG) (tc:TT) (te:TE):TE:=fun σ H Q=>wi σ H λJ H1=>∀ D,H1 D=none->∃ W:Nat->Nat->St->Hp->Prop,(∃ m,W 0 m (kG cap σ) (bt H1 D (.lst [])))/\∀ i m σ' H',W i m σ' H'->
 (J.stop i H'/\Q (.ref D) H')\/(J.go i H'/\∃ N:St->Hp->Prop,(∀ σ2 H2,N σ2 H2->∃ m',m' < m/\W (i+1) m' σ2 H2)/\∀ x H2,J.yld i H' x H2->g x σ' H2 fun σ3 H3=>tc σ3 H3 λb H3'=>if b=true then te σ3 H3' λv H4=>∃ ys,H4 D=some (.lst ys)/\ys.length < sizeLine/\N σ3 (bt H4 D (.lst (ys++[v]))) else N σ3 H3')
section
variable {X:Cx} {elt tg iter c:Ho} {scope:Scope} {cl:List (Str×Hm)} {N:List Str} {cap:List (Hn Nat)} {pos:Pos} {wi:TI} {g:TG} {te:TE} {tc:TT}
theorem na (Sc:fC X scope cl N cap) {HA:List (Hm×Hz)} {σ σ3:St} {H2 H3:Hp} {s2 s4:Hk} {fp:List Hm} {h1':Hu} {C:Hm} (I2:av X HA σ H2 s2) (f2:∀ b∈fp,mh X HA H2 b) {H1:Hp}
  (un3:Un (fo X.stack) fp H2 H1 s2.heap h1') (I4:av (gl X scope cl N {s2 with heap:=h1'} H1 fp C) [] σ3 H3 s4) {h':Hu} (hC:s2.heap.objs.size<=C) (sb:Heap.SameBut C s4.heap h'):av X HA σ H3 {s4 with heap:=h'}:=by
 have u:Un (fo X.stack) fp H2 H3 s2.heap s4.heap:=un3.trans I4.base;have ne:∀ b o,s2.heap.get? b=some o->b≠C:=λb o e=>Gx (GA (Go e) hC)
 have u':Un (fo X.stack) fp H2 H3 s2.heap h':=⟨λb o e n hb hx=>(sb.2 b (ne b o e)).trans (u.keep b o e n hb hx),λb o e n hb hx=>by
   obtain⟨sl,q⟩:=u.slot b o e n hb hx;exact⟨sl,(sb.2 b (ne b o e)).trans q⟩,u.free,λb o e hx=>by
   obtain⟨o',q⟩:=u.there b o e hx;exact⟨o',(sb.2 b (ne b o e)).trans q⟩,u.tups,u.frzs,u.tbls⟩
 have hok:kl X.prog X.w H3 h':=λb ob e=>by
  refine(I4.hok b ob e).stay (λc w' hc q=>(sb.2 c ?_).trans q) (λ_ q=>q) λ_ _ q=>q
  rintro rfl;have hfree:H3 c=none:=I4.free;rcases hc with rfl | hc
  ·rw [hfree] at e; cases e
  ·rw [hfree] at hc; cases hc
 refine I2.call' (s':={s4 with heap:=h'}) (ch:=fp) I4.os u' hok I4.bare λb hb=>?_
 obtain⟨_,f1,_,f3,f4,f5⟩:=f2 b hb;exact⟨f3,f1,f4,f5⟩
theorem dH {s0:Hk} {H0:Hp} {C:Hm} {fp:List Hm} {σ:St} {H:Hp} {s:Hk} (I:av (gl X scope cl N s0 H0 fp C) [] σ H s) (hn:∀ b∈fp,H b=none):∀ b∈fp,mh (gl X scope cl N s0 H0 fp C) [] H b:=λb hb=>
 ⟨hn b hb,(I.ok.exf b hb).1,I.ok.exfs b hb,.inl hb,(I.ok.exf b hb).2,λp hp=>absurd hp (by simp [gl])⟩
theorem yk (hc:X.calm=true) (Sc:fC X scope cl N cap) (hi:PI X tg iter wi) (hg:∀ s0 H0 ex C,PG (gl X scope cl N s0 H0 ex C) tg g) (he:∀ s0 H0 ex C,PE (gl X scope cl N s0 H0 ex C) elt te)
  (hs:∀ x,foldedSetIterable iter X.env x=pure x:=by intro _; rfl):PE X (.ListComp elt [⟨tg,iter,[],0⟩] scope pos) (zJ cap wi g te):=by
 intro HA s σ H Q I h;rw [eval_ListComp];have hcell:∀ y∈scope.names,y.2≠.cell:=λy hy=>by simpa using Hd.mp Sc.nocell y hy
 have hnames:∀ y∈scope.names,y.2=.local->scope.names.lookup y.1=some .local:=λy hy e=>by
  have:=Hd.mp Sc.names y hy;rw [e] at this
  simpa using this
 refine wpAny_comprehension_free (use:=none) rfl hs Sc.clos Sc.kind hnames (bB (hi HA s σ H _ I h) λv s1 h1=>bB h1 λitv s2 h2=>?_)
 obtain⟨it,fp,tn,J,H2,e,I2,T,st2,f2,hW⟩:=h2;subst e;refine GO (wpAny_newFunctionEnv hcell (by intro y hy; simp at hy) (λh1 hns hsb=>?_) Sc.kind)
 obtain⟨W,⟨m0,w0⟩,turn⟩:=hW s2.heap.objs.size I2.fresh;dsimp only at hns hsb ⊢
 generalize hD:s2.heap.push {cls:=.type "list",dict:=none,data:=.seq ([]:List Hl).toArray}=h1' at hns hsb ⊢
 obtain⟨I3,un3⟩:=kz (tk:=s2.toks+([]:List (Str×Hl)).length) Sc I2 f2 (λb hb=>let ⟨o,e,_⟩:=T.obj 0 _ st2 b hb; ⟨o,e⟩) hD hns hsb
 have hC:s2.heap.objs.size<=h1'.objs.size:=by rw [<- hD,Hc]; exact Nat.le_succ _
 have k1:∀ b o,s2.heap.get? b=some o->h1.get? b=some o:=λb o e=>by
  have e1:h1'.get? b=some o:=by rw [<- hD]; exact Gi _ e
  exact(hsb.2 b (Gx (Go e1))).trans (Gi _ e1)
 have st3:tn 0 h1:=T.keep 0 _ _ st2 λb _ o e=>k1 b o e
 have fr3:∀ b∈fp,(bt H2 s2.heap.objs.size (.lst [])) b=none:=λb hb=>by
  obtain⟨o,e,_⟩:=T.obj 0 _ st2 b hb;rw [ax (Gx (Go e))];exact(f2 b hb).1
 have loop:∀ s3:Hk,s3={s2 with heap:=h1,toks:=s2.toks+([]:List (Str×Hl)).length}->
   codeAny (model X.prog X.w) X.A (.compLoop (.ListComp elt [⟨tg,iter,[],0⟩] scope pos) 0 (.ref it) (.ref s2.heap.objs.size) (compEnvC scope cl h1'.objs.size X.env))
    (compPost (model X.prog X.w) X.A X.xe none (EP X HA σ Q) (.ref s2.heap.objs.size) h1'.objs.size) s3:=by
  rintro s3 rfl;refine kH (λn s'=>∃ i σ' H',av (gl X scope cl N {s2 with heap:=h1'} (bt H2 s2.heap.objs.size (.lst [])) fp h1'.objs.size) [] σ' H' s'/\tn i s'.heap/\(∀ b∈fp,H' b=none)/\W i n σ' H') ?_ m0 ⟨0,_,_,I3,st3,fr3,w0⟩
  rintro n s3 ⟨i,σ3,H3,I3,st3,fr3,w3⟩;rcases turn i n σ3 H3 w3 with ⟨stop,qn⟩ | ⟨go,Nn,hN,step⟩
  ·refine bB (T.done (gl X scope cl N {s2 with heap:=h1'} (bt H2 s2.heap.objs.size (.lst [])) fp h1'.objs.size) rfl rfl rfl hc i [] s3 σ3 H3 i8 I3 (dH I3 fr3) st3 stop) λr s4 z9=>?_
   obtain⟨hr,I4⟩:=z9;subst hr;obtain⟨m,hm,_⟩:=I4.loc;exact⟨m,hm,λh' sb=>⟨.ref _,H3,na Sc I2 f2 un3 I4 hC sb,rfl,qn⟩⟩
  ·refine bB (T.item (gl X scope cl N {s2 with heap:=h1'} (bt H2 s2.heap.objs.size (.lst [])) fp h1'.objs.size) rfl rfl rfl hc i [] s3 σ3 H3 i8 I3 (dH I3 fr3) st3 go) λr s4 z9=>?_
   obtain⟨u,hr,h4⟩:=z9;subst hr;refine bB h4 λ_ s5 z9=>?_
   obtain⟨x,H5,I5,r5,y5,st5,fr5⟩:=z9;have I5':=I5.pinned (dH I5 fr5) (T.obj _ _ st5);refine bB (hg _ _ _ _ _ s5 σ3 H5 x u _ I5' r5 (step x H5 y5)) λ_ s6 z9=>?_
   obtain⟨σ6,H6,I6,q6⟩:=z9;refine bB (he _ _ _ _ _ s6 σ6 H6 _ I6 q6) λuv s7 z9=>?_
   obtain⟨v,H7,I7,r7,ys,hy,hl,q7⟩:=z9;refine bB (hU (X:=gl X scope cl N {s2 with heap:=h1'} (bt H2 s2.heap.objs.size (.lst [])) fp h1'.objs.size) _ s7 σ6 H7 (.ref s2.heap.objs.size) [v] (.ref s2.heap.objs.size) [uv] (λ_ H8=>Nn σ6 H8) I7 rfl (.cons r7 .nil) ⟨_,ys,v,rfl,rfl,hy,hl,q7⟩) λ_ s8 z9=>?_
   obtain⟨_,H8,I8,_,n8⟩:=z9;obtain⟨m',hm,w8⟩:=hN σ6 H8 n8;refine⟨m',hm,i+1,σ6,H8,I8.unpinned,T.keep _ _ _ st5 λb hb o e=>(I8.pin (b,o) (GB _ (GB _ (bV hb e)))).1,λb hb=>?_,w8⟩
   obtain⟨o,e,d⟩:=T.obj _ _ st5 b hb;exact(I8.pin (b,o) (GB _ (GB _ (bV hb e)))).2.1
 exact codeAny_compStart_list (loop _ rfl) (T.self _ 0 _ _ _ st3 (loop _ rfl))
theorem uJ (hc:X.calm=true) (Sc:fC X scope cl N cap) (hi:PI X tg iter wi) (hg:∀ s0 H0 ex C,PG (gl X scope cl N s0 H0 ex C) tg g) (hcnd:∀ s0 H0 ex C,PT (gl X scope cl N s0 H0 ex C) c tc) (he:∀ s0 H0 ex C,PE (gl X scope cl N s0 H0 ex C) elt te)
  (hs:∀ x,foldedSetIterable iter X.env x=pure x:=by intro _; rfl):PE X (.ListComp elt [⟨tg,iter,[c],0⟩] scope pos) (tO cap wi g tc te):=by
 intro HA s σ H Q I h;rw [eval_ListComp];have hcell:∀ y∈scope.names,y.2≠.cell:=λy hy=>by simpa using Hd.mp Sc.nocell y hy
 have hnames:∀ y∈scope.names,y.2=.local->scope.names.lookup y.1=some .local:=λy hy e=>by
  have:=Hd.mp Sc.names y hy;rw [e] at this
  simpa using this
 refine wpAny_comprehension_free (use:=none) rfl hs Sc.clos Sc.kind hnames (bB (hi HA s σ H _ I h) λv s1 h1=>bB h1 λitv s2 h2=>?_)
 obtain⟨it,fp,tn,J,H2,e,I2,T,st2,f2,hW⟩:=h2;subst e;refine GO (wpAny_newFunctionEnv hcell (by intro y hy; simp at hy) (λh1 hns hsb=>?_) Sc.kind)
 obtain⟨W,⟨m0,w0⟩,turn⟩:=hW s2.heap.objs.size I2.fresh;dsimp only at hns hsb ⊢
 generalize hD:s2.heap.push {cls:=.type "list",dict:=none,data:=.seq ([]:List Hl).toArray}=h1' at hns hsb ⊢
 obtain⟨I3,un3⟩:=kz (tk:=s2.toks+([]:List (Str×Hl)).length) Sc I2 f2 (λb hb=>let ⟨o,e,_⟩:=T.obj 0 _ st2 b hb; ⟨o,e⟩) hD hns hsb
 have hC:s2.heap.objs.size<=h1'.objs.size:=by rw [<- hD,Hc]; exact Nat.le_succ _
 have k1:∀ b o,s2.heap.get? b=some o->h1.get? b=some o:=λb o e=>by
  have e1:h1'.get? b=some o:=by rw [<- hD]; exact Gi _ e
  exact(hsb.2 b (Gx (Go e1))).trans (Gi _ e1)
 have st3:tn 0 h1:=T.keep 0 _ _ st2 λb _ o e=>k1 b o e
 have fr3:∀ b∈fp,(bt H2 s2.heap.objs.size (.lst [])) b=none:=λb hb=>by
  obtain⟨o,e,_⟩:=T.obj 0 _ st2 b hb;rw [ax (Gx (Go e))];exact(f2 b hb).1
 have loop:∀ s3:Hk,s3={s2 with heap:=h1,toks:=s2.toks+([]:List (Str×Hl)).length}->
   codeAny (model X.prog X.w) X.A (.compLoop (.ListComp elt [⟨tg,iter,[c],0⟩] scope pos) 0 (.ref it) (.ref s2.heap.objs.size) (compEnvC scope cl h1'.objs.size X.env))
    (compPost (model X.prog X.w) X.A X.xe none (EP X HA σ Q) (.ref s2.heap.objs.size) h1'.objs.size) s3:=by
  rintro s3 rfl;refine kh (λn s'=>∃ i σ' H',av (gl X scope cl N {s2 with heap:=h1'} (bt H2 s2.heap.objs.size (.lst [])) fp h1'.objs.size) [] σ' H' s'/\tn i s'.heap/\(∀ b∈fp,H' b=none)/\W i n σ' H') ?_ m0 ⟨0,_,_,I3,st3,fr3,w0⟩
  rintro n s3 ⟨i,σ3,H3,I3,st3,fr3,w3⟩;rcases turn i n σ3 H3 w3 with ⟨stop,qn⟩ | ⟨go,Nn,hN,step⟩
  ·refine bB (T.done (gl X scope cl N {s2 with heap:=h1'} (bt H2 s2.heap.objs.size (.lst [])) fp h1'.objs.size) rfl rfl rfl hc i [] s3 σ3 H3 i8 I3 (dH I3 fr3) st3 stop) λr s4 z9=>?_
   obtain⟨hr,I4⟩:=z9;subst hr;obtain⟨m,hm,_⟩:=I4.loc;exact⟨m,hm,λh' sb=>⟨.ref _,H3,na Sc I2 f2 un3 I4 hC sb,rfl,qn⟩⟩
  ·refine bB (T.item (gl X scope cl N {s2 with heap:=h1'} (bt H2 s2.heap.objs.size (.lst [])) fp h1'.objs.size) rfl rfl rfl hc i [] s3 σ3 H3 i8 I3 (dH I3 fr3) st3 go) λr s4 z9=>?_
   obtain⟨u,hr,h4⟩:=z9;subst hr;refine bB h4 λ_ s5 z9=>?_
   obtain⟨x,H5,I5,r5,y5,st5,fr5⟩:=z9;have I5':=I5.pinned (dH I5 fr5) (T.obj _ _ st5);refine bB (hg _ _ _ _ _ s5 σ3 H5 x u _ I5' r5 (step x H5 y5)) λ_ s6 z9=>?_
   obtain⟨σ6,H6,I6,q6⟩:=z9;have again:∀ {s8:Hk} {H8:Hp},av (gl X scope cl N {s2 with heap:=h1'} (bt H2 s2.heap.objs.size (.lst [])) fp h1'.objs.size) ([]++ls fp s5.heap) σ6 H8 s8->Nn σ6 H8->
     ∃ m,m < n/\∃ i σ' H',av (gl X scope cl N {s2 with heap:=h1'} (bt H2 s2.heap.objs.size (.lst [])) fp h1'.objs.size) [] σ' H' s8/\tn i s8.heap/\(∀ b∈fp,H' b=none)/\W i m σ' H':=λ{s8 H8} I8 n8=>by
    obtain⟨m',hm,w8⟩:=hN σ6 H8 n8;refine⟨m',hm,i+1,σ6,H8,I8.unpinned,T.keep _ _ _ st5 λb hb o e=>(I8.pin (b,o) (GB _ (GB _ (bV hb e)))).1,λb hb=>?_,w8⟩
    obtain⟨o,e,d⟩:=T.obj _ _ st5 b hb;exact(I8.pin (b,o) (GB _ (GB _ (bV hb e)))).2.1
   refine bB (hcnd _ _ _ _ _ s6 σ6 H6 _ I6 q6) λb s6' z9=>?_
   obtain⟨H6',I6',q6'⟩:=z9;cases b with
   | true=>
    rw [if_pos rfl] at q6' ⊢;refine bB (he _ _ _ _ _ s6' σ6 H6' _ I6' q6') λuv s7 z9=>?_
    obtain⟨v,H7,I7,r7,ys,hy,hl,q7⟩:=z9;refine bB (hU (X:=gl X scope cl N {s2 with heap:=h1'} (bt H2 s2.heap.objs.size (.lst [])) fp h1'.objs.size) _ s7 σ6 H7 (.ref s2.heap.objs.size) [v] (.ref s2.heap.objs.size) [uv] (λ_ H8=>Nn σ6 H8) I7 rfl (.cons r7 .nil) ⟨_,ys,v,rfl,rfl,hy,hl,q7⟩) λ_ s8 z9=>?_
    obtain⟨_,H8,I8,_,n8⟩:=z9;exact again I8 n8
   | false=>
    rw [if_neg Gs] at q6' ⊢;exact again I6' q6'
 exact codeAny_compStart_list (loop _ rfl) (T.self _ 0 _ _ _ st3 (loop _ rfl))
end
end L2
namespace DL
open PySem PySem.Spec PyProof.Rows L2
abbrev Fg:=PySem.W.Frag
inductive Ty where
 | non | bool | int | str | tup | lst | dic | verr
def Ty.name:Ty->Hy
 | .non=>"NoneType" | .bool=>"bool" | .int=>"int" | .str=>"str" | .tup=>"tuple" | .lst=>"list" | .dic=>"dict" | .verr=>"ValueError"
inductive D where
 | non | bl (b:Hx) | int (i:Int) | str (x:Str) | tup (ds:List D) | rl (ds:List D) | ref (a:Hm) | ty (n:Ty)
def Ck (K:Fg) (H:Hp) (a:Hm) (xs:List V):Prop:=
 (∃ o,H a=some (.frz o (.lst xs)))\/∃ (o:Hz) (its:Hw Hl) (n:Nat),K.lookup a=some o/\o.cls=.type "list"/\o.dict=none/\o.data=.seq its n/\its.size<=sizeLine/\bb xs its.toList
theorem Ck.sq {K:Fg} {H:Hp} {a:Hm} {xs:List V} (h:Ck K H a xs):ir K H a xs:=by
 rcases h with h | h
 ·exact .inl (.inr h)
 ·exact .inr h
mutual
def bH (K:Fg) (H:Hp):D->V->Prop
 | .non,v=>v=.non
 | .bl b,v=>v=.bl b
 | .int i,v=>v=.int i
 | .str x,v=>v=.str x
 | .tup ds,v=>∃ a xs,v=.ref a/\jN K H a xs/\IsDs K H ds xs
 | .rl ds,v=>∃ a xs,v=.ref a/\Ck K H a xs/\IsDs K H ds xs
 | .ref a,v=>v=.ref a
 | .ty n,v=>v=.ty n.name
def IsDs (K:Fg) (H:Hp):List D->List V->Prop
 | [],vs=>vs=[]
 | d::ds,vs=>∃ v r,vs=v::r/\bH K H d v/\IsDs K H ds r
end
def EX:HO->Prop
 | .tup _=>True
 | .frz _ _=>True
 | _=>False
def Kp (H H':Hp):Prop:=∀ a o,H a=some o->EX o->H' a=some o
theorem Kp.refl (H:Hp):Kp H H:=λ_ _ h _=>h
theorem Kp.trans {H H1 H2:Hp} (a:Kp H H1) (b:Kp H1 H2):Kp H H2:=λc o h i=>b c o (a c o h i) i
theorem Kp.tup {K:Fg} {H H':Hp} {a:Hm} {xs:List V} (k:Kp H H') (h:jN K H a xs):jN K H' a xs:=by
 rcases h with (h | ⟨o,h⟩) | h
 ·exact .inl (.inl (k _ _ h trivial))
 ·exact .inl (.inr ⟨o,k _ _ h trivial⟩)
 ·exact .inr h
theorem Kp.fro {K:Fg} {H H':Hp} {a:Hm} {xs:List V} (k:Kp H H') (h:Ck K H a xs):Ck K H' a xs:=by
 rcases h with ⟨o,h⟩ | h
 ·exact .inl ⟨o,k _ _ h trivial⟩
 ·exact .inr h
theorem Kp.new {H:Hp} {p:Hm} {o:HO} (h:H p=none):Kp H (bt H p o):=λb u e _=>by rw [ax (aZ e h)]; exact e
theorem Kp.mut {H:Hp} {p:Hm} {o u:HO} (h:H p=some u) (n:¬ EX u):Kp H (bt H p o):=λb z e i=>by
 rw [ax (λq=>by subst q; rw [h] at e; cases e; exact n i)]; exact e
mutual
theorem bH.kp {K:Fg} {H H':Hp} (k:Kp H H'):∀ {d:D} {v:V},bH K H d v->bH K H' d v
 | .non,_,h=>by unfold bH at *; exact h
 | .bl _,_,h=>by unfold bH at *; exact h
 | .int _,_,h=>by unfold bH at *; exact h
 | .str _,_,h=>by unfold bH at *; exact h
 | .ref _,_,h=>by unfold bH at *; exact h
 | .ty _,_,h=>by unfold bH at *; exact h
 | .tup ds,_,h=>by
  unfold bH at*
  obtain⟨a,xs,e,t,r⟩:=h;exact⟨a,xs,e,k.tup t,IsDs.kp k r⟩
 | .rl ds,_,h=>by
  unfold bH at*
  obtain⟨a,xs,e,t,r⟩:=h;exact⟨a,xs,e,k.fro t,IsDs.kp k r⟩
theorem IsDs.kp {K:Fg} {H H':Hp} (k:Kp H H'):∀ {ds:List D} {vs:List V},IsDs K H ds vs->IsDs K H' ds vs
 | [],_,h=>by unfold IsDs at *; exact h
 | d::ds,_,h=>by
  unfold IsDs at*
  obtain⟨v,r,e,h1,h2⟩:=h;exact⟨v,r,e,bH.kp k h1,IsDs.kp k h2⟩
end
section
variable {K:Fg} {H:Hp}
theorem isInt {i:Int} {v:V}:bH K H (.int i) v↔v=.int i:=by unfold bH; exact Iff.rfl
theorem bO {b:Hx} {v:V}:bH K H (.bl b) v↔v=.bl b:=by unfold bH; exact Iff.rfl
theorem gC {b:Str} {v:V}:bH K H (.str b) v↔v=.str b:=by unfold bH; exact Iff.rfl
theorem cq {v:V}:bH K H .non v↔v=.non:=by unfold bH; exact Iff.rfl
theorem b_ {a:Hm} {v:V}:bH K H (.ref a) v↔v=.ref a:=by unfold bH; exact Iff.rfl
theorem zi {a:Ty} {v:V}:bH K H (.ty a) v↔v=.ty a.name:=by unfold bH; exact Iff.rfl
theorem bC {ds:List D} {v:V}:bH K H (.tup ds) v↔∃ a xs,v=.ref a/\jN K H a xs/\IsDs K H ds xs:=by unfold bH; exact Iff.rfl
theorem ra {ds:List D} {v:V}:bH K H (.rl ds) v↔∃ a xs,v=.ref a/\Ck K H a xs/\IsDs K H ds xs:=by unfold bH; exact Iff.rfl
theorem iT {vs:List V}:IsDs K H [] vs↔vs=[]:=by unfold IsDs; exact Iff.rfl
theorem cz {d:D} {ds:List D} {vs:List V}:IsDs K H (d::ds) vs↔∃ v r,vs=v::r/\bH K H d v/\IsDs K H ds r:=by
 constructor
 ·intro h; unfold IsDs at h; exact h
 ·intro h; unfold IsDs; exact h
theorem IsDs.nil:IsDs K H [] []:=iT.mpr rfl
theorem IsDs.cons {d:D} {ds:List D} {v:V} {vs:List V} (h1:bH K H d v) (h2:IsDs K H ds vs):IsDs K H (d::ds) (v::vs):=cz.mpr ⟨v,vs,rfl,h1,h2⟩
theorem IsDs.length:∀ {ds:List D} {vs:List V},IsDs K H ds vs->ds.length=vs.length
 | [],_,h=>by rw [iT.mp h]; rfl
 | d::ds,_,h=>by
  obtain⟨v,r,rfl,_,h2⟩:=cz.mp h;rw [GC,GC,IsDs.length h2]
theorem IsDs.get:∀ {ds:List D} {vs:List V} {i:Nat} {d:D},IsDs K H ds vs->ds[i]?=some d->∃ v,vs[i]?=some v/\bH K H d v
 | [],_,_,_,_,e=>by simp at e
 | c::ds,_,0,d,h,e=>by
  obtain⟨v,r,rfl,h1,h2⟩:=cz.mp h;simp at e;subst e;exact⟨v,rfl,h1⟩
 | c::ds,_,i+1,d,h,e=>by
  obtain⟨v,r,rfl,h1,h2⟩:=cz.mp h;obtain⟨u,q1,q2⟩:=IsDs.get (i:=i) (d:=d) h2 (by simpa using e)
  exact⟨u,by simpa using q1,q2⟩
theorem IsDs.set:∀ {ds:List D} {vs:List V} {d:D} {v:V} (i:Nat),IsDs K H ds vs->bH K H d v->IsDs K H (ds.set i d) (vs.set i v)
 | [],_,_,_,_,h,_=>by rw [iT.mp h]; exact IsDs.nil
 | c::ds,_,d,v,0,h,hd=>by
  obtain⟨u,r,rfl,h1,h2⟩:=cz.mp h;exact IsDs.cons hd h2
 | c::ds,_,d,v,i+1,h,hd=>by
  obtain⟨u,r,rfl,h1,h2⟩:=cz.mp h;exact IsDs.cons h1 (IsDs.set i h2 hd)
theorem IsDs.append:∀ {ds es:List D} {vs us:List V},IsDs K H ds vs->IsDs K H es us->IsDs K H (ds++es) (vs++us)
 | [],_,_,_,h,h'=>by rw [iT.mp h]; exact h'
 | c::ds,_,_,_,h,h'=>by
  obtain⟨u,r,rfl,h1,h2⟩:=cz.mp h;exact IsDs.cons h1 (IsDs.append h2 h')
theorem IsDs.drop:∀ {ds:List D} {vs:List V} (n:Nat),IsDs K H ds vs->IsDs K H (ds.drop n) (vs.drop n)
 | _,_,0,h=>h
 | [],_,n+1,h=>by rw [iT.mp h]; exact IsDs.nil
 | c::ds,_,n+1,h=>by
  obtain⟨u,r,rfl,h1,h2⟩:=cz.mp h;exact IsDs.drop n h2
theorem IsDs.take:∀ {ds:List D} {vs:List V} (n:Nat),IsDs K H ds vs->IsDs K H (ds.take n) (vs.take n)
 | _,_,0,h=>by simpa using IsDs.nil
 | [],_,n+1,h=>by rw [iT.mp h]; exact IsDs.nil
 | c::ds,_,n+1,h=>by
  obtain⟨u,r,rfl,h1,h2⟩:=cz.mp h;exact IsDs.cons h1 (IsDs.take n h2)
end
def Da (ks:List Int):Int:=reduceHash (Builtin.Tuple.tupleHashOf (ks.map hashInt))
def eT (x:List Int×Hm×Hl):DictEntry:=⟨Da x.1,.ref x.2.1,x.2.2⟩
def F9 (es:Hw DictEntry) (ep:Nat):Hz:={cls:=.type "dict",dict:=none,data:=.dict es ep,slots:=#[]}
def Ge (a:Hm) (xs:List (List Int×Hm×Hl)) (ep:Nat):Hu->Prop:=λh=>(a == sysModules)=false/\xs.length<=sizeLine/\(xs.map (·.1)).Nodup/\h.get? a=some (F9 (xs.map eT).toArray ep)
inductive Ef where
 | dT (kvs:List (List Int×D)) (ep:Nat)
 | dK (kvs:List (pM×D))
abbrev Ei (K:Fg) (H:Hp):List (List Int×D)->List (List Int×Hm×Hl)->Prop:=Paired λp q=>p.1=q.1/\jN K H q.2.1 (p.1.map V.int)/\∃ v,bh v q.2.2/\bH K H p.2 v
def qw (K:Fg) (H:Hp) (a:Hm):Ef->Prop
 | .dT kvs ep=>∃ xs,H a=some (.ext (Ge a xs ep))/\Ei K H kvs xs
 | .dK kvs=>∃ ys,H a=some (.dK ys)/\Paired (λ(p:pM×D) (q:pM×V)=>p.1=q.1/\bH K H p.2 q.2) kvs ys
theorem Ei.kp {K:Fg} {H H':Hp} {kvs:List (List Int×D)} {xs:List (List Int×Hm×Hl)} (r:Ei K H kvs xs) (k:Kp H H'):Ei K H' kvs xs:=
 Paired.mapP r λ_ _ z9=>by obtain⟨a,b,v,c,d⟩:=z9; exact⟨a,k.tup b,v,c,d.kp k⟩
theorem qw.there {K:Fg} {H:Hp} {a:Hm} {g:Ef} (h:qw K H a g):∃ o,H a=some o/\¬ EX o:=by
 cases g with
 | dT kvs ep=>obtain⟨xs,e,_⟩:=h; exact⟨_,e,λz=>z⟩
 | dK kvs=>obtain⟨xs,e,_⟩:=h; exact⟨_,e,λz=>z⟩
theorem qw.step {K:Fg} {H H':Hp} {a:Hm} {g:Ef} (h:qw K H a g) (k:Kp H H') (s:H' a=H a):qw K H' a g:=by
 cases g with
 | dT kvs ep=>obtain⟨xs,e,r⟩:=h; exact⟨xs,s.trans e,r.kp k⟩
 | dK kvs=>obtain⟨xs,e,r⟩:=h; exact⟨xs,s.trans e,Paired.mapP r λ_ _ z=>⟨z.1,z.2.kp k⟩⟩
inductive DO where
 | lst (ds:List D)
 | dic
 | exc (C:Hm)
 | fn (φ:Hp->Prop)
 | tbl (ψ:Hp->Hw Hl->Prop)
 | gen (g:Ef)
abbrev DH:=Hm->Hn DO
def put (S:DH) (a:Hm) (o:DO):DH:=λb=>if b=a then some o else S b
theorem aq {S:DH} {a:Hm} {o:DO}:put S a o a=some o:=by unfold put; rw [if_pos rfl]
theorem cj {S:DH} {a b:Hm} {o:DO} (h:b≠a):put S a o b=S b:=by unfold put; rw [if_neg h]
theorem qi {S:DH} {a:Hm} {o u:DO}:put (put S a o) a u=put S a u:=by funext b; unfold put; split <;> rfl
theorem xK {S:DH} {a p:Hm} {o:DO} (h:S a=some o) (h':S p=none):a≠p:=by intro e; subst e; rw [h] at h'; cases h'
def EG (K:Fg) (H:Hp) (a:Hm):DO->Prop
 | .lst ds=>∃ xs,H a=some (.lst xs)/\IsDs K H ds xs
 | .dic=>∃ kvs,H a=some (.dK kvs)
 | .exc C=>∃ o u,H a=some (.frz o u)/\o.cls=.ref C
 | .fn φ=>(∃ o u,H a=some (.frz o u))/\∀ H',Kp H H'->φ H'
 | .tbl ψ=>∃ ps,H a=some (.tbl ps)/\∀ H',Kp H H'->ψ H' ps
 | .gen g=>qw K H a g
def Hs (K:Fg) (H:Hp) (S:DH):Prop:=∀ a o,S a=some o->EG K H a o
section
variable {K:Fg} {H H':Hp} {S:DH} {p:Hm}
theorem Hs.lst {ds:List D} (h:Hs K H S) (e:S p=some (.lst ds)):∃ xs,H p=some (.lst xs)/\IsDs K H ds xs:=h p _ e
theorem Hs.free (h:Hs K H S) (e:H p=none):S p=none:=by
 cases q:S p with
 | none=>rfl
 | some o=>
  have z:=h p o q;cases o with
  | lst ds=>obtain⟨xs,z,_⟩:=z; rw [e] at z; cases z
  | dic=>obtain⟨xs,z⟩:=z; rw [e] at z; cases z
  | exc C=>obtain⟨_,_,z,_⟩:=z; rw [e] at z; cases z
  | fn φ=>obtain⟨⟨_,_,z⟩,_⟩:=z; rw [e] at z; cases z
  | tbl ψ=>obtain⟨_,z,_⟩:=z; rw [e] at z; cases z
  | gen g=>obtain⟨_,z,_⟩:=qw.there z; rw [e] at z; cases z
theorem Hs.step (h:Hs K H S) (k:Kp H H') (s:∀ a o,S a=some o->H' a=H a):Hs K H' S:=λa o e=>by
 have z:=h a o e;cases o with
 | lst ds=>obtain⟨xs,z,r⟩:=z; exact⟨xs,by rw [s a _ e]; exact z,r.kp k⟩
 | dic=>obtain⟨xs,z⟩:=z; exact⟨xs,by rw [s a _ e]; exact z⟩
 | exc C=>obtain⟨x,y,z,r⟩:=z; exact⟨x,y,by rw [s a _ e]; exact z,r⟩
 | fn φ=>obtain⟨⟨x,y,z⟩,r⟩:=z; exact⟨⟨x,y,by rw [s a _ e]; exact z⟩,λH2 k2=>r H2 (k.trans k2)⟩
 | tbl ψ=>obtain⟨ps,z,r⟩:=z; exact⟨ps,by rw [s a _ e]; exact z,λH2 k2=>r H2 (k.trans k2)⟩
 | gen g=>exact qw.step z k (s a _ e)
theorem Hs.new {o:HO} (h:Hs K H S) (e:H p=none):Hs K (bt H p o) S:=h.step (Kp.new e) λa u q=>by
 rw [ax]; intro z; subst z; rw [h.free e] at q; cases q
theorem Hs.newL {xs:List V} {ds:List D} (h:Hs K H S) (e:H p=none) (r:IsDs K H ds xs):Hs K (bt H p (.lst xs)) (put S p (.lst ds)):=λa o q=>by
 by_cases z:a=p
 ·subst z;rw [aq] at q;cases q;exact⟨xs,bA,r.kp (Kp.new e)⟩
 ·rw [cj z] at q;exact(h.new e) a o q
theorem Hs.setL {xs ys:List V} {ds:List D} (h:Hs K H S) (e:H p=some (.lst xs)) (r:IsDs K H ds ys):Hs K (bt H p (.lst ys)) (put S p (.lst ds)):=λa o q=>by
 have k:Kp H (bt H p (.lst ys)):=Kp.mut e (λz=>z)
 by_cases z:a=p
 ·subst z;rw [aq] at q;cases q;exact⟨ys,bA,r.kp k⟩
 ·rw [cj z] at q;have w:=h a o q;cases o with
  | lst ds=>obtain⟨xs,w,r⟩:=w; exact⟨xs,by rw [ax z]; exact w,r.kp k⟩
  | dic=>obtain⟨xs,w⟩:=w; exact⟨xs,by rw [ax z]; exact w⟩
  | exc C=>obtain⟨x,y,w,r⟩:=w; exact⟨x,y,by rw [ax z]; exact w,r⟩
  | fn φ=>obtain⟨⟨x,y,w⟩,r⟩:=w; exact⟨⟨x,y,by rw [ax z]; exact w⟩,λH2 k2=>r H2 (k.trans k2)⟩
  | tbl ψ=>obtain⟨ps,w,r⟩:=w; exact⟨ps,by rw [ax z]; exact w,λH2 k2=>r H2 (k.trans k2)⟩
  | gen g=>exact qw.step w k (ax z)
end
abbrev Lo:=List (Hn D)
def Lc (K:Fg) (H:Hp):Lo->L2.St->Prop
 | [],σ=>σ=[]
 | none::L,σ=>∃ x r,σ=x::r/\Lc K H L r
 | some d::L,σ=>∃ v r,σ=some v::r/\bH K H d v/\Lc K H L r
section
variable {K:Fg} {H H':Hp}
theorem Lc.kp (k:Kp H H'):∀ {L:Lo} {σ:L2.St},Lc K H L σ->Lc K H' L σ
 | [],_,h=>h
 | none::L,_,h=>by
  obtain⟨x,r,e,h⟩:=h;exact⟨x,r,e,Lc.kp k h⟩
 | some d::L,_,h=>by
  obtain⟨v,r,e,h1,h⟩:=h;exact⟨v,r,e,h1.kp k,Lc.kp k h⟩
theorem Lc.get:∀ {L:Lo} {σ:L2.St} {i:Nat} {d:D},Lc K H L σ->L[i]?=some (some d)->∃ v,σ[i]?=some (some v)/\bH K H d v
 | [],_,_,_,_,e=>by simp at e
 | none::L,_,0,_,_,e=>by simp at e
 | some c::L,_,0,d,h,e=>by
  obtain⟨v,r,rfl,h1,h⟩:=h;simp at e;subst e;exact⟨v,rfl,h1⟩
 | none::L,_,i+1,d,h,e=>by
  obtain⟨x,r,rfl,h⟩:=h;obtain⟨u,q1,q2⟩:=Lc.get (i:=i) (d:=d) h (by simpa using e)
  exact⟨u,by simpa using q1,q2⟩
 | some c::L,_,i+1,d,h,e=>by
  obtain⟨v,r,rfl,_,h⟩:=h;obtain⟨u,q1,q2⟩:=Lc.get (i:=i) (d:=d) h (by simpa using e)
  exact⟨u,by simpa using q1,q2⟩
theorem Lc.set {d:D} {v:V} (hd:bH K H d v):∀ {L:Lo} {σ:L2.St} (i:Nat),Lc K H L σ->Lc K H (L.set i (some d)) (σ.set i (some v))
 | [],_,_,h=>by
  have e:_=[]:=h;subst e;exact rfl
 | none::L,_,0,h=>by
  obtain⟨x,r,rfl,h⟩:=h;exact⟨v,r,rfl,hd,h⟩
 | some c::L,_,0,h=>by
  obtain⟨x,r,rfl,_,h⟩:=h;exact⟨v,r,rfl,hd,h⟩
 | none::L,_,i+1,h=>by
  obtain⟨x,r,rfl,h⟩:=h;exact⟨x,r.set i (some v),rfl,Lc.set hd i h⟩
 | some c::L,_,i+1,h=>by
  obtain⟨x,r,rfl,h1,h⟩:=h;exact⟨x,r.set i (some v),rfl,h1,Lc.set hd i h⟩
theorem Lc.none:∀ (n:Nat),Lc K H (List.replicate n .none) (List.replicate n .none)
 | 0=>rfl
 | n+1=>⟨_,_,rfl,Lc.none n⟩
theorem Lc.start:∀ {ds:List D} {vs:List V} (n:Nat),IsDs K H ds vs->Lc K H (ds.map some++List.replicate n .none) (vs.map some++List.replicate n .none)
 | [],_,n,h=>by rw [iT.mp h]; exact Lc.none n
 | d::ds,_,n,h=>by
  obtain⟨v,r,rfl,h1,h2⟩:=cz.mp h;exact⟨v,_,rfl,h1,Lc.start n h2⟩
end
abbrev DK:=D->DH->Prop
abbrev DE:=Lo->DH->DK->Prop
abbrev DT:=Lo->DH->(Hx->DH->Prop)->Prop
abbrev DA:=Lo->DH->(List D->DH->Prop)->Prop
structure lT where
 nx:Lo->DH->Prop
 rt:DK
 bk:Lo->DH->Prop:=λ_ _=>False
 ct:Lo->DH->Prop:=λ_ _=>False
abbrev DS:=lT->Lo->DH->Prop
def up (K:Fg) (g:DE):TE:=fun σ H Q=>∃ L S k,Lc K H L σ/\Hs K H S/\g L S k/\∀ d S' v H',k d S'->Kp H H'->Hs K H' S'->bH K H' d v->Q v H'
def sO (K:Fg) (g:DT):TT:=fun σ H Q=>∃ L S k,Lc K H L σ/\Hs K H S/\g L S k/\∀ b S' H',k b S'->Kp H H'->Hs K H' S'->Q b H'
def qB (K:Fg) (g:DA):TA:=fun σ H Q=>∃ L S k,Lc K H L σ/\Hs K H S/\g L S k/\∀ ds S' vs H',k ds S'->Kp H H'->Hs K H' S'->IsDs K H' ds vs->Q vs H'
structure qy (K:Fg) (H:Hp) (M:lT) (N:me):Prop where
 nx:∀ L S σ H',M.nx L S->Kp H H'->Lc K H' L σ->Hs K H' S->N.nx σ H'
 rt:∀ d S v H',M.rt d S->Kp H H'->Hs K H' S->bH K H' d v->N.rt v H'
 bk:∀ L S σ H',M.bk L S->Kp H H'->Lc K H' L σ->Hs K H' S->N.bk σ H'
 ct:∀ L S σ H',M.ct L S->Kp H H'->Lc K H' L σ->Hs K H' S->N.ct σ H'
theorem qy.kp {K:Fg} {H H1:Hp} {M:lT} {N:me} (r:qy K H M N) (k:Kp H H1):qy K H1 M N:=
 ⟨λL S σ H' h k'=>r.nx L S σ H' h (k.trans k'),λd S v H' h k'=>r.rt d S v H' h (k.trans k'),λL S σ H' h k'=>r.bk L S σ H' h (k.trans k'),λL S σ H' h k'=>r.ct L S σ H' h (k.trans k')⟩
def ya (K:Fg) (g:DS):TS:=λN σ H=>∃ L S M,Lc K H L σ/\Hs K H S/\g M L S/\qy K H M N
theorem PE.imp {X:Cx} {e:Ho} {t t':TE} (h:PE X e t) (i:∀ σ H Q,t' σ H Q->t σ H Q):PE X e t':=λHA s σ H Q I q=>h HA s σ H Q I (i σ H Q q)
theorem PT.imp {X:Cx} {e:Ho} {t t':TT} (h:PT X e t) (i:∀ σ H Q,t' σ H Q->t σ H Q):PT X e t':=λHA s σ H Q I q=>h HA s σ H Q I (i σ H Q q)
theorem PW.imp {X:Cx} {e:Ho} {t t':TT} (h:PW X e t) (i:∀ σ H Q,t' σ H Q->t σ H Q):PW X e t':=λw HA s σ H Q I q=>h w HA s σ H Q I (i σ H Q q)
theorem PA.imp {X:Cx} {e:List Ho} {t t':TA} (h:PA X e t) (i:∀ σ H Q,t' σ H Q->t σ H Q):PA X e t':=λpos HA s σ H Q I q=>h pos HA s σ H Q I (i σ H Q q)
theorem PS.imp {X:Cx} {e:Hv} {t t':TS} (h:PS X e t) (i:∀ N σ H,t' N σ H->t N σ H):PS X e t':=λHA s σ H Q I q=>h HA s σ H Q I (i Q σ H q)
theorem nJ.imp {X:Cx} {e:List Hv} {t t':TS} (h:nJ X e t) (i:∀ N σ H,t' N σ H->t N σ H):nJ X e t':=λHA s σ H Q I q=>h HA s σ H Q I (i Q σ H q)
theorem up.go {K:Fg} {g:DE} {σ:L2.St} {H:Hp} {Q:VK} {L:Lo} {S:DH} {k:DK} (hL:Lc K H L σ) (hS:Hs K H S) (h:g L S k)
  (n:∀ d S' v H',k d S'->Kp H H'->Lc K H' L σ->Hs K H' S'->bH K H' d v->Q v H'):up K g σ H Q:=
 ⟨L,S,k,hL,hS,h,λd S' v H' a b c e=>n d S' v H' a b (hL.kp b) c e⟩
theorem sO.go {K:Fg} {g:DT} {σ:L2.St} {H:Hp} {Q:Hx->Hp->Prop} {L:Lo} {S:DH} {k:Hx->DH->Prop} (hL:Lc K H L σ) (hS:Hs K H S) (h:g L S k)
  (n:∀ b S' H',k b S'->Kp H H'->Lc K H' L σ->Hs K H' S'->Q b H'):sO K g σ H Q:=
 ⟨L,S,k,hL,hS,h,λb S' H' a c e=>n b S' H' a c (hL.kp c) e⟩
theorem qB.go {K:Fg} {g:DA} {σ:L2.St} {H:Hp} {Q:List V->Hp->Prop} {L:Lo} {S:DH} {k:List D->DH->Prop} (hL:Lc K H L σ) (hS:Hs K H S) (h:g L S k)
  (n:∀ ds S' vs H',k ds S'->Kp H H'->Lc K H' L σ->Hs K H' S'->IsDs K H' ds vs->Q vs H'):qB K g σ H Q:=
 ⟨L,S,k,hL,hS,h,λd S' v H' a b c e=>n d S' v H' a b (hL.kp b) c e⟩
section
variable {X:Cx} {a b c:Ho} {ga gb gc:DE} {pos:Pos}
def y8 (i:Nat):DE:=λL S k=>match L[i]? with
 | some (some d)=>k d S
 | _=>False
def dC (d:D):DE:=λ_ S k=>k d S
theorem Ch {e:Ho} {d:D} {v:V} (h:PE X e (tC v)) (hd:∀ H,bH X.K H d v):PE X e (up X.K (dC d)):=
 PE.imp h fun σ H Q z9=>by obtain⟨L,S,k,hL,hS,h,n⟩:=z9; exact n d S v H h (Kp.refl H) hS (hd H)
def zM:Ho->Hx
 | .Starred _ _=>true
 | _=>false
theorem bS {a:Ho} {es:List Ho} {env:Env} (h:zM a=false):starEach (a::es) env=(false,eval a env)::starEach es env:=by
 cases a <;> first | rfl | cases h
theorem fh {pos:Pos} {env:Env}:∀ {es:List Ho},(es.all λe=>!zM e)=true->(backTo pos (starEach es env)).any (·.1)=false
 | [],_=>rfl
 | e::es,h=>by
  rw [List.all_cons,G3] at h;rw [bS (by simpa using h.1)]
  exact fh h.2
def EU:DA:=λ_ S k=>k [] S
def zP (g:DE) (t:DA):DA:=λL S k=>g L S λd S1=>t L S1 λds S2=>k (d::ds) S2
def Eo (t:DA):DE:=λL S k=>t L S λds S1=>ds.length<=sizeLine/\k (.tup ds) S1
def Fs (t:DA):DE:=λL S k=>t L S λds S1=>ds.length<=sizeLine/\∀ p,S1 p=none->k (.ref p) (put S1 p (.lst ds))
abbrev D2:=D->D->DH->DK->Prop
def jL (K:Fg) (r:D2):R2:=λx y H Q=>∃ d e S k,bH K H d x/\bH K H e y/\Hs K H S/\r d e S k/\∀ d' S' v H',k d' S'->Kp H H'->Hs K H' S'->bH K H' d' v->Q v H'
def Cg (r:D2) (ga gb:DE):DE:=λL S k=>ga L S λx S1=>gb L S1 λy S2=>r x y S2 k
theorem pP {K:Fg} {r:D2}:∀ σ H Q,up K (Cg r ga gb) σ H Q->CL (jL K r) (up K ga) (up K gb) σ H Q:=fun σ H Q ⟨L,S,k,hL,hS,h,n⟩=>
 up.go hL hS h λd S1 v H1 h1 k1 hL1 hS1 i1=>up.go hL1 hS1 h1 λe S2 u H2 h2 k2 hL2 hS2 i2=>
  ⟨d,e,S2,k,i1.kp k2,i2,hS2,h2,λd' S' v H' q k3 z1 z2=>n d' S' v H' q (k1.trans (k2.trans k3)) z1 z2⟩
abbrev D1:=D->DH->DK->Prop
def Fz (K:Fg) (r:D1):V->Hp->VK->Prop:=λx H Q=>∃ d S k,bH K H d x/\Hs K H S/\r d S k/\∀ d' S' v H',k d' S'->Kp H H'->Hs K H' S'->bH K H' d' v->Q v H'
def FJ (r:D1) (ga:DE):DE:=λL S k=>ga L S λx S1=>r x S1 k
def wd (g:DE):DT:=λL S k=>g L S λd S1=>match d with
 | .bl c=>k c S1
 | _=>False
theorem qL {K:Fg} {g:DE}:∀ σ H Q,sO K (wd g) σ H Q->Af (up K g) σ H Q:=fun σ H Q ⟨L,S,k,hL,hS,h,n⟩=>
 up.go hL hS h λd S1 v H1 h1 k1 hL1 hS1 i1=>by
  cases d with
  | bl c=>
   have e:=bO.mp i1;subst e;exact⟨c,rfl,n c S1 H1 h1 k1 hS1⟩
  | _=>exact(show False from h1).elim
variable {tA tB':DT} {gA:List Ho}
def Dn (t u:DT):DT:=λL S k=>t L S λc S1=>if c=true then u L S1 k else k false S1
def E2 (t u:DT):DT:=λL S k=>t L S λc S1=>if c=true then k true S1 else u L S1 k
def CI (t:DT):DT:=λL S k=>t L S λc S1=>k (!c) S1
def DF (ga gb:DE):DE:=λL S k=>ga L S λx S1=>match x with
 | .bl c=>if c=true then gb L S1 k else k (.bl false) S1
 | _=>False
def F7 (t:DT) (ga gb:DE):DE:=λL S k=>t L S λc S1=>if c=true then ga L S1 k else gb L S1 k
end
section
variable {X:Cx}
theorem mC {K:Fg} {H:Hp} {S:DH} {k:DK} {Q:VK} {d:D} {v:V} (n:∀ d' S' v H',k d' S'->Kp H H'->Hs K H' S'->bH K H' d' v->Q v H') (hS:Hs K H S) (h:k d S) (i:bH K H d v):Q v H:=n d S v H h (Kp.refl H) hS i
def AV (C:Int->Int->Prop) (g:Int->Int->D):D2:=λd e S k=>match d,e with
 | .int i,.int j=>C i j/\k (g i j) S
 | _,_=>False
theorem uD {f:Hl->Hl->Sem Hl} {C:Int->Int->Prop} {g:Int->Int->D} {gV:Int->Int->V} (ho:gn X f (rI C gV)) (hg:∀ i j H,bH X.K H (g i j) (gV i j)):gn X f (jL X.K (AV C g)):=by
 intro HA s σ H x y v u Q I rx ry h;obtain⟨d,e,S,k,i1,i2,hS,r,n⟩:=h;cases d with
 | int i=>
  cases e with
  | int j=>
   have e1:=isInt.mp i1;have e2:=isInt.mp i2;subst e1;subst e2;exact ho HA s σ H _ _ v u Q I rx ry ⟨i,j,rfl,rfl,r.1,mC n hS r.2 (hg i j H)⟩
  | _=>exact(show False from r).elim
 | _=>exact(show False from r).elim
def wv (g:Int->Int->D):D2:=λd e S k=>match d,e with
 | .int i,.int j=>k (g i j) S
 | _,_=>False
theorem tU {f:Hl->Hl->Sem Hl} {g:Int->Int->D} {gV:Int->Int->V} (ho:gn X f (Ag gV)) (hg:∀ i j H,bH X.K H (g i j) (gV i j)):gn X f (jL X.K (wv g)):=by
 intro HA s σ H x y v u Q I rx ry h;obtain⟨d,e,S,k,i1,i2,hS,r,n⟩:=h;cases d with
 | int i=>
  cases e with
  | int j=>
   have e1:=isInt.mp i1;have e2:=isInt.mp i2;subst e1;subst e2;exact ho HA s σ H _ _ v u Q I rx ry ⟨i,j,rfl,rfl,mC n hS r (hg i j H)⟩
  | _=>exact(show False from r).elim
 | _=>exact(show False from r).elim
def tQ (i j:Int):Prop:=j≠0/\j.natAbs.log2 < 9000
abbrev Ew:D2:=wv λi j=>.int (i - j)
abbrev EQ:D2:=AV IntMulOk λi j=>.int (i*j)
abbrev EK:D2:=AV tQ λi j=>.int (i.fdiv j)
abbrev E9:D2:=AV (λ_ j=>j≠0) λi j=>.int (i.fmod j)
abbrev E_:D2:=AV BV λi j=>.int (i ^ j.toNat)
abbrev FQ:D2:=wv λi j=>.bl (decide (i < j))
abbrev Gc:D2:=wv λi j=>.bl (decide (j < i))
abbrev FZ:D2:=wv λi j=>.bl (decide (j<=i))
theorem m5:gn X (binaryOp .Sub) (jL X.K Ew):=tU AY λ_ _ _=>isInt.mpr rfl
theorem dr:gn X (binaryOp .Mult) (jL X.K EQ):=uD (C:=IntMulOk) (gV:=λi j=>.int (i*j)) (Co λ_ _ _ _ _ _ _ hc q=>mul_int q hc) λ_ _ _=>isInt.mpr rfl
theorem tN:gn X (binaryOp .FloorDiv) (jL X.K EK):=uD (C:=tQ) (gV:=λi j=>.int (i.fdiv j)) (Co λ_ _ _ _ _ _ _ hc q=>floordiv_int hc.1 q (.inl (PyProof.noPylong_of_log2 hc.2))) λ_ _ _=>isInt.mpr rfl
theorem kD:gn X (binaryOp .Mod) (jL X.K E9):=uD y6 λ_ _ _=>isInt.mpr rfl
theorem zG:gn X (binaryOp .Pow) (jL X.K E_):=uD Bp λ_ _ _=>isInt.mpr rfl
theorem mP:gn X (compareOp .Lt) (jL X.K FQ):=tU Cs λ_ _ _=>bO.mpr rfl
theorem ES:gn X (compareOp .Gt) (jL X.K Gc):=tU Dz λ_ _ _=>bO.mpr rfl
theorem EF:gn X (compareOp .GtE) (jL X.K FZ):=tU CT λ_ _ _=>bO.mpr rfl
def B5:D2:=λd e S k=>match d,e with
 | .int i,.int j=>k (.int (i+j)) S
 | .str x,.str y=>x.length+y.length<=sizeLine/\k (.str (x++y)) S
 | .tup xs,.tup ys=>xs≠[]/\ys≠[]/\xs.length+ys.length<=sizeLine/\k (.tup (xs++ys)) S
 | .ref a,.ref b=>∃ xs ys,S a=some (.lst xs)/\S b=some (.lst ys)/\xs.length+ys.length<=sizeLine/\∀ p,S p=none->k (.ref p) (put S p (.lst (xs++ys)))
 | _,_=>False
theorem lN {K:Fg} {H:Hp} {ds:List D} {vs:List V} (i:IsDs K H ds vs) (h:ds≠[]):vs≠[]:=by
 intro e;subst e;have:=i.length;exact h (Hj.mp this)
theorem dh:gn X (binaryOp .Add) (jL X.K B5):=by
 intro HA s σ H x y v u Q I rx ry h;obtain⟨d,e,S,k,i1,i2,hS,r,n⟩:=h;cases d with
 | int i=>
  cases e with
  | int j=>
   have e1:=isInt.mp i1;have e2:=isInt.mp i2;subst e1;subst e2;exact Bk HA s σ H _ _ v u Q I rx ry ⟨i,j,rfl,rfl,mC n hS r (isInt.mpr rfl)⟩
  | _=>exact(show False from r).elim
 | str i=>
  cases e with
  | str j=>
   have e1:=gC.mp i1;have e2:=gC.mp i2;subst e1;subst e2;exact sU HA s σ H _ _ v u Q I rx ry ⟨i,j,rfl,rfl,r.1,mC n hS r.2 (gC.mpr rfl)⟩
  | _=>exact(show False from r).elim
 | tup xs=>
  cases e with
  | tup ys=>
   obtain⟨a,vs,rfl,t1,j1⟩:=bC.mp i1;obtain⟨b,us,rfl,t2,j2⟩:=bC.mp i2;obtain⟨h1,h2,h3,r⟩:=r;refine uh HA s σ H _ _ v u Q I rx ry ⟨a,b,vs,us,rfl,rfl,t1,t2,lN j1 h1,by rw [<- j1.length,<- j2.length]; exact h3,λz=>absurd z (lN j2 h2),λ_ p hp=>?_⟩
   have kp:Kp H (bt H p (.tup (vs++us))):=Kp.new hp;exact n _ S _ _ r kp (hS.new hp) (bC.mpr ⟨p,_,rfl,jN.of bA,(j1.append j2).kp kp⟩)
  | _=>exact(show False from r).elim
 | ref a=>
  cases e with
  | ref b=>
   have e1:=b_.mp i1;have e2:=b_.mp i2;subst e1;subst e2;obtain⟨xs,ys,h1,h2,h3,r⟩:=r;obtain⟨vs,q1,j1⟩:=hS.lst h1;obtain⟨us,q2,j2⟩:=hS.lst h2;refine Cc HA s σ H _ _ v u Q I rx ry ⟨a,b,vs,us,rfl,rfl,q1,q2,by rw [<- j1.length,<- j2.length]; exact h3,λp hp=>?_⟩
   exact n _ _ _ _ (r p (hS.free hp)) (Kp.new hp) (hS.newL hp (j1.append j2)) (b_.mpr rfl)
  | _=>exact(show False from r).elim
 | _=>exact(show False from r).elim
def Ci:D->D->Hn Hx
 | .int i,.int j=>some (decide (i=j))
 | .bl i,.bl j=>some (decide (i=j))
 | .str i,.str j=>some (decide (i=j))
 | _,_=>none
def FE:D2:=λd e S k=>match Ci d e with
 | some b=>k (.bl b) S
 | none=>False
def FG:D2:=λd e S k=>match Ci d e with
 | some b=>k (.bl (!b)) S
 | none=>False
theorem zS {K:Fg} {H:Hp} {d e:D} {x y:V} {b:Hx} (h:Ci d e=some b) (i1:bH K H d x) (i2:bH K H e y):BO x y=true/\decide (x=y)=b:=by
 unfold Ci at h
 split at h
 ·have e1:=isInt.mp i1;have e2:=isInt.mp i2;subst e1; subst e2
  cases h;exact⟨rfl,by simp⟩
 ·have e1:=bO.mp i1;have e2:=bO.mp i2;subst e1; subst e2
  cases h;exact⟨rfl,by simp⟩
 ·have e1:=gC.mp i1;have e2:=gC.mp i2;subst e1; subst e2
  cases h;exact⟨rfl,by simp⟩
 ·cases h
theorem fy:gn X (compareOp .Eq) (jL X.K FE):=by
 intro HA s σ H x y v u Q I rx ry h;obtain⟨d,e,S,k,i1,i2,hS,r,n⟩:=h;unfold FE at r;cases q:Ci d e with
 | none=>rw [q] at r; exact r.elim
 | some b=>
  rw [q] at r;obtain⟨h1,h2⟩:=zS q i1 i2;exact C5 HA s σ H _ _ v u Q I rx ry ⟨h1,by rw [h2]; exact mC n hS r (bO.mpr rfl)⟩
theorem ER:gn X (compareOp .NotEq) (jL X.K FG):=by
 intro HA s σ H x y v u Q I rx ry h;obtain⟨d,e,S,k,i1,i2,hS,r,n⟩:=h;unfold FG at r;cases q:Ci d e with
 | none=>rw [q] at r; exact r.elim
 | some b=>
  rw [q] at r;obtain⟨h1,h2⟩:=zS q i1 i2;exact D8 HA s σ H _ _ v u Q I rx ry ⟨h1,by rw [h2]; exact mC n hS r (bO.mpr rfl)⟩
def rN:D->Hx
 | .non=>true
 | _=>false
def Fw:D2:=λd e S k=>match d,e with
 | .bl c,.bl b=>k (.bl (c == b)) S
 | d,.non=>k (.bl (rN d)) S
 | _,_=>False
def vv:D2:=λd e S k=>match d,e with
 | .bl c,.bl b=>k (.bl (!(c == b))) S
 | d,.non=>k (.bl (!rN d)) S
 | _,_=>False
theorem qF {K:Fg} {H:Hp} {d:D} {x:V} (i:bH K H d x):decide (x=.non)=rN d:=by
 cases d with
 | non=>rw [cq.mp i]; rfl
 | bl b=>rw [bO.mp i]; rfl
 | int b=>rw [isInt.mp i]; rfl
 | str b=>rw [gC.mp i]; rfl
 | ref b=>rw [b_.mp i]; rfl
 | ty b=>rw [zi.mp i]; rfl
 | tup b=>obtain⟨a,xs,rfl,_⟩:=bC.mp i; rfl
 | rl b=>obtain⟨a,xs,rfl,_⟩:=ra.mp i; rfl
theorem uT:gn X (compareOp .Is) (jL X.K Fw):=by
 intro HA s σ H x y v u Q I rx ry h;obtain⟨d,e,S,k,i1,i2,hS,r,n⟩:=h;unfold Fw at r
 split at r
 ·rename_i c b
  have e1:=bO.mp i1;have e2:=bO.mp i2;subst e1; subst e2
  cases rx; cases ry
  exact is_bool ⟨.bl _,H,I,rfl,mC n hS r (bO.mpr rfl)⟩
 ·have e2:=cq.mp i2;exact BH HA s σ H _ _ v u Q I rx ry ⟨e2,by rw [qF i1]; exact mC n hS r (bO.mpr rfl)⟩
 ·exact r.elim
theorem yg:gn X (compareOp .IsNot) (jL X.K vv):=by
 intro HA s σ H x y v u Q I rx ry h;obtain⟨d,e,S,k,i1,i2,hS,r,n⟩:=h;unfold vv at r
 split at r
 ·rename_i c b
  have e1:=bO.mp i1;have e2:=bO.mp i2;subst e1; subst e2
  cases rx; cases ry
  exact isnot_bool ⟨.bl _,H,I,rfl,mC n hS r (bO.mpr rfl)⟩
 ·have e2:=cq.mp i2;exact yS HA s σ H _ _ v u Q I rx ry ⟨e2,by rw [qF i1]; exact mC n hS r (bO.mpr rfl)⟩
 ·exact r.elim
def ED:D1:=λd S k=>match d with
 | .int i=>k (.int (-i)) S
 | _=>False
theorem Ap:Db X (unaryOp .USub) (Fz X.K ED):=by
 intro HA s σ H x v Q I rx h;obtain⟨d,S,k,i1,hS,r,n⟩:=h;cases d with
 | int i=>
  have e1:=isInt.mp i1;subst e1;exact A2 HA s σ H _ v Q I rx ⟨i,rfl,mC n hS r (isInt.mpr rfl)⟩
 | _=>exact(show False from r).elim
def qA:D2:=λd e S k=>match d,e with
 | .tup ds,.int i=>(match atI ds i with
  | some c=>k c S
  | none=>False)
 | .rl ds,.int i=>(match atI ds i with
  | some c=>k c S
  | none=>False)
 | .ref a,.int i=>(match S a with
  | some (.lst ds)=>(match atI ds i with
   | some c=>k c S
   | none=>False)
  | _=>False)
 | _,_=>False
theorem IsDs.atI {K:Fg} {H:Hp} {ds:List D} {vs:List V} {i:Int} {d:D} (r:IsDs K H ds vs) (h:atI ds i=some d):∃ v,L2.atI vs i=some v/\bH K H d v:=by
 unfold L2.atI at h ⊢;rw [<- r.length];cases q:xt ds.length i with
 | none=>rw [q] at h; cases h
 | some j=>
  rw [q] at h;exact r.get h
theorem Df:vp X (jL X.K qA):=by
 intro value slice HA s σ H x y v u Q I rx ry h hs;obtain⟨d,e,S,k,i1,i2,hS,r,n⟩:=h;cases e with
 | int i=>
  have e2:=isInt.mp i2;subst e2;cases d with
  | tup ds=>
   obtain⟨a,vs,rfl,t,j⟩:=bC.mp i1;cases q:atI ds i with
   | none=>simp only [qA,q] at r
   | some c=>
    simp only [qA,q] at r;obtain⟨w,e1,e2⟩:=j.atI q;exact At value slice HA s σ H _ _ v u Q I rx ry ⟨a,vs,i,w,rfl,rfl,t,e1,mC n hS r e2⟩ hs
  | rl ds=>
   obtain⟨a,vs,rfl,t,j⟩:=ra.mp i1;cases q:atI ds i with
   | none=>simp only [qA,q] at r
   | some c=>
    simp only [qA,q] at r;obtain⟨w,e1,e2⟩:=j.atI q;exact tL value slice HA s σ H _ _ v u Q I rx ry ⟨a,vs,i,w,rfl,rfl,t.sq,e1,mC n hS r e2⟩ hs
  | ref a=>
   have e1:=b_.mp i1;subst e1;cases z:S a with
   | none=>simp only [qA,z] at r
   | some o=>
    cases o with
    | dic=>simp only [qA,z] at r
    | exc _=>simp only [qA,z] at r
    | fn _=>simp only [qA,z] at r
    | tbl _=>simp only [qA,z] at r
    | gen _=>simp only [qA,z] at r
    | lst ds=>
     obtain⟨vs,hl,j⟩:=hS.lst z;cases q:atI ds i with
     | none=>simp only [qA,z,q] at r
     | some c=>
      simp only [qA,z,q] at r;obtain⟨w,e1,e2⟩:=j.atI q;exact tL value slice HA s σ H _ _ v u Q I rx ry ⟨a,vs,i,w,rfl,rfl,ir.of hl,e1,mC n hS r e2⟩ hs
  | _=>exact(show False from r).elim
 | _=>
  cases d <;> exact(show False from r).elim
end
abbrev ca:=List D->DH->DK->Prop
def sZ (K:Fg) (r:ca):List V->Hp->VK->Prop:=λxs H Q=>∃ ds S k,IsDs K H ds xs/\Hs K H S/\r ds S k/\∀ d' S' v H',k d' S'->Kp H H'->Hs K H' S'->bH K H' d' v->Q v H'
def o7 (r:ca) (t:DA):DE:=λL S k=>t L S λds S1=>r ds S1 k
section
variable {X:Cx} {x:Str} {p pos:Pos} {e:Ho} {es:List Ho} {t:DA} {id T:Hy} {r:ca}
theorem qK {K:Fg}:∀ σ H Q,up K (o7 r t) σ H Q->Fv (sZ K r) (qB K t) σ H Q:=fun σ H Q ⟨L,S,k,hL,hS,h,n⟩=>
 qB.go hL hS h λds S1 vs H1 h1 k1 hL1 hS1 i1=>⟨ds,S1,k,i1,hS1,h1,λd' S' v H' q k3 z1 z2=>n d' S' v H' q (k1.trans k3) z1 z2⟩
def cV (K:Fg) (F:ca):Sp:=λvs H Q _=>sZ K F vs H Q
structure aW (P:Hq) (w:Ht) (K:Fg) (mg:Str->Hn Hl) (base:Hu) (x:Str) (n:Nat) (F:ca):Prop where
 ex:∃ f fd ps,aJ P w K mg base cJ n f fd ps (cV K F)/\mg x=some (.ref f)/\PySem.W.keepIn K (.ref f)=true/\gL K fd ps []
theorem BA {n:Nat} {F:ca} (c:aW X.prog X.w X.K X.mg X.base x n F) (hr:ce n X.A) (hg:Gl X x) (ha:PA X (e::es) (qB X.K t)) (hdb:(x == ("__debug__":Str))=false:=by decide)
  (he:starEach (e::es) X.env=(false,eval e X.env)::starEach es X.env:=by exact bS rfl) (hpl:(backTo pos (starEach es X.env)).any (·.1)=false:=by exact fh rfl):
  PE X (.Call (.Name x p) (e::es) [] pos) (up X.K (o7 F t)):=by
 obtain⟨f,fd,ps,F1,h1,h2,h3⟩:=c.ex;refine PE.imp (ua F1 hr hg h1 h2 h3 .nil Cv ha hdb he hpl) fun σ H Q z9=>?_
 obtain⟨L,S,k,hL,hS,h,n⟩:=z9;refine qB.go hL hS h λds S1 vs H1 h1 k1 hL1 hS1 i1=>?_
 show cV X.K F (vs++[]) H1 Q E0
 rw [GI];exact⟨ds,S1,k,i1,hS1,h1,λd' S' v H' q k3 z1 z2=>n d' S' v H' q (k1.trans k3) z1 z2⟩
def D_:ca:=λds S k=>match ds with
 | [.int i]=>k (.int (if i < 0 then -i else i)) S
 | _=>False
theorem jm {K:Fg} {H:Hp} {d:D} {xs:List V} (h:IsDs K H [d] xs):∃ x,xs=[x]/\bH K H d x:=by
 obtain⟨v,r,rfl,h1,h2⟩:=cz.mp h;rw [iT.mp h2];exact⟨v,rfl,h1⟩
theorem pb {K:Fg} {H:Hp} {d e:D} {xs:List V} (h:IsDs K H [d,e] xs):∃ x y,xs=[x,y]/\bH K H d x/\bH K H e y:=by
 obtain⟨v,r,rfl,h1,h2⟩:=cz.mp h;obtain⟨y,rfl,h3⟩:=jm h2;exact⟨v,y,rfl,h1,h3⟩
theorem tH:dW X (.builtin "abs") (sZ X.K D_):=by
 intro HA s σ H xs us Q I rs h;obtain⟨ds,S,k,i,hS,r,n⟩:=h;unfold D_ at r
 split at r
 ·obtain⟨x,rfl,i1⟩:=jm i;have e1:=isInt.mp i1;subst e1;exact w_ HA s σ H _ us Q I rs ⟨_,rfl,mC n hS r (isInt.mpr rfl)⟩
 ·exact r.elim
def AG:ca:=λds S k=>match ds with
 | [.tup xs]=>k (.int xs.length) S
 | [.rl xs]=>k (.int xs.length) S
 | [.ref a]=>(match S a with
  | some (.lst xs)=>k (.int xs.length) S
  | _=>False)
 | _=>False
theorem CF:dW X (.builtin "len") (sZ X.K AG):=by
 intro HA s σ H xs us Q I rs h;obtain⟨ds,S,k,i,hS,r,n⟩:=h;unfold AG at r
 split at r
 ·obtain⟨x,rfl,i1⟩:=jm i;obtain⟨a,vs,rfl,t,j⟩:=bC.mp i1;exact iL HA s σ H _ us Q I rs ⟨a,vs,rfl,.inr t,by rw [<- j.length]; exact mC n hS r (isInt.mpr rfl)⟩
 ·obtain⟨x,rfl,i1⟩:=jm i;obtain⟨a,vs,rfl,t,j⟩:=ra.mp i1;exact iL HA s σ H _ us Q I rs ⟨a,vs,rfl,.inl t.sq,by rw [<- j.length]; exact mC n hS r (isInt.mpr rfl)⟩
 ·obtain⟨x,rfl,i1⟩:=jm i;have e1:=b_.mp i1;subst e1
  split at r
  ·rename_i z
   obtain⟨vs,hl,j⟩:=hS.lst z;exact iL HA s σ H _ us Q I rs ⟨_,vs,rfl,.inl (ir.of hl),by rw [<- j.length]; exact mC n hS r (isInt.mpr rfl)⟩
  ·exact r.elim
 ·exact r.elim
def Cz:ca:=λds S k=>match ds with
 | [.int i,.int j]=>k (.int (if j > i then j else i)) S
 | _=>False
def D4:ca:=λds S k=>match ds with
 | [.int i,.int j]=>k (.int (if j < i then j else i)) S
 | _=>False
theorem Di (hc:X.calm=true:=by rfl):dW X (.builtin "max") (sZ X.K Cz):=by
 intro HA s σ H xs us Q I rs h;obtain⟨ds,S,k,i,hS,r,n⟩:=h;unfold Cz at r
 split at r
 ·obtain⟨x,y,rfl,i1,i2⟩:=pb i;have e1:=isInt.mp i1;have e2:=isInt.mp i2;subst e1; subst e2
  exact uM hc HA s σ H _ us Q I rs ⟨_,_,rfl,mC n hS r (isInt.mpr rfl)⟩
 ·exact r.elim
theorem Cy (hc:X.calm=true:=by rfl):dW X (.builtin "min") (sZ X.K D4):=by
 intro HA s σ H xs us Q I rs h;obtain⟨ds,S,k,i,hS,r,n⟩:=h;unfold D4 at r
 split at r
 ·obtain⟨x,y,rfl,i1,i2⟩:=pb i;have e1:=isInt.mp i1;have e2:=isInt.mp i2;subst e1; subst e2
  exact uP hc HA s σ H _ us Q I rs ⟨_,_,rfl,mC n hS r (isInt.mpr rfl)⟩
 ·exact r.elim
def Eg:Hn DO->Hn Ty
 | some (.lst _)=>some .lst
 | some .dic=>some .dic
 | _=>none
def C4 (S:DH):D->Hn Ty
 | .non=>some .non
 | .bl _=>some .bool
 | .int _=>some .int
 | .str _=>some .str
 | .tup _=>some .tup
 | .rl _=>none
 | .ref a=>Eg (S a)
 | .ty _=>none
def sL:Ty->Ty->Hx
 | .non,.non=>true | .bool,.bool=>true | .bool,.int=>true | .int,.int=>true | .str,.str=>true | .tup,.tup=>true | .lst,.lst=>true | .dic,.dic=>true | .verr,.verr=>true
 | _,_=>false
theorem wm {K:Fg} (t c:Ty):PySem.W.kitOne K (.type t.name) (.type c.name)=some (sL t c):=by
 cases t <;> cases c <;> rfl
def DP:D1:=λd S k=>match d with
 | .int i=>k (.int ((Builtin.Int.intBits i:Nat):Int)) S
 | _=>False
def eU (xs:List D) (lo hi:Hn Int):List D:=(xs.drop (HT.cS xs.length 0 lo)).take (HT.cS xs.length xs.length hi - HT.cS xs.length 0 lo)
abbrev yf:=Lo->DH->(Hn Int->DH->Prop)->Prop
def FO (K:Fg) (g:yf):TO:=fun σ H Q=>∃ L S k,Lc K H L σ/\Hs K H S/\g L S k/\∀ i S' H',k i S'->Kp H H'->Hs K H' S'->Q i H'
def Cm:yf:=λ_ S k=>k none S
def Dd (g:DE):yf:=λL S k=>g L S λd S1=>match d with
 | .int i=>k (some i) S1
 | _=>False
end
section
variable {X:Cx} {st:Hv} {gA:List Hv} {g h:DS} {e:Ho} {ge:DE} {pos:Pos}
def C_:DS:=λM L S=>M.nx L S
def zw (g h:DS):DS:=λM L S=>g {M with nx:=h M} L S
theorem y9 {K:Fg}:∀ N σ H,ya K (zw g h) N σ H->D7 (ya K g) (ya K h) N σ H:=λN σ H ⟨L,S,M,hL,hS,q,r⟩=>
 ⟨L,S,{M with nx:=h M},hL,hS,q,⟨λL' S' σ' H' q' k' hL' hS'=>⟨L',S',M,hL',hS',q',r.kp k'⟩,r.rt,r.bk,r.ct⟩⟩
def D' (ge:DE):DS:=λM L S=>ge L S λ_ S1=>M.nx L S1
def E5 (ge:DE):DS:=λM L S=>ge L S M.rt
def E4 (c:DT) (g h:DS):DS:=λM L S=>c L S λb S1=>if b=true then g M L S1 else h M L S1
def BZ:DS:=λ_ _ _=>False
def zD (i:Nat) (ge:DE):DS:=λM L S=>ge L S λd S1=>M.nx (L.set i (some d)) S1
def Ex (i j:Nat) (ta:DA):DS:=λM L S=>ta L S λds S1=>match ds with
 | [d,e]=>M.nx ((L.set i (some d)).set j (some e)) S1
 | _=>False
abbrev DG:=D->Lo->DH->(Lo->DH->Prop)->Prop
def CZ (K:Fg) (g:DG):TG:=λv σ H Q=>∃ d L S k,bH K H d v/\Lc K H L σ/\Hs K H S/\g d L S k/\∀ L' S' σ' H',k L' S'->Kp H H'->Lc K H' L' σ'->Hs K H' S'->Q σ' H'
theorem PG.imp {e:Ho} {t t':TG} (h:PG X e t) (i:∀ v σ H Q,t' v σ H Q->t v σ H Q):PG X e t':=λHA s σ H v u Q I rv q=>h HA s σ H v u Q I rv (i v σ H Q q)
def nc (i:Nat):DG:=λd L S k=>k (L.set i (some d)) S
abbrev yd:=List D->Lo->DH->(Lo->DH->Prop)->Prop
def Et (K:Fg) (g:yd):vt:=λv σ H Q=>∃ d L S k,IsDs K H d v/\Lc K H L σ/\Hs K H S/\g d L S k/\∀ L' S' σ' H',k L' S'->Kp H H'->Lc K H' L' σ'->Hs K H' S'->Q σ' H'
theorem w9.imp {e:List Ho} {t t':vt} (h:w9 X e t) (i:∀ v σ H Q,t' v σ H Q->t v σ H Q):w9 X e t':=λHA s σ H v u Q I rv q=>h HA s σ H v u Q I rv (i v σ H Q q)
def CH:yd:=λds L S k=>ds=[]/\k L S
def B3 (t:DG) (u:yd):yd:=λds L S k=>match ds with
 | d::r=>t d L S λL1 S1=>u r L1 S1 k
 | []=>False
def Fc (ge:DE) (g:DG):DS:=λM L S=>ge L S λd S1=>g d L S1 M.nx
def Br (c:DT) (b:DS):DS:=λM L S=>∃ W:Nat->Lo->DH->Prop,(∃ m,W m L S)/\∀ m L S,W m L S->
 c L S λt S1=>if t=true then ∃ N:Lo->DH->Prop,(∀ L' S',N L' S'->∃ m',m' < m/\W m' L' S')/\b {M with nx:=N,ct:=N,bk:=M.nx} L S1 else M.nx L S1
def gH (ok:DH->Prop) (g:DG) (b:DS) (M:lT):List D->Lo->DH->Prop
 | [],L,S=>ok S/\M.nx L S
 | d::r,L,S=>ok S/\g d L S λL1 S1=>b {M with nx:=λL2 S2=>gH ok g b M r L2 S2,ct:=λL2 S2=>gH ok g b M r L2 S2,bk:=M.nx} L1 S1
theorem nN {K:Fg} {ok:DH->Prop} {gg:DG} {b:DS} {M:lT} {ds:List D} {L:Lo} {S:DH} {N:me} {σ:L2.St} {H:Hp} {J:It} (hL:Lc K H L σ) (hS:Hs K H S) (h:gH ok gg b M ds L S) (r:qy K H M N)
  (hgo:∀ i d S1 H1,ds[i]?=some d->Kp H H1->Hs K H1 S1->ok S1->J.go i H1/\∀ x H',J.yld i H1 x H'->H'=H1/\bH K H1 d x)
  (hst:∀ S1 H1,Kp H H1->Hs K H1 S1->ok S1->J.stop ds.length H1):
  ∃ W:Nat->Nat->L2.St->Hp->Prop,(∃ m,W 0 m σ H)/\∀ i m σ H,W i m σ H->
   (J.stop i H/\N.nx σ H)\/(J.go i H/\∃ N':L2.St->Hp->Prop,(∀ σ' H',N' σ' H'->∃ m',m' < m/\W (i+1) m' σ' H')/\∀ x H',J.yld i H x H'->CZ K gg x σ H' fun σ2 H2=>ya K b {N with nx:=N',ct:=N',bk:=N.nx} σ2 H2):=by
 refine⟨λi m σ1 H1=>m=ds.length - i/\i<=ds.length/\∃ L1 S1,Lc K H1 L1 σ1/\Hs K H1 S1/\Kp H H1/\gH ok gg b M (ds.drop i) L1 S1,⟨ds.length,by simp,Ha _,L,S,hL,hS,Kp.refl H,h⟩,?_⟩
 rintro i m σ1 H1 ⟨rfl,hi,L1,S1,hL1,hS1,k1,w1⟩
 by_cases hlt:i < ds.length
 ·have e:ds.drop i=ds[i]::ds.drop (i+1):=G9 hlt;rw [e] at w1;obtain⟨o1,w1⟩:=w1;obtain⟨g1,y1⟩:=hgo i ds[i] S1 H1 (by simp [hlt]) k1 hS1 o1
  refine .inr ⟨g1,fun σ' H'=>i+1<=ds.length/\∃ L' S',Lc K H' L' σ'/\Hs K H' S'/\Kp H H'/\gH ok gg b M (ds.drop (i+1)) L' S',fun σ' H' z9=>by obtain⟨q1,q2⟩:=z9; exact⟨ds.length - (i+1),by omega,rfl,q1,q2⟩,λx H' y=>?_⟩
  obtain⟨rfl,ix⟩:=y1 x H' y;refine⟨ds[i],L1,S1,_,ix,hL1,hS1,w1,λL2 S2 σ2 H2 q k2 hL2 hS2=>⟨L2,S2,_,hL2,hS2,q,?_⟩⟩
  have r2:=r.kp (k1.trans k2);exact⟨λL3 S3 σ3 H3 q3 k3 hL3 hS3=>⟨hlt,L3,S3,hL3,hS3,(k1.trans k2).trans k3,q3⟩,r2.rt,r2.nx,λL3 S3 σ3 H3 q3 k3 hL3 hS3=>⟨hlt,L3,S3,hL3,hS3,(k1.trans k2).trans k3,q3⟩⟩
 ·have e:i=ds.length:=by omega
  subst e;rw [List.drop_length] at w1;obtain⟨o1,w1⟩:=w1;exact .inl ⟨hst S1 H1 k1 hS1 o1,r.nx L1 S1 σ1 H1 w1 k1 hL1 hS1⟩
def aY (S:DH):D->Hn (List D×Hn Hm)
 | .tup ds=>some (ds,none)
 | .rl ds=>some (ds,none)
 | .ref a=>(match S a with
  | some (.lst ds)=>some (ds,some a)
  | _=>none)
 | _=>none
def eC:List D×Hn Hm->DH->Prop
 | (_,none)=>λ_=>True
 | (ds,some a)=>λS=>S a=some (.lst ds)
def Fo (K:Fg) (t:TE):TI:=fun σ H R=>t σ H λx H1=>∃ a,x=.ref a/\(((∃ xs,ir K H1 a xs)/\R (DM K a) H1)\/((∃ xs,jN K H1 a xs)/\R (CG K a) H1))
theorem rS {tg l:Ho} {tl:TE} (hl:PE X l tl):PI X tg l (Fo X.K tl):=by
 intro HA s σ H R I h;refine bB (hl HA s σ H _ I h) λv s1 z9=>?_
 obtain⟨x,H1,I1,r1,q1⟩:=z9;obtain⟨a,e,q1⟩:=q1;subst e;cases r1;rcases q1 with ⟨⟨xs,hq⟩,q⟩ | ⟨⟨xs,hq⟩,q⟩
 ·obtain⟨its,rv,p,hz⟩:=I1.list hq;refine wpAny_pyIter_list p.isList ?_;refine⟨s1.heap.objs.size,[s1.heap.objs.size],_,_,H1,rfl,I1.kept (t':=s1.toks) λb o e=>Gi _ e,vg a _,⟨_,Gk _ rfl,rfl,rfl⟩,λb hb=>?_,q⟩
  have e:b=s1.heap.objs.size:=by simpa using hb
  subst e;exact I1.fpOk (Gq _) (I1.hok.fresh (Gq _))
 ·obtain⟨its,rv,p,hz⟩:=I1.tuple hq;refine wpAny_pyIter_tuple (show s1.heap.IsTuple a its.toArray from p) ?_
  refine⟨s1.heap.objs.size,[s1.heap.objs.size],_,_,H1,rfl,I1.kept (t':=s1.toks) λb o e=>Gi _ e,sK a _,⟨_,Gk _ rfl,rfl,rfl⟩,λb hb=>?_,q⟩
  have e:b=s1.heap.objs.size:=by simpa using hb
  subst e;exact I1.fpOk (Gq _) (I1.hok.fresh (Gq _))
def Dg (ta:DA) (g:DG) (b:DS):DS:=λM L S=>ta L S λds S1=>match ds with
 | [.int n]=>(-(2 ^ 62)<=n/\n < 2 ^ 62)/\gH (λ_=>True) g b M ((List.range n.toNat).map λi=>D.int (i:Nat)) L S1
 | _=>False
end
section
variable {P:Hq} {w:Ht} {K:Fg} {mg:Str->Hn Hl} {base:Hu}
theorem _root_.L2.qz.okD {x HB:Str} {st:Hv} {f:Hm} {fd:FuncData} {N ps:List Str} {k:Nat} {F:ca} (Fn:qz K x HB st f fd) (Sc:ar N ps (ai st)) (len:∀ ds S k,F ds S k->ds.length=ps.length)
  (hbody:∀ (cdv:Hl) (A:Hr) (outer:List Env) (s:Hk) (H:Hp) (E:XK),ce k (A.deeper (envOfC HB (ai st) s.heap.objs.size f cdv))->
   ∃ g,nJ (bW cJ P w K mg base N HB (ai st) f cdv A outer s H E).nox (bu st) (ya K g)/\
    ∀ ds S k,F ds S k->g {nx:=λ_ S'=>k .non S',rt:=k} (ds.map some++List.replicate (N.length - ps.length) none) S):aJ P w K mg base cJ (k+1) f fd ps (cV K F):=by
 refine Fn.ok Sc (λvs H Q E h=>?_) (λcdv A outer s H vs Q E hr h=>?_)
 ·obtain⟨ds,S,k,i,_,q,_⟩:=h;rw [<- i.length];exact len ds S k q
 ·obtain⟨g,hg,q⟩:=hbody cdv A outer s H E hr;obtain⟨ds,S,k',i,hS,h,n⟩:=h;refine⟨_,hg,ds.map some++List.replicate (N.length - ps.length) none,S,_,?_,hS,q ds S k' h,?_⟩
  ·unfold L2.start;rw [<- i.length,len ds S k' h];exact Lc.start _ i
  ·exact⟨λL S' σ H' h1 k1 _ hS'=>n _ S' _ H' h1 k1 hS' (cq.mpr rfl),λd S' v H' h1 k1 hS' i1=>n d S' v H' h1 k1 hS' i1,λ_ _ _ _ h1=>h1.elim,λ_ _ _ _ h1=>h1.elim⟩
theorem aW.mk' {x HB:Str} {st:Hv} {f:Hm} {fd:FuncData} {ps:List Str} {n:Nat} {F:ca} (Fn:qz K x HB st f fd) (h:aJ P w K mg base cJ n f fd ps (cV K F)) (hm:mg x=some (.ref f)) (hb:gL K fd ps []):aW P w K mg base x n F:=
 ⟨f,fd,ps,h,hm,Fn.kp,hb⟩
end
end DL
namespace DL
open PySem PySem.Spec PyProof.Rows L2 HM
theorem n5 {m n:Nat} {x y:Int} (hx:Bt m x) (hy:Bt n y) (h:m+n<=134217728:=by decide):IntMulOk x y:=IntMulOk.of_le (intBits_le_iff.mpr hx) (intBits_le_iff.mpr hy) h
theorem Eh {m:Nat} {y:Int} (h0:y≠0) (hy:Bt m y) (h:m<=9000:=by decide):tQ x y:=⟨h0,(Nat.log2_lt (by omega)).mpr (hy.mono h)⟩
def pr (a b:Int):D:=.tup [.int a,.int b]
def fr (q:Rat):D:=pr q.num (q.den:Int)
end DL
namespace DL
theorem nA {x:D} {r:List D}:L2.atI (x::r) 0=some x:=L2.io (j:=0) rfl
theorem AW {x y:D} {r:List D}:L2.atI (x::y::r) 1=some y:=L2.io (j:=1) rfl
theorem C7 {n:Nat}:L2.xt (n+1) 0=some 0:=by
 unfold L2.xt;rw [if_pos (by decide),if_pos (by omega)]
 rfl
end DL
namespace DL
open PySem PySem.Spec PyProof.Rows L2
def yY:D->D->Hn Hx
 | .int i,.int j=>some (i == j)
 | .bl i,.bl j=>some (i == j)
 | .str i,.str j=>some (i == j)
 | .non,.non=>some true
 | .non,.int _=>some false
 | .int _,.non=>some false
 | .non,.bl _=>some false
 | .bl _,.non=>some false
 | .bl a,.int j=>some ((if a then 1 else 0) == j)
 | .int i,.bl b=>some (i == (if b then 1 else 0))
 | _,_=>none
def hG (f:D->D->Hn Hx):List D->List D->Hn Hx
 | [],[]=>some true
 | [],_::_=>some false
 | _::_,[]=>some false
 | x::xs,y::ys=>match f x y,hG f xs ys with
  | some a,some b=>some (a && b)
  | _,_=>none
def jM:Nat->D->D->Hn Hx
 | 0,d,e=>yY d e
 | n+1,.tup xs,.tup ys=>hG (jM n) xs ys
 | _+1,d,e=>yY d e
theorem m9 (n:Nat) (d e:D):jM (n+1) d e=(match d,e with | .tup xs,.tup ys=>hG (jM n) xs ys | d,e=>yY d e):=by
 cases d <;> cases e <;> rfl
def hZ (f:D->D->Hn Hx):List D->List D->Nat->Hx
 | x::_,y::_,0=>(f x y).getD false
 | _::xs,_::ys,j+1=>hZ f xs ys j
 | _,_,_=>false
theorem xO (e:Nat->Hx) (m:Nat):(List.range (m+1)).all e=(e 0 && (List.range m).all λj=>e (j+1)):=by
 rw [List.range_succ_eq_map,List.all_cons,List.all_map]
 rfl
theorem kR {f:D->D->Hn Hx}:∀ {xs ys:List D} {b:Hx},hG f xs ys=some b->((List.range (min xs.length ys.length)).all (hZ f xs ys) && xs.length == ys.length)=b
 | [],[],b,h=>by unfold hG at h; cases h; rfl
 | [],_::_,b,h=>by unfold hG at h; cases h; simp
 | _::_,[],b,h=>by unfold hG at h; cases h; simp
 | x::xs,y::ys,b,h=>by
  unfold hG at h
  split at h
  ·rename_i a c e1 e2
   cases h;have ih:=kR e2;rw [GC,GC,Nat.succ_min_succ,xO];have e3:hZ f (x::xs) (y::ys) 0=a:=by unfold hZ; rw [e1]; rfl
   rw [e3,Bool.and_assoc];have e4:(λj=>hZ f (x::xs) (y::ys) (j+1))=hZ f xs ys:=by funext j; rfl
   rw [e4];have e5:(xs.length+1 == ys.length+1)=(xs.length == ys.length):=by simp
   rw [e5,ih]
  ·cases h
theorem mx {f:D->D->Hn Hx}:∀ {xs ys:List D} {b:Hx} {j:Nat} {x y:D},hG f xs ys=some b->xs[j]?=some x->ys[j]?=some y->f x y=some (hZ f xs ys j)
 | [],_,_,_,_,_,_,e,_=>by simp at e
 | _::_,[],_,_,_,_,_,_,e=>by simp at e
 | x::xs,y::ys,b,0,x',y',h,e1,e2=>by
  simp at e1 e2
  subst e1; subst e2
  unfold hG at h
  split at h
  ·rename_i a c q1 q2
   unfold hZ;rw [q1]
   rfl
  ·cases h
 | x::xs,y::ys,b,j+1,x',y',h,e1,e2=>by
  unfold hG at h
  split at h
  ·rename_i a c q1 q2
   unfold hZ;exact mx q2 (by simpa using e1) (by simpa using e2)
  ·cases h
section
variable {X:Cx} {HA:List (Hm×Hz)} {σ:L2.St} {H:Hp} {s:Hk}
theorem qj {K:Fg} {ds es:List D} {xs ys:List V} {us ws:List Hl} {j:Nat} (i1:IsDs K H ds xs) (i2:IsDs K H es ys) (r1:bb xs us) (r2:bb ys ws) (h1:j < us.length) (h2:j < ws.length):
  ∃ d e x y,ds[j]?=some d/\es[j]?=some e/\bH K H d x/\bH K H e y/\bh x us[j]/\bh y ws[j]:=by
 have l1:=i1.length;have l2:=i2.length;have l3:=r1.length;have l4:=r2.length;have e1:ds[j]?=some ds[j]:=by simp [show j < ds.length by omega]
 have e2:es[j]?=some es[j]:=by simp [show j < es.length by omega]
 obtain⟨x,q1,d1⟩:=i1.get e1;obtain⟨y,q2,d2⟩:=i2.get e2;obtain⟨u,q3,rx⟩:=r1.get q1;obtain⟨w,q4,ry⟩:=r2.get q2;have f1:us[j]=u:=(GW.mp q3).2;have f2:ws[j]=w:=(GW.mp q4).2;exact⟨_,_,x,y,e1,e2,d1,d2,by rw [f1]; exact rx,by rw [f2]; exact ry⟩
theorem xL {K:Fg} {A:Hr} {d e:D} {x y:V} {u w:Hl} {b:Hx} (h:yY d e=some b) (i1:bH K H d x) (i2:bH K H e y) (rx:bh x u) (ry:bh y w):SeqAt.EqAt A s u w b/\SeqAt.RcAt A s u w b:=by
 unfold yY at h
 split at h
 ·cases h; rw [isInt.mp i1] at rx; rw [isInt.mp i2] at ry; obtain⟨t,rfl⟩:=rx; obtain⟨t',rfl⟩:=ry; exact⟨(SeqAt.EqAt.int_int _ _ _ _),(SeqAt.RcAt.int_int _ _ _ _)⟩
 ·cases h; rw [bO.mp i1] at rx; rw [bO.mp i2] at ry; cases rx; cases ry; exact⟨(SeqAt.EqAt.bool_bool _ _),(SeqAt.RcAt.bool_bool _ _)⟩
 ·cases h; rw [gC.mp i1] at rx; rw [gC.mp i2] at ry; obtain⟨t,rfl⟩:=rx; obtain⟨t',rfl⟩:=ry; exact⟨(SeqAt.EqAt.str_str _ _ _ _),(SeqAt.RcAt.str_str _ _ _ _)⟩
 ·cases h; rw [cq.mp i1] at rx; rw [cq.mp i2] at ry; cases rx; cases ry; exact⟨SeqAt.EqAt.same _,SeqAt.RcAt.none_none⟩
 ·cases h; rw [cq.mp i1] at rx; rw [isInt.mp i2] at ry; cases rx; obtain⟨t',rfl⟩:=ry; exact⟨(SeqAt.EqAt.none_int _ _),(SeqAt.RcAt.none_int _ _)⟩
 ·cases h; rw [isInt.mp i1] at rx; rw [cq.mp i2] at ry; obtain⟨t,rfl⟩:=rx; cases ry; exact⟨(SeqAt.EqAt.int_none _ _),(SeqAt.RcAt.int_none _ _)⟩
 ·cases h; rw [cq.mp i1] at rx; rw [bO.mp i2] at ry; cases rx; cases ry; exact⟨(SeqAt.EqAt.none_bool _),(SeqAt.RcAt.none_bool _)⟩
 ·cases h; rw [bO.mp i1] at rx; rw [cq.mp i2] at ry; cases rx; cases ry; exact⟨(SeqAt.EqAt.bool_none _),(SeqAt.RcAt.bool_none _)⟩
 ·cases h; rw [bO.mp i1] at rx; rw [isInt.mp i2] at ry; cases rx; obtain⟨t',rfl⟩:=ry; exact⟨(SeqAt.EqAt.bool_int _ _ _),(SeqAt.RcAt.bool_int _ _ _)⟩
 ·cases h; rw [isInt.mp i1] at rx; rw [bO.mp i2] at ry; obtain⟨t,rfl⟩:=rx; cases ry; exact⟨(SeqAt.EqAt.int_bool _ _ _),(SeqAt.RcAt.int_bool _ _ _)⟩
 ·cases h
theorem qJ {K:Fg} {d e:D} {x:V} {b:Hx} (h:yY d e=some b) (i1:bH K H d x) (i2:bH K H e x):b=true:=by
 unfold yY at h
 split at h
 ·cases h; have e1:=isInt.mp i1; have e2:=isInt.mp i2; rw [e1] at e2; cases e2; simp
 ·cases h; have e1:=bO.mp i1; have e2:=bO.mp i2; rw [e1] at e2; cases e2; simp
 ·cases h; have e1:=gC.mp i1; have e2:=gC.mp i2; rw [e1] at e2; cases e2; simp
 ·cases h; rfl
 ·have e1:=cq.mp i1; have e2:=isInt.mp i2; rw [e1] at e2; cases e2
 ·have e1:=isInt.mp i1; have e2:=cq.mp i2; rw [e1] at e2; cases e2
 ·have e1:=cq.mp i1; have e2:=bO.mp i2; rw [e1] at e2; cases e2
 ·have e1:=bO.mp i1; have e2:=cq.mp i2; rw [e1] at e2; cases e2
 ·have e1:=bO.mp i1; have e2:=isInt.mp i2; rw [e1] at e2; cases e2
 ·have e1:=isInt.mp i1; have e2:=bO.mp i2; rw [e1] at e2; cases e2
 ·cases h
theorem oS {K:Fg} {f:D->D->Hn Hx} (hf:∀ d e x b,f d e=some b->bH K H d x->bH K H e x->b=true):∀ {ds es:List D} {xs:List V} {b:Hx},hG f ds es=some b->IsDs K H ds xs->IsDs K H es xs->b=true
 | [],[],_,_,h,_,_=>by unfold hG at h; cases h; rfl
 | [],_::_,_,_,_,i1,i2=>by
  have e1:=iT.mp i1;obtain⟨v,r,e2,_⟩:=cz.mp i2;rw [e1] at e2; cases e2
 | _::_,[],_,_,_,i1,i2=>by
  have e1:=iT.mp i2;obtain⟨v,r,e2,_⟩:=cz.mp i1;rw [e1] at e2; cases e2
 | d::ds,e::es,xs,b,h,i1,i2=>by
  obtain⟨v,r,e1,h1,h2⟩:=cz.mp i1;obtain⟨v',r',e2,h3,h4⟩:=cz.mp i2;rw [e1] at e2;cases e2;unfold hG at h
  split at h
  ·rename_i a c q1 q2
   cases h;rw [hf _ _ _ _ q1 h1 h3,oS hf q2 h2 h4]
   rfl
  ·cases h
theorem qG (I:av X HA σ H s):∀ (n:Nat) (d e:D) (x:V) (b:Hx),jM n d e=some b->bH X.K H d x->bH X.K H e x->b=true
 | 0,d,e,x,b,h,i1,i2=>qJ (by unfold jM at h; exact h) i1 i2
 | n+1,d,e,x,b,h,i1,i2=>by
  rw [m9] at h
  split at h
  ·rename_i xs ys
   obtain⟨a,vs,e1,t1,j1⟩:=bC.mp i1;obtain⟨a',vs',e2,t2,j2⟩:=bC.mp i2;rw [e1] at e2;cases e2;have q:=I.tuple_inj t1 t2;subst q;exact oS (λd e x b=>qG I n d e x b) h j1 j2
  ·exact qJ h i1 i2
theorem qk (I:av X HA σ H s):∀ (n:Nat) (A:Hr) (d e:D) (x y:V) (u w:Hl) (b:Hx),A.units+n < cLine->jM n d e=some b->bH X.K H d x->bH X.K H e y->bh x u->bh y w->SeqAt.EqAt A s u w b/\SeqAt.RcAt A s u w b
 | 0,A,d,e,x,y,u,w,b,hu,h,i1,i2,rx,ry=>xL (by unfold jM at h; exact h) i1 i2 rx ry
 | n+1,A,d,e,x,y,u,w,b,hu,h,i1,i2,rx,ry=>by
  have h0:=h;rw [m9] at h
  split at h
  ·rename_i xs ys
   obtain⟨p,vs,rfl,t1,j1⟩:=bC.mp i1;obtain⟨q,vs',rfl,t2,j2⟩:=bC.mp i2;cases rx;cases ry;obtain⟨us,r1,p1,_⟩:=I.tuple t1;obtain⟨ws,r2,p2,_⟩:=I.tuple t2;have l1:=j1.length;have l2:=j2.length;have l3:=r1.length;have l4:=r2.length;have rc:SeqAt.RcAt A s (.ref p) (.ref q) b:=by
    have e:=kR h;have z:=SeqAt.RcAt.tuples (A:=A) (s:=s) (items:=us.toArray) (items2:=ws.toArray) (e:=hZ (jM n) xs ys) (show s.heap.IsTuple p us.toArray from p1) (show s.heap.IsTuple q ws.toArray from p2) (by omega) (λj h1 h2=>by
     simp only [Gv] at h1 h2
     obtain⟨d,e,x,y,q1,q2,d1,d2,rx,ry⟩:=qj j1 j2 r1 r2 h1 h2;have:=(qk I n A.in1 d e x y us[j] ws[j] _ (by show A.units+1+n < cLine; omega) (mx h q1 q2) d1 d2 rx ry).1
     simpa using this)
    simp only [Gv] at z;rw [<- l3,<- l4,<- l1,<- l2,e] at z;exact z
   refine⟨?_,rc⟩
   by_cases hpq:p=q
   ·subst hpq;have:=qG I (n+1) _ _ _ _ h0 i1 i2;subst this;exact SeqAt.EqAt.same _
   ·exact SeqAt.EqAt.of_refs hpq rc
  ·exact xL h i1 i2 rx ry
theorem xY {K:Fg} {A:Hr} {d e:D} {x y:V} {u w:Hl} {b:Hx} (h:yY d e=some b) (i1:bH K H d x) (i2:bH K H e y) (rx:bh x u) (ry:bh y w):SeqAt.RcNeAt A s u w (!b):=by
 unfold yY at h
 split at h
 ·cases h; rw [isInt.mp i1] at rx; rw [isInt.mp i2] at ry; obtain⟨t,rfl⟩:=rx; obtain⟨t',rfl⟩:=ry; exact(SeqAt.RcNeAt.int_int _ _ _ _)
 ·cases h; rw [bO.mp i1] at rx; rw [bO.mp i2] at ry; cases rx; cases ry; exact(SeqAt.RcNeAt.bool_bool _ _)
 ·cases h; rw [gC.mp i1] at rx; rw [gC.mp i2] at ry; obtain⟨t,rfl⟩:=rx; obtain⟨t',rfl⟩:=ry; exact(SeqAt.RcNeAt.str_str _ _ _ _)
 ·cases h; rw [cq.mp i1] at rx; rw [cq.mp i2] at ry; cases rx; cases ry; exact SeqAt.RcNeAt.none_none
 ·cases h; rw [cq.mp i1] at rx; rw [isInt.mp i2] at ry; cases rx; obtain⟨t',rfl⟩:=ry; exact(SeqAt.RcNeAt.none_int _ _)
 ·cases h; rw [isInt.mp i1] at rx; rw [cq.mp i2] at ry; obtain⟨t,rfl⟩:=rx; cases ry; exact(SeqAt.RcNeAt.int_none _ _)
 ·cases h; rw [cq.mp i1] at rx; rw [bO.mp i2] at ry; cases rx; cases ry; exact(SeqAt.RcNeAt.none_bool _)
 ·cases h; rw [bO.mp i1] at rx; rw [cq.mp i2] at ry; cases rx; cases ry; exact(SeqAt.RcNeAt.bool_none _)
 ·cases h; rw [bO.mp i1] at rx; rw [isInt.mp i2] at ry; cases rx; obtain⟨t',rfl⟩:=ry; exact(SeqAt.RcNeAt.bool_int _ _ _)
 ·cases h; rw [isInt.mp i1] at rx; rw [bO.mp i2] at ry; obtain⟨t,rfl⟩:=rx; cases ry; exact(SeqAt.RcNeAt.int_bool _ _ _)
 ·cases h
theorem AU (I:av X HA σ H s) (n:Nat) (A:Hr) (d e:D) (x y:V) (u w:Hl) (b:Hx) (hu:A.units+n < cLine) (h:jM n d e=some b) (i1:bH X.K H d x) (i2:bH X.K H e y) (rx:bh x u) (ry:bh y w):SeqAt.RcNeAt A s u w (!b):=by
 cases n with
 | zero=>exact xY (by unfold jM at h; exact h) i1 i2 rx ry
 | succ n=>
  rw [m9] at h
  split at h
  ·rename_i xs ys
   obtain⟨p,vs,rfl,t1,j1⟩:=bC.mp i1;obtain⟨q,vs',rfl,t2,j2⟩:=bC.mp i2;cases rx;cases ry;obtain⟨us,r1,p1,_⟩:=I.tuple t1;obtain⟨ws,r2,p2,_⟩:=I.tuple t2;have l1:=j1.length;have l2:=j2.length;have l3:=r1.length;have l4:=r2.length;have e:=kR h;have z:=SeqAt.RcNeAt.tuples (A:=A) (s:=s) (items:=us.toArray) (items2:=ws.toArray) (e:=hZ (jM n) xs ys) (show s.heap.IsTuple p us.toArray from p1) (show s.heap.IsTuple q ws.toArray from p2) (by omega) (λj h1 h2=>by
    simp only [Gv] at h1 h2
    obtain⟨d,e,x,y,q1,q2,d1,d2,rx,ry⟩:=qj j1 j2 r1 r2 h1 h2;have:=(qk I n A.in1 d e x y us[j] ws[j] _ (by show A.units+1+n < cLine; omega) (mx h q1 q2) d1 d2 rx ry).1
    simpa using this)
   simp only [Gv] at z;rw [<- l3,<- l4,<- l1,<- l2,e] at z;exact z
  ·exact xY h i1 i2 rx ry
end
structure EJ (X:Cx) (e:Ho) (g:DE):Prop where
 h:PE X e (up X.K g)
structure TJ (X:Cx) (e:Ho) (g:DT):Prop where
 h:PT X e (sO X.K g)
structure WJ (X:Cx) (e:Ho) (g:DT):Prop where
 h:PW X e (sO X.K g)
structure AJ (X:Cx) (e:List Ho) (g:DA):Prop where
 h:PA X e (qB X.K g)
structure SJ (X:Cx) (e:Hv) (g:DS):Prop where
 h:PS X e (ya X.K g)
structure tz (X:Cx) (e:List Hv) (g:DS):Prop where
 h:nJ X e (ya X.K g)
structure GJ (X:Cx) (e:Ho) (g:DG):Prop where
 h:PG X e (CZ X.K g)
structure CY (X:Cx) (e:List Ho) (g:yd):Prop where
 h:w9 X e (Et X.K g)
structure OJ (X:Cx) (e:Hn Ho) (g:yf):Prop where
 h:PO X e (FO X.K g)
theorem WJ.pt {X:Cx} {e:Ho} {g:DT} (h:WJ X e g):TJ X e g:=⟨PW.pt h.h⟩
section
variable {X:Cx} {a b c:Ho} {ga gb gc:DE} {pos:Pos}
theorem ag (i:Nat) {x:Str} (hN:X.N[i]?=some x:=by rfl) (hv:qQ X.env.scope x:=by first | exact Or.inl rfl | exact Or.inr (Or.inl rfl) | exact Or.inr (Or.inr rfl)) (hd:(x == ("__debug__":Str))=false:=by decide) (hcd:(x == ("__classdict__":Str))=false:=by decide):EJ X (.Name x pos) (y8 i):=⟨PE.imp (BL hN hv hd hcd) fun σ H Q ⟨L,S,k,hL,hS,h,n⟩=>by
  unfold y8 at h
  split at h
  ·rename_i d e
   obtain⟨v,e1,e2⟩:=hL.get e;exact⟨v,e1,n d S v H h (Kp.refl H) hS e2⟩
  ·exact h.elim⟩
theorem am {i j pos}:EJ X (.Constant (.int i) j pos) (dC (.int i)):=⟨Ch BM λ_=>isInt.mpr rfl⟩
theorem kU {i j pos}:EJ X (.Constant (.bool i) j pos) (dC (.bl i)):=⟨Ch CB λ_=>bO.mpr rfl⟩
theorem eR {j pos}:EJ X (.Constant .none j pos) (dC .non):=⟨Ch A6 λ_=>cq.mpr rfl⟩
theorem b8 {i j pos}:EJ X (.Constant (.str i) j pos) (dC (.str i)):=⟨Ch BR λ_=>gC.mpr rfl⟩
theorem Aq {x:Str} {n:Ty} (hg:Gl X x) (hm:X.mg x=none) (hv:bootBuiltins x=some (.type n.name)) (hn:x≠"__name__":=by decide) (hd:(x == ("__debug__":Str))=false:=by decide):EJ X (.Name x pos) (dC (.ty n)):=⟨Ch (zd (v:=.ty n.name) hg hm hv rfl hn hd) λ_=>zi.mpr rfl⟩
theorem ac:AJ X [] EU:=⟨PA.imp sh fun σ H Q z9=>by obtain⟨L,S,k,hL,hS,h,n⟩:=z9; exact n [] S [] H h (Kp.refl H) hS IsDs.nil⟩
theorem aa {es:List Ho} {t:DA} (ha:EJ X a ga) (hr:AJ X es t) (hs:starEach (a::es) X.env=(false,eval a X.env)::starEach es X.env:=by exact bS rfl):AJ X (a::es) (zP ga t):=⟨have ha:=ha.h; have hr:=hr.h; PA.imp (qf ha hr hs) fun σ H Q ⟨L,S,k,hL,hS,h,n⟩=>up.go hL hS h λd S1 v H1 h1 k1 hL1 hS1 i1=>qB.go hL1 hS1 h1 λds S2 vs H2 h2 k2 hL2 hS2 i2=>
  n (d::ds) S2 (v::vs) H2 h2 (k1.trans k2) hS2 (IsDs.cons (i1.kp k2) i2)⟩
theorem az {X:Cx} {x:Str} {pos:Pos} {es:List Ho} {t:DA} (n:Nat) (hr:AJ X es t) (hN:X.N[n]?=some x:=by rfl) (hv:qQ X.env.scope x:=by first | exact Or.inl rfl | exact Or.inr (Or.inl rfl) | exact Or.inr (Or.inr rfl)) (hd:(x == ("__debug__":Str))=false:=by decide) (hcd:(x == ("__classdict__":Str))=false:=by decide) (hs:starEach (.Name x pos::es) X.env=(false,eval (.Name x pos) X.env)::starEach es X.env:=by exact bS rfl):AJ X (.Name x pos::es) (zP (y8 n) t):=aa (ag n hN hv hd hcd) hr hs
theorem aD {es:List Ho} {x1} {t:DA} (h:AJ X es t):EJ X (.Tuple es x1 pos) (Eo t):=⟨have h:=h.h; PE.imp (AM h) fun σ H Q ⟨L,S,k,hL,hS,h,n⟩=>qB.go hL hS h λds S1 vs H1 h1 k1 hL1 hS1 i1=>by
  refine⟨by rw [<- i1.length]; exact h1.1,λp hp=>?_⟩
  have k2:Kp H1 (bt H1 p (.tup vs)):=Kp.new hp;exact n (.tup ds) S1 _ _ h1.2 (k1.trans k2) (hS1.new hp) (bC.mpr ⟨p,vs,rfl,jN.of bA,i1.kp k2⟩)⟩
theorem dj {es:List Ho} {t:DA} (h:AJ X es t):EJ X (.List es pos) (Fs t):=⟨have h:=h.h; PE.imp (A7 h) fun σ H Q ⟨L,S,k,hL,hS,h,n⟩=>qB.go hL hS h λds S1 vs H1 h1 k1 hL1 hS1 i1=>by
  refine⟨by rw [<- i1.length]; exact h1.1,λp hp=>?_⟩
  exact n (.ref p) _ _ _ (h1.2 p (hS1.free hp)) (k1.trans (Kp.new hp)) (hS1.newL hp i1) (b_.mpr rfl)⟩
theorem aB {op:Operator} {r:D2} (ho:gn X (binaryOp op) (jL X.K r)) (ha:EJ X a ga) (hb:EJ X b gb):EJ X (.BinOp a op b pos) (Cg r ga gb):=⟨have ha:=ha.h; have hb:=hb.h; PE.imp (CD ho ha hb) pP⟩
theorem ww {op:CmpOp} {r:D2} (ho:gn X (compareOp op) (jL X.K r)) (ha:EJ X a ga) (hb:EJ X b gb) (hm:behindInMarks op b=false):EJ X (.Compare a [op] [b] pos) (Cg r ga gb):=⟨have ha:=ha.h; have hb:=hb.h; PE.imp (yp ho ha hb hm) pP⟩
theorem bn {r:D2} (hr:vp X (jL X.K r)) (ha:EJ X a ga) (hb:EJ X b gb) (hs:tM b):EJ X (.Subscript a b pos) (Cg r ga gb):=⟨have ha:=ha.h; have hb:=hb.h; PE.imp (Ct hr ha hb hs) pP⟩
theorem Ah {op:UnaryOp} {r:D1} (ho:Db X (unaryOp op) (Fz X.K r)) (ha:EJ X a ga):EJ X (.UnaryOp op a pos) (FJ r ga):=⟨have ha:=ha.h; PE.imp (CJ ho ha) fun σ H Q z9=>by obtain⟨L,S,k,hL,hS,h,n⟩:=z9; exact up.go hL hS h λd S1 v H1 h1 k1 hL1 hS1 i1=>⟨d,S1,k,i1,hS1,h1,λd' S' v H' q k3 z1 z2=>n d' S' v H' q (k1.trans k3) z1 z2⟩⟩
theorem aw {op:CmpOp} {r:D2} (ho:gn X (compareOp op) (jL X.K r)) (ha:EJ X a ga) (hb:EJ X b gb) (hm:behindInMarks op b=false):TJ X (.Compare a [op] [b] pos) (wd (Cg r ga gb)):=⟨have ha:=ha.h; have hb:=hb.h; PT.imp (PT.imp (zy ho ha hb hm) fun σ H Q h=>pP σ H _ h) qL⟩
theorem bZ {e:Ho} {g:DE} (h:EJ X e g) (he:∀ whole,isTrue e X.env whole=(do let v <- whole; standAt e.pos; holding [v] (truthy v)):=by intro _; rfl):TJ X e (wd g):=⟨have h:=h.h; PT.imp (Bj h he) qL⟩
end
section
variable {X:Cx} {a b c:Ho} {ga gb gc:DE} {pos:Pos}
variable {tA tB':DT} {gA:List Ho}
theorem xA (ha:TJ X a tA):WJ X (.BoolOp .And [a] pos) tA:=⟨have ha:=ha.h; zE ha⟩
theorem kI (ha:TJ X a tA):WJ X (.BoolOp .Or [a] pos) tA:=⟨have ha:=ha.h; AE ha⟩
theorem zo (ha:TJ X a tA) (hb:WJ X (.BoolOp .And (b::gA) pos) tB'):WJ X (.BoolOp .And (a::b::gA) pos) (Dn tA tB'):=⟨have ha:=ha.h; have hb:=hb.h; PW.imp (BY ha hb) fun σ H Q ⟨L,S,k,hL,hS,h,n⟩=>sO.go hL hS h λc S1 H1 h1 k1 hL1 hS1=>by
  cases c with
  | true=>
   rw [if_pos rfl] at h1 ⊢;exact sO.go hL1 hS1 h1 λc2 S2 H2 h2 k2 _ hS2=>n c2 S2 H2 h2 (k1.trans k2) hS2
  | false=>
   rw [if_neg Gs] at h1 ⊢;exact n false S1 H1 h1 k1 hS1⟩
theorem lr (ha:TJ X a tA) (hb:WJ X (.BoolOp .Or (b::gA) pos) tB'):WJ X (.BoolOp .Or (a::b::gA) pos) (E2 tA tB'):=⟨have ha:=ha.h; have hb:=hb.h; PW.imp (D6 ha hb) fun σ H Q ⟨L,S,k,hL,hS,h,n⟩=>sO.go hL hS h λc S1 H1 h1 k1 hL1 hS1=>by
  cases c with
  | true=>
   rw [if_pos rfl] at h1 ⊢;exact n true S1 H1 h1 k1 hS1
  | false=>
   rw [if_neg Gs] at h1 ⊢;exact sO.go hL1 hS1 h1 λc2 S2 H2 h2 k2 _ hS2=>n c2 S2 H2 h2 (k1.trans k2) hS2⟩
theorem fK (ha:TJ X a tA):TJ X (.UnaryOp .Not a pos) (CI tA):=⟨have ha:=ha.h; PT.imp (Bg ha) fun σ H Q z9=>by obtain⟨L,S,k,hL,hS,h,n⟩:=z9; exact sO.go hL hS h λc S1 H1 h1 k1 hL1 hS1=>n _ S1 H1 h1 k1 hS1⟩
theorem BD {op} (h:EJ X a ga):EJ X (.BoolOp op [a] pos) ga:=⟨have h:=h.h; AN h⟩
theorem Bx (ha:EJ X a ga) (hb:EJ X (.BoolOp .And (b::gA) pos) gb):EJ X (.BoolOp .And (a::b::gA) pos) (DF ga gb):=⟨have ha:=ha.h; have hb:=hb.h; PE.imp (AO ha hb) fun σ H Q ⟨L,S,k,hL,hS,h,n⟩=>up.go hL hS h λd S1 v H1 h1 k1 hL1 hS1 i1=>by
  cases d with
  | bl c=>
   have e:=bO.mp i1;subst e;refine⟨c,rfl,?_⟩;have h1:if c=true then _ else _:=h1
   cases c with
   | true=>
    rw [if_pos rfl] at h1 ⊢;exact up.go hL1 hS1 h1 λd2 S2 v2 H2 h2 k2 _ hS2 i2=>n d2 S2 v2 H2 h2 (k1.trans k2) hS2 i2
   | false=>
    rw [if_neg Gs] at h1 ⊢;exact n _ S1 _ H1 h1 k1 hS1 (bO.mpr rfl)
  | _=>exact(show False from h1).elim⟩
theorem oG {c:Ho} (hc:TJ X c tA) (ha:EJ X a ga) (hb:EJ X b gb):EJ X (.IfExp c a b pos) (F7 tA ga gb):=⟨have hc:=hc.h; have ha:=ha.h; have hb:=hb.h; PE.imp (xR hc ha hb) fun σ H Q ⟨L,S,k,hL,hS,h,n⟩=>sO.go hL hS h λd S1 H1 h1 k1 hL1 hS1=>by
  cases d with
  | true=>
   rw [if_pos rfl] at h1 ⊢;exact up.go hL1 hS1 h1 λd2 S2 v2 H2 h2 k2 _ hS2 i2=>n d2 S2 v2 H2 h2 (k1.trans k2) hS2 i2
  | false=>
   rw [if_neg Gs] at h1 ⊢;exact up.go hL1 hS1 h1 λd2 S2 v2 H2 h2 k2 _ hS2 i2=>n d2 S2 v2 H2 h2 (k1.trans k2) hS2 i2⟩
end
section
variable {X:Cx} {x:Str} {p pos:Pos} {e:Ho} {es:List Ho} {t:DA} {id T:Hy} {r:ca}
theorem bp (hc:dW X (.builtin id) (sZ X.K r)) (hg:Gl X x) (hm:X.mg x=none) (hv:bootBuiltins x=some (.builtin id)) (ha:AJ X (e::es) t) (hn:x≠"__name__":=by decide) (hdb:(x == ("__debug__":Str))=false:=by decide) (he:starEach (e::es) X.env=(false,eval e X.env)::starEach es X.env:=by exact bS rfl) (hpl:(backTo pos (starEach es X.env)).any (·.1)=false:=by exact fh rfl):EJ X (.Call (.Name x p) (e::es) [] pos) (o7 r t):=⟨have ha:=ha.h; PE.imp (wW hc hg hm hv ha hn hdb he hpl) qK⟩
theorem kq (hc:dW X (.type T) (sZ X.K r)) (hg:Gl X x) (hm:X.mg x=none) (hv:bootBuiltins x=some (.type T)) (ha:AJ X (e::es) t) (hn:x≠"__name__":=by decide) (hdb:(x == ("__debug__":Str))=false:=by decide) (he:starEach (e::es) X.env=(false,eval e X.env)::starEach es X.env:=by exact bS rfl) (hpl:(backTo pos (starEach es X.env)).any (·.1)=false:=by exact fh rfl):EJ X (.Call (.Name x p) (e::es) [] pos) (o7 r t):=⟨have ha:=ha.h; PE.imp (vi hc hg hm hv ha hn hdb he hpl) qK⟩
theorem yK {n:Nat} {F:ca} (c:aW X.prog X.w X.K X.mg X.base x n F) (hr:ce n X.A) (hg:Gl X x) (ha:AJ X (e::es) t) (hdb:(x == ("__debug__":Str))=false:=by decide) (he:starEach (e::es) X.env=(false,eval e X.env)::starEach es X.env:=by exact bS rfl) (hpl:(backTo pos (starEach es X.env)).any (·.1)=false:=by exact fh rfl):EJ X (.Call (.Name x p) (e::es) [] pos) (o7 F t):=⟨BA (c:=c) (hr:=hr) (hg:=hg) (ha:=ha.h) (hdb:=hdb) (he:=he) (hpl:=hpl)⟩
theorem dq {n m:Nat} {F:ca} (c:aW X.prog X.w X.K X.mg X.base x n F) (hr:ce m X.A) (ha:AJ X (e::es) t) (hg:Gl X x:=by exact rfl) (le:n<=m:=by decide) (hdb:(x == ("__debug__":Str))=false:=by decide) (he:starEach (e::es) X.env=(false,eval e X.env)::starEach es X.env:=by exact bS rfl) (hpl:(backTo pos (starEach es X.env)).any (·.1)=false:=by exact fh rfl):EJ X (.Call (.Name x p) (e::es) [] pos) (o7 F t):=yK c (hr.mono le) hg ha hdb he hpl
theorem zA {o:Ho} {g:DE} {apos cpos:Pos} (ho:EJ X o g) (hbase:attributeBase o "bit_length" X.env (eval o X.env)=eval o X.env:=by rfl) (hline:(apos.endLine == cpos.line)=true:=by rfl):EJ X (.Call (.Attribute o "bit_length" apos) [] [] cpos) (FJ DP g):=⟨by
 have ho:=ho.h;refine PE.imp (A5 PySem.F.plainAttrs_int PySem.F.slot_int_bit_length PySem.F.type_int_bit_length (r:=λx xs H Q=>∃ i,x=.int i/\xs=[]/\Q (.int ((Builtin.Int.intBits i:Nat):Int)) H) ?_ ho hbase hline) fun σ H Q ⟨L,S,k,hL,hS,h,n⟩=>?_
 ·intro HA s σ H x xs v us Q I rx rs h;obtain⟨i,rfl,rfl,q⟩:=h;obtain⟨t,rfl⟩:=rx;cases rs;exact call_int_bit_length ⟨.int _,H,I.tok _,⟨_,rfl⟩,q⟩
 ·refine up.go hL hS h λd S1 v H1 h1 k1 hL1 hS1 i1=>?_
  cases d with
  | int i=>
   have e1:=isInt.mp i1;subst e1;exact⟨rfl,i,rfl,rfl,n _ S1 _ H1 h1 k1 hS1 (isInt.mpr rfl)⟩
  | _=>exact(show False from h1).elim⟩
theorem cm:OJ X none Cm:=⟨by
 intro HA s σ H Q I h;obtain⟨L,S,k,hL,hS,h,n⟩:=h;exact yr HA s σ H Q I (n none S H h (Kp.refl H) hS)⟩
theorem cu {e:Ho} {g:DE} (he:EJ X e g):OJ X (some e) (Dd g):=⟨by
 have he:=he.h;intro HA s σ H Q I h;obtain⟨L,S,k,hL,hS,h,n⟩:=h;refine zq he HA s σ H Q I (up.go hL hS h λd S1 v H1 h1 k1 hL1 hS1 i1=>?_)
 cases d with
 | int i=>
  have e1:=isInt.mp i1;subst e1;exact⟨i,rfl,n (some i) S1 H1 h1 k1 hS1⟩
 | _=>exact(show False from h1).elim⟩
end
section
variable {X:Cx} {st:Hv} {gA:List Hv} {g h:DS} {e:Ho} {ge:DE} {pos:Pos}
theorem aF:tz X [] C_:=⟨nJ.imp yt λN σ H z9=>by obtain⟨L,S,M,hL,hS,h,r⟩:=z9; exact r.nx L S σ H h (Kp.refl H) hL hS⟩
theorem af (h1:SJ X st g) (h2:tz X gA h):tz X (st::gA) (zw g h):=⟨have h1:=h1.h; have h2:=h2.h; nJ.imp (vD h1 h2) y9⟩
theorem ah (h1:SJ X st g):tz X [st] g:=⟨have h1:=h1.h; yT h1⟩
theorem bo (he:EJ X e ge) (hs:swapsWith e none pos.line X.env=pure false:=by rfl):SJ X (.Expr e pos) (D' ge):=⟨have he:=he.h; PS.imp (yH he hs) λN σ H z9=>by obtain⟨L,S,M,hL,hS,h,r⟩:=z9; exact up.go hL hS h λd S1 v H1 h1 k1 hL1 hS1 _=>r.nx L S1 σ H1 h1 k1 hL1 hS1⟩
theorem ak (he:EJ X e ge):SJ X (.Return (some e) pos) (E5 ge):=⟨have he:=he.h; PS.imp (Cb he) λN σ H z9=>by obtain⟨L,S,M,hL,hS,h,r⟩:=z9; exact up.go hL hS h λd S1 v H1 h1 k1 _ hS1 i1=>r.rt d S1 v H1 h1 k1 hS1 i1⟩
theorem aA {c:Ho} {a b:List Hv} {gc:DT} (hc:TJ X c gc) (ha:tz X a g) (hb:tz X b h):SJ X (.If c a b pos) (E4 gc g h):=⟨have hc:=hc.h; have ha:=ha.h; have hb:=hb.h; PS.imp (Dx hc ha hb) λN σ H ⟨L,S,M,hL,hS,q,r⟩=>sO.go hL hS q λt S1 H1 h1 k1 hL1 hS1=>by
  cases t with
  | true=>
   rw [if_pos rfl] at h1 ⊢;exact⟨L,S1,M,hL1,hS1,h1,r.kp k1⟩
  | false=>
   rw [if_neg Gs] at h1 ⊢;exact⟨L,S1,M,hL1,hS1,h1,r.kp k1⟩⟩
theorem dN:SJ X st BZ:=⟨PS.imp x_ λN σ H z9=>by obtain⟨L,S,M,hL,hS,h,r⟩:=z9; exact h.elim⟩
theorem aj {i:Nat} {x:Str} {pos':Pos} (hN:X.N.Nodup) (he:EJ X e ge) (hi:X.N[i]?=some x:=by rfl) (hx:xF X.env.scope x:=by first | exact Or.inl rfl | exact Or.inr rfl) (hs:swapsWith e (some (.Name x pos')) pos.line X.env=pure false:=by rfl) (hf:X.fn x=true\/X.env.scope.names.lookup x=some .local:=by first | exact .inl rfl | exact .inr rfl | assumption):SJ X (.Assign [.Name x pos'] e pos) (zD i ge):=⟨have he:=he.h; PS.imp (By hN hi hx he hs hf) λN σ H z9=>by obtain⟨L,S,M,hL,hS,h,r⟩:=z9; exact up.go hL hS h λd S1 v H1 h1 k1 hL1 hS1 i1=>r.nx _ S1 _ H1 h1 k1 (hL1.set i1 i) hS1⟩
theorem we {i j:Nat} {x y:Str} {a b:Ho} {ta:DA} {px py pt:Pos} {kt k2 pt2} (hc:X.calm=true) (hN:X.N.Nodup) (hij:i≠j) (ha:AJ X [a,b] ta) (hi:X.N[i]?=some x:=by rfl) (hj:X.N[j]?=some y:=by rfl) (hx:X.env.scope.names.lookup x=some .local:=by rfl) (hy:X.env.scope.names.lookup y=some .local:=by rfl) (hw:swappedStores [.Tuple [.Name x px,.Name y py] kt pt] (.Tuple [a,b] k2 pt2) X.env=pure (some [x,y]):=by rfl) (hs:swapsWithSole [.Tuple [.Name x px,.Name y py] kt pt] (.Tuple [a,b] k2 pt2) pos.line X.env=pure false:=by rfl):SJ X (.Assign [.Tuple [.Name x px,.Name y py] kt pt] (.Tuple [a,b] k2 pt2) pos) (Ex i j ta):=⟨have ha:=ha.h; PS.imp (A0 hc hN hi hj hij hx hy ha hw hs) λN σ H ⟨L,S,M,hL,hS,h,r⟩=>qB.go hL hS h λds S1 vs H1 h1 k1 hL1 hS1 i1=>by
  split at h1
  ·obtain⟨v,u,rfl,j1,j2⟩:=pb i1;exact⟨v,u,rfl,r.nx _ S1 _ H1 h1 k1 ((hL1.set j1 i).set j2 j) hS1⟩
  ·exact h1.elim⟩
theorem aQ {i:Nat} {x:Str} (hN:X.N.Nodup) (hi:X.N[i]?=some x:=by rfl) (hx:xF X.env.scope x:=by first | exact Or.inl rfl | exact Or.inr rfl) (hf:X.fn x=true\/X.env.scope.names.lookup x=some .local:=by first | exact .inl rfl | exact .inr rfl | assumption):GJ X (.Name x pos) (nc i):=⟨PG.imp (po hN hi hx hf) λv σ H Q z9=>by obtain⟨d,L,S,k,i1,hL,hS,h,n⟩:=z9; exact n _ S _ H h (Kp.refl H) (hL.set i1 i) hS⟩
theorem kC:CY X [] CH:=⟨w9.imp yZ λv σ H Q ⟨d,L,S,k,i1,hL,hS,h,n⟩=>by
 obtain⟨rfl,h⟩:=h;exact⟨iT.mp i1,n L S σ H h (Kp.refl H) hL hS⟩⟩
theorem dZ {es:List Ho} {t:DG} {u:yd} (h1:GJ X e t) (h2:CY X es u) (hs:(assignEach (e::es) X.env).map (·.2)=assign e X.env::(assignEach es X.env).map (·.2):=by rfl):CY X (e::es) (B3 t u):=⟨have h1:=h1.h; have h2:=h2.h; w9.imp (wc h1 h2 hs) λvs σ H Q ⟨ds,L,S,k,i1,hL,hS,h,n⟩=>by
  cases ds with
  | nil=>exact(show False from h).elim
  | cons d r=>
   obtain⟨v,vr,rfl,j1,j2⟩:=cz.mp i1;exact⟨v,vr,rfl,d,L,S,_,j1,hL,hS,h,λL1 S1 σ1 H1 q k1 hL1 hS1=>⟨r,L1,S1,k,j2.kp k1,hL1,hS1,q,λL' S' σ' H' q' k'=>n L' S' σ' H' q' (k1.trans k')⟩⟩⟩
theorem mR {tg e:Ho} {g:DG} (he:EJ X e ge) (hg:GJ X tg g) (hs:swapsWithSole [tg] e pos.line X.env=pure false:=by rfl) (hw:swappedStores [tg] e X.env=pure none:=by rfl) (h1:(assignEach [tg] X.env).map (·.2)=[assign tg X.env]:=by rfl):SJ X (.Assign [tg] e pos) (Fc ge g):=⟨have he:=he.h; have hg:=hg.h; PS.imp (As he hg hs hw h1) λN σ H z9=>by obtain⟨L,S,M,hL,hS,h,r⟩:=z9; exact up.go hL hS h λd S1 v H1 h1 k1 hL1 hS1 i1=>
  ⟨d,L,S1,M.nx,i1,hL1,hS1,h1,λL' S' σ' H' q k' hL' hS'=>r.nx L' S' σ' H' q (k1.trans k') hL' hS'⟩⟩
theorem j5 {c:Ho} {body:List Hv} {gc:DT} (hp:PassesOwn (model X.prog X.w) X.A X.env X.xe) (hc:TJ X c gc) (hb:tz X body g):SJ X (.While c body [] pos) (Br gc g):=⟨have hc:=hc.h; have hb:=hb.h; PS.imp (vQ hp hc hb) λN σ H ⟨L,S,M,hL,hS,⟨W,⟨m0,w0⟩,turn⟩,r⟩=>by
  refine⟨λm σ H1=>∃ L S,Lc X.K H1 L σ/\Hs X.K H1 S/\W m L S/\Kp H H1,⟨m0,L,S,hL,hS,w0,Kp.refl H⟩,?_⟩
  rintro m σ1 H1 ⟨L1,S1,hL1,hS1,w1,k1⟩;refine sO.go hL1 hS1 (turn m L1 S1 w1) λt S2 H2 h2 k2 hL2 hS2=>?_
  cases t with
  | true=>
   rw [if_pos rfl] at h2 ⊢;obtain⟨N',hN,hb⟩:=h2;refine⟨fun σ' H'=>∃ L' S',Lc X.K H' L' σ'/\Hs X.K H' S'/\N' L' S'/\Kp H H',?_,L1,S2,_,hL2,hS2,hb,?_⟩
   ·rintro σ' H' ⟨L',S',hL',hS',n',k'⟩;obtain⟨m',hm,w'⟩:=hN L' S' n';exact⟨m',hm,L',S',hL',hS',w',k'⟩
   ·have r2:=r.kp (k1.trans k2);exact⟨λL' S' σ' H' n' k' hL' hS'=>⟨L',S',hL',hS',n',(k1.trans k2).trans k'⟩,r2.rt,r2.nx,λL' S' σ' H' n' k' hL' hS'=>⟨L',S',hL',hS',n',(k1.trans k2).trans k'⟩⟩
  | false=>
   rw [if_neg Gs] at h2 ⊢;exact(r.kp (k1.trans k2)).nx L1 S2 σ1 H2 h2 (Kp.refl H2) hL2 hS2⟩
theorem oM {tg a:Ho} {body:List Hv} {ta:DA} {gg:DG} {p pos':Pos} (hp:PassesOwn (model X.prog X.w) X.A X.env X.xe) (hc:X.calm=true) (hgl:Gl X "range") (hm:X.mg "range"=none) (ha:AJ X [a] ta) (hg:GJ X tg gg) (hb:tz X body g) (hs1:starEach [a] X.env=[(false,eval a X.env)]:=by rfl) (hs:∀ x,foldedSetIterable (.Call (.Name "range" p) [a] [] pos') X.env x=pure x:=by intro _; rfl):SJ X (.For tg (.Call (.Name "range" p) [a] [] pos') body [] pos) (Dg ta gg g):=⟨have ha:=ha.h; have hg:=hg.h; have hb:=hb.h; PS.imp (pf hp hc (lz hgl hm ha hs1) hg hb hs) λN σ H ⟨L,S,M,hL,hS,h,r⟩=>qB.go hL hS h λds S1 vs H1 h1 k1 hL1 hS1 i1=>by
  split at h1
  ·obtain⟨v,rfl,j⟩:=jm i1;have e:=isInt.mp j;subst e;obtain⟨⟨h2,h3⟩,h1⟩:=h1;refine⟨_,rfl,h2,h3,nN hL1 hS1 h1 (r.kp k1) (λi d S2 H2 e k2 hS2 _=>?_) λS2 H2 k2 hS2 _=>?_⟩
   ·rw [GP] at e;cases q:(List.range (Int.toNat _))[i]? with
    | none=>rw [q] at e; cases e
    | some z=>
     rw [q] at e;cases e;have hz:=GW.mp q;obtain⟨hz1,hz2⟩:=hz;rw [List.length_range] at hz1;rw [List.getElem_range] at hz2;subst hz2;exact⟨hz1,λx H' y=>⟨y.1,by rw [y.2]; exact isInt.mpr (by rw [Int.zero_add])⟩⟩
   ·rw [Gr,List.length_range];exact Gq _
  ·exact h1.elim⟩
end
section
variable {P:Hq} {w:Ht} {K:Fg} {mg:Str->Hn Hl} {base:Hu}
theorem _root_.L2.qz.okJ {x HB:Str} {st:Hv} {f:Hm} {fd:FuncData} {N ps:List Str} {k:Nat} {F:ca} (Fn:qz K x HB st f fd) (Sc:ar N ps (ai st)) (len:∀ ds S k,F ds S k->ds.length=ps.length)
  (hbody:∀ (cdv:Hl) (A:Hr) (outer:List Env) (s:Hk) (H:Hp) (E:XK),ce k (A.deeper (envOfC HB (ai st) s.heap.objs.size f cdv))->
   ∃ g,tz (bW cJ P w K mg base N HB (ai st) f cdv A outer s H E).nox (bu st) g/\
    ∀ ds S k,F ds S k->g {nx:=λ_ S'=>k .non S',rt:=k} (ds.map some++List.replicate (N.length - ps.length) none) S):aJ P w K mg base cJ (k+1) f fd ps (cV K F):=
 Fn.okD Sc len λcdv A outer s H E hr=>let ⟨g,h,q⟩:=hbody cdv A outer s H E hr; ⟨g,h.h,q⟩
end
end DL
namespace L2
open PySem PySem.Spec PyProof.Rows
section
variable {X:Cx} {pos:Pos}
def Ep (K:PySem.W.Frag) (n:Nat) (t:vt):TG:=λv σ H Q=>∃ a xs,v=.ref a/\ir K H a xs/\xs.length=n/\t xs σ H Q
theorem Bb {es:List Ho} {k:Nat} {t:vt} {n:Nat} (hc:X.calm=true) (h:w9 X es t)
  (hn:(assignEach es X.env).length=n:=by rfl) (hst:(assignEach es X.env).findIdx? (·.1)=none:=by rfl):PG X (.Tuple es k pos) (Ep X.K n t):=by
 intro HA s σ H v u Q I r hw;obtain⟨a,xs,e1,hq,hl,hw⟩:=hw;subst e1;cases r;obtain⟨its,rv,ht,hz⟩:=I.list hq;have e2:(assignEach es X.env).length=its.toArray.size:=by simp [hn,<- hl,rv.length]
 rw [arm_assign_Tuple];refine pp (wpAny_standAt ?_);unfold unpack;rw [e2,hst];refine pp (GM (PySem.W.kun_itemsOf (I.ok.hd hc) ht.isList λh' hx=>?_))
 have I1:av X HA σ H {s with heap:=h'}:=I.kept (t':=s.toks) λb o e=>hx b o (Gx (Go e)) e
 exact h HA _ σ H xs _ Q I1 (by simpa using rv) hw
theorem PG.or {e:Ho} {t t':TG} (h:PG X e t) (h':PG X e t'):PG X e (λv σ H Q=>t v σ H Q\/t' v σ H Q):=by
 intro HA s σ H v u Q I r q;rcases q with q | q
 ·exact h HA s σ H v u Q I r q
 ·exact h' HA s σ H v u Q I r q
end
def lP (X:Cx) (scope:Scope):List (Hn Nat)->List Str->Prop
 | some j::r,x::xs=>(X.N[j]?=some x/\(X.env.scope.names.lookup x=some .cell\/X.env.scope.names.lookup x=some .free)/\((relabel scope X.env).names.lookup x=some .cell\/(relabel scope X.env).names.lookup x=some .free))/\lP X scope r xs
 | none::r,_::xs=>lP X scope r xs
 | _,_=>True
theorem lP.get {X:Cx} {scope:Scope}:∀ {cap:List (Hn Nat)} {N:List Str},lP X scope cap N->∀ (i j:Nat) (x:Str),cap[i]?=some (some j)->N[i]?=some x->
  X.N[j]?=some x/\(X.env.scope.names.lookup x=some .cell\/X.env.scope.names.lookup x=some .free)/\((relabel scope X.env).names.lookup x=some .cell\/(relabel scope X.env).names.lookup x=some .free)
 | [],_,_,_,_,_,h,_=>by simp at h
 | _::_,[],_,_,_,_,_,h=>by simp at h
 | some _::_,_::_,h,0,j,x,h1,h2=>by
  simp at h1 h2
  subst h1 h2;exact h.1
 | none::_,_::_,_,0,j,x,h1,_=>by simp at h1
 | some _::_,_::_,h,i+1,j,x,h1,h2=>lP.get h.2 i j x (by simpa using h1) (by simpa using h2)
 | none::r,_::xs,h,i+1,j,x,h1,h2=>lP.get (show lP X scope r xs from h) i j x (by simpa using h1) (by simpa using h2)
def qW (X:Cx):List (Str×Hm)->Prop
 | []=>True
 | p::r=>X.env.cells.lookup p.1=some p.2/\qW X r
theorem qW.mem {X:Cx}:∀ {cl:List (Str×Hm)},qW X cl->∀ p∈cl,X.env.cells.lookup p.1=some p.2
 | [],_,p,hp=>by simp at hp
 | q::r,h,p,hp=>by
  rcases Gw.mp hp with e | e
  ·subst e; exact h.1
  ·exact qW.mem h.2 p e
theorem jq {X:Cx} {scope:Scope} {cl:List (Str×Hm)} {N:List Str} {cap:List (Hn Nat)} (h1:scope.kind=.function) (h2:closureFor scope X.env=pure cl) (h3:(scope.names.all λy=>y.2 != NameKind.cell)=true)
  (h4:(scope.names.all λy=>y.2 != NameKind.local || scope.names.lookup y.1 == some NameKind.local)=true) (h5:qW X cl)
  (h6:((relabel scope X.env).names.all λy=>(y.2 != NameKind.cell && y.2 != NameKind.free) || (cl.lookup y.1).isSome)=true) (h7:cap.length=N.length) (h8:lP X scope cap N):fC X scope cl N cap:=⟨h1,h2,h3,h4,h5.mem,h6,h7,h8.get⟩
end L2
namespace DL
open PySem PySem.Spec PyProof.Rows L2
section
variable {X:Cx} {pos:Pos}
def kv (n:Nat) (t:yd):DG:=λd L S k=>match aY S d with
 | some p=>p.1.length=n/\t p.1 L S k
 | none=>False
theorem BU {es:List Ho} {k:Nat} {t:yd} {n:Nat} (hc:X.calm=true) (h:CY X es t) (hn:(assignEach es X.env).length=n:=by rfl) (hst:(assignEach es X.env).findIdx? (·.1)=none:=by rfl):GJ X (.Tuple es k pos) (kv n t):=
 ⟨PG.imp (PG.or (BK hc h.h hn hst) (Bb hc h.h hn hst)) λv σ H Q ⟨d,L,S,k,i1,hL,hS,h,m⟩=>by
  cases d with
  | tup ds=>
   obtain⟨a,xs,rfl,t1,j⟩:=bC.mp i1;exact .inl ⟨a,xs,rfl,t1,by rw [<- j.length]; exact h.1,ds,L,S,k,j,hL,hS,h.2,m⟩
  | rl ds=>
   obtain⟨a,xs,rfl,t1,j⟩:=ra.mp i1;exact .inr ⟨a,xs,rfl,t1.sq,by rw [<- j.length]; exact h.1,ds,L,S,k,j,hL,hS,h.2,m⟩
  | ref a=>
   have e1:=b_.mp i1;subst e1;cases z:S a with
   | none=>simp only [kv,aY,z] at h
   | some o=>
    cases o with
    | dic=>simp only [kv,aY,z] at h
    | exc _=>simp only [kv,aY,z] at h
    | fn _=>simp only [kv,aY,z] at h
    | tbl _=>simp only [kv,aY,z] at h
    | gen _=>simp only [kv,aY,z] at h
    | lst ds=>
     simp only [kv,aY,z] at h;obtain⟨xs,hl,j⟩:=hS.lst z;exact .inr ⟨a,xs,rfl,ir.of hl,by rw [<- j.length]; exact h.1,ds,L,S,k,j,hL,hS,h.2,m⟩
  | _=>exact(show False from h).elim⟩
end
def zh (cap:List (Hn Nat)) (L:Lo):Lo:=cap.map λo=>match o with
 | some j=>(L[j]?).join
 | none=>none
theorem Lc.cap {K:Fg} {H:Hp} {L:Lo} {σ:L2.St} (hL:Lc K H L σ):∀ cap:List (Hn Nat),Lc K H (zh cap L) (kG cap σ)
 | []=>rfl
 | Option.none::r=>⟨_,_,rfl,Lc.cap hL r⟩
 | Option.some j::r=>by
  show Lc K H ((L[j]?).join::zh r L) ((σ[j]?).join::kG r σ)
  cases e:L[j]? with
  | none=>exact⟨_,_,rfl,Lc.cap hL r⟩
  | some o=>
   cases o with
   | none=>exact⟨_,_,rfl,Lc.cap hL r⟩
   | some d=>
    obtain⟨v,e1,e2⟩:=hL.get e;rw [e1];exact⟨v,_,rfl,e2,Lc.cap hL r⟩
abbrev DB:=Lo->DH->(Hn D->DH->Prop)->Prop
def qM (ge:DE):DB:=λL S k=>ge L S λv S1=>k (some v) S1
def vY (c:DT) (ge:DE):DB:=λL S k=>c L S λb S1=>if b=true then ge L S1 λv S2=>k (some v) S2 else k none S1
def dL (ok:DH->Prop) (p:Hm) (g:DG) (bd:DB) (k:DK):List D->List D->Lo->DH->Prop
 | [],_,_,S=>ok S/\k (.ref p) S
 | d::r,acc,L,S=>ok S/\g d L S λL1 S1=>bd L1 S1 λo S2=>match o with
  | some v=>S2 p=some (.lst acc)/\acc.length < sizeLine/\dL ok p g bd k r (acc++[v]) L1 (put S2 p (.lst (acc++[v])))
  | none=>dL ok p g bd k r acc L1 S2
def wU (cap:List (Hn Nat)) (ta:DA) (g:DG) (bd:DB):DE:=λL S k=>ta L S λds S1=>match ds with
 | [.int n]=>(-(2 ^ 62)<=n/\n < 2 ^ 62)/\∀ p,S1 p=none->dL (λ_=>True) p g bd k ((List.range n.toNat).map λi=>D.int (i:Nat)) [] (zh cap L) (put S1 p (.lst []))
 | _=>False
section
variable {K:Fg} {ok:DH->Prop} {gg:DG} {ge:DE} {gc:DT} {k:DK} {ds:List D} {L:Lo} {S:DH} {σ:L2.St} {H:Hp} {J:It} {Q:VK} {p:Hm}
theorem lj (hL:Lc K H L σ) (hS:Hs K H S) (hp:H p=none) (h:dL ok p gg (qM ge) k ds [] L (put S p (.lst [])))
  (n:∀ d S' v H',k d S'->Kp H H'->Hs K H' S'->bH K H' d v->Q v H')
  (hgo:∀ i d S1 H1,ds[i]?=some d->Kp H H1->Hs K H1 S1->ok S1->J.go i H1/\∀ x H',J.yld i H1 x H'->H'=H1/\bH K H1 d x)
  (hst:∀ S1 H1,Kp H H1->Hs K H1 S1->ok S1->J.stop ds.length H1):
  ∃ W:Nat->Nat->L2.St->Hp->Prop,(∃ m,W 0 m σ (bt H p (.lst [])))/\∀ i m σ' H',W i m σ' H'->
   (J.stop i H'/\Q (.ref p) H')\/(J.go i H'/\∃ N:L2.St->Hp->Prop,(∀ σ2 H2,N σ2 H2->∃ m',m' < m/\W (i+1) m' σ2 H2)/\∀ x H2,J.yld i H' x H2->CZ K gg x σ' H2 fun σ3 H3=>up K ge σ3 H3 λv H4=>∃ ys,H4 p=some (.lst ys)/\ys.length < sizeLine/\N σ3 (bt H4 p (.lst (ys++[v])))):=by
 refine⟨λi m σ1 H1=>m=ds.length - i/\i<=ds.length/\∃ acc L1 S1,Lc K H1 L1 σ1/\Hs K H1 S1/\Kp H H1/\dL ok p gg (qM ge) k (ds.drop i) acc L1 S1,⟨ds.length,by simp,Ha _,[],L,_,hL.kp (Kp.new hp),hS.newL hp IsDs.nil,Kp.new hp,h⟩,?_⟩
 rintro i m σ1 H1 ⟨rfl,hi,acc,L1,S1,hL1,hS1,k1,w1⟩
 by_cases hlt:i < ds.length
 ·have e:ds.drop i=ds[i]::ds.drop (i+1):=G9 hlt;rw [e] at w1;obtain⟨o1,w1⟩:=w1;obtain⟨g1,y1⟩:=hgo i ds[i] S1 H1 (by simp [hlt]) k1 hS1 o1
  refine .inr ⟨g1,fun σ' H'=>i+1<=ds.length/\∃ acc L' S',Lc K H' L' σ'/\Hs K H' S'/\Kp H H'/\dL ok p gg (qM ge) k (ds.drop (i+1)) acc L' S',fun σ' H' z9=>by obtain⟨q1,q2⟩:=z9; exact⟨ds.length - (i+1),by omega,rfl,q1,q2⟩,λx H' y=>?_⟩
  obtain⟨rfl,ix⟩:=y1 x H' y;refine⟨ds[i],L1,S1,_,ix,hL1,hS1,w1,λL2 S2 σ2 H2 q k2 hL2 hS2=>up.go hL2 hS2 q λd S3 v H3 h3 k3 hL3 hS3 i3=>?_⟩
  obtain⟨z1,z2,z3⟩:=h3;obtain⟨xs,hl,j⟩:=hS3.lst z1;have k4:Kp H3 (bt H3 p (.lst (xs++[v]))):=Kp.mut hl (λz=>z)
  exact⟨xs,hl,by rw [<- j.length]; exact z2,hlt,_,L2,_,hL3.kp k4,hS3.setL hl (j.append (IsDs.cons i3 IsDs.nil)),((k1.trans k2).trans k3).trans k4,z3⟩
 ·have e:i=ds.length:=by omega
  subst e;rw [List.drop_length] at w1;obtain⟨o1,w1⟩:=w1;exact .inl ⟨hst S1 H1 k1 hS1 o1,n _ S1 _ H1 w1 k1 hS1 (b_.mpr rfl)⟩
theorem jt (hL:Lc K H L σ) (hS:Hs K H S) (hp:H p=none) (h:dL ok p gg (vY gc ge) k ds [] L (put S p (.lst [])))
  (n:∀ d S' v H',k d S'->Kp H H'->Hs K H' S'->bH K H' d v->Q v H')
  (hgo:∀ i d S1 H1,ds[i]?=some d->Kp H H1->Hs K H1 S1->ok S1->J.go i H1/\∀ x H',J.yld i H1 x H'->H'=H1/\bH K H1 d x)
  (hst:∀ S1 H1,Kp H H1->Hs K H1 S1->ok S1->J.stop ds.length H1):
  ∃ W:Nat->Nat->L2.St->Hp->Prop,(∃ m,W 0 m σ (bt H p (.lst [])))/\∀ i m σ' H',W i m σ' H'->
   (J.stop i H'/\Q (.ref p) H')\/(J.go i H'/\∃ N:L2.St->Hp->Prop,(∀ σ2 H2,N σ2 H2->∃ m',m' < m/\W (i+1) m' σ2 H2)/\∀ x H2,J.yld i H' x H2->CZ K gg x σ' H2 fun σ3 H3=>sO K gc σ3 H3 λb H3'=>if b=true then up K ge σ3 H3' λv H4=>∃ ys,H4 p=some (.lst ys)/\ys.length < sizeLine/\N σ3 (bt H4 p (.lst (ys++[v]))) else N σ3 H3'):=by
 refine⟨λi m σ1 H1=>m=ds.length - i/\i<=ds.length/\∃ acc L1 S1,Lc K H1 L1 σ1/\Hs K H1 S1/\Kp H H1/\dL ok p gg (vY gc ge) k (ds.drop i) acc L1 S1,⟨ds.length,by simp,Ha _,[],L,_,hL.kp (Kp.new hp),hS.newL hp IsDs.nil,Kp.new hp,h⟩,?_⟩
 rintro i m σ1 H1 ⟨rfl,hi,acc,L1,S1,hL1,hS1,k1,w1⟩
 by_cases hlt:i < ds.length
 ·have e:ds.drop i=ds[i]::ds.drop (i+1):=G9 hlt;rw [e] at w1;obtain⟨o1,w1⟩:=w1;obtain⟨g1,y1⟩:=hgo i ds[i] S1 H1 (by simp [hlt]) k1 hS1 o1
  refine .inr ⟨g1,fun σ' H'=>i+1<=ds.length/\∃ acc L' S',Lc K H' L' σ'/\Hs K H' S'/\Kp H H'/\dL ok p gg (vY gc ge) k (ds.drop (i+1)) acc L' S',fun σ' H' z9=>by obtain⟨q1,q2⟩:=z9; exact⟨ds.length - (i+1),by omega,rfl,q1,q2⟩,λx H' y=>?_⟩
  obtain⟨rfl,ix⟩:=y1 x H' y;refine⟨ds[i],L1,S1,_,ix,hL1,hS1,w1,λL2 S2 σ2 H2 q k2 hL2 hS2=>sO.go hL2 hS2 q λb S2' H2' h2 k2' hL2' hS2'=>?_⟩
  cases b with
  | true=>
   rw [if_pos rfl] at h2 ⊢;refine up.go hL2' hS2' h2 λd S3 v H3 h3 k3 hL3 hS3 i3=>?_
   obtain⟨z1,z2,z3⟩:=h3;obtain⟨xs,hl,j⟩:=hS3.lst z1;have k4:Kp H3 (bt H3 p (.lst (xs++[v]))):=Kp.mut hl (λz=>z)
   exact⟨xs,hl,by rw [<- j.length]; exact z2,hlt,_,L2,_,hL3.kp k4,hS3.setL hl (j.append (IsDs.cons i3 IsDs.nil)),(((k1.trans k2).trans k2').trans k3).trans k4,z3⟩
  | false=>
   rw [if_neg Gs] at h2 ⊢;exact⟨hlt,acc,L2,S2',hL2',hS2',(k1.trans k2).trans k2',h2⟩
 ·have e:i=ds.length:=by omega
  subst e;rw [List.drop_length] at w1;obtain⟨o1,w1⟩:=w1;exact .inl ⟨hst S1 H1 k1 hS1 o1,n _ S1 _ H1 w1 k1 hS1 (b_.mpr rfl)⟩
end
theorem rk {K:Fg} {H:Hp} {n:Int}:∀ i d (S1:DH) H1,((List.range n.toNat).map λi=>D.int (i:Nat))[i]?=some d->Kp H H1->Hs K H1 S1->(λ_=>True:DH->Prop) S1->(Ds 0 n.toNat).go i H1/\∀ x H',(Ds 0 n.toNat).yld i H1 x H'->H'=H1/\bH K H1 d x:=by
 intro i d S1 H1 e _ _ _;rw [GP] at e;cases q:(List.range (Int.toNat _))[i]? with
 | none=>rw [q] at e; cases e
 | some z=>
  rw [q] at e;cases e;obtain⟨hz1,hz2⟩:=GW.mp q;rw [List.length_range] at hz1;rw [List.getElem_range] at hz2;subst hz2;exact⟨hz1,λx H' y=>⟨y.1,by rw [y.2]; exact isInt.mpr (by rw [Int.zero_add])⟩⟩
def oi (K:Fg) (mg:Str->Hn Hl) (x:Str) (ns:List Int):Prop:=∃ p o its n,mg x=some (.ref p)/\K.lookup p=some o/\o.cls=.type "tuple"/\o.data=.seq its n/\its.size<=sizeLine/\bb (ns.map V.int) its.toList
theorem oN {K:Fg} {H:Hp}:∀ ns:List Int,IsDs K H (ns.map D.int) (ns.map V.int)
 | []=>IsDs.nil
 | _::ns=>IsDs.cons (isInt.mpr rfl) (oN ns)
theorem fD {X:Cx} {x:Str} {ns:List Int} {pos:Pos} (g:oi X.K X.mg x ns) (hg:Gl X x) (hd:(x == ("__debug__":Str))=false:=by decide):EJ X (.Name x pos) (dC (.tup (ns.map D.int))):=by
 obtain⟨p,o,its,n,hm,h1,h2,h3,h4,h5⟩:=g;exact⟨Ch (y_ (v:=.ref p) hg hm rfl hd) λH=>bC.mpr ⟨p,_,rfl,.inr ⟨o,its,n,h1,h2,h3,h4,h5⟩,oN ns⟩⟩
theorem jL.imp {K:Fg} {r r':D2} (i:∀ d e S k,r' d e S k->r d e S k):∀ x y H Q,jL K r' x y H Q->jL K r x y H Q:=λx y H Q z9=>by obtain⟨d,e,S,k,a,b,c,h,n⟩:=z9; exact⟨d,e,S,k,a,b,c,i d e S k h,n⟩
theorem sZ.imp {K:Fg} {r r':ca} (i:∀ ds S k,r' ds S k->r ds S k):∀ xs H Q,sZ K r' xs H Q->sZ K r xs H Q:=λxs H Q z9=>by obtain⟨ds,S,k,a,b,h,n⟩:=z9; exact⟨ds,S,k,a,b,i ds S k h,n⟩
theorem vp.imp {X:Cx} {r r':R2} (h:vp X r) (i:∀ x y H Q,r' x y H Q->r x y H Q):vp X r':=λvalue slice HA s σ H x y v u Q I rx ry q=>h value slice HA s σ H x y v u Q I rx ry (i x y H Q q)
theorem dW.imp {X:Cx} {f:Hl} {r r':List V->Hp->VK->Prop} (h:dW X f r) (i:∀ xs H Q,r' xs H Q->r xs H Q):dW X f r':=λHA s σ H xs us Q I rs q=>h HA s σ H xs us Q I rs (i xs H Q q)
def Bm:D2:=λd e S k=>match d,e with
 | .tup ds,.int i=>(match L2.atI ds i with
  | some c=>k c S
  | none=>False)
 | .rl ds,.int i=>∃ c,L2.atI ds i=some c/\k c S
 | .ref a,.int i=>∃ ds c,S a=some (.lst ds)/\L2.atI ds i=some c/\k c S
 | _,_=>False
theorem fj {X:Cx}:vp X (jL X.K Bm):=vp.imp Df (jL.imp λd e S k h=>by
 unfold Bm at h
 split at h
 ·exact h
 ·obtain⟨c,h1,h2⟩:=h;simp only [qA,h1];exact h2
 ·obtain⟨ds,c,h0,h1,h2⟩:=h;simp only [qA,h0,h1];exact h2
 ·exact h.elim)
theorem aT {X:Cx} {x:Str} {p1 p2 pos:Pos} {c:Int} {j} (n:Nat) (hN:X.N[n]?=some x:=by rfl) (hv:qQ X.env.scope x:=by first | exact Or.inl rfl | exact Or.inr (Or.inl rfl) | exact Or.inr (Or.inr rfl)) (hd:(x == ("__debug__":Str))=false:=by decide) (hcd:(x == ("__classdict__":Str))=false:=by decide):EJ X (.Subscript (.Name x p1) (.Constant (.int c) j p2) pos) (Cg Bm (y8 n) (dC (.int c))):=bn fj (ag n hN hv hd hcd) am Zf
def Ai:ca:=λds S k=>match ds with
 | [.tup xs]=>k (.int xs.length) S
 | [.rl xs]=>k (.int xs.length) S
 | [.ref a]=>∃ xs,S a=some (.lst xs)/\k (.int xs.length) S
 | _=>False
theorem gS {X:Cx}:dW X (.builtin "len") (sZ X.K Ai):=dW.imp CF (sZ.imp λds S k h=>by
 unfold Ai at h
 split at h
 ·exact h
 ·exact h
 ·obtain⟨xs,h1,h2⟩:=h;simp only [AG,h1];exact h2
 ·exact h.elim)
def Dm (gi:DE) (g:DG) (b:DS):DS:=λM L S=>gi L S λd S1=>∃ p,aY S1 d=some p/\gH (eC p) g b M p.1 L S1
def B6 (n:Nat) (t:yd):DG:=λd L S k=>∃ p,aY S d=some p/\p.1.length=n/\t p.1 L S k
theorem GJ.imp {X:Cx} {e:Ho} {g g':DG} (h:GJ X e g) (i:∀ d L S k,g' d L S k->g d L S k):GJ X e g':=⟨PG.imp h.h λv σ H Q z9=>by obtain⟨d,L,S,k,a,hL,hS,q,n⟩:=z9; exact⟨d,L,S,k,a,hL,hS,i d L S k q,n⟩⟩
theorem mD {X:Cx} {pos:Pos} {es:List Ho} {k:Nat} {t:yd} {n:Nat} (hc:X.calm=true) (h:CY X es t) (hn:(assignEach es X.env).length=n:=by rfl) (hst:(assignEach es X.env).findIdx? (·.1)=none:=by rfl):GJ X (.Tuple es k pos) (B6 n t):=
 GJ.imp (BU hc h hn hst) λd L S k ⟨p,h1,h2⟩=>by
  simp only [kv,h1];exact h2
section
variable {X:Cx} {pos:Pos}
def Au (go gi:DE):DG:=λd L S k=>go L S λo S1=>gi L S1 λi S2=>match o,i with
 | .ref a,.int j=>∃ ds n,S2 a=some (.lst ds)/\xt ds.length j=some n/\k L (put S2 a (.lst (ds.set n d)))
 | _,_=>False
theorem tS {o i:Ho} {go gi:DE} (ho:EJ X o go) (hi:EJ X i gi)
  (ha:∀ v,assign (.Subscript o i pos) X.env v=(do
   let ov <- holding [v] (eval o X.env)
   let iv <- holding [v,ov] (eval i X.env)
   standAt pos
   holding [v,ov,iv] (setItem ov iv v)
   release [v,ov,iv] []):=by intro _; rfl):GJ X (.Subscript o i pos) (Au go gi):=
 ⟨PG.imp (AB ho.h hi.h xW ha) λv σ H Q ⟨d,L,S,k,i1,hL,hS,h,n⟩=>up.go hL hS h λc S1 u H1 h1 k1 hL1 hS1 j1=>up.go hL1 hS1 h1 λc2 S2 u2 H2 h2 k2 hL2 hS2 j2=>by
  cases c with
  | ref a=>
   cases c2 with
   | int z=>
    have e1:=b_.mp j1;have e2:=isInt.mp j2;subst e1;subst e2;obtain⟨ds,m,w,q,h2⟩:=h2;obtain⟨vs,hl,j⟩:=hS2.lst w;refine⟨a,vs,z,m,rfl,rfl,hl,by rw [<- j.length]; exact q,?_⟩
    have k3:Kp H2 (bt H2 a (.lst (vs.set m v))):=Kp.mut hl (λz=>z)
    exact n L _ σ _ h2 (k1.trans (k2.trans k3)) (hL2.kp k3) (hS2.setL hl (j.set m (i1.kp (k1.trans k2))))
   | _=>exact(show False from h2).elim
  | _=>exact(show False from h2).elim⟩
theorem rO {K:Fg} {S1:DH} {H1:Hp} {d:D} {v:V} {p:List D×Hn Hm} (hS1:Hs K H1 S1) (i1:bH K H1 d v) (hp:aY S1 d=some p):∃ a,v=.ref a/\
  (((∃ xs, ir K H1 a xs) ∧ (∀ i c S2 H2, p.1[i]? = some c → Kp H1 H2 → Hs K H2 S2 → eC p S2 → (DM K a).go i H2 ∧ ∀ x H', (DM K a).yld i H2 x H' → H' = H2 ∧ bH K H2 c x) ∧ ∀ S2 H2, Kp H1 H2 → Hs K H2 S2 → eC p S2 → (DM K a).stop p.1.length H2) ∨
   ((∃ xs,jN K H1 a xs)/\(∀ i c S2 H2,p.1[i]?=some c->Kp H1 H2->Hs K H2 S2->eC p S2->(CG K a).go i H2/\∀ x H',(CG K a).yld i H2 x H'->H'=H2/\bH K H2 c x)/\∀ S2 H2,Kp H1 H2->Hs K H2 S2->eC p S2->(CG K a).stop p.1.length H2)):=by
 cases d with
 | tup ds=>
  cases hp;obtain⟨a,xs,rfl,t,j⟩:=bC.mp i1;refine⟨a,rfl,.inr ⟨⟨xs,t⟩,λi d S2 H2 e k2 hS2 _=>?_,λS2 H2 k2 hS2 _=>⟨xs,k2.tup t,by rw [<- j.length]; exact Gq _⟩⟩⟩
  obtain⟨w,e1,e2⟩:=j.get e;refine⟨⟨xs,w,k2.tup t,e1⟩,λx H' y=>⟨y.1,?_⟩⟩
  have z:=y.2 xs (k2.tup t);rw [e1] at z;cases z;exact e2.kp k2
 | rl ds=>
  cases hp;obtain⟨a,xs,rfl,t,j⟩:=ra.mp i1;refine⟨a,rfl,.inl ⟨⟨xs,t.sq⟩,λi d S2 H2 e k2 hS2 _=>?_,λS2 H2 k2 hS2 _=>⟨xs,(k2.fro t).sq,by rw [<- j.length]; exact Gq _⟩⟩⟩
  obtain⟨w,e1,e2⟩:=j.get e;refine⟨⟨xs,w,(k2.fro t).sq,e1⟩,λx H' y=>⟨y.1,?_⟩⟩
  have z:=y.2 xs (k2.fro t).sq;rw [e1] at z;cases z;exact e2.kp k2
 | ref a=>
  have e1:=b_.mp i1;subst e1;cases z:S1 a with
  | none=>simp only [aY,z] at hp; cases hp
  | some o=>
   cases o with
   | dic=>simp only [aY,z] at hp; cases hp
   | exc _=>simp only [aY,z] at hp; cases hp
   | fn _=>simp only [aY,z] at hp; cases hp
   | tbl _=>simp only [aY,z] at hp; cases hp
   | gen _=>simp only [aY,z] at hp; cases hp
   | lst ds=>
    simp only [aY,z] at hp;cases hp;obtain⟨xs,hl,j⟩:=hS1.lst z;refine⟨a,rfl,.inl ⟨⟨xs,ir.of hl⟩,λi d S2 H2 e k2 hS2 o2=>?_,λS2 H2 k2 hS2 o2=>?_⟩⟩
    ·obtain⟨ys,hl2,j2⟩:=hS2.lst o2;obtain⟨w,e1,e2⟩:=j2.get e;refine⟨⟨ys,w,ir.of hl2,e1⟩,λx H' y=>⟨y.1,?_⟩⟩
     have q:=y.2 ys (ir.of hl2);rw [e1] at q;cases q;exact e2
    ·obtain⟨ys,hl2,j2⟩:=hS2.lst o2;exact⟨ys,ir.of hl2,by rw [<- j2.length]; exact Gq _⟩
 | _=>cases hp
theorem eY {tg iter:Ho} {body:List Hv} {gi:DE} {gg:DG} {g:DS} (hp:PassesOwn (model X.prog X.w) X.A X.env X.xe) (hc:X.calm=true) (hi:EJ X iter gi) (hg:GJ X tg gg) (hb:tz X body g)
  (hs:∀ x,foldedSetIterable iter X.env x=pure x:=by intro _; rfl):SJ X (.For tg iter body [] pos) (Dm gi gg g):=
 ⟨PS.imp (pf hp hc (rS hi.h) hg.h hb.h hs) λN σ H ⟨L,S,M,hL,hS,h,r⟩=>up.go hL hS h λd S1 v H1 h1 k1 hL1 hS1 i1=>by
  obtain⟨p,hp,h1⟩:=h1;obtain⟨a,e,q⟩:=rO hS1 i1 hp;refine⟨a,e,?_⟩;rcases q with ⟨q1,q2,q3⟩ | ⟨q1,q2,q3⟩
  ·exact .inl ⟨q1,nN hL1 hS1 h1 (r.kp k1) q2 q3⟩
  ·exact .inr ⟨q1,nN hL1 hS1 h1 (r.kp k1) q2 q3⟩⟩
def xo (cap:List (Hn Nat)) (gi:DE) (g:DG) (bd:DB):DE:=λL S k=>gi L S λd S1=>∃ q,aY S1 d=some q/\∀ p,S1 p=none->dL (eC q) p g bd k q.1 [] (zh cap L) (put S1 p (.lst []))
theorem nz {elt tg iter:Ho} {scope:Scope} {cl:List (Str×Hm)} {N:List Str} {cap:List (Hn Nat)} {gg:DG} {ge gi:DE} (hc:X.calm=true) (Sc:fC X scope cl N cap) (hi:EJ X iter gi) (hg:∀ s0 H0 ex C,GJ (gl X scope cl N s0 H0 ex C) tg gg) (he:∀ s0 H0 ex C,EJ (gl X scope cl N s0 H0 ex C) elt ge)
  (hs:∀ x,foldedSetIterable iter X.env x=pure x:=by intro _; rfl):EJ X (.ListComp elt [⟨tg,iter,[],0⟩] scope pos) (xo cap gi gg (qM ge)):=
 ⟨PE.imp (yk hc Sc (rS hi.h) (λs0 H0 ex C=>(hg s0 H0 ex C).h) (λs0 H0 ex C=>(he s0 H0 ex C).h) hs) fun σ H Q ⟨L,S,k,hL,hS,h,n⟩=>up.go hL hS h λd S1 v H1 h1 k1 hL1 hS1 i1=>by
  obtain⟨p,hp,h1⟩:=h1;obtain⟨a,e,q⟩:=rO hS1 i1 hp;refine⟨a,e,?_⟩;have n':∀ d S' v H',k d S'->Kp H1 H'->Hs X.K H' S'->bH X.K H' d v->Q v H':=λd S' v H' q k3=>n d S' v H' q (k1.trans k3)
  rcases q with ⟨q1,q2,q3⟩ | ⟨q1,q2,q3⟩
  ·exact .inl ⟨q1,λD hD=>lj (hL1.cap cap) hS1 hD (h1 D (hS1.free hD)) n' q2 q3⟩
  ·exact .inr ⟨q1,λD hD=>lj (hL1.cap cap) hS1 hD (h1 D (hS1.free hD)) n' q2 q3⟩⟩
end
end DL
namespace L2
open PySem PySem.Spec PyProof.Rows
structure gw (P:Hq) (w:Ht) (it l:Hm) (st:Nat->Hu->Prop) (sq:Hw Hl->Hu->Prop):Prop where
 at_:∀ k h h',st k h->(∀ o,h.get? it=some o->h'.get? it=some o)->st k h'
 sqAt:∀ xs h h',sq xs h->(∀ o,h.get? l=some o->h'.get? l=some o)->sq xs h'
 obj:∀ k h,st k h->∃ o,h.get? it=some o/\∀ v,o.data≠.cell v
 item:∀ (A:Hr) (k:Nat) (s:Hk) (xs:Hw Hl) (x:Hl) (Q:Hl->Hk->Prop) (E:Hl->Hk->Prop),st k s.heap->sq xs s.heap->xs[k]?=some x->
  (∀ h',st (k+1) h'->Heap.SameBut it s.heap h'->Q x {s with heap:=h'})->wpAny (model P w) A (Builtin.SmallTypes.nextOf (.ref it)) Q E s
 fin:∀ (A:Hr) (k:Nat) (s:Hk) (xs:Hw Hl) (Q:Hl->Hk->Prop) (E:Hl->Hk->Prop),A.handled=none->st k s.heap->sq xs s.heap->xs[k]?=none->
  (∀ h' e,Heap.ExtBut it s.heap h'->(∃ o,h'.get? e=some o/\o.cls=.type "StopIteration")->E (.ref e) {s with heap:=h'})->wpAny (model P w) A (Builtin.SmallTypes.nextOf (.ref it)) Q E s
theorem gw.list {P:Hq} {w:Ht} (it l:Hm):gw P w it l (λk h=>h.IsListIter it l k) (λxs h=>h.IsList l xs) where
 at_:=λ_ _ _ x y=>x.at y
 sqAt:=λ_ _ _ x y=>x.at y
 obj:=λ_ _ z9=>by obtain⟨o,e,_,d⟩:=z9; exact⟨o,e,λv z=>by rw [d] at z; cases z⟩
 item:=λ_ _ _ _ _ _ _ a b c d=>wpAny_nextOf_list_item a b c d
 fin:=λ_ _ _ _ _ _ hh a b c d=>wpAny_nextOf_list_end hh a b c d
section
variable {prog:Hq} {w:Ht} {A:Hr} {E:Hl->Hk->Prop} {s:Hk}
theorem kZ {it t:Hm} {i:Nat} {items} {x:Hl} {Q:Hl->Hk->Prop} (hit:s.heap.IsTupleIter it t i) (ht:s.heap.IsTuple t items) (hx:items[i]?=some x)
  (hQ:∀ h',h'.IsTupleIter it t (i+1)->Heap.SameBut it s.heap h'->Q x {s with heap:=h'}):wpAny (model prog w) A (Builtin.SmallTypes.nextOf (.ref it)) Q E s:=by
 obtain⟨o,ho,hc,hd⟩:=id hit;obtain⟨ol,hol,_,nl,hdl⟩:=ht;unfold Builtin.SmallTypes.nextOf;refine pp (Hf (name:=Str.ofString "__next__") hit.typeIs F.slot_tuple_iterator_next (G7 F.slot_tuple_iterator_next hit.typeIs F.entry_tuple_iterator_next ?_ (F.args_tuple_iterator_next_1 _)))
 refine pp (m:=field (.ref it) 0) (GY ho hd (x:=.ref t) rfl ?_)
 show wpAny _ _ (if (Value.ref t == Value.none)=true then _ else _) _ _ s
 rw [if_neg (show ¬ ((Value.ref t == Value.none)=true) from Gs)]
 refine pp (m:=field (.ref it) 1) (GY ho hd (x:=.int i 0) rfl ?_);refine pp (m:=seqItems? (.ref t)) (GT hol hdl ?_);simp only [Int.toNat_natCast,hx];refine pp (wpAny_setField ho hd (by simp) (Gj ⟨x,rfl,Gj (hQ _ ⟨_,G5 _ ho (Obj.isFreed_of_fields (Obj.data_mapFields hd _)),(Obj.cls_mapFields ..).trans hc,?_⟩ (Heap.SameBut.update ..))⟩))
 rw [Obj.data_mapFields hd];simp [rawInt]
theorem lw {it t:Hm} {i:Nat} {items} {Q:Hl->Hk->Prop} (hh:A.handled=none) (hit:s.heap.IsTupleIter it t i) (ht:s.heap.IsTuple t items) (hx:items[i]?=none)
  (hE:∀ h' e,Heap.ExtBut it s.heap h'->(∃ o,h'.get? e=some o/\o.cls=.type "StopIteration")->E (.ref e) {s with heap:=h'}):wpAny (model prog w) A (Builtin.SmallTypes.nextOf (.ref it)) Q E s:=by
 obtain⟨o,ho,hc,hd⟩:=id hit;obtain⟨ol,hol,_,nl,hdl⟩:=ht;unfold Builtin.SmallTypes.nextOf;refine pp (Hf (name:=Str.ofString "__next__") hit.typeIs F.slot_tuple_iterator_next (G7 F.slot_tuple_iterator_next hit.typeIs F.entry_tuple_iterator_next ?_ (F.args_tuple_iterator_next_1 _)))
 refine pp (m:=field (.ref it) 0) (GY ho hd (x:=.ref t) rfl ?_)
 show wpAny _ _ (if (Value.ref t == Value.none)=true then _ else _) _ _ s
 rw [if_neg (show ¬ ((Value.ref t == Value.none)=true) from Gs)]
 refine pp (m:=field (.ref it) 1) (GY ho hd (x:=.int i 0) rfl ?_);refine pp (m:=seqItems? (.ref t)) (GT hol hdl ?_);simp only [Int.toNat_natCast,hx];refine pp (wpAny_rule (pp (wpAny_setField ho hd (by simp) ?_)))
 refine pp (m:=newExc (.type "StopIteration") []) ?_
 simp only [newExc,newTuple];refine pp (GO ?_ (by size_fits))
 refine pp (m:=firstArgMember _ _) (wpAny_of_eq (a:=Value.none) (by first | rfl | (simp only [firstArgMember]; rfl)) ?_)
 refine GO ?_ (by size_fits)
 simp only [raiseNew];refine pp (wpAny_handled ?_)
 first | rw [show A.in1.handled=none from hh] | rw [hh]
 exact pp (Gj (wpAny_throw (hE _ _ (((Heap.SameBut.update ..).extBut.push _).push _) ⟨_,Gk _ rfl,rfl⟩)))
end
theorem gw.tuple {P:Hq} {w:Ht} (it l:Hm):gw P w it l (λk h=>h.IsTupleIter it l k) (λxs h=>h.IsTuple l xs) where
 at_:=λ_ _ _ x y=>x.at y
 sqAt:=λ_ _ _ x y=>x.at y
 obj:=λ_ _ z9=>by obtain⟨o,e,_,d⟩:=z9; exact⟨o,e,λv z=>by rw [d] at z; cases z⟩
 item:=λ_ _ _ _ _ _ _ a b c d=>kZ a b c d
 fin:=λ_ _ _ _ _ _ hh a b c d=>lw hh a b c d
section
variable {prog:Hq} {w:Ht} {A:Hr} {E:Hl->Hk->Prop} {s:Hk} {z TI TO i1 i2 l1 l2:Hm} {st1 st2:Nat->Hu->Prop} {sq1 sf:Hw Hl->Hu->Prop} {k1 k2:Nat} {xs ys:Hw Hl} {x y a b:Hl}
theorem xQ {Q:Hl->Hk->Prop} (G1:gw prog w i1 l1 st1 sq1) (G2:gw prog w i2 l2 st2 sf) (D:ZipApart z TI TO i1 i2 l1 l2) (hz:IsZip s.heap z TI TO .none) (hTI:IsPair s.heap TI (.ref i1) (.ref i2)) (hTO:IsPair s.heap TO a b)
  (h1:st1 k1 s.heap) (h2:st2 k2 s.heap) (hl1:sq1 xs s.heap) (hl2:sf ys s.heap) (hx:xs[k1]?=some x) (hy:ys[k2]?=some y)
  (hQ:∀ h',IsZip h' z TI TO (rawInt s.heap.objs.size)->IsPair h' TO x y->st1 (k1+1) h'->st2 (k2+1) h'->IsPair h' s.heap.objs.size x y->h'.objs.size=s.heap.objs.size+1->
   (∀ c o,c≠z->c≠TO->c≠i1->c≠i2->s.heap.get? c=some o->h'.get? c=some o)->Q (.ref s.heap.objs.size) {s with heap:=h'}):
  wpAny (model prog w) A (Builtin.«zip.__next__» ⟨[.ref z],[]⟩) (λfin s'=>∃ v,fin=.done (.ret v)/\Q v s') E s:=by
 refine pp (m:=field (.ref z) 2) (GY hz rfl (x:=.bool false) rfl ?_);refine pp (m:=field (.ref z) 3) (GY hz rfl (x:=.ref TI) rfl ?_);refine pp (GT hTI rfl ?_);refine pp (m:=Builtin.SmallTypes.ownedTupleIsFree (.ref z)) ?_;unfold Builtin.SmallTypes.ownedTupleIsFree;refine pp (GY hz rfl (x:=.none) rfl (Gj ?_));simp only [if_true];refine pp (wpAny_rule ?_);refine pp (GY hz rfl (x:=.ref TO) rfl ?_);refine pp (GL hz (by simp) λg1 z1 e1=>?_)
 replace z1:IsZip g1 z TI TO .ellipsis:=z1;refine pp ?_;simp only [List.zipIdx_cons,List.zipIdx_nil,List.forIn_cons,List.forIn_nil];refine pp (pp (wpAny_onRaise ?_));refine pp (m:=Builtin.SmallTypes.nextOf (.ref i1)) (G1.item _ _ _ _ _ _ _ (G1.at_ _ _ _ h1 λo q=>e1.extBut _ _ D.i1z q) (G1.sqAt _ _ _ hl1 λo q=>e1.extBut _ _ D.l1z q) hx λg2 t1 e2=>Gj ?_)
 have o2:IsPair g2 TO a b:=e2.extBut _ _ D.TOi1 (e1.extBut _ _ D.TOz hTO);refine pp (GT o2 rfl ?_);refine pp (wpAny_updateSeq_pair o2 λg3 o3 e3=>?_)
 replace o3:IsPair g3 TO x b:=o3;refine pp (wpAny_letGo (Gj ?_));refine pp (pp (wpAny_onRaise ?_));refine pp (m:=Builtin.SmallTypes.nextOf (.ref i2)) (G2.item _ _ _ _ _ _ _ (G2.at_ _ _ _ h2 λo q=>e3.extBut _ _ D.TOi2.symm (e2.extBut _ _ D.i12.symm (e1.extBut _ _ D.i2z q)))
  (G2.sqAt _ _ _ hl2 λo q=>e3.extBut _ _ D.l2TO (e2.extBut _ _ D.l2i1 (e1.extBut _ _ D.l2z q))) hy λg4 t2 e4=>Gj ?_)
 have o4:IsPair g4 TO x b:=e4.extBut _ _ D.TOi2 o3;refine pp (GT o4 rfl ?_);refine pp (wpAny_updateSeq_pair o4 λg5 o5 e5=>?_)
 replace o5:IsPair g5 TO x y:=o5;refine pp (wpAny_letGo (Gj (Gj ?_)));refine pp (GT o5 rfl ?_);refine pp (wpAny_newTuple ?_);have hsz:g5.objs.size=s.heap.objs.size:=by rw [e5.1,e4.1,e3.1,e2.1,e1.1]
 have z5:IsZip g5 z TI TO .ellipsis:=e5.extBut _ _ D.TOz.symm (e4.extBut _ _ D.i2z.symm (e3.extBut _ _ D.TOz.symm (e2.extBut _ _ D.i1z.symm z1)));have kk:∀ c o,c≠z->c≠TO->c≠i1->c≠i2->s.heap.get? c=some o->g5.get? c=some o:=λc o c1 c2 c3 c4 e=>
  e5.extBut _ _ c2 (e4.extBut _ _ c4 (e3.extBut _ _ c2 (e2.extBut _ _ c3 (e1.extBut _ _ c1 e))))
 have t15:st1 (k1+1) g5:=G1.at_ _ _ _ t1 λo q=>e5.extBut _ _ D.TOi1.symm (e4.extBut _ _ D.i12 (e3.extBut _ _ D.TOi1.symm q))
 have t25:st2 (k2+1) g5:=G2.at_ _ _ _ t2 λo q=>e5.extBut _ _ D.TOi2.symm q
 have hzlt:z < g5.objs.size:=Go z5;refine pp (m:=Builtin.SmallTypes.ownedTupleHandOut (.ref z) (.ref g5.objs.size)) ?_;unfold Builtin.SmallTypes.ownedTupleHandOut;have z6:IsZip (g5.push {cls:=.type "tuple",data:=.seq #[x,y]}) z TI TO .ellipsis:=Gi _ z5
 refine pp (GL z6 (by simp) λg7 z7 e7=>?_)
 replace z7:IsZip g7 z TI TO (rawInt g5.objs.size):=z7;refine GL z7 (by simp) λg8 z8 e8=>?_
 replace z8:IsZip g8 z TI TO (rawInt g5.objs.size):=z8;have up:∀ c o,c≠z->g5.get? c=some o->g8.get? c=some o:=λc o c1 e=>e8.extBut _ _ c1 (e7.extBut _ _ c1 (Gi _ e))
 have t8:IsPair g8 g5.objs.size x y:=e8.extBut _ _ (Nat.ne_of_gt hzlt) (e7.extBut _ _ (Nat.ne_of_gt hzlt) (Gk _ rfl));have n8:g8.objs.size=g5.objs.size+1:=by rw [e8.1,e7.1,Hc]
 rw [hsz] at z8 t8 n8
 refine Gj ⟨_,rfl,?_⟩
 show Q (.ref g5.objs.size) _
 rw [hsz];exact hQ g8 z8 (up _ _ D.TOz o5) (G1.at_ _ _ _ t15 λo e=>up _ o D.i1z e) (G2.at_ _ _ _ t25 λo e=>up _ o D.i2z e) t8 n8 λc o c1 c2 c3 c4 e=>up c o c1 (kk c o c1 c2 c3 c4 e)
theorem y7 {Q:Fin->Hk->Prop} (G1:gw prog w i1 l1 st1 sq1) (G2:gw prog w i2 l2 st2 sf) (hh:A.handled=none) (D:ZipApart z TI TO i1 i2 l1 l2) (hz:IsZip s.heap z TI TO .none) (hTI:IsPair s.heap TI (.ref i1) (.ref i2)) (hTO:IsPair s.heap TO a b)
  (h1:st1 k1 s.heap) (h2:st2 k2 s.heap) (hl1:sq1 xs s.heap) (hl2:sf ys s.heap) (hend:xs[k1]?=none\/ys[k2]?=none)
  (hE:∀ h' e,(∀ c o,c≠z->c≠TO->c≠i1->c≠i2->s.heap.get? c=some o->h'.get? c=some o)->(∃ o,h'.get? e=some o/\o.cls=.type "StopIteration")->E (.ref e) {s with heap:=h'}):
  wpAny (model prog w) A (Builtin.«zip.__next__» ⟨[.ref z],[]⟩) Q E s:=by
 refine pp (m:=field (.ref z) 2) (GY hz rfl (x:=.bool false) rfl ?_);refine pp (m:=field (.ref z) 3) (GY hz rfl (x:=.ref TI) rfl ?_);refine pp (GT hTI rfl ?_);refine pp (m:=Builtin.SmallTypes.ownedTupleIsFree (.ref z)) ?_;unfold Builtin.SmallTypes.ownedTupleIsFree;refine pp (GY hz rfl (x:=.none) rfl (Gj ?_));simp only [if_true];refine pp (wpAny_rule ?_);refine pp (GY hz rfl (x:=.ref TO) rfl ?_);refine pp (GL hz (by simp) λg1 z1 e1=>?_)
 replace z1:IsZip g1 z TI TO .ellipsis:=z1;refine pp ?_;simp only [List.zipIdx_cons,List.zipIdx_nil,List.forIn_cons,List.forIn_nil];refine pp (pp (wpAny_onRaise ?_));have a1:=G1.at_ _ _ g1 h1 λo q=>e1.extBut _ _ D.i1z q
 have b1:=G1.sqAt _ _ g1 hl1 λo q=>e1.extBut _ _ D.l1z q
 cases hx:xs[k1]? with
 | none=>
  refine pp (m:=Builtin.SmallTypes.nextOf (.ref i1)) (G1.fin _ _ _ _ _ _ hh a1 b1 hx λg2 e e2 he=>?_)
  obtain⟨oe,hoe,hce⟩:=he;have z2:IsZip g2 z TI TO .ellipsis:=e2 _ _ D.i1z.symm z1;have hez:e≠z:=λx=>by subst x; rw [z2] at hoe; cases hoe; simp at hce
  exact GL z2 (by simp) λg3 _ e3=>hE g3 e (λc o c1 _ c3 _ x=>e3.extBut _ _ c1 (e2 _ _ c3 (e1.extBut _ _ c1 x))) ⟨oe,e3.extBut _ _ hez hoe,hce⟩
 | some x=>
  have hy:ys[k2]?=none:=by rcases hend with h | h; rw [hx] at h; cases h; exact h
  refine pp (m:=Builtin.SmallTypes.nextOf (.ref i1)) (G1.item _ _ _ _ _ _ _ a1 b1 hx λg2 t1 e2=>Gj ?_)
  have o2:IsPair g2 TO a b:=e2.extBut _ _ D.TOi1 (e1.extBut _ _ D.TOz hTO);refine pp (GT o2 rfl ?_);refine pp (wpAny_updateSeq_pair o2 λg3 o3 e3=>?_)
  refine pp (wpAny_letGo (Gj ?_));refine pp (pp (wpAny_onRaise ?_));refine pp (m:=Builtin.SmallTypes.nextOf (.ref i2)) (G2.fin _ _ _ _ _ _ hh (G2.at_ _ _ _ h2 λo q=>e3.extBut _ _ D.TOi2.symm (e2.extBut _ _ D.i12.symm (e1.extBut _ _ D.i2z q)))
   (G2.sqAt _ _ _ hl2 λo q=>e3.extBut _ _ D.l2TO (e2.extBut _ _ D.l2i1 (e1.extBut _ _ D.l2z q))) hy λg4 e e4 he=>?_)
  obtain⟨oe,hoe,hce⟩:=he;have z4:IsZip g4 z TI TO .ellipsis:=e4 _ _ D.i2z.symm (e3.extBut _ _ D.TOz.symm (e2.extBut _ _ D.i1z.symm z1));have hez:e≠z:=λx=>by subst x; rw [z4] at hoe; cases hoe; simp at hce
  exact GL z4 (by simp) λg5 _ e5=>hE g5 e (λc o c1 c2 c3 c4 x=>e5.extBut _ _ c1 (e4 _ _ c4 (e3.extBut _ _ c2 (e2.extBut _ _ c3 (e1.extBut _ _ c1 x))))) ⟨oe,e5.extBut _ _ hez hoe,hce⟩
theorem lZ {Q:Hn Hl->Hk->Prop} (G1:gw prog w i1 l1 st1 sq1) (G2:gw prog w i2 l2 st2 sf) (D:ZipApart z TI TO i1 i2 l1 l2) (hz:IsZip s.heap z TI TO .none) (hTI:IsPair s.heap TI (.ref i1) (.ref i2)) (hTO:IsPair s.heap TO a b)
  (h1:st1 k1 s.heap) (h2:st2 k2 s.heap) (hl1:sq1 xs s.heap) (hl2:sf ys s.heap) (hx:xs[k1]?=some x) (hy:ys[k2]?=some y)
  (hQ:∀ h',IsZip h' z TI TO (rawInt s.heap.objs.size)->IsPair h' TO x y->st1 (k1+1) h'->st2 (k2+1) h'->IsPair h' s.heap.objs.size x y->h'.objs.size=s.heap.objs.size+1->
   (∀ c o,c≠z->c≠TO->c≠i1->c≠i2->s.heap.get? c=some o->h'.get? c=some o)->Q (some (.ref s.heap.objs.size)) {s with heap:=h'}):wpAny (model prog w) A (pyNext (.ref z)) Q E s:=by
 have hT:s.TypeIs (.ref z) "zip":=⟨_,hz,rfl⟩
 unfold pyNext;exact pp (wpAny_attempt (Hf (name:=Str.ofString "__next__") hT F.slot_zip_next
  (G7 F.slot_zip_next hT F.entry_zip_next (xQ G1 G2 D hz hTI hTO h1 h2 hl1 hl2 hx hy λh' a1 a2 a3 a4 a5 a6 a7=>Gj (hQ h' a1 a2 a3 a4 a5 a6 a7)) (F.args_zip_next_1 _))))
theorem nD {Q:Hn Hl->Hk->Prop} (G1:gw prog w i1 l1 st1 sq1) (G2:gw prog w i2 l2 st2 sf) (hh:A.handled=none) (D:ZipApart z TI TO i1 i2 l1 l2) (hz:IsZip s.heap z TI TO .none) (hTI:IsPair s.heap TI (.ref i1) (.ref i2)) (hTO:IsPair s.heap TO a b)
  (h1:st1 k1 s.heap) (h2:st2 k2 s.heap) (hl1:sq1 xs s.heap) (hl2:sf ys s.heap) (hend:xs[k1]?=none\/ys[k2]?=none)
  (hQ:∀ h',(∀ c o,c≠z->c≠TO->c≠i1->c≠i2->s.heap.get? c=some o->h'.get? c=some o)->Q none {s with heap:=h'}):wpAny (model prog w) A (pyNext (.ref z)) Q E s:=by
 have hT:s.TypeIs (.ref z) "zip":=⟨_,hz,rfl⟩
 unfold pyNext;refine pp (wpAny_attempt (Hf (name:=Str.ofString "__next__") hT F.slot_zip_next
  (G7 F.slot_zip_next hT F.entry_zip_next (y7 G1 G2 hh D hz hTI hTO h1 h2 hl1 hl2 hend λh' e hk he=>?_) (F.args_zip_next_1 _))))
 obtain⟨o,ho,hc⟩:=he;exact pp (wpAny_isInstance (T:="StopIteration") (b:=true) ⟨o,ho,hc⟩ isSubtype_stop (Gj (hQ _ hk)))
end
structure gz (l:Hm) (nm:Hy) (sq:Hw Hl->Hu->Prop):Prop where
 iter:∀ (P:Hq) (w:Ht) (A:Hr) (s:Hk) (xs:Hw Hl) (Q:Hl->Hk->Prop) (E:Hl->Hk->Prop),sq xs s.heap->
  Q (.ref s.heap.objs.size) {s with heap:=s.heap.push {cls:=.type nm,data:=.fields #[.ref l,.int 0 0]}}->wpAny (model P w) A (pyIter (.ref l)) Q E s
 sqAt:∀ xs h h',sq xs h->(∀ o,h.get? l=some o->h'.get? l=some o)->sq xs h'
theorem gz.list (l:Hm):gz l "list_iterator" (λxs h=>h.IsList l xs):=⟨λ_ _ _ _ _ _ _ a b=>wpAny_pyIter_list a b,λ_ _ _ x y=>x.at y⟩
theorem gz.tuple (l:Hm):gz l "tuple_iterator" (λxs h=>h.IsTuple l xs):=⟨λ_ _ _ _ _ _ _ a b=>wpAny_pyIter_tuple a b,λ_ _ _ x y=>x.at y⟩
section
variable {l1 l2:Hm} {n1 n2:Hy} {sq1 sf:Hw Hl->Hu->Prop}
abbrev zT (h:Hu) (n1:Hy) (l1:Hm):Hu:=h.push {cls:=.type n1,data:=.fields #[.ref l1,.int 0 0]}
abbrev El (h:Hu) (n1 n2:Hy) (l1 l2:Hm):Hu:=(zT h n1 l1).push {cls:=.type n2,data:=.fields #[.ref l2,.int 0 0]}
abbrev Ej (h:Hu) (n1 n2:Hy) (l1 l2:Hm):Hu:=(El h n1 n2 l1 l2).push {cls:=.type "tuple",data:=.seq #[.ref h.objs.size,.ref (zT h n1 l1).objs.size]}
abbrev Ek (h:Hu) (n1 n2:Hy) (l1 l2:Hm):Hu:=(Ej h n1 n2 l1 l2).push {cls:=.type "tuple",data:=.seq #[.none,.none]}
abbrev Cj (h:Hu) (n1 n2:Hy) (l1 l2:Hm):Hu:=(Ek h n1 n2 l1 l2).push {cls:=.type "zip",data:=.fields #[.none,.bool false,.bool false,.ref (El h n1 n2 l1 l2).objs.size,.ref (Ej h n1 n2 l1 l2).objs.size]}
theorem ur (B1:gz l1 n1 sq1) (B2:gz l2 n2 sf) (xs ys:Hw Hl):
  Meets (Builtin.«zip.__new__» ⟨[.type "zip",.ref l1,.ref l2],[]⟩) (λ_ R s=>sq1 xs s.heap/\sf ys s.heap/\
   R (.ok (.ret (.ref (Ek s.heap n1 n2 l1 l2).objs.size))) {s with heap:=Cj s.heap n1 n2 l1 l2}):=
 .of_wp λprog w A R s h=>by
  obtain⟨hp,g,d,tk,os⟩:=s;obtain⟨a,b,h⟩:=h;have hsub:=sub_zip;have b':sf ys (Shared.heap ⟨hp.push {cls:=.type n1,data:=.fields #[.ref l1,.int 0 0]},g,d,tk,os⟩):=B2.sqAt _ _ _ b λo q=>Gi _ q
  have a':sq1 xs (Shared.heap ⟨hp,g,d,tk,os⟩):=a
  wp_walk using B1.iter _ _ _ _ _ _ _ a',B2.iter _ _ _ _ _ _ _ b'
  exact⟨_,rfl,h⟩
variable {prog:Hq} {w:Ht} {A:Hr} {E:Hl->Hk->Prop} {s:Hk}
theorem xf (B1:gz l1 n1 sq1) (B2:gz l2 n2 sf) {xs ys:Hw Hl} {Q:Hl->Hk->Prop} (hl1:sq1 xs s.heap) (hl2:sf ys s.heap)
  (h:∀ h',IsZip h' (s.heap.objs.size+4) (s.heap.objs.size+2) (s.heap.objs.size+3) .none->IsPair h' (s.heap.objs.size+2) (.ref s.heap.objs.size) (.ref (s.heap.objs.size+1))->
   IsPair h' (s.heap.objs.size+3) .none .none->h'.get? s.heap.objs.size=some {cls:=.type n1,data:=.fields #[.ref l1,.int 0 0]}->h'.get? (s.heap.objs.size+1)=some {cls:=.type n2,data:=.fields #[.ref l2,.int 0 0]}->
   (∀ c o,s.heap.get? c=some o->h'.get? c=some o)->Q (.ref (s.heap.objs.size+4)) {s with heap:=h'}):
  wpAny (model prog w) A (call (.type "zip") [.ref l1,.ref l2]) Q E s:=by
 refine callType_new F.called_zip (by decide) (F.typeCall_zip_2 _ _) (F.newCall_zip_2 _ _) (λobj=>F.args_object_init_3 obj _ _) F.entry_zip_new (ur B1 B2 xs ys) ⟨hl1,hl2,?_⟩
 have z1:(zT s.heap n1 l1).objs.size=s.heap.objs.size+1:=Hc ..;have z2:(El s.heap n1 n2 l1 l2).objs.size=s.heap.objs.size+2:=by rw [Hc,z1]
 have z3:(Ej s.heap n1 n2 l1 l2).objs.size=s.heap.objs.size+3:=by rw [Hc,z2]
 have z4:(Ek s.heap n1 n2 l1 l2).objs.size=s.heap.objs.size+4:=by rw [Hc,z3]
 have g5:(Cj s.heap n1 n2 l1 l2).get? (Ek s.heap n1 n2 l1 l2).objs.size=some _:=Gk _ rfl;have g4:(Cj s.heap n1 n2 l1 l2).get? (Ej s.heap n1 n2 l1 l2).objs.size=some _:=Gi _ (Gk _ rfl);have g3:(Cj s.heap n1 n2 l1 l2).get? (El s.heap n1 n2 l1 l2).objs.size=some _:=Gi _ (Gi _ (Gk _ rfl));have g2:(Cj s.heap n1 n2 l1 l2).get? (zT s.heap n1 l1).objs.size=some _:=Gi _ (Gi _ (Gi _ (Gk _ rfl)));have g1:(Cj s.heap n1 n2 l1 l2).get? s.heap.objs.size=some _:=Gi _ (Gi _ (Gi _ (Gi _ (Gk _ rfl))))
 show _/\_
 rw [z2,z3,z4] at g5;rw [z1,z2] at g3;rw [z3] at g4;rw [z1] at g2;rw [z4];exact⟨⟨_,g5,rfl⟩,h _ g5 g3 g4 g1 g2 λc o x=>Gi _ (Gi _ (Gi _ (Gi _ (Gi _ x))))⟩
end
section
variable {X:Cx} {HA:List (Hm×Hz)} {σ:St} {H:Hp} {s:Hk} {h':Hu}
theorem av.turnedL {t':Nat} (ch:List Hm) (I:av X HA σ H s) (k:∀ b o,b∉ch->s.heap.get? b=some o->h'.get? b=some o) (hf:∀ b∈ch,mh X HA H b):av X HA σ H {s with heap:=h',toks:=t'}:=by
 have nit:∀ b u,H b=some u->b∉ch:=λb u e z=>by rw [(hf b z).1] at e; cases e
 refine I.step (g':=s.gens) (d':=s.drawn) (ch:=ch) (λb hb=>⟨(hf b hb).2.2.2.1,(hf b hb).2.1,(hf b hb).2.2.2.2.1,(hf b hb).2.2.2.2.2⟩) (λb o _ _ hc e _=>k b o hc e) (λb o _ _ hc e _=>⟨o.slots,k b o hc e⟩) (λ_ _ _ _ n=>n)
  (λb o hc e=>⟨o,k b o hc e⟩) (λ_ _ e=>e) (λ_ _ _ e=>e) (λb ps e=>⟨#[],by rw [e]; simp⟩) (λm hm=>?_) (λb u e=>?_) I.bare
 ·obtain⟨o,es,ep,ho,r⟩:=hm;exact⟨o,es,ep,k _ o (λz=>(hf _ z).2.1 rfl) ho,r⟩
 ·refine(I.hok b u e).stay (λc v hc q=>k c v ?_ q) (λ_ q=>q) λ_ _ q=>q
  rcases hc with z | z
  ·rw [z]; exact nit b u e
  ·exact nit c _ z
theorem av.turnedNew {t':Nat} {T:Hm} {xs:List V} (ch:List Hm) (I:av X HA σ H s) (k:∀ b o,b∉ch->s.heap.get? b=some o->h'.get? b=some o) (hf:∀ b∈ch,mh X HA H b) (hT:s.heap.objs.size<=T)
  (new:dg X.prog X.w (bt H T (.tup xs)) h' T (.tup xs)):av X HA σ (bt H T (.tup xs)) {s with heap:=h',toks:=t'}:=by
 have hn:H T=none:=I.hok.fresh hT;have nit:∀ b u,H b=some u->b∉ch:=λb u e z=>by rw [(hf b z).1] at e; cases e
 have neT:∀ b o,s.heap.get? b=some o->b≠T:=λb o e z=>by subst z; exact absurd (GA (Go e) hT) (Hb _)
 refine I.step (g':=s.gens) (d':=s.drawn) (ch:=ch) (λb hb=>⟨(hf b hb).2.2.2.1,(hf b hb).2.1,(hf b hb).2.2.2.2.1,(hf b hb).2.2.2.2.2⟩) (λb o _ _ hc e _=>k b o hc e) (λb o _ _ hc e _=>⟨o.slots,k b o hc e⟩) (λb o _ e n=>by rw [ax (neT b o e)]; exact n)
  (λb o hc e=>⟨o,k b o hc e⟩) (λb _ e=>by rw [ax (aZ e hn)]; exact e) (λb _ _ e=>by rw [ax (aZ e hn)]; exact e) (λb ps e=>⟨#[],by rw [ax (aZ e hn),e]; simp⟩) (λm hm=>?_) (λb u e=>?_) I.bare
 ·obtain⟨o,es,ep,ho,r⟩:=hm;exact⟨o,es,ep,k _ o (λz=>(hf _ z).2.1 rfl) ho,r⟩
 ·by_cases hb:b=T
  ·subst hb;rw [bA] at e;cases e;exact new
  ·rw [ax hb] at e;refine(I.hok b u e).stay (λc v hc q=>k c v ?_ q) (λc q=>by rw [ax (aZ q hn)]; exact q) λc _ q=>by rw [ax (aZ q hn)]; exact q
   rcases hc with z | z
   ·rw [z]; exact nit b u e
   ·exact nit c _ z
end
def oO (b:Hx) (K:PySem.W.Frag) (H:Hp) (a:Hm) (xs:List V):Prop:=match b with | true=>ir K H a xs | false=>jN K H a xs
def A8 (b:Hx) (it l:Hm) (k:Nat) (h:Hu):Prop:=match b with | true=>h.IsListIter it l k | false=>h.IsTupleIter it l k
def sqB (b:Hx) (l:Hm) (xs:Hw Hl) (h:Hu):Prop:=match b with | true=>h.IsList l xs | false=>h.IsTuple l xs
def Fy (b:Hx):Hy:=match b with | true=>"list_iterator" | false=>"tuple_iterator"
theorem bR {P:Hq} {w:Ht} (b:Hx) (it l:Hm):gw P w it l (A8 b it l) (sqB b l):=match b with | true=>gw.list it l | false=>gw.tuple it l
theorem ud (b:Hx) (l:Hm):gz l (Fy b) (sqB b l):=match b with | true=>gz.list l | false=>gz.tuple l
theorem uj {b:Hx} {it l:Hm} {h:Hu} (e:h.get? it=some {cls:=.type (Fy b),data:=.fields #[.ref l,.int 0 0]}):A8 b it l 0 h:=match b,e with | true,e=>⟨_,e,rfl,rfl⟩ | false,e=>⟨_,e,rfl,rfl⟩
section
variable {X:Cx} {HA:List (Hm×Hz)} {σ:St} {H:Hp} {s:Hk} {a:Hm} {xs ys:List V} {b:Hx}
theorem av.sqB (I:av X HA σ H s) (h:oO b X.K H a xs):∃ its:List Hl,bb xs its/\L2.sqB b a its.toArray s.heap:=by
 cases b with
 | true=>obtain⟨its,r,p,_⟩:=I.list h; exact⟨its,r,p.isList⟩
 | false=>obtain⟨its,r,p,_⟩:=I.tuple h; exact⟨its,r,p⟩
theorem av.sqB_inj (I:av X HA σ H s) (h:oO b X.K H a xs) (h':oO b X.K H a ys):xs=ys:=by
 cases b with
 | true=>exact I.list_inj h h'
 | false=>exact I.tuple_inj h h'
theorem sD {its:Hw Hl} {h:Hu} (e:L2.sqB b a its h):a < h.objs.size:=by
 cases b with
 | true=>obtain⟨o,e,_⟩:=e; exact Go e
 | false=>obtain⟨o,e,_⟩:=e; exact Go e
end
def DQ (K:PySem.W.Frag) (b1 b2:Hx) (a1 a2:Hm):It:=
 ⟨λi H => ∃ xs ys x y, oO b1 K H a1 xs ∧ oO b2 K H a2 ys ∧ xs[i]? = some x ∧ ys[i]? = some y,
  λi H v H'=>∃ T x y,v=.ref T/\H T=none/\H'=bt H T (.tup [x,y])/\∀ xs ys,oO b1 K H a1 xs->oO b2 K H a2 ys->xs[i]?=some x/\ys[i]?=some y,
  λi H=>∃ xs ys,oO b1 K H a1 xs/\oO b2 K H a2 ys/\(xs.length<=i\/ys.length<=i)⟩
def F6 (b1 b2:Hx) (z TI TO i1 i2 a1 a2:Hm) (i:Nat) (h:Hu):Prop:=
 IsZip h z TI TO .none/\IsPair h TI (.ref i1) (.ref i2)/\(∃ a b,IsPair h TO a b)/\A8 b1 i1 a1 i h/\A8 b2 i2 a2 i h
theorem w6 {P:Hq} {w:Ht} {K:PySem.W.Frag} {es:List Ho} {k:Nat} {pos:Pos} (b1 b2:Hx) {z TI TO i1 i2 a1 a2:Hm} (D:ZipApart z TI TO i1 i2 a1 a2):
  uN P w K (.Tuple es k pos) (DQ K b1 b2 a1 a2) [z,TI,TO,i1,i2] z (F6 b1 b2 z TI TO i1 i2 a1 a2) where
 mem:=by simp
 obj:=λi h st b hb=>by
  obtain⟨hz,hTI,⟨x,y,hTO⟩,h1,h2⟩:=st;have hb':b=z\/b=TI\/b=TO\/b=i1\/b=i2:=by simpa using hb
  rcases hb' with rfl | rfl | rfl | rfl | rfl
  ·exact⟨_,hz,λv q=>by cases q⟩
  ·exact⟨_,hTI,λv q=>by cases q⟩
  ·exact⟨_,hTO,λv q=>by cases q⟩
  ·exact(bR (P:=P) (w:=w) b1 b a1).obj _ _ h1
  ·exact(bR (P:=P) (w:=w) b2 b a2).obj _ _ h2
 keep:=λi h h' st q=>by
  obtain⟨hz,hTI,⟨x,y,hTO⟩,h1,h2⟩:=st;exact⟨q z (by simp) _ hz,q TI (by simp) _ hTI,⟨x,y,q TO (by simp) _ hTO⟩,(bR (P:=P) (w:=w) b1 i1 a1).at_ _ _ _ h1 λo e=>q i1 (by simp) o e,(bR (P:=P) (w:=w) b2 i2 a2).at_ _ _ _ h2 λo e=>q i2 (by simp) o e⟩
 item:=by
  intro X hP hw hK hc i HA s σ H E I hf st hg;subst hP hw hK;obtain⟨xs,ys,x,y,q1,q2,hx,hy⟩:=hg;obtain⟨its,rv,p⟩:=I.sqB q1;obtain⟨jts,rw',p'⟩:=I.sqB q2;obtain⟨u,hu,ru⟩:=rv.get hx;obtain⟨u',hu',ru'⟩:=rw'.get hy;obtain⟨hz,hTI,⟨c,d,hTO⟩,h1,h2⟩:=st;have hn:H s.heap.objs.size=none:=I.hok.fresh (Gq _);have old:∀ b∈[z,TI,TO,i1,i2],b≠s.heap.objs.size:=λb hb e=>by
   have:∃ o,s.heap.get? b=some o:=by
    have hb':b=z\/b=TI\/b=TO\/b=i1\/b=i2:=by simpa using hb
    rcases hb' with rfl | rfl | rfl | rfl | rfl
    ·exact⟨_,hz⟩
    ·exact⟨_,hTI⟩
    ·exact⟨_,hTO⟩
    ·obtain⟨o,e,_⟩:=(bR (P:=X.prog) (w:=X.w) b1 b a1).obj _ _ h1; exact⟨o,e⟩
    ·obtain⟨o,e,_⟩:=(bR (P:=X.prog) (w:=X.w) b2 b a2).obj _ _ h2; exact⟨o,e⟩
   obtain⟨o,eo⟩:=this;exact absurd (Go eo) (by rw [e]; exact Hb _)
  refine lZ (bR b1 i1 a1) (bR b2 i2 a2) D hz hTI hTO h1 h2 p p' (x:=u) (y:=u') (by simpa using hu) (by simpa using hu') λh' c1 c2 c3 c4 c5 c6 c7=>?_
  have I1:av X HA σ (bt H s.heap.objs.size (.tup [x,y])) {s with heap:=h'}:=I.turnedNew (t':=s.toks) [z,TO,i1,i2] (λb o hb e=>c7 b o (λq=>hb (by simp [q])) (λq=>hb (by simp [q])) (λq=>hb (by simp [q])) (λq=>hb (by simp [q])) e)
   (λb hb=>hf b (by rcases(by simpa using hb:b=z\/b=TO\/b=i1\/b=i2) with rfl | rfl | rfl | rfl <;> simp)) (Gq _) ⟨GE rfl,[u,u'],.cons ru (.cons ru' .nil),⟨_,c5,rfl,_,rfl⟩⟩
  refine⟨_,rfl,wpAny_letOwnedTupleGo_zip (s:={s with heap:=h'}) c1 λh2' g1 g2=>?_⟩
  refine⟨.ref s.heap.objs.size,bt H s.heap.objs.size (.tup [x,y]),?_,rfl,⟨_,x,y,rfl,hn,rfl,λxs' ys' e1 e2=>by rw [I.sqB_inj e1 q1,I.sqB_inj e2 q2]; exact⟨hx,hy⟩⟩,?_,λb hb=>?_⟩
  ·refine I1.turnedL (t':=s.toks) [z] (λb o hb e=>g2.extBut _ _ (λq=>hb (by simp [q])) e) λb hb=>?_
   have e:b=z:=by simpa using hb
   subst e;obtain⟨f0,f1,f2,f3,f4,f5⟩:=hf b (by simp)
   exact⟨by rw [ax (old b (by simp))]; exact f0,f1,f2,f3,f4,f5⟩
  ·exact⟨g1,g2.extBut _ _ D.TIz (c7 _ _ D.TIz D.TITO D.TIi1 D.TIi2 hTI),⟨_,_,g2.extBut _ _ D.TOz c2⟩,(bR (P:=X.prog) (w:=X.w) b1 i1 a1).at_ _ _ _ c3 λo e=>g2.extBut _ _ D.i1z e,(bR (P:=X.prog) (w:=X.w) b2 i2 a2).at_ _ _ _ c4 λo e=>g2.extBut _ _ D.i2z e⟩
  ·rw [ax (old b hb)];exact(hf b hb).1
 done:=by
  intro X hP hw hK hc i HA s σ H E I hf st hg;subst hP hw hK;obtain⟨xs,ys,q1,q2,hx⟩:=hg;obtain⟨its,rv,p⟩:=I.sqB q1;obtain⟨jts,rw',p'⟩:=I.sqB q2;obtain⟨hz,hTI,⟨c,d,hTO⟩,h1,h2⟩:=st;have l1:=rv.length;have l2:=rw'.length;refine nD (bR b1 i1 a1) (bR b2 i2 a2) (I.ok.hd hc) D hz hTI hTO h1 h2 p p' (hx.imp (λhx=>by simp; omega) (λhx=>by simp; omega)) λh' kk=>⟨rfl,I.turnedL (t':=s.toks) [z,TO,i1,i2] (λb o hb e=>kk b o (λq=>hb (by simp [q])) (λq=>hb (by simp [q])) (λq=>hb (by simp [q])) (λq=>hb (by simp [q])) e) λb hb=>hf b ?_⟩
  have hb':b=z\/b=TO\/b=i1\/b=i2:=by simpa using hb
  rcases hb' with rfl | rfl | rfl | rfl <;> simp
 self:=λ_ _ _ _ _ st h=>wpAny_pyIter_zip st.1 h
theorem BG (n l1 l2:Nat) (h1:l1 < n) (h2:l2 < n):ZipApart (n+4) (n+2) (n+3) n (n+1) l1 l2:=by
 constructor <;> (intro e; simp only [Addr] at e; omega)
def Fk (K:PySem.W.Frag) (ta:TA):TI:=fun σ H R=>ta σ H λvs H1=>∃ a1 a2 b1 b2,vs=[.ref a1,.ref a2]/\(∃ xs,oO b1 K H1 a1 xs)/\(∃ ys,oO b2 K H1 a2 ys)/\R (DQ K b1 b2 a1 a2) H1
theorem BP {X:Cx} {a b:Ho} {ta:TA} {p pos tp:Pos} {es:List Ho} {k:Nat} (hg:Gl X "zip") (hm:X.mg "zip"=none) (ha:PA X [a,b] ta) (hs:starEach [a,b] X.env=[(false,eval a X.env),(false,eval b X.env)]:=by rfl) (hs2:starEach [b] X.env=[(false,eval b X.env)]:=by rfl):
  PI X (.Tuple es k tp) (.Call (.Name "zip" p) [a,b] [] pos) (Fk X.K ta):=by
 intro HA s σ H R I h;refine Call_ (lC I hg hm boot_zip (PyProof.Rows.callWith_type1 (bB (ha pos HA s σ H _ I h) λus s1 ⟨vs,H1,I1,r1,q1⟩=>?_) (by rw [hs,hs2]) (by rw [hs2]; rfl)))
 obtain⟨a1,a2,b1,b2,e,⟨xs,e1⟩,⟨ys,e2⟩,q⟩:=q1;subst e;cases r1 with
 | cons r rr=>
  cases rr with
  | cons r' rr=>
   cases rr;cases r;cases r';obtain⟨its,rv,p1⟩:=I1.sqB e1;obtain⟨jts,rw',p2⟩:=I1.sqB e2;refine xf (ud b1 a1) (ud b2 a2) p1 p2 λh' c1 c2 c3 c4 c5 c6=>?_
   refine wpAny_pyIter_zip (s:={s1 with heap:=h'}) c1 ?_
   have fr:∀ j,H1 (s1.heap.objs.size+j)=none:=λj=>I1.hok.fresh (Nat.le_add_right _ _)
   refine⟨_,[s1.heap.objs.size+4,s1.heap.objs.size+2,s1.heap.objs.size+3,s1.heap.objs.size,s1.heap.objs.size+1],_,_,H1,rfl,I1.kept (t':=s1.toks) c6,w6 b1 b2 (BG _ _ _ (sD p1) (sD p2)),⟨c1,c2,⟨_,_,c3⟩,uj c4,uj c5⟩,λb hb=>?_,q⟩
   have hb':b=s1.heap.objs.size+4\/b=s1.heap.objs.size+2\/b=s1.heap.objs.size+3\/b=s1.heap.objs.size\/b=s1.heap.objs.size+1:=by simpa using hb
   rcases hb' with rfl | rfl | rfl | rfl | rfl
   ·exact I1.fpOk (Nat.le_add_right _ _) (fr 4)
   ·exact I1.fpOk (Nat.le_add_right _ _) (fr 2)
   ·exact I1.fpOk (Nat.le_add_right _ _) (fr 3)
   ·exact I1.fpOk (Gq _) (fr 0)
   ·exact I1.fpOk (Nat.le_add_right _ _) (fr 1)
end L2
namespace DL
open PySem PySem.Spec PyProof.Rows L2
theorem sJ {K:Fg} {S1:DH} {H1:Hp} {d:D} {v:V} {p:List D×Hn Hm} (hS1:Hs K H1 S1) (i1:bH K H1 d v) (hp:aY S1 d=some p):∃ a b,v=.ref a/\
  (∃ xs,oO b K H1 a xs)/\∀ S2 H2,Kp H1 H2->Hs K H2 S2->eC p S2->∃ xs,oO b K H2 a xs/\IsDs K H2 p.1 xs:=by
 cases d with
 | tup ds=>
  cases hp;obtain⟨a,xs,rfl,t,j⟩:=bC.mp i1;exact⟨a,false,rfl,⟨xs,t⟩,λS2 H2 k2 _ _=>⟨xs,k2.tup t,j.kp k2⟩⟩
 | rl ds=>
  cases hp;obtain⟨a,xs,rfl,t,j⟩:=ra.mp i1;exact⟨a,true,rfl,⟨xs,t.sq⟩,λS2 H2 k2 _ _=>⟨xs,(k2.fro t).sq,j.kp k2⟩⟩
 | ref a=>
  have e1:=b_.mp i1;subst e1;cases z:S1 a with
  | none=>simp only [aY,z] at hp; cases hp
  | some o=>
   cases o with
   | dic=>simp only [aY,z] at hp; cases hp
   | exc _=>simp only [aY,z] at hp; cases hp
   | fn _=>simp only [aY,z] at hp; cases hp
   | tbl _=>simp only [aY,z] at hp; cases hp
   | gen _=>simp only [aY,z] at hp; cases hp
   | lst ds=>
    simp only [aY,z] at hp;cases hp;obtain⟨xs,hl,j⟩:=hS1.lst z;refine⟨a,true,rfl,⟨xs,ir.of hl⟩,λS2 H2 k2 hS2 o2=>?_⟩
    obtain⟨ys,hl2,j2⟩:=hS2.lst o2;exact⟨ys,ir.of hl2,j2⟩
 | _=>cases hp
def wb (xs ys:List D):List D:=List.zipWith (λa b=>D.tup [a,b]) xs ys
theorem xw {X:Cx} {HA:List (Hm×Hz)} {σ:L2.St} {H:Hp} {s:Hk} {S:DH} {d:D} {x:V} {u:Hl} {t:Ty} (I:av X HA σ H s) (hS:Hs X.K H S) (i:bH X.K H d x) (r:bh x u) (h:C4 S d=some t):
  ∃ Hh:Hu->Prop,PySem.W.KitX X.K u (.type t.name) Hh/\Hh s.heap/\u≠.builtin "__main__.__loader__#opaque":=by
 cases d with
 | non=>cases h; rw [cq.mp i] at r; cases (show u=Value.none from r); exact⟨_,PySem.W.kitx_none,True.intro,λz=>nomatch z⟩
 | bl b=>cases h; rw [bO.mp i] at r; cases (show u=Value.bool b from r); exact⟨_,PySem.W.kitx_bool,True.intro,λz=>nomatch z⟩
 | int b=>cases h; rw [isInt.mp i] at r; obtain⟨tk,q⟩:=(show ∃ t,u=Value.int b t from r); cases q; exact⟨_,PySem.W.kitx_int,True.intro,λz=>nomatch z⟩
 | str b=>cases h; rw [gC.mp i] at r; obtain⟨tk,q⟩:=(show ∃ t,u=Value.str b t from r); cases q; exact⟨_,PySem.W.kitx_str,True.intro,λz=>nomatch z⟩
 | tup ds=>
  cases h;obtain⟨a,vs,rfl,q,_⟩:=bC.mp i;cases (show u=Value.ref a from r)
  obtain⟨its,_,⟨o,h1,h2,_⟩,_⟩:=I.tuple q;exact⟨_,PySem.W.kitx_tuple,⟨o,h1,h2⟩,λz=>nomatch z⟩
 | rl ds=>cases h
 | ty n=>cases h
 | ref a=>
  rw [b_.mp i] at r;cases (show u=Value.ref a from r)
  have h:Eg (S a)=some t:=h;cases z:S a with
  | none=>rw [z] at h; cases h
  | some o=>
   rw [z] at h;cases o with
   | lst ds=>
    cases h;obtain⟨vs,e,_⟩:=hS.lst z;obtain⟨its,_,⟨o,n,h1,h2,_⟩,_⟩:=I.list (ir.of e);exact⟨_,PySem.W.kitx_list,⟨o,h1,h2⟩,λz=>nomatch z⟩
   | dic=>
    cases h;obtain⟨vs,e⟩:=hS _ _ z;obtain⟨_,_,vs',_,p⟩:=(show dg X.prog X.w H s.heap a (.dK vs) from I.hok a _ e)
    obtain⟨o,es,ep,h1,h2,_⟩:=p;exact⟨_,PySem.W.kitx_dict,⟨o,h1,h2.1⟩,λz=>nomatch z⟩
   | exc _=>cases h
   | fn _=>cases h
   | tbl _=>cases h
   | gen _=>cases h
theorem oE {K:Fg} (t:Ty):∀ cs:List Ty,PySem.W.kitAny K (.type t.name) (cs.map λc=>.type c.name)=some (cs.any (sL t))
 | []=>rfl
 | c::r=>by
  have ih:=oE (K:=K) t r;rw [List.map_cons,PySem.W.kitAny,wm];cases z:sL t c with
  | true=>simp [z]
  | false=>simp only [List.any_cons,z,Bool.false_or]; exact ih
theorem qN {K:Fg} {H:Hp}:∀ {cs:List Ty} {xs:List V},IsDs K H (cs.map D.ty) xs->xs=cs.map λc=>V.ty c.name
 | [],_,h=>iT.mp h
 | b::bs,_,h=>by
  obtain⟨v,r,rfl,h1,h2⟩:=cz.mp h;rw [zi.mp h1,qN h2]
  rfl
theorem qX:∀ {cs:List Ty} {us:List Hl},bb (cs.map λc=>V.ty c.name) us->us=cs.map λc=>Value.type c.name
 | [],_,.nil=>rfl
 | b::bs,_,.cons r t=>by
  cases r;rw [qX t]
  rfl
def zX:ca:=λds S k=>match ds with
 | [d,.ty c]=>∃ t,C4 S d=some t/\k (.bl (sL t c)) S
 | [d,.tup cs]=>∃ (t:Ty) (ts:List Ty),C4 S d=some t/\cs=ts.map D.ty/\k (.bl (ts.any (sL t))) S
 | _=>False
theorem xr {X:Cx}:dW X (.builtin "isinstance") (sZ X.K zX):=by
 intro HA s σ H xs us Q I rs h;obtain⟨ds,S,k,i,hS,r,n⟩:=h;unfold zX at r
 split at r
 ·rename_i d c
  obtain⟨t,ht,r⟩:=r;obtain⟨x,y,rfl,i1,i2⟩:=pb i;have e2:=zi.mp i2;subst e2;obtain⟨u,w',rfl,r1,r2⟩:=tT rs;cases (show w'=Value.type c.name from r2)
  obtain⟨Hh,kx,p,nb⟩:=xw I hS i1 r1 ht;exact PySem.W.kia_one kx I.kIn p (wm t c) nb λtk=>⟨.bl (sL t c),H,I.tok tk,rfl,n _ _ _ _ r (Kp.refl H) hS (bO.mpr rfl)⟩
 ·rename_i d cs
  obtain⟨t,ts,ht,rfl,r⟩:=r;obtain⟨x,y,rfl,i1,i2⟩:=pb i;obtain⟨a,vs,rfl,q,j⟩:=bC.mp i2;have ev:=qN j;subst ev;obtain⟨u,w',rfl,r1,r2⟩:=tT rs;cases (show w'=Value.ref a from r2)
  obtain⟨Hh,kx,p,nb⟩:=xw I hS i1 r1 ht;obtain⟨its,rv,⟨o,h1,h2,m,h3⟩,_⟩:=I.tuple q;have ei:=qX rv;subst ei;obtain⟨oc,od,odt,os⟩:=o;cases h2;cases h3;exact PySem.W.kia_tup kx I.kIn p h1 (oE t ts) nb λtk=>⟨.bl (ts.any (sL t)),H,I.tok tk,rfl,n _ _ _ _ r (Kp.refl H) hS (bO.mpr rfl)⟩
 ·exact r.elim
section
variable {X:Cx} {o e a b c:Ho} {go ge ga gb gc:DE} {apos cpos pos:Pos}
def EZ (go ge:DE):DE:=λL S k=>go L S λd S1=>match d with
 | .ref a=>(∃ ds,S1 a=some (.lst ds))/\ge L S1 λe S2=>∃ ds,S2 a=some (.lst ds)/\ds.length < sizeLine/\k .non (put S2 a (.lst (ds++[e])))
 | _=>False
theorem fA (ho:EJ X o go) (he:EJ X e ge) (hbase:attributeBase o "append" X.env (eval o X.env)=eval o X.env:=by rfl)
  (hfew:((backTo cpos (starEach [e] X.env)).all (λx=>!x.1) && (backToKw cpos (keywordEach [] X.env)).all (λx=>x.1.isSome) && decide ([e].length+([]:List Keyword).length+(if ([]:List Keyword).isEmpty then 0 else 1) < 30))=true:=by rfl)
  (hline:(apos.endLine == cpos.line)=true:=by rfl) (hs:starEach [e] X.env=(false,eval e X.env)::starEach [] X.env:=by rfl) (hpl:(backTo cpos (starEach [] X.env)).any (·.1)=false:=by rfl):
  EJ X (.Call (.Attribute o "append" apos) [e] [] cpos) (EZ go ge):=
 ⟨PE.imp (zY PySem.F.plainAttrs_list PySem.F.slot_list_append PySem.F.type_list_append hU ho.h (qf he.h sh hs) hbase hfew hline hs hpl) fun σ H Q ⟨L,S,k,hL,hS,h,n⟩=>up.go hL hS h λd S1 v H1 h1 k1 hL1 hS1 i1=>by
  cases d with
  | ref a=>
   have e1:=b_.mp i1;subst e1;obtain⟨⟨ds1,z1⟩,h1⟩:=h1;obtain⟨xs1,hl1,_⟩:=hS1.lst z1;refine⟨.inl ⟨rfl,xs1,ir.of hl1⟩,up.go hL1 hS1 h1 λd2 S2 v2 H2 h2 k2 hL2 hS2 i2=>?_⟩
   obtain⟨ds,z,hz,w⟩:=h2;obtain⟨xs,hl,j⟩:=hS2.lst z;have k3:Kp H2 (bt H2 a (.lst (xs++[v2]))):=Kp.mut hl (λz=>z)
   exact⟨a,xs,v2,rfl,rfl,hl,by rw [<- j.length]; exact hz,n _ _ _ _ w (k1.trans (k2.trans k3)) (hS2.setL hl (j.append (IsDs.cons i2 IsDs.nil))) (cq.mpr rfl)⟩
  | _=>exact(show False from h1).elim⟩
def Fe (go ge:DE):DE:=λL S k=>go L S λd S1=>match d with
 | .ref a=>(∃ ds,S1 a=some (.lst ds))/\ge L S1 λe S2=>match e with
  | .ref b=>∃ ds es,S2 a=some (.lst ds)/\S2 b=some (.lst es)/\ds.length+es.length<=sizeLine/\k .non (put S2 a (.lst (ds++es)))
  | _=>False
 | _=>False
theorem xS (ho:EJ X o go) (he:EJ X e ge) (hbase:attributeBase o "extend" X.env (eval o X.env)=eval o X.env:=by rfl)
  (hfew:((backTo cpos (starEach [e] X.env)).all (λx=>!x.1) && (backToKw cpos (keywordEach [] X.env)).all (λx=>x.1.isSome) && decide ([e].length+([]:List Keyword).length+(if ([]:List Keyword).isEmpty then 0 else 1) < 30))=true:=by rfl)
  (hline:(apos.endLine == cpos.line)=true:=by rfl) (hs:starEach [e] X.env=(false,eval e X.env)::starEach [] X.env:=by rfl) (hpl:(backTo cpos (starEach [] X.env)).any (·.1)=false:=by rfl):
  EJ X (.Call (.Attribute o "extend" apos) [e] [] cpos) (Fe go ge):=
 ⟨PE.imp (zY PySem.F.plainAttrs_list PySem.F.slot_list_extend PySem.F.type_list_extend uK ho.h (qf he.h sh hs) hbase hfew hline hs hpl) fun σ H Q ⟨L,S,k,hL,hS,h,n⟩=>up.go hL hS h λd S1 v H1 h1 k1 hL1 hS1 i1=>by
  cases d with
  | ref a=>
   have e1:=b_.mp i1;subst e1;obtain⟨⟨ds1,z1⟩,h1⟩:=h1;obtain⟨xs1,hl1,_⟩:=hS1.lst z1;refine⟨.inl ⟨rfl,xs1,ir.of hl1⟩,up.go hL1 hS1 h1 λd2 S2 v2 H2 h2 k2 hL2 hS2 i2=>?_⟩
   cases d2 with
   | ref b=>
    have e2:=b_.mp i2;subst e2;obtain⟨ds,es,z,y,hz,w⟩:=h2;obtain⟨xs,hl,j⟩:=hS2.lst z;obtain⟨ys,hm,i⟩:=hS2.lst y;have k3:Kp H2 (bt H2 a (.lst (xs++ys))):=Kp.mut hl (λz=>z)
    exact⟨a,b,xs,ys,rfl,rfl,hl,hm,by rw [<- j.length,<- i.length]; exact hz,n _ _ _ _ w (k1.trans (k2.trans k3)) (hS2.setL hl (j.append i)) (cq.mpr rfl)⟩
   | _=>exact(show False from h2).elim
  | _=>exact(show False from h1).elim⟩
end
theorem oQ {K:Fg} {ok:DH->Prop} {gg:DG} {b:DS} {M:lT} {ds:List D} {L:Lo} {S:DH} {N:me} {σ:L2.St} {H:Hp} {J:It} (hL:Lc K H L σ) (hS:Hs K H S) (h:gH ok gg b M ds L S) (r:qy K H M N)
  (hgo:∀ i d S1 H1,ds[i]?=some d->Kp H H1->Hs K H1 S1->ok S1->J.go i H1/\∀ x H',J.yld i H1 x H'->Kp H1 H'/\Hs K H' S1/\bH K H' d x)
  (hst:∀ S1 H1,Kp H H1->Hs K H1 S1->ok S1->J.stop ds.length H1):
  ∃ W:Nat->Nat->L2.St->Hp->Prop,(∃ m,W 0 m σ H)/\∀ i m σ H,W i m σ H->
   (J.stop i H/\N.nx σ H)\/(J.go i H/\∃ N':L2.St->Hp->Prop,(∀ σ' H',N' σ' H'->∃ m',m' < m/\W (i+1) m' σ' H')/\∀ x H',J.yld i H x H'->CZ K gg x σ H' fun σ2 H2=>ya K b {N with nx:=N',ct:=N',bk:=N.nx} σ2 H2):=by
 refine⟨λi m σ1 H1=>m=ds.length - i/\i<=ds.length/\∃ L1 S1,Lc K H1 L1 σ1/\Hs K H1 S1/\Kp H H1/\gH ok gg b M (ds.drop i) L1 S1,⟨ds.length,by simp,Ha _,L,S,hL,hS,Kp.refl H,h⟩,?_⟩
 rintro i m σ1 H1 ⟨rfl,hi,L1,S1,hL1,hS1,k1,w1⟩
 by_cases hlt:i < ds.length
 ·have e:ds.drop i=ds[i]::ds.drop (i+1):=G9 hlt;rw [e] at w1;obtain⟨o1,w1⟩:=w1;obtain⟨g1,y1⟩:=hgo i ds[i] S1 H1 (by simp [hlt]) k1 hS1 o1
  refine .inr ⟨g1,fun σ' H'=>i+1<=ds.length/\∃ L' S',Lc K H' L' σ'/\Hs K H' S'/\Kp H H'/\gH ok gg b M (ds.drop (i+1)) L' S',fun σ' H' z9=>by obtain⟨q1,q2⟩:=z9; exact⟨ds.length - (i+1),by omega,rfl,q1,q2⟩,λx H' y=>?_⟩
  obtain⟨k0,hS0,ix⟩:=y1 x H' y;have k10:=k1.trans k0;refine⟨ds[i],L1,S1,_,ix,hL1.kp k0,hS0,w1,λL2 S2 σ2 H2 q k2 hL2 hS2=>⟨L2,S2,_,hL2,hS2,q,?_⟩⟩
  have r2:=r.kp (k10.trans k2);exact⟨λL3 S3 σ3 H3 q3 k3 hL3 hS3=>⟨hlt,L3,S3,hL3,hS3,(k10.trans k2).trans k3,q3⟩,r2.rt,r2.nx,λL3 S3 σ3 H3 q3 k3 hL3 hS3=>⟨hlt,L3,S3,hL3,hS3,(k10.trans k2).trans k3,q3⟩⟩
 ·have e:i=ds.length:=by omega
  subst e;rw [List.drop_length] at w1;obtain⟨o1,w1⟩:=w1;exact .inl ⟨hst S1 H1 k1 hS1 o1,r.nx L1 S1 σ1 H1 w1 k1 hL1 hS1⟩
theorem AT {K:Fg} {H1:Hp} {q1 q2:List D×Hn Hm} {a1 a2:Hm} {b1 b2:Hx} (y1:∀ S2 H2,Kp H1 H2->Hs K H2 S2->eC q1 S2->∃ xs,oO b1 K H2 a1 xs/\IsDs K H2 q1.1 xs) (y2:∀ S2 H2,Kp H1 H2->Hs K H2 S2->eC q2 S2->∃ xs,oO b2 K H2 a2 xs/\IsDs K H2 q2.1 xs):
  (∀ i d S2 H2,(wb q1.1 q2.1)[i]?=some d->Kp H1 H2->Hs K H2 S2->(eC q1 S2/\eC q2 S2)->(DQ K b1 b2 a1 a2).go i H2/\∀ x H',(DQ K b1 b2 a1 a2).yld i H2 x H'->Kp H2 H'/\Hs K H' S2/\bH K H' d x)/\
  ∀ S2 H2,Kp H1 H2->Hs K H2 S2->(eC q1 S2/\eC q2 S2)->(DQ K b1 b2 a1 a2).stop (wb q1.1 q2.1).length H2:=by
 refine⟨λi c S2 H2 e k2 hS2 o2=>?_,λS2 H2 k2 hS2 o2=>?_⟩
 ·obtain⟨xs,w1,u1⟩:=y1 S2 H2 k2 hS2 o2.1;obtain⟨ys,w2,u2⟩:=y2 S2 H2 k2 hS2 o2.2;obtain⟨c1,c2,f1,f2,rfl⟩:∃ c1 c2,q1.1[i]?=some c1/\q2.1[i]?=some c2/\D.tup [c1,c2]=c:=by
   unfold wb at e;rw [List.getElem?_zipWith] at e;cases z1:q1.1[i]? with
   | none=>rw [z1] at e; cases e
   | some c1=>
    cases z2:q2.1[i]? with
    | none=>rw [z1,z2] at e; cases e
    | some c2=>rw [z1,z2] at e; exact⟨c1,c2,rfl,rfl,GS e⟩
  obtain⟨v1,g1,r1⟩:=u1.get f1;obtain⟨v2,g2,r2⟩:=u2.get f2;refine⟨⟨xs,ys,v1,v2,w1,w2,g1,g2⟩,?_⟩;rintro x H' ⟨T,x',y',rfl,hT,rfl,al⟩;obtain⟨l1,l2⟩:=al xs ys w1 w2;rw [g1] at l1;rw [g2] at l2;cases l1;cases l2;have kn:Kp H2 (bt H2 T (.tup [v1,v2])):=Kp.new hT;exact⟨kn,hS2.new hT,bC.mpr ⟨T,[v1,v2],rfl,jN.of bA,IsDs.cons (r1.kp kn) (IsDs.cons (r2.kp kn) IsDs.nil)⟩⟩
 ·obtain⟨xs,w1,u1⟩:=y1 S2 H2 k2 hS2 o2.1;obtain⟨ys,w2,u2⟩:=y2 S2 H2 k2 hS2 o2.2;refine⟨xs,ys,w1,w2,?_⟩;rw [<- u1.length,<- u2.length];unfold wb;rw [List.length_zipWith];omega
def Dj (ta:DA) (g:DG) (b:DS):DS:=λM L S=>ta L S λds S1=>match ds with
 | [d1,d2]=>∃ q1 q2,aY S1 d1=some q1/\aY S1 d2=some q2/\gH (λS=>eC q1 S/\eC q2 S) g b M (wb q1.1 q2.1) L S1
 | _=>False
section
variable {X:Cx} {a b:Ho} {es:List Ho} {kt:Nat} {tp p pos pos':Pos} {gg:DG} {ta:DA} {g:DS} {body:List Hv} {tg:Ho}
theorem uq (hp:PassesOwn (model X.prog X.w) X.A X.env X.xe) (hc:X.calm=true) (hgl:Gl X "zip") (hm:X.mg "zip"=none) (ha:AJ X [a,b] ta) (hg:GJ X (.Tuple es kt tp) gg) (hb:tz X body g)
  (hs1:starEach [a,b] X.env=[(false,eval a X.env),(false,eval b X.env)]:=by rfl) (hs2:starEach [b] X.env=[(false,eval b X.env)]:=by rfl) (hs:∀ x,foldedSetIterable (.Call (.Name "zip" p) [a,b] [] pos') X.env x=pure x:=by intro _; rfl):
  SJ X (.For (.Tuple es kt tp) (.Call (.Name "zip" p) [a,b] [] pos') body [] pos) (Dj ta gg g):=
 ⟨PS.imp (pf hp hc (BP hgl hm ha.h hs1 hs2) hg.h hb.h hs) λN σ H ⟨L,S,M,hL,hS,h,r⟩=>qB.go hL hS h λds S1 vs H1 h1 k1 hL1 hS1 i1=>by
  split at h1
  ·rename_i d1 d2
   obtain⟨v1,v2,rfl,j1,j2⟩:=pb i1;obtain⟨q1,q2,e1,e2,h1⟩:=h1;obtain⟨a1,b1,rfl,x1,y1⟩:=sJ hS1 j1 e1;obtain⟨a2,b2,rfl,x2,y2⟩:=sJ hS1 j2 e2;obtain⟨z1,z2⟩:=AT y1 y2;exact⟨a1,a2,b1,b2,rfl,x1,x2,oQ hL1 hS1 h1 (r.kp k1) z1 z2⟩
  ·exact h1.elim⟩
end
section
variable {X:Cx} {pos:Pos}
def CA (g:DE) (tl th:yf):DE:=λL S k=>g L S λx S1=>tl L S1 λlo S2=>th L S2 λhi S3=>match x with
 | .tup xs=>¬ (HT.cS xs.length 0 lo=0/\HT.cS xs.length xs.length hi=xs.length)/\k (.tup (eU xs lo hi)) S3
 | .rl xs=>∀ p,S3 p=none->k (.ref p) (put S3 p (.lst (eU xs lo hi)))
 | .ref a=>∃ xs,S3 a=some (.lst xs)/\∀ p,S3 p=none->k (.ref p) (put S3 p (.lst (eU xs lo hi)))
 | _=>False
theorem t_ {e:Ho} {g:DE} {lo hi:Hn Ho} {tl th:yf} {p2 pos:Pos} (he:EJ X e g) (hl:OJ X lo tl) (hu:OJ X hi th):EJ X (.Subscript e (.Slice lo hi none p2) pos) (CA g tl th):=
 ⟨PE.imp (mZ (yc.or xN tD) he.h hl.h hu.h) fun σ H Q ⟨L,S,k,hL,hS,h,n⟩=>up.go hL hS h λd S1 v H1 h1 k1 hL1 hS1 i1=>by
  refine⟨L,S1,_,hL1,hS1,h1,λlo' S2 H2 h2 k2 hS2=>⟨L,S2,_,hL1.kp k2,hS2,h2,λhi' S3 H3 h3 k3 hS3=>?_⟩⟩
  cases d with
  | tup xs=>
   obtain⟨a,vs,rfl,t,j⟩:=bC.mp i1;have j3:=j.kp (k2.trans k3);refine .inl ⟨a,vs,rfl,(k2.trans k3).tup t,by rw [<- j.length]; exact h3.1,λp hp=>?_⟩
   have k4:Kp H3 (bt H3 p (.tup (ly vs lo' hi'))):=Kp.new hp;refine n _ S3 _ _ h3.2 (k1.trans (k2.trans (k3.trans k4))) (hS3.new hp) (bC.mpr ⟨p,_,rfl,jN.of bA,?_⟩);unfold eU ly;rw [j.length];exact((j3.drop _).take _).kp k4
  | rl xs=>
   obtain⟨a,vs,rfl,t,j⟩:=ra.mp i1;have j3:=j.kp (k2.trans k3);refine .inr ⟨a,vs,rfl,((k2.trans k3).fro t).sq,λp hp=>?_⟩
   refine n _ _ _ _ (h3 p (hS3.free hp)) (k1.trans (k2.trans (k3.trans (Kp.new hp)))) (hS3.newL hp ?_) (b_.mpr rfl);unfold eU ly;rw [j.length];exact(j3.drop _).take _
  | ref a=>
   have e1:=b_.mp i1;subst e1;obtain⟨xs,z,h3⟩:=h3;obtain⟨vs,hl,j⟩:=hS3.lst z;refine .inr ⟨a,vs,rfl,ir.of hl,λp hp=>?_⟩
   refine n _ _ _ _ (h3 p (hS3.free hp)) (k1.trans (k2.trans (k3.trans (Kp.new hp)))) (hS3.newL hp ?_) (b_.mpr rfl);unfold eU ly;rw [j.length];exact(j.drop _).take _
  | _=>exact(show False from h3).elim⟩
theorem ke {elt tg iter c:Ho} {scope:Scope} {cl:List (Str×Hm)} {N:List Str} {cap:List (Hn Nat)} {gg:DG} {ge gi:DE} {gc:DT} (hc:X.calm=true) (Sc:fC X scope cl N cap) (hi:EJ X iter gi) (hg:∀ s0 H0 ex C,GJ (gl X scope cl N s0 H0 ex C) tg gg) (hcnd:∀ s0 H0 ex C,TJ (gl X scope cl N s0 H0 ex C) c gc) (he:∀ s0 H0 ex C,EJ (gl X scope cl N s0 H0 ex C) elt ge)
  (hs:∀ x,foldedSetIterable iter X.env x=pure x:=by intro _; rfl):EJ X (.ListComp elt [⟨tg,iter,[c],0⟩] scope pos) (xo cap gi gg (vY gc ge)):=
 ⟨PE.imp (uJ hc Sc (rS hi.h) (λs0 H0 ex C=>(hg s0 H0 ex C).h) (λs0 H0 ex C=>(hcnd s0 H0 ex C).h) (λs0 H0 ex C=>(he s0 H0 ex C).h) hs) fun σ H Q ⟨L,S,k,hL,hS,h,n⟩=>up.go hL hS h λd S1 v H1 h1 k1 hL1 hS1 i1=>by
  obtain⟨p,hp,h1⟩:=h1;obtain⟨a,e,q⟩:=rO hS1 i1 hp;refine⟨a,e,?_⟩;have n':∀ d S' v H',k d S'->Kp H1 H'->Hs X.K H' S'->bH X.K H' d v->Q v H':=λd S' v H' q k3=>n d S' v H' q (k1.trans k3)
  rcases q with ⟨q1,q2,q3⟩ | ⟨q1,q2,q3⟩
  ·exact .inl ⟨q1,λD hD=>jt (hL1.cap cap) hS1 hD (h1 D (hS1.free hD)) n' q2 q3⟩
  ·exact .inr ⟨q1,λD hD=>jt (hL1.cap cap) hS1 hD (h1 D (hS1.free hD)) n' q2 q3⟩⟩
theorem fe {ok:DH->Prop} {g:DG} {b:DS} {M:lT} (Iv:List D->Lo->DH->Prop) (hok:∀ r L S,Iv r L S->ok S)
  (hs:∀ d r L S N,Iv (d::r) L S->(∀ L' S',Iv r L' S'->N L' S')->g d L S λL1 S1=>b {M with nx:=N,ct:=N,bk:=M.nx} L1 S1) (hd:∀ L S,Iv [] L S->M.nx L S):∀ r L S,Iv r L S->gH ok g b M r L S
 | [],L,S,i=>⟨hok [] L S i,hd L S i⟩
 | d::r,L,S,i=>⟨hok _ L S i,hs d r L S _ i λL' S' i'=>fe Iv hok hs hd r L' S' i'⟩
end
end DL
namespace L2
open PySem PySem.Spec PyProof.Rows
section
variable {X:Cx} {elt tg iter c:Ho} {scope:Scope} {cl:List (Str×Hm)} {N:List Str} {cap:List (Hn Nat)} {pos:Pos} {wi:TI} {g:TG} {te:TE} {tc:TT}
theorem mJ (Sc:fC X scope cl N cap) {HA:List (Hm×Hz)} {σ σ3:St} {H2 H3:Hp} {s2 s4:Hk} {fp:List Hm} {h1':Hu} {C:Hm} (I2:av X HA σ H2 s2) (f2:∀ b∈fp,mh X HA H2 b) {H1:Hp}
  (un3:Un (fo X.stack) fp H2 H1 s2.heap h1') (I4:av (gl X scope cl N {s2 with heap:=h1'} H1 fp C) [] σ3 H3 s4) (hC:s2.heap.objs.size<=C) {x:Str} {pos':Pos} {i:Nat} {D:me} {a:Hm} (pg:PG X (.Name x pos') (lQ i)) (qn:D.nx (σ.set i (some (.ref a))) H3):
  wpAny (model X.prog X.w) X.A (assign (.Name x pos') X.env (.ref a)) (λ_ s''=>∃ m,s''.heap.Ns C m/\∀ h',Heap.SameBut C s''.heap h'->∃ σ' H',av X HA σ' H' {s'' with heap:=h'}/\D.nx σ' H') X.xe s4:=by
 have J:av X HA σ H3 s4:=na Sc I2 f2 un3 I4 (h':=s4.heap) hC ⟨rfl,λ_ _=>rfl⟩
 obtain⟨m,⟨o,es,ep,ho,hd,hr⟩,_⟩:=I4.loc;have ltC:∀ b u,s2.heap.get? b=some u->b≠C:=λb u e=>Gx (GA (Go e) hC)
 have hL:C≠X.env.locals:=λz=>by
  have:=I2.lt;rw [<- z] at this;exact absurd (GA this hC) (Hb _)
 have hn:H3 C=none:=I4.free;have J':av X ((C,o)::HA) σ H3 s4:=⟨J.ok,J.os,J.bare,J.base,J.loc,J.cell,J.free,J.freeC,λp hp=>by
  rcases List.mem_append.mp hp with hp | hp
  ·exact J.pin p (List.mem_append_left _ hp)
  ·rcases Gw.mp hp with rfl | hp
   ·exact⟨ho,hn,hL,I2.nofs hC,λv z=>by rw [hd] at z; cases z⟩
   ·exact J.pin p (GB _ hp),J.hok,J.len⟩
 refine bB (pg _ s4 σ H3 (.ref a) (.ref a) (fun σ' H'=>σ'=σ.set i (some (.ref a))/\H'=H3) J' rfl ⟨rfl,rfl⟩) λ_ s5 h5=>?_
 obtain⟨_,_,I5,rfl,rfl⟩:=h5;have h6:=I5.pin (C,o) (GB _ Gy);refine⟨m,⟨o,es,ep,h6.1,hd,hr⟩,λh' sb=>⟨_,_,?_,qn⟩⟩
 have I6:av X HA (σ.set i (some (.ref a))) _ s5:=⟨I5.ok,I5.os,I5.bare,I5.base,I5.loc,I5.cell,I5.free,I5.freeC,λp hp=>I5.pin p (by
  rcases List.mem_append.mp hp with hp | hp
  ·exact List.mem_append_left _ hp
  ·exact GB _ (Gz _ hp)),I5.hok,I5.len⟩
 exact I6.turned (t':=s5.toks) (it:=C) (λb u hb e=>(sb.2 b hb).trans e) hn hL (.inr (GZ I2.sz hC)) (λy c e=>by
  obtain⟨v,u,q,_⟩:=I2.cell y c e;exact ltC c u q) (λp hp=>ltC p.1 p.2 (I2.pin p hp).1)
theorem wO {x:Str} {i:Nat} {pos' spos:Pos} (hN:X.N.Nodup) (hi':X.N[i]?=some x) (hx':X.env.scope.names.lookup x=some .local) (hsw:swapsWith (.ListComp elt [⟨tg,iter,[],0⟩] scope pos) (some (.Name x pos')) spos.line X.env=pure true) (hc:X.calm=true) (Sc:fC X scope cl N cap) (hi:PI X tg iter wi) (hg:∀ s0 H0 ex C,PG (gl X scope cl N s0 H0 ex C) tg g) (he:∀ s0 H0 ex C,PE (gl X scope cl N s0 H0 ex C) elt te)
  (hs:∀ x,foldedSetIterable iter X.env x=pure x:=by intro _; rfl):PS X (.Assign [.Name x pos'] (.ListComp elt [⟨tg,iter,[],0⟩] scope pos) spos) (vC (zJ cap wi g te) (lQ i)):=by
 intro HA s σ H D I h;have pg:PG X (.Name x pos') (lQ i):=po hN hi' (.inl hx') (.inr hx');rw [exec_Assign_Name_used _ _ _ _ hsw];refine pp (wpAny_standAt (pp ?_))
 show wpAny _ _ (evalThenUse _ X.env _) _ _ _
 unfold evalThenUse;have Q:=λv H1=>D.nx (σ.set i (some v)) H1
 refine pp (GX (Q:=λ_ s'=>∃ σ' H',av X HA σ' H' s'/\D.nx σ' H') ?_ (λv s' q=>Gj (Gj q)) λ_ _ q=>q)
 have hcell:∀ y∈scope.names,y.2≠.cell:=λy hy=>by simpa using Hd.mp Sc.nocell y hy
 have hnames:∀ y∈scope.names,y.2=.local->scope.names.lookup y.1=some .local:=λy hy e=>by
  have:=Hd.mp Sc.names y hy;rw [e] at this
  simpa using this
 refine wpAny_comprehension_free (use:=some (assign (.Name x pos') X.env)) rfl hs Sc.clos Sc.kind hnames (bB (hi HA s σ H _ I h) λv s1 h1=>bB h1 λitv s2 h2=>?_)
 obtain⟨it,fp,tn,J,H2,e,I2,T,st2,f2,hW⟩:=h2;subst e;refine GO (wpAny_newFunctionEnv hcell (by intro y hy; simp at hy) (λh1 hns hsb=>?_) Sc.kind)
 obtain⟨W,⟨m0,w0⟩,turn⟩:=hW s2.heap.objs.size I2.fresh;dsimp only at hns hsb ⊢
 generalize hD:s2.heap.push {cls:=.type "list",dict:=none,data:=.seq ([]:List Hl).toArray}=h1' at hns hsb ⊢
 obtain⟨I3,un3⟩:=kz (tk:=s2.toks+([]:List (Str×Hl)).length) Sc I2 f2 (λb hb=>let ⟨o,e,_⟩:=T.obj 0 _ st2 b hb; ⟨o,e⟩) hD hns hsb
 have hC:s2.heap.objs.size<=h1'.objs.size:=by rw [<- hD,Hc]; exact Nat.le_succ _
 have k1:∀ b o,s2.heap.get? b=some o->h1.get? b=some o:=λb o e=>by
  have e1:h1'.get? b=some o:=by rw [<- hD]; exact Gi _ e
  exact(hsb.2 b (Gx (Go e1))).trans (Gi _ e1)
 have st3:tn 0 h1:=T.keep 0 _ _ st2 λb _ o e=>k1 b o e
 have fr3:∀ b∈fp,(bt H2 s2.heap.objs.size (.lst [])) b=none:=λb hb=>by
  obtain⟨o,e,_⟩:=T.obj 0 _ st2 b hb;rw [ax (Gx (Go e))];exact(f2 b hb).1
 have loop:∀ s3:Hk,s3={s2 with heap:=h1,toks:=s2.toks+([]:List (Str×Hl)).length}->
   codeAny (model X.prog X.w) X.A (.compLoop (.ListComp elt [⟨tg,iter,[],0⟩] scope pos) 0 (.ref it) (.ref s2.heap.objs.size) (compEnvC scope cl h1'.objs.size X.env))
    (compPost (model X.prog X.w) X.A X.xe (some (assign (.Name x pos') X.env)) (λ_ s'=>∃ σ' H',av X HA σ' H' s'/\D.nx σ' H') (.ref s2.heap.objs.size) h1'.objs.size) s3:=by
  rintro s3 rfl;refine kH (λn s'=>∃ i σ' H',av (gl X scope cl N {s2 with heap:=h1'} (bt H2 s2.heap.objs.size (.lst [])) fp h1'.objs.size) [] σ' H' s'/\tn i s'.heap/\(∀ b∈fp,H' b=none)/\W i n σ' H') ?_ m0 ⟨0,_,_,I3,st3,fr3,w0⟩
  rintro n s3 ⟨i,σ3,H3,I3,st3,fr3,w3⟩;rcases turn i n σ3 H3 w3 with ⟨stop,qn⟩ | ⟨go,Nn,hN,step⟩
  ·refine bB (T.done (gl X scope cl N {s2 with heap:=h1'} (bt H2 s2.heap.objs.size (.lst [])) fp h1'.objs.size) rfl rfl rfl hc i [] s3 σ3 H3 i8 I3 (dH I3 fr3) st3 stop) λr s4 z9=>?_
   obtain⟨hr,I4⟩:=z9;subst hr;exact mJ Sc I2 f2 un3 I4 hC pg qn
  ·refine bB (T.item (gl X scope cl N {s2 with heap:=h1'} (bt H2 s2.heap.objs.size (.lst [])) fp h1'.objs.size) rfl rfl rfl hc i [] s3 σ3 H3 i8 I3 (dH I3 fr3) st3 go) λr s4 z9=>?_
   obtain⟨u,hr,h4⟩:=z9;subst hr;refine bB h4 λ_ s5 z9=>?_
   obtain⟨x,H5,I5,r5,y5,st5,fr5⟩:=z9;have I5':=I5.pinned (dH I5 fr5) (T.obj _ _ st5);refine bB (hg _ _ _ _ _ s5 σ3 H5 x u _ I5' r5 (step x H5 y5)) λ_ s6 z9=>?_
   obtain⟨σ6,H6,I6,q6⟩:=z9;refine bB (he _ _ _ _ _ s6 σ6 H6 _ I6 q6) λuv s7 z9=>?_
   obtain⟨v,H7,I7,r7,ys,hy,hl,q7⟩:=z9;refine bB (hU (X:=gl X scope cl N {s2 with heap:=h1'} (bt H2 s2.heap.objs.size (.lst [])) fp h1'.objs.size) _ s7 σ6 H7 (.ref s2.heap.objs.size) [v] (.ref s2.heap.objs.size) [uv] (λ_ H8=>Nn σ6 H8) I7 rfl (.cons r7 .nil) ⟨_,ys,v,rfl,rfl,hy,hl,q7⟩) λ_ s8 z9=>?_
   obtain⟨_,H8,I8,_,n8⟩:=z9;obtain⟨m',hm,w8⟩:=hN σ6 H8 n8;refine⟨m',hm,i+1,σ6,H8,I8.unpinned,T.keep _ _ _ st5 λb hb o e=>(I8.pin (b,o) (GB _ (GB _ (bV hb e)))).1,λb hb=>?_,w8⟩
   obtain⟨o,e,d⟩:=T.obj _ _ st5 b hb;exact(I8.pin (b,o) (GB _ (GB _ (bV hb e)))).2.1
 exact codeAny_compStart_list (loop _ rfl) (T.self _ 0 _ _ _ st3 (loop _ rfl))
theorem se {x:Str} {i:Nat} {pos' spos:Pos} (hN:X.N.Nodup) (hi':X.N[i]?=some x) (hx':X.env.scope.names.lookup x=some .local) (hsw:swapsWith (.ListComp elt [⟨tg,iter,[c],0⟩] scope pos) (some (.Name x pos')) spos.line X.env=pure true) (hc:X.calm=true) (Sc:fC X scope cl N cap) (hi:PI X tg iter wi) (hg:∀ s0 H0 ex C,PG (gl X scope cl N s0 H0 ex C) tg g) (hcnd:∀ s0 H0 ex C,PT (gl X scope cl N s0 H0 ex C) c tc) (he:∀ s0 H0 ex C,PE (gl X scope cl N s0 H0 ex C) elt te)
  (hs:∀ x,foldedSetIterable iter X.env x=pure x:=by intro _; rfl):PS X (.Assign [.Name x pos'] (.ListComp elt [⟨tg,iter,[c],0⟩] scope pos) spos) (vC (tO cap wi g tc te) (lQ i)):=by
 intro HA s σ H D I h;have pg:PG X (.Name x pos') (lQ i):=po hN hi' (.inl hx') (.inr hx');rw [exec_Assign_Name_used _ _ _ _ hsw];refine pp (wpAny_standAt (pp ?_))
 show wpAny _ _ (evalThenUse _ X.env _) _ _ _
 unfold evalThenUse;have Q:=λv H1=>D.nx (σ.set i (some v)) H1
 refine pp (GX (Q:=λ_ s'=>∃ σ' H',av X HA σ' H' s'/\D.nx σ' H') ?_ (λv s' q=>Gj (Gj q)) λ_ _ q=>q)
 have hcell:∀ y∈scope.names,y.2≠.cell:=λy hy=>by simpa using Hd.mp Sc.nocell y hy
 have hnames:∀ y∈scope.names,y.2=.local->scope.names.lookup y.1=some .local:=λy hy e=>by
  have:=Hd.mp Sc.names y hy;rw [e] at this
  simpa using this
 refine wpAny_comprehension_free (use:=some (assign (.Name x pos') X.env)) rfl hs Sc.clos Sc.kind hnames (bB (hi HA s σ H _ I h) λv s1 h1=>bB h1 λitv s2 h2=>?_)
 obtain⟨it,fp,tn,J,H2,e,I2,T,st2,f2,hW⟩:=h2;subst e;refine GO (wpAny_newFunctionEnv hcell (by intro y hy; simp at hy) (λh1 hns hsb=>?_) Sc.kind)
 obtain⟨W,⟨m0,w0⟩,turn⟩:=hW s2.heap.objs.size I2.fresh;dsimp only at hns hsb ⊢
 generalize hD:s2.heap.push {cls:=.type "list",dict:=none,data:=.seq ([]:List Hl).toArray}=h1' at hns hsb ⊢
 obtain⟨I3,un3⟩:=kz (tk:=s2.toks+([]:List (Str×Hl)).length) Sc I2 f2 (λb hb=>let ⟨o,e,_⟩:=T.obj 0 _ st2 b hb; ⟨o,e⟩) hD hns hsb
 have hC:s2.heap.objs.size<=h1'.objs.size:=by rw [<- hD,Hc]; exact Nat.le_succ _
 have k1:∀ b o,s2.heap.get? b=some o->h1.get? b=some o:=λb o e=>by
  have e1:h1'.get? b=some o:=by rw [<- hD]; exact Gi _ e
  exact(hsb.2 b (Gx (Go e1))).trans (Gi _ e1)
 have st3:tn 0 h1:=T.keep 0 _ _ st2 λb _ o e=>k1 b o e
 have fr3:∀ b∈fp,(bt H2 s2.heap.objs.size (.lst [])) b=none:=λb hb=>by
  obtain⟨o,e,_⟩:=T.obj 0 _ st2 b hb;rw [ax (Gx (Go e))];exact(f2 b hb).1
 have loop:∀ s3:Hk,s3={s2 with heap:=h1,toks:=s2.toks+([]:List (Str×Hl)).length}->
   codeAny (model X.prog X.w) X.A (.compLoop (.ListComp elt [⟨tg,iter,[c],0⟩] scope pos) 0 (.ref it) (.ref s2.heap.objs.size) (compEnvC scope cl h1'.objs.size X.env))
    (compPost (model X.prog X.w) X.A X.xe (some (assign (.Name x pos') X.env)) (λ_ s'=>∃ σ' H',av X HA σ' H' s'/\D.nx σ' H') (.ref s2.heap.objs.size) h1'.objs.size) s3:=by
  rintro s3 rfl;refine kh (λn s'=>∃ i σ' H',av (gl X scope cl N {s2 with heap:=h1'} (bt H2 s2.heap.objs.size (.lst [])) fp h1'.objs.size) [] σ' H' s'/\tn i s'.heap/\(∀ b∈fp,H' b=none)/\W i n σ' H') ?_ m0 ⟨0,_,_,I3,st3,fr3,w0⟩
  rintro n s3 ⟨i,σ3,H3,I3,st3,fr3,w3⟩;rcases turn i n σ3 H3 w3 with ⟨stop,qn⟩ | ⟨go,Nn,hN,step⟩
  ·refine bB (T.done (gl X scope cl N {s2 with heap:=h1'} (bt H2 s2.heap.objs.size (.lst [])) fp h1'.objs.size) rfl rfl rfl hc i [] s3 σ3 H3 i8 I3 (dH I3 fr3) st3 stop) λr s4 z9=>?_
   obtain⟨hr,I4⟩:=z9;subst hr;exact mJ Sc I2 f2 un3 I4 hC pg qn
  ·refine bB (T.item (gl X scope cl N {s2 with heap:=h1'} (bt H2 s2.heap.objs.size (.lst [])) fp h1'.objs.size) rfl rfl rfl hc i [] s3 σ3 H3 i8 I3 (dH I3 fr3) st3 go) λr s4 z9=>?_
   obtain⟨u,hr,h4⟩:=z9;subst hr;refine bB h4 λ_ s5 z9=>?_
   obtain⟨x,H5,I5,r5,y5,st5,fr5⟩:=z9;have I5':=I5.pinned (dH I5 fr5) (T.obj _ _ st5);refine bB (hg _ _ _ _ _ s5 σ3 H5 x u _ I5' r5 (step x H5 y5)) λ_ s6 z9=>?_
   obtain⟨σ6,H6,I6,q6⟩:=z9;have again:∀ {s8:Hk} {H8:Hp},av (gl X scope cl N {s2 with heap:=h1'} (bt H2 s2.heap.objs.size (.lst [])) fp h1'.objs.size) ([]++ls fp s5.heap) σ6 H8 s8->Nn σ6 H8->
     ∃ m,m < n/\∃ i σ' H',av (gl X scope cl N {s2 with heap:=h1'} (bt H2 s2.heap.objs.size (.lst [])) fp h1'.objs.size) [] σ' H' s8/\tn i s8.heap/\(∀ b∈fp,H' b=none)/\W i m σ' H':=λ{s8 H8} I8 n8=>by
    obtain⟨m',hm,w8⟩:=hN σ6 H8 n8;refine⟨m',hm,i+1,σ6,H8,I8.unpinned,T.keep _ _ _ st5 λb hb o e=>(I8.pin (b,o) (GB _ (GB _ (bV hb e)))).1,λb hb=>?_,w8⟩
    obtain⟨o,e,d⟩:=T.obj _ _ st5 b hb;exact(I8.pin (b,o) (GB _ (GB _ (bV hb e)))).2.1
   refine bB (hcnd _ _ _ _ _ s6 σ6 H6 _ I6 q6) λb s6' z9=>?_
   obtain⟨H6',I6',q6'⟩:=z9;cases b with
   | true=>
    rw [if_pos rfl] at q6' ⊢;refine bB (he _ _ _ _ _ s6' σ6 H6' _ I6' q6') λuv s7 z9=>?_
    obtain⟨v,H7,I7,r7,ys,hy,hl,q7⟩:=z9;refine bB (hU (X:=gl X scope cl N {s2 with heap:=h1'} (bt H2 s2.heap.objs.size (.lst [])) fp h1'.objs.size) _ s7 σ6 H7 (.ref s2.heap.objs.size) [v] (.ref s2.heap.objs.size) [uv] (λ_ H8=>Nn σ6 H8) I7 rfl (.cons r7 .nil) ⟨_,ys,v,rfl,rfl,hy,hl,q7⟩) λ_ s8 z9=>?_
    obtain⟨_,H8,I8,_,n8⟩:=z9;exact again I8 n8
   | false=>
    rw [if_neg Gs] at q6' ⊢;exact again I6' q6'
 exact codeAny_compStart_list (loop _ rfl) (T.self _ 0 _ _ _ st3 (loop _ rfl))
end
end L2
namespace DL
open PySem PySem.Spec PyProof.Rows L2
theorem CO {K:Fg} {ge:DE} {tc:TE} {i:Nat} (f:∀ σ H Q,up K ge σ H Q->tc σ H Q):∀ N σ H,ya K (zD i ge) N σ H->vC tc (lQ i) N σ H:=λN σ H ⟨L,S,M,hL,hS,h,r⟩=>
 f σ H _ (up.go hL hS h λd S1 v H1 h1 k1 hL1 hS1 i1=>r.nx _ S1 _ H1 h1 k1 (hL1.set i1 i) hS1)
section
variable {X:Cx} {pos pos' p:Pos} {elt tg a b c:Ho} {scope:Scope} {cl:List (Str×Hm)} {N:List Str} {cap:List (Hn Nat)} {gg:DG} {ge gi:DE} {gc:DT} {ta:DA}
theorem rz {xv:Str} {iv:Nat} {pv sv:Pos} (hNv:X.N.Nodup) (hc:X.calm=true) (Sc:fC X scope cl N cap) (hgl:Gl X "range") (hm:X.mg "range"=none) (ha:AJ X [a] ta) (hg:∀ s0 H0 ex C,GJ (gl X scope cl N s0 H0 ex C) tg gg) (he:∀ s0 H0 ex C,EJ (gl X scope cl N s0 H0 ex C) elt ge)
  (hs1:starEach [a] X.env=[(false,eval a X.env)]:=by exact bS rfl) (hs:∀ x,foldedSetIterable (.Call (.Name "range" p) [a] [] pos') X.env x=pure x:=by intro _; rfl) (hiv:X.N[iv]?=some xv:=by rfl) (hxv:X.env.scope.names.lookup xv=some .local:=by rfl) (hswv:swapsWith (.ListComp elt [⟨tg,.Call (.Name "range" p) [a] [] pos',[],0⟩] scope pos) (some (.Name xv pv)) sv.line X.env=pure true:=by rfl):SJ X (.Assign [.Name xv pv] (.ListComp elt [⟨tg,.Call (.Name "range" p) [a] [] pos',[],0⟩] scope pos) sv) (zD iv (wU cap ta gg (qM ge))):=
 ⟨PS.imp (wO hNv hiv hxv hswv hc Sc (lz hgl hm ha.h hs1) (λs0 H0 ex C=>(hg s0 H0 ex C).h) (λs0 H0 ex C=>(he s0 H0 ex C).h) hs) (CO (fun σ H Q ⟨L,S,k,hL,hS,h,n⟩=>qB.go hL hS h λds S1 vs H1 h1 k1 hL1 hS1 i1=>by
  split at h1
  ·obtain⟨v,rfl,j⟩:=jm i1;have e:=isInt.mp j;subst e;obtain⟨⟨h2,h3⟩,h1⟩:=h1;refine⟨_,rfl,h2,h3,λD hD=>lj (hL1.cap cap) hS1 hD (h1 D (hS1.free hD)) (λd S' v H' q k3=>n d S' v H' q (k1.trans k3)) rk λS2 H2 k2 hS2 _=>?_⟩
   rw [Gr,List.length_range];exact Gq _
  ·exact h1.elim))⟩
theorem n_ {xv:Str} {iv:Nat} {pv sv:Pos} (hNv:X.N.Nodup) (hc:X.calm=true) (Sc:fC X scope cl N cap) (hgl:Gl X "range") (hm:X.mg "range"=none) (ha:AJ X [a] ta) (hg:∀ s0 H0 ex C,GJ (gl X scope cl N s0 H0 ex C) tg gg) (hcn:∀ s0 H0 ex C,TJ (gl X scope cl N s0 H0 ex C) c gc) (he:∀ s0 H0 ex C,EJ (gl X scope cl N s0 H0 ex C) elt ge)
  (hs1:starEach [a] X.env=[(false,eval a X.env)]:=by exact bS rfl) (hs:∀ x,foldedSetIterable (.Call (.Name "range" p) [a] [] pos') X.env x=pure x:=by intro _; rfl) (hiv:X.N[iv]?=some xv:=by rfl) (hxv:X.env.scope.names.lookup xv=some .local:=by rfl) (hswv:swapsWith (.ListComp elt [⟨tg,.Call (.Name "range" p) [a] [] pos',[c],0⟩] scope pos) (some (.Name xv pv)) sv.line X.env=pure true:=by rfl):SJ X (.Assign [.Name xv pv] (.ListComp elt [⟨tg,.Call (.Name "range" p) [a] [] pos',[c],0⟩] scope pos) sv) (zD iv (wU cap ta gg (vY gc ge))):=
 ⟨PS.imp (se hNv hiv hxv hswv hc Sc (lz hgl hm ha.h hs1) (λs0 H0 ex C=>(hg s0 H0 ex C).h) (λs0 H0 ex C=>(hcn s0 H0 ex C).h) (λs0 H0 ex C=>(he s0 H0 ex C).h) hs) (CO (fun σ H Q ⟨L,S,k,hL,hS,h,n⟩=>qB.go hL hS h λds S1 vs H1 h1 k1 hL1 hS1 i1=>by
  split at h1
  ·obtain⟨v,rfl,j⟩:=jm i1;have e:=isInt.mp j;subst e;obtain⟨⟨h2,h3⟩,h1⟩:=h1;refine⟨_,rfl,h2,h3,λD hD=>jt (hL1.cap cap) hS1 hD (h1 D (hS1.free hD)) (λd S' v H' q k3=>n d S' v H' q (k1.trans k3)) rk λS2 H2 k2 hS2 _=>?_⟩
   rw [Gr,List.length_range];exact Gq _
  ·exact h1.elim))⟩
end
end DL
namespace L2
open PySem PySem.Spec PyProof.Rows
inductive ig (B:Hu):Hl->Prop
 | last:ig B .none
 | more {a:Hm} {o:Hz} {vs:Hw Hl} {v:Hl}:B.get? a=some o->o.data=.fields vs->vs[2]?=some v->ig B v->ig B (.ref a)
def wL (B h:Hu) (e:Hm) (dd:Hn Hm):Prop:=∃ o vs v,h.get? e=some o/\o.data=.fields vs/\vs[2]?=some v/\ig B v/\o.dict=dd
theorem eL (f:Hw Hl->Hw Hl) (o:Hz):(Obj.mapFields f o).dict=o.dict:=by
 unfold Obj.mapFields
 split <;> rfl
def la (B:Hu) (l:List Env) (e:Hm) (cls:Hl) (a0:Hl×Hn Hm) (h:Hu):Prop:=Heap.FlyingW B l e cls a0.1 h/\wL B h e a0.2
def zV (B:Hu) (l:List Env) (e:Hm) (cls:Hl) (a0:Hl×Hn Hm) (L:Hm) (h:Hu):Prop:=Heap.HeldW B l e cls a0.1 L h/\wL B h e a0.2
section
variable {M:Model} {A:Hr} {E:Hl->Hk->Prop} {s:Hk} {B:Hu} {env:Env} {outer:List Env} {L e:Hm} {Q:Unit->Hk->Prop}
theorem lb {oe:Hz} {vs:Hw Hl} {head a0 v2:Hl} {nx:Hx} (hfr:A.frames=some (env::outer)) (hl:s.heap.FunFrames B (env::outer)) (hf:env.frame=some L) (he:s.heap.get? e=some oe) (hk:B.StaysIn s.heap) (hn:B.get? e=none) (hd:oe.data=.fields vs) (hz:1 < vs.size) (h0:vs[0]?=some a0) (h2:vs[2]?=some v2) (ok2:ig B v2)
  (h:∀ h',Heap.NotedW B (env::outer) e oe.cls a0 (rawInt L) s.heap h'->wL B h' e oe.dict->Q () {s with heap:=h'}):
  wpAny M A (do let a <- frameOf env; let pl <- entryPlaceOf L nx; let b <- EntryCells.newEntry head a .none (rawInt L) .none pl; setField (.ref e) 1 b) Q E s:=by
 have ef:e∉(env::outer).filterMap (·.frame):=λm=>by
  obtain⟨_,o,ho,z⟩:=hl.mem m;rw [he] at ho;cases ho;exact z vs hd
 have nr:∀ b o,s.heap.get? b=some o->(∀ vs,o.data≠.fields vs)->b≠e:=λb o hb z y=>by
  rw [y,he] at hb;cases hb;exact z vs hd
 refine pp (wpAny_frameOf_fun hfr hl hf λh1 hs=>pp (wpAny_entryPlaceOf λpl hp=>?_))
 have e1:h1.get? e=some oe:=(hs.2.1 e ef).trans he;have k1:B.StaysIn h1:=λb o y=>(hs.2.1 b λm=>by rw [(hl.mem m).1] at y; cases y).trans (hk b o y)
 have te:h1.objs.size≠e:=Nat.ne_of_gt (Go e1);unfold EntryCells.newEntry newFields;refine pp (GO ?_ (hp.sizeOk5 _ _ _ _ _));generalize hT:({cls:=.type "traceback",dict:=none,data:=.fields ([head,.ref L,.none,rawInt L,.none]++(if pl.isEmpty then List.replicate 6 Value.none else pl)).toArray}:Hz)=oT
 have e2:=Gi (h:=h1) oT e1;have d3:=Obj.data_mapFields hd (·.setIfInBounds 1 (Value.ref h1.objs.size));have e3:=G5 (Obj.mapFields (·.setIfInBounds 1 (Value.ref h1.objs.size))) e2 (Obj.isFreed_of_fields d3);have t3:=(GR (h1.push oT) (Obj.mapFields (·.setIfInBounds 1 (Value.ref h1.objs.size))) (Ne.symm te)).trans (Gk h1 (by rw [<- hT]; rfl))
 have kp:∀ b o,b≠e->h1.get? b=some o->((h1.push oT).update e (Obj.mapFields (·.setIfInBounds 1 (Value.ref h1.objs.size)))).get? b=some o:=λb o nb hb=>(GR _ _ (Ne.symm nb)).trans (Gi _ hb)
 refine wpAny_setField e2 hd hz (h _ ⟨λb o y=>kp b o (λz=>by rw [z,hn] at y; cases y) (k1 b o y),hl.of_keeps λb o hb z=>?_,?_,λb o hb z=>?_⟩ ⟨_,_,v2,e3,d3,by rw [Array.getElem?_setIfInBounds_ne (by decide)]; exact h2,ok2,eL _ _⟩)
 ·obtain⟨sl,y⟩:=hs.2.2 b o hb;exact⟨_,kp b _ (nr b o hb z) y,rfl⟩
 ·refine⟨_,_,h1.objs.size,oT,_,e3,⟨Obj.cls_mapFields _ _,by rw [Array.getElem?_setIfInBounds_ne (by decide)]; exact h0⟩,d3,by simp [hz],k1.fresh,te,t3,by rw [<- hT],?_⟩
  first | (simp; done) | (rcases hp with rfl | ⟨_,_,_,_,_,_,_,rfl⟩ <;> simp)
 ·obtain⟨sl,y⟩:=hs.2.2 b o hb;exact⟨sl,kp b _ (nr b o hb z) y⟩
theorem g_ {l:List Env} {cls:Hl} {a0:Hl×Hn Hm} (hh:zV B l e cls a0 L s.heap) (hQ:∀ h',la B l e cls a0 h'->s.heap.UpToSlots h'->Q () {s with heap:=h'}):wpAny M A (setFlight (.ref e) none) Q E s:=by
 obtain⟨⟨f1,f2,f3,oe,vs,T,oT,ts,he,hc,hd,h1,nT,te,hT,dT,h3⟩,oc,vc,w2,gc,dc,c2,ok2,dk⟩:=hh;rw [he] at gc;cases gc;rw [hd] at dc;cases dc;have z3:3 < ts.size:=(Array.getElem?_eq_some_iff.mp h3).1;have ot:∀ b,b≠T->(s.heap.update T (Obj.mapFields (·.setIfInBounds 3 ((none:Hn Hm).elim Value.none λf=>rawInt f)))).get? b=s.heap.get? b:=λb hb=>GR _ _ (Ne.symm hb)
 have nr:∀ b o,s.heap.get? b=some o->(∀ vs,o.data≠.fields vs)->b≠T:=λb o hb z y=>by
  rw [y,hT] at hb;cases hb;exact z ts dT
 unfold setFlight;refine pp (GY he hd h1 ?_);rw [if_pos (by simp)]
 have ge:=(ot e (Ne.symm te)).trans he;refine wpAny_setField hT dT z3 (hQ _ ⟨⟨λb o y=>(ot b λz=>by rw [z,nT] at y; cases y).trans (f1 b o y),f2,f3.of_keeps λb o hb z=>⟨o,(ot b (nr b o hb z)).trans hb,rfl⟩,?_⟩,_,_,w2,ge,hd,c2,ok2,dk⟩ λb o hb z=>⟨o.slots,(ot b (nr b o hb z)).trans hb⟩)
 exact⟨oe,vs,T,_,_,ge,hc,hd,h1,nT,te,G5 _ hT (Obj.isFreed_of_fields (Obj.data_mapFields dT _)),Obj.data_mapFields dT _,by simp [z3]⟩
theorem lq {cls:Hl} {a0:Hl×Hn Hm} (hfr:A.frames=some (env::outer)) (hf:env.frame=some L) (hfl:la B (env::outer) e cls a0 s.heap) (hQ:∀ h',zV B (env::outer) e cls a0 L h'->s.heap.UpToSlots h'->Q () {s with heap:=h'}):wpAny M A (noteFrame (.ref e) env) Q E s:=by
 obtain⟨⟨f1,f2,f3,oe,vs,T,oT,ts,he,⟨hc,h0⟩,hd,h1,nT,te,hT,dT,h3⟩,oc,vc,w2,gc,dc,c2,ok2,dk⟩:=hfl;rw [he] at gc;cases gc;rw [hd] at dc;cases dc;subst hc;have ot:∀ b,b≠T->(s.heap.update T (Obj.mapFields (·.setIfInBounds 3 Value.none))).get? b=s.heap.get? b:=λb hb=>GR _ _ (Ne.symm hb)
 have nr:∀ b o,s.heap.get? b=some o->(∀ vs,o.data≠.fields vs)->b≠T:=λb o hb z y=>by
  rw [y,hT] at hb;cases hb;exact z ts dT
 unfold noteFrame;simp only [hf];refine pp (GY he hd h1 ?_);rw [if_pos (by simp)]
 refine pp (GY hT dT h3 ?_);rw [if_neg (by simp [rawInt])]
 refine pp (wpAny_setField hT dT (Array.getElem?_eq_some_iff.mp h3).1 ?_);refine lb hfr (f3.of_keeps λb o hb z=>⟨o,(ot b (nr b o hb z)).trans hb,rfl⟩) hf ((ot e (Ne.symm te)).trans he) (λb o y=>(ot b λz=>by rw [z,nT] at y; cases y).trans (f1 b o y)) f2 hd (Array.getElem?_eq_some_iff.mp h1).1 h0 c2 ok2 λh' ⟨x1,x2,x3,x4⟩ cx=>?_
 rw [dk] at cx;exact hQ h' ⟨⟨x1,f2,x2,x3⟩,cx⟩ λb o hb z=>x4 b o ((ot b (nr b o hb z)).trans hb) z
theorem qd {cls:Hl} {a0:Hl×Hn Hm} {h:Hu} (x:la B (env::outer) e cls a0 h):la B outer e cls a0 h:=⟨⟨x.1.1,x.1.2.1,x.1.2.2.1.2.2,x.1.2.2.2⟩,x.2⟩
theorem rG {cls:Hl} {a0:Hl×Hn Hm} (hfr:A.frames=some (env::outer)) (hf:env.frame=some L) (hfl:la B (env::outer) e cls a0 s.heap) (hQ:∀ h',la B outer e cls a0 h'->s.heap.UpToSlots h'->Q () {s with heap:=h'}):wpAny M A (leaving env (.ref e)) Q E s:=by
 unfold leaving;exact pp (lq hfr hf hfl λh1 x1 u1=>g_ x1 λh2 x2 u2=>hQ h2 (qd x2) (u1.trans u2))
theorem o_ {oe:Hz} {vs:Hw Hl} {a0 v2:Hl} (hfr:A.frames=some (env::outer)) (hl:s.heap.FunFrames B (env::outer)) (hf:env.frame=some L) (he:s.heap.get? e=some oe) (hk:B.StaysIn s.heap) (hn:B.get? e=none) (hd:oe.data=.fields vs) (h1:vs[1]?=some .none) (h0:vs[0]?=some a0) (h2:vs[2]?=some v2) (ok2:ig B v2)
  (hQ:∀ h',la B outer e oe.cls (a0,oe.dict) h'->s.heap.UpToSlots h'->Q () {s with heap:=h'}):wpAny M A (leaving env (.ref e)) Q E s:=by
 unfold leaving noteFrame;simp only [hf];refine pp (pp (GY he hd h1 ?_));rw [if_neg (by decide)]
 refine lb hfr hl hf he hk hn hd (Array.getElem?_eq_some_iff.mp h1).1 h0 h2 ok2 λh' ⟨x1,x2,x3,x4⟩ cx=>?_
 exact g_ (s:={s with heap:=h'}) (a0:=(a0,oe.dict)) ⟨⟨x1,hn,x2,x3⟩,cx⟩ λh2 y2 u2=>hQ h2 (qd y2) (Heap.UpToSlots.trans x4 u2)
end
def fm (P:Hq) (w:Ht):vx:=λouter H s E e s'=>∃ (ea:Hm) (cls:Hl) (a0:Hl×Hn Hm) (H':Hp) (B:Hu),e=.ref ea/\s'.os=s.os/\AllBare s'.gens/\la B outer ea cls a0 s'.heap/\kl P w H' B/\
 (∀ b o,s.heap.get? b=some o->H b=none->b∉fo outer->B.get? b=some o)/\(∀ b o,s.heap.get? b=some o->b∉fo outer->∃ o',B.get? b=some o')/\Un (fo outer) [] H H' s.heap s'.heap/\E cls a0.2 H'
section
variable {P:Hq} {w:Ht} {K:PySem.W.Frag} {mg:Str->Hn Hl} {base:Hu} {N:List Str} {HB:Str} {scope:Scope} {f:Hm} {cd:Hl} {A:Hr} {outer:List Env} {s0:Hk} {H0:Hp} {E:XK}
theorem s9 {HA:List (Hm×Hz)} {σ:St} {H H':Hp} {s:Hk} {sx:Hk} {B h':Hu} {ea:Hm} {cls:Hl} {a0:Hl×Hn Hm} (I:av (bW (fm P w) P w K mg base N HB scope f cd A outer s0 H0 E) HA σ H s) (os:sx.os=s.os) (bare:AllBare sx.gens)
  (fl:la B outer ea cls a0 h') (hok:kl P w H' B) (hB:∀ b o,s.heap.get? b=some o->H b=none->b∉fo (bW (fm P w) P w K mg base N HB scope f cd A outer s0 H0 E).stack->B.get? b=some o)
  (hB2:∀ b o,s.heap.get? b=some o->b∉fo (bW (fm P w) P w K mg base N HB scope f cd A outer s0 H0 E).stack->∃ o',B.get? b=some o')
  (hsl:∀ b∈fo outer,∀ o,s.heap.get? b=some o->∃ sl,h'.get? b=some {o with slots:=sl}) (fr:∀ b o,s.heap.get? b=some o->H b=none->H' b=none) (tu:∀ b xs,H b=some (.tup xs)->H' b=some (.tup xs)) (fz:∀ b o u,H b=some (.frz o u)->H' b=some (.frz o u))
  (tb:∀ b ps,H b=some (.tbl ps)->∃ more,H' b=some (.tbl (ps++more))) (q:E cls a0.2 H'):fm P w outer H0 s0 E (.ref ea) {sx with heap:=h'}:=by
 have nst:∀ b o,s0.heap.get? b=some o->b∉fo outer->b∉fo (bW (fm P w) P w K mg base N HB scope f cd A outer s0 H0 E).stack:=λb o e hb z=>by
  rcases Gw.mp (I.stkSub b z) with z | z
  ·have:=Go e;have ab:=I.ok.above;rw [z] at this;exact absurd (GA this ab) (Hb _)
  ·exact hb z
 have hkeep:∀ b o,s0.heap.get? b=some o->H0 b=none->b∉fo outer->B.get? b=some o:=λb o e n hb=>
  hB b o (I.base.keep b o e n hb (λz=>nomatch z)) (I.base.free b o e n (λz=>nomatch z)) (nst b o e hb)
 have hthere:∀ b o,s0.heap.get? b=some o->b∉fo outer->∃ o',B.get? b=some o':=λb o e hb=>by
  obtain⟨o',e1⟩:=I.base.there b o e (λz=>nomatch z)
  exact hB2 b o' e1 (nst b o e hb)
 refine⟨ea,cls,a0,H',B,rfl,os.trans I.os,bare,fl,hok,hkeep,hthere,⟨λb o e n hb _=>fl.1.1 _ _ (hkeep b o e n hb),λb o e n hb _=>?_,λb o e n _=>?_,λb o e _=>?_,λb xs e=>tu _ _ (I.base.tups b xs e),λb o u e=>fz _ _ _ (I.base.frzs b o u e),λb ps e=>?_⟩,q⟩
 ·obtain⟨sl,e1⟩:=I.base.slot b o e n hb (λz=>nomatch z)
  obtain⟨sl',e2⟩:=hsl b hb _ e1;exact⟨sl',e2⟩
 ·obtain⟨o',e1⟩:=I.base.there b o e (λz=>nomatch z)
  exact fr b o' e1 (I.base.free b o e n (λz=>nomatch z))
 ·by_cases hb:b∈fo outer
  ·obtain⟨o',e1⟩:=I.base.there b o e (λz=>nomatch z)
   obtain⟨sl',e2⟩:=hsl b hb _ e1;exact⟨_,e2⟩
  ·obtain⟨o',e1⟩:=hthere b o e hb;exact⟨o',fl.1.1 _ _ e1⟩
 ·obtain⟨m1,e1⟩:=I.base.tbls b ps e;obtain⟨m2,e2⟩:=tb b _ e1;exact⟨m1++m2,by rw [e2,Array.append_assoc]⟩
theorem zC:pO (fm P w) (bW (fm P w) P w K mg base N HB scope f cd A outer s0 H0 E) E:=by
 intro HA σ H s e s' I h;obtain⟨ea,cls,a0,H',B,rfl,os,bare,fl,hok,hB,hB2,un,q⟩:=h
 show wpAny _ _ (leaving _ (.ref ea)) _ _ s'
 refine rG I.ok.frames rfl fl λh' fl' up=>?_
 refine s9 (sx:=s') I os bare fl' hok hB hB2 (λb hb o e=>?_) (λb o e n=>un.free b o e n (λz=>nomatch z)) un.tups un.frzs un.tbls q
 have hb':b∈fo (bW (fm P w) P w K mg base N HB scope f cd A outer s0 H0 E).stack:=Gz _ hb;have hn:=I.stkFree b hb';obtain⟨sl,e1⟩:=un.slot b o e hn hb' (λz=>nomatch z)
 obtain⟨_,o2,e2,d2⟩:=fl.1.2.2.1.mem hb';rw [e1] at e2;cases e2;obtain⟨sl',e3⟩:=up b _ e1 d2;exact⟨sl',e3⟩
end
theorem yW {K:PySem.W.Frag} {C:Hm} {bmB:List Hl} {newId:Hy} {h:Hu} {x:Str} {mg:Str->Hn Hl} (X:K.In h) (q:PySem.W.excIn K C bmB newId=true) (hm:mg x=some (.ref C)):OwnCls x C bmB newId mg h:=by
 refine⟨hm,?_⟩;unfold PySem.W.excIn at q
 split at q
 ·rename_i d1 c1 sl hlk
  split at q
  ·rename_i C1 bm a0 a1 a2 a3 nn a5 hmro hsl
   simp only [G3,beq_iff_eq,Bool.not_eq_true'] at q;obtain⟨⟨⟨⟨⟨q1,q2⟩,q3⟩,q4⟩,q5⟩,q6⟩:=q;subst q1 q2;obtain⟨v1,v2,v3,v4,v5,v6,v7,v8,v9,v10,v11⟩:=c1;dsimp only at hmro q3 q5 q6
   subst hmro q3;obtain⟨l⟩:=sl;simp only at hsl;subst hsl;exact⟨bm,v4,v1,v5,v2,v6,v7,v8,v9,v10,d1,a0,a1,a2,a3,a5,_,X _ _ hlk,.of_isNs (PySem.W.isNs_of_in X q5),PySem.W.nsMap_none_of_in X q5 q6,PySem.W.tail_of_in X q4⟩
  ·cases q
 ·cases q
section
variable {P:Hq} {w:Ht} {K:PySem.W.Frag} {mg:Str->Hn Hl} {base:Hu} {N:List Str} {HB:Str} {scope:Scope} {f:Hm} {cd:Hl} {A:Hr} {outer:List Env} {s0:Hk} {H0:Hp} {E:XK}
theorem wT {x t:Str} {C:Hm} {bmB:List Hl} {Bn newId initId:Hy} {j:Nat} {p np cpos pos:Pos} (FB:ExcBaseFacts Bn newId initId bmB) (q:PySem.W.excIn K C bmB newId=true) (hm:mg x=some (.ref C))
  (hg:Gl (bW (fm P w) P w K mg base N HB scope f cd A outer s0 H0 E) x) (hd:(x == ("__debug__":Str))=false:=by decide):
  PS (bW (fm P w) P w K mg base N HB scope f cd A outer s0 H0 E) (.Raise (some (.Call (.Name x np) [.Constant (.str t) j p] [] cpos)) none pos) (λ_ _ H=>E (.ref C) none H):=by
 intro HA s σ H D I h;obtain⟨tl,Nn,nm,qn,bs,hdct,sn,sub,ab,col,dd,k0,k1,k2,k3,k5,mN,hC,hN,hni,T⟩:=(yW (x:=x) I.kIn q hm).obj;refine wpAny_Raise_call_subT (C:=C) (nm:=nm) (q:=qn) (N:=Nn) (bs:=bs) (bm:=tl) (hdct:=hdct) (sn:=sn) (sub:=sub) (ab:=ab) (col:=col) (dd:=dd) (k0:=k0) (k1:=k1) (k2:=k2) (k3:=k3) (k5:=k5)
  FB (mN:=mN) (T.hasType FB.hasBase) (I.ok.hd rfl) rfl hni (ff I hg hm ⟨rfl,?_⟩ hd)
 refine Calls.evalArgs_plain (Calls.spliced_cons (Calls.Constant_str (k:=j) (pos:=p) (Calls.spliced_nil ⟨rfl,GE rfl,hC,hN,T,λh' e hx=>?_⟩)))
 show wpAny _ _ (leaving _ (.ref e)) _ _ _
 have I1:=I.tok (s.toks+1);have hin:∀ env∈(bW (fm P w) P w K mg base N HB scope f cd A outer s0 H0 E).stack,∀ b,env.frame=some b->b∈fo (bW (fm P w) P w K mg base N HB scope f cd A outer s0 H0 E).stack:=λenv he b hb=>List.mem_filterMap.mpr ⟨env,he,hb⟩
 obtain⟨t2,he2,_,_⟩:=hx.there;refine o_ (B:=PySem.W.hideAll s.heap (fo (bW (fm P w) P w K mg base N HB scope f cd A outer s0 H0 E).stack)) (a0:=.ref t2) I.ok.frames ((PySem.W.funFrames_hide I.stack hin).of_keeps λb o hb _=>⟨o,hx.keeps b o hb,rfl⟩) rfl he2 (λb o z=>hx.keeps b o (PySem.W.of_hideAll _ z)) (by
  cases y:(PySem.W.hideAll s.heap (fo (bW (fm P w) P w K mg base N HB scope f cd A outer s0 H0 E).stack)).get? e with
  | none=>rfl
  | some o=>
   have z:=PySem.W.of_hideAll _ y;rw [show s.heap.get? e=none from hx.new] at z
   cases z) rfl rfl rfl rfl .last λh2 fl up=>?_
 refine s9 (sx:={s with heap:=h',toks:=s.toks+1}) I rfl I.bare fl (λb ob z=>?_) (λb o z _ hb=>PySem.W.hideAll_get _ z hb) (λb o z hb=>⟨o,PySem.W.hideAll_get _ z hb⟩) (λb hb o z=>?_) (λ_ _ _ n=>n) (λ_ _ z=>z) (λ_ _ _ z=>z) (λb ps z=>⟨#[],by rw [z]; simp⟩) h
 ·refine(I.hok b ob z).stay (λc v hc y=>PySem.W.hideAll_get _ y λhf=>?_) (λ_ y=>y) λ_ _ y=>y
  have hn:=I.stkFree c hf;rcases hc with rfl | hc
  ·rw [hn] at z; cases z
  ·rw [hn] at hc; cases hc
 ·obtain⟨_,o2,e2,d2⟩:=I.stack.mem (Gz _ hb);rw [z] at e2;cases e2;exact up b o (hx.keeps _ _ z) d2
end
section
variable {X:Cx} {HA:List (Hm×Hz)} {σ:St} {H H':Hp} {s s':Hk} {E:XK}
theorem av.landed {B h5:Hu} {ea:Hm} {cls a0:Hl} (I:av X HA σ H s) (os:s'.os=s.os) (bare:AllBare s'.gens) (fl:Heap.FlyingW B X.stack ea cls a0 s'.heap) (fl5:Heap.FlyingW B X.stack ea cls a0 h5) (up:s'.heap.UpToSlots h5) (hok:kl X.prog X.w H' B)
  (hB:∀ b o,s.heap.get? b=some o->H b=none->b∉fo X.stack->B.get? b=some o) (hB2:∀ b o,s.heap.get? b=some o->b∉fo X.stack->∃ o',B.get? b=some o') (un:Un (fo X.stack) [] H H' s.heap s'.heap):
  av X HA σ H' {s' with heap:=h5}:=by
 have fsl:∀ b∈fo X.stack,∀ o,s.heap.get? b=some o->∃ sl,h5.get? b=some {o with slots:=sl}:=λb hb o e=>by
  obtain⟨sl,e1⟩:=un.slot b o e (I.stkFree b hb) hb (λz=>nomatch z)
  obtain⟨_,o2,e2,d2⟩:=fl.2.2.1.mem hb;rw [e1] at e2;cases e2;obtain⟨sl',e3⟩:=up b _ e1 d2;exact⟨sl',e3⟩
 refine I.call' (s':={s' with heap:=h5}) (ch:=[]) os ⟨λb o e n hb _=>fl5.1 _ _ (hB b o e n hb),λb o e n hb _=>fsl b hb o e,un.free,λb o e _=>?_,un.tups,un.frzs,un.tbls⟩ (hok.kept fl5.1) bare λb z=>nomatch z
 by_cases hb:b∈fo X.stack
 ·obtain⟨sl,e1⟩:=fsl b hb o e;exact⟨_,e1⟩
 ·obtain⟨o',e1⟩:=hB2 b o e hb;exact⟨o',fl5.1 _ _ e1⟩
theorem av.freeze {a:Hm} {o:Hz} (I:av X HA σ H s) (e:s.heap.get? a=some o) (hn:H a=none) (h0:X.s₀.heap.get? a=none) (hL:a≠X.env.locals) (hc:∀ x c,X.env.cells.lookup x=some c->c≠a) (hp:∀ p∈X.pn++HA,p.1≠a):
  av X HA σ (bt H a (.frz o (.ext λ_=>True))) s:=by
 have ne:∀ b u,X.s₀.heap.get? b=some u->b≠a:=λb u z y=>by rw [y,h0] at z; cases z
 refine⟨I.ok,I.os,I.bare,⟨I.base.keep,I.base.slot,λb u z n x=>?_,I.base.there,λb xs z=>?_,λb u v z=>?_,λb ps z=>?_⟩,I.loc,I.cell,?_,λx c z=>?_,λp z=>?_,λb u z=>?_,I.len⟩
 ·rw [ax (ne b u z)]; exact I.base.free b u z n x
 ·have q:=I.base.tups b xs z;rw [ax (aZ q hn)]; exact q
 ·have q:=I.base.frzs b u v z;rw [ax (aZ q hn)]; exact q
 ·obtain⟨m,q⟩:=I.base.tbls b ps z;exact⟨m,by rw [ax (aZ q hn)]; exact q⟩
 ·rw [ax (Ne.symm hL)]; exact I.free
 ·rw [ax (hc x c z)]; exact I.freeC x c z
 ·obtain⟨q1,q2,q3⟩:=I.pin p z;exact⟨q1,by rw [ax (hp p z)]; exact q2,q3⟩
 ·by_cases hb:b=a
  ·subst hb;rw [bA] at z;cases z;exact⟨e,trivial,⟨o,e⟩,λ_ _ _ _=>trivial⟩
  ·rw [ax hb] at z;exact(I.hok b u z).stay (λ_ _ _ q=>q) (λc q=>by rw [ax (aZ q hn)]; exact q) λc xs q=>by rw [ax (aZ q hn)]; exact q
abbrev Cx.marked (X:Cx) (v:Hl) (W:Hl->Hk->Prop):Cx:={X with A:=X.A.mark (some v),calm:=false,xe:=W}
theorem av.marked (I:av X HA σ H s) (v:Hl) (W:Hl->Hk->Prop):av (X.marked v W) HA σ H s:=
 ⟨⟨I.ok.mod,I.ok.kind,I.ok.glob,I.ok.blt,I.ok.above,I.ok.inj,I.ok.has,I.ok.cab,λz=>(by cases z),I.ok.frames,I.ok.stk,I.ok.exf,I.ok.bs,I.ok.bsz,I.ok.noex,I.ok.exfs,I.ok.funs,I.ok.frf⟩,I.os,I.bare,I.base,I.loc,I.cell,I.free,I.freeC,I.pin,I.hok,I.len⟩
theorem av.unmarked {v:Hl} {W:Hl->Hk->Prop} (I:av (X.marked v W) HA σ H s) (hd:X.calm=true->X.A.handled=none):av X HA σ H s:=
 ⟨⟨I.ok.mod,I.ok.kind,I.ok.glob,I.ok.blt,I.ok.above,I.ok.inj,I.ok.has,I.ok.cab,hd,I.ok.frames,I.ok.stk,I.ok.exf,I.ok.bs,I.ok.bsz,I.ok.noex,I.ok.exfs,I.ok.funs,I.ok.frf⟩,I.os,I.bare,I.base,I.loc,I.cell,I.free,I.freeC,I.pin,I.hok,I.len⟩
theorem uz {M:Model} {A:Hr} {W:Hl->Hk->Prop} {i:Nat} {n:Str} {pos:Pos} {Q:Unit->Hk->Prop} (I:av X HA σ H s) (hN:X.N.Nodup) (hi:X.N[i]?=some n) (hl:X.env.kindOf n=some .local)
  (h:∀ s',av X HA (σ.set i none) H s'->Q () s'):wpAny M A (do bindName X.env n .none; unbindBehindTheSuite X.env n pos) Q W s:=by
 have hcls:(X.env.scope.kind == .class || (X.env.scope.kind == .module && X.env.locals != X.env.globals))=false:=by rw [I.ok.kind]; rfl
 refine pp (wpAny_bindName (eG (v:=.non) I hN hi (.inl hl) rfl (λs1 I1=>?_) (.inr hl)))
 unfold unbindBehindTheSuite;refine wpAny_onRaise ?_;obtain⟨m,hn,hlk⟩:=id I1.loc;have hiσ:i < σ.length:=by rw [I.len]; exact(GW.mp hi).1
 obtain⟨u,ru,look⟩:=hlk i n .non hi (by rw [List.getElem?_set_self hiσ]) (.inl hl)
 have hv:m n=some u:=by
  rcases look with ⟨_,z⟩ | ⟨z,_⟩
  ·exact z
  ·rcases z with z | z <;> (rw [hl] at z; cases z)
 refine wpAny_unbindName_local hl hn hv hcls λh2 v hn2 sb=>h _ ?_
 have ne:∀ b o,X.s₀.heap.get? b=some o->b≠X.env.locals:=λb o e=>Gx (GA (Go e) I.ok.above)
 refine⟨I1.ok,I1.os,I1.bare,⟨λb o e n1 hb hx=>(sb.2 b (ne b o e)).trans (I1.base.keep b o e n1 hb hx),λb o e n1 hb hx=>?_,I1.base.free,λb o e hx=>?_,I1.base.tups,I1.base.frzs,I1.base.tbls⟩,⟨_,hn2,λj y v' e1 e2 e3=>?_⟩,λy c e=>?_,I1.free,I1.freeC,λp hp=>?_,λb ob e=>?_,by simpa using I.len⟩
 ·obtain⟨sl,z⟩:=I1.base.slot b o e n1 hb hx;exact⟨sl,(sb.2 b (ne b o e)).trans z⟩
 ·obtain⟨o',z⟩:=I1.base.there b o e hx;exact⟨o',(sb.2 b (ne b o e)).trans z⟩
 ·have hj:j≠i:=λz=>by
   subst z;rw [List.getElem?_set_self hiσ] at e2;cases e2
  rw [List.getElem?_set_ne (Ne.symm hj)] at e2;obtain⟨u',r',q⟩:=hlk j y v' e1 (by rw [List.getElem?_set_ne (Ne.symm hj)]; exact e2) e3
  refine⟨u',r',?_⟩;rcases q with ⟨k,e⟩ | ⟨k,c,e,z⟩
  ·refine .inl ⟨k,?_⟩;have:y≠n:=λz=>hj (mI hN e1 (z▸hi))
   simp [this,e]
  ·exact .inr ⟨k,c,e,z.sameBut sb (I1.cne y c e)⟩
 ·obtain⟨w',z⟩:=I1.cell y c e;exact⟨w',z.sameBut sb (I1.cne y c e)⟩
 ·obtain⟨e,n1,ne1,nf,d⟩:=I1.pin p hp;exact⟨(sb.2 p.1 ne1).trans e,n1,ne1,nf,d⟩
 ·refine(I1.hok b ob e).stay (λc v1 hc q=>(sb.2 c ?_).trans q) (λ_ q=>q) λ_ _ q=>q
  rintro rfl;have hf:=I1.free;rcases hc with rfl | hc
  ·rw [hf] at e; cases e
  ·rw [hf] at hc; cases hc
end
theorem dg.there {P:Hq} {w:Ht} {H:Hp} {h:Hu} {a:Hm} {o:HO} (x:dg P w H h a o):∃ ob,h.get? a=some ob:=by
 cases o with
 | lst xs=>obtain⟨_,_,_,_,e⟩:=x; exact⟨_,e⟩
 | tup xs=>obtain⟨_,_,_,ob,e,_⟩:=x; exact⟨_,e⟩
 | dK kvs=>obtain⟨_,_,_,_,o,_,_,e,_⟩:=x; exact⟨_,e⟩
 | dT kvs=>obtain⟨_,_,_,_,o,_,_,e,_⟩:=x; exact⟨_,e⟩
 | set S n=>obtain⟨o,_,_,_,e,_⟩:=x; exact⟨_,e⟩
 | ins C dx fs=>obtain⟨_,_,_,e,_⟩:=x; exact⟨_,e⟩
 | own y=>obtain⟨_,e⟩:=x; exact⟨_,e⟩
 | xd fs=>obtain⟨_,⟨_,_,_,e,_⟩,_⟩:=x; exact⟨_,e⟩
 | rng lo hi=>obtain⟨_,_,_,e⟩:=x; exact⟨_,e⟩
 | frz ob u=>obtain⟨e,_⟩:=x; exact⟨_,e⟩
 | tbl ps=>exact⟨_,(show h.get? a=some _ from x)⟩
 | met f y=>exact⟨_,(show h.get? a=some _ from x)⟩
 | ext φ=>obtain⟨_,e,_⟩:=x; exact e
section
variable {X:Cx} {HA:List (Hm×Hz)} {σ:St} {H:Hp} {s:Hk} {E:XK}
theorem B9 {E:Hl->Hk->Prop} {i:Nat} {x:Str} {v:V} {pos:Pos} {Q:Hl->Hk->Prop} (I:av X HA σ H s) (hN:X.N[i]?=some x) (hv:qQ X.env.scope x) (e:σ[i]?=some (some v)) (h:∀ u,bh v u->Q u s)
  (hd:(x == ("__debug__":Str))=false:=by decide) (hcd:(x == ("__classdict__":Str))=false:=by decide):wpAny (model X.prog X.w) X.A (eval (.Name x pos) X.env) Q E s:=by
 obtain⟨m,hn,hl⟩:=I.loc;obtain⟨u,r,l⟩:=hl i x v hN e hv;rcases l with ⟨hk,hm⟩ | ⟨hk,c,hc,hcell⟩
 ·exact wpAny_Name (wpAny_loadName_local I.ok.kind hk hn hm (h u r)) hd
 ·rcases hk with hk | hk
  ·exact wpAny_Name (wpAny_loadName_cell I.ok.kind hk hc hcell (h u r)) hd
  ·exact wpAny_Name (wpAny_loadName_free I.ok.kind hk hc hcell (h u r) hcd) hd
end
end L2
namespace DL
open PySem PySem.Spec PyProof.Rows L2
theorem Lc.unset {K:Fg} {H:Hp}:∀ {L:Lo} {σ:L2.St} (i:Nat),Lc K H L σ->Lc K H (L.set i .none) (σ.set i .none)
 | [],σ,i,h=>by have h:σ=[]:=h; subst h; exact rfl
 | .none::L,σ,0,h=>by obtain⟨x,r,rfl,h⟩:=h; exact⟨_,r,rfl,h⟩
 | .none::L,σ,i+1,h=>by obtain⟨x,r,rfl,h⟩:=h; exact⟨x,_,rfl,Lc.unset i h⟩
 | .some d::L,σ,0,h=>by obtain⟨x,r,rfl,_,h⟩:=h; exact⟨_,r,rfl,h⟩
 | .some d::L,σ,i+1,h=>by obtain⟨x,r,rfl,hd,h⟩:=h; exact⟨x,_,rfl,hd,Lc.unset i h⟩
abbrev Er:=Hm×Hn Int
instance:Coe Hm Er:=⟨λa=>(a,none)⟩
def gW (n:Hn Int) (d0:Hn Hm) (H:Hp):Prop:=∀ i,n=some i->∃ dx,d0=some dx/\H dx=some (.xd [("step",.int i)])
theorem gW.no {d0:Hn Hm} {H:Hp}:gW none d0 H:=λ_ e=>by cases e
abbrev kP:=List D->DH->DK->(Er->DH->Prop)->Prop
def wl (K:Fg) (F:kP):Sp:=λvs H Q E=>∃ ds S k x,IsDs K H ds vs/\Hs K H S/\F ds S k x/\(∀ d' S' v H',k d' S'->Kp H H'->Hs K H' S'->bH K H' d' v->Q v H')/\∀ r d0 S' H',x r S'->Hs K H' S'->gW r.2 d0 H'->E (.ref r.1) d0 H'
structure l6 (P:Hq) (w:Ht) (K:Fg) (mg:Str->Hn Hl) (base:Hu) (x:Str) (n:Nat) (F:kP):Prop where
 ex:∃ f fd ps,aJ P w K mg base (fm P w) n f fd ps (wl K F)/\mg x=some (.ref f)/\PySem.W.keepIn K (.ref f)=true/\gL K fd ps []
section
variable {P:Hq} {w:Ht} {K:Fg} {mg:Str->Hn Hl} {base:Hu} {N:List Str} {HB:Str} {scope:Scope} {f:Hm} {cd:Hl} {A:Hr} {outer:List Env} {s0:Hk} {H0:Hp} {E:XK} {ex:Er->DH->Prop}
theorem j6 {x t:Str} {C:Hm} {bmB:List Hl} {Bn newId initId:Hy} {j:Nat} {p np cpos pos:Pos} (hE:∀ r d0 S' H',ex r S'->Hs K H' S'->gW r.2 d0 H'->E (.ref r.1) d0 H') (FB:ExcBaseFacts Bn newId initId bmB) (q:PySem.W.excIn K C bmB newId=true) (hm:mg x=some (.ref C))
  (hg:Gl (bW (fm P w) P w K mg base N HB scope f cd A outer s0 H0 E) x) (hd:(x == ("__debug__":Str))=false:=by decide):
  SJ (bW (fm P w) P w K mg base N HB scope f cd A outer s0 H0 E) (.Raise (some (.Call (.Name x np) [.Constant (.str t) j p] [] cpos)) none pos) (λ_ _ S=>ex (C,none) S):=
 ⟨PS.imp (wT FB q hm hg hd) λ_ _ H ⟨_,S,_,_,hS,h,_⟩=>hE (C,none) none S H h hS gW.no⟩
def wF (F:kP) (ex:Er->DH->Prop) (t:DA):DE:=λL S k=>t L S λds S1=>F ds S1 k ex
theorem km {x:Str} {n:Nat} {F:kP} {e:Ho} {es:List Ho} {t:DA} {p pos:Pos} (hE:∀ r d0 S' H',ex r S'->Hs K H' S'->gW r.2 d0 H'->E (.ref r.1) d0 H') (c:l6 P w K mg base x n F) (hr:ce n (bW (fm P w) P w K mg base N HB scope f cd A outer s0 H0 E).A)
  (hg:Gl (bW (fm P w) P w K mg base N HB scope f cd A outer s0 H0 E) x) (ha:AJ (bW (fm P w) P w K mg base N HB scope f cd A outer s0 H0 E) (e::es) t) (hdb:(x == ("__debug__":Str))=false:=by decide)
  (he:starEach (e::es) (bW (fm P w) P w K mg base N HB scope f cd A outer s0 H0 E).env=(false,eval e (bW (fm P w) P w K mg base N HB scope f cd A outer s0 H0 E).env)::starEach es (bW (fm P w) P w K mg base N HB scope f cd A outer s0 H0 E).env:=by exact bS rfl)
  (hpl:(backTo pos (starEach es (bW (fm P w) P w K mg base N HB scope f cd A outer s0 H0 E).env)).any (·.1)=false:=by exact fh rfl):
  EJ (bW (fm P w) P w K mg base N HB scope f cd A outer s0 H0 E) (.Call (.Name x p) (e::es) [] pos) (wF F ex t):=by
 obtain⟨g,fd,ps,F1,h1,h2,h3⟩:=c.ex;refine⟨PE.imp (ua F1 hr hg h1 h2 h3 .nil zC ha.h hdb he hpl) fun σ H Q ⟨L,S,k,hL,hS,h,n⟩=>?_⟩
 refine qB.go hL hS h λds S1 vs H1 h1 k1 hL1 hS1 i1=>?_
 show wl K F (vs++[]) H1 Q E
 rw [GI];exact⟨ds,S1,k,ex,i1,hS1,h1,λd' S' v H' q k3 z1 z2=>n d' S' v H' q (k1.trans k3) z1 z2,hE⟩
theorem _root_.L2.qz.okX {x HB:Str} {st:Hv} {f:Hm} {fd:FuncData} {N ps:List Str} {k:Nat} {F:kP} (Fn:qz K x HB st f fd) (Sc:ar N ps (ai st)) (len:∀ ds S k x,F ds S k x->ds.length=ps.length)
  (hbody:∀ (cdv:Hl) (A:Hr) (outer:List Env) (s:Hk) (H:Hp) (E:XK) (ex:Er->DH->Prop),ce k (A.deeper (envOfC HB (ai st) s.heap.objs.size f cdv))->(∀ r d0 S' H',ex r S'->Hs K H' S'->gW r.2 d0 H'->E (.ref r.1) d0 H')->
   ∃ g,tz (bW (fm P w) P w K mg base N HB (ai st) f cdv A outer s H E) (bu st) g/\
    ∀ ds S k,F ds S k ex->g {nx:=λ_ S'=>k .non S',rt:=k} (ds.map some++List.replicate (N.length - ps.length) none) S):aJ P w K mg base (fm P w) (k+1) f fd ps (wl K F):=by
 obtain⟨oc,od,kV,doc,pm,an,cdv,ct,osl,rfl,lk,hcd⟩:=Fn.ex;refine zU lk hcd Sc (λvs H Q E h=>?_) λA outer s H vs Q E hr h=>?_
 ·obtain⟨ds,S,k,x,i,_,q,_⟩:=h;rw [<- i.length];exact len ds S k x q
 ·obtain⟨ds,S,k',x,i,hS,h,n,hE⟩:=h;obtain⟨g,hg,q⟩:=hbody cdv A outer s H E x hr hE;refine⟨_,hg.h,ds.map some++List.replicate (N.length - ps.length) none,S,_,?_,hS,q ds S k' h,?_⟩
  ·unfold L2.start;rw [<- i.length,len ds S k' x h];exact Lc.start _ i
  ·exact⟨λL S' σ H' h1 k1 _ hS'=>n _ S' _ H' h1 k1 hS' (cq.mpr rfl),λd S' v H' h1 k1 hS' i1=>n d S' v H' h1 k1 hS' i1,λ_ _ _ _ h1=>h1.elim,λ_ _ _ _ h1=>h1.elim⟩
end
end DL
namespace L2
open PySem PySem.Spec PyProof.Rows
def BF (H:Hp) (HB:Str) (cv:Hl):Prop:=∃ (c':Hm) (oc:Hz) (uc:HO) (vs:Hw Hl) (t:Tok),cv=.ref c'/\H c'=some (.frz oc uc)/\oc.data=.fields vs/\vs[1]?=some (.str HB t)
structure D9 (H:Hp) (HB:Str) (ps:Hw Hl):Prop where
 tri:TriplesOk ps.toList
 ok:∀ pos cv,codeAmong pos ps.toList=some cv->BF H HB cv
def nO (mg:Str->Hn Hl) (base:Hu):Prop:=(∃ bm ob,mg "__builtins__"=some (.ref bm)/\bm≠builtinsNs/\base.get? bm=some ob/\ob.cls=.type "module"/\ob.dict=some builtinsNs/\ob.data=.plain)/\base.NoSeer
end L2
namespace DL
open PySem PySem.Spec PyProof.Rows L2
theorem wJ {P:Hq} {w:Ht} {outer:List Env} {H:Hp} {s:Hk} {E:XK} {e:Hl} {s':Hk} (h:fm P w outer H s E e s'):fm P w outer H s (λc t H'=>E c t H'/\Kp H H') e s':=by
 obtain⟨ea,cls,a0,H',B,h1,h2,h3,h4,h5,h6,h7,h8,h9⟩:=h;refine⟨ea,cls,a0,H',B,h1,h2,h3,h4,h5,h6,h7,h8,h9,λa o z i=>?_⟩
 cases o with
 | tup xs=>exact h8.tups a xs z
 | frz ob u=>exact h8.frzs a ob u z
 | _=>exact i.elim
def Gf (K:Fg) (ex:Er->DH->Prop):XK:=λcls d0 H'=>∃ r S',cls=.ref r.1/\ex r S'/\Hs K H' S'/\gW r.2 d0 H'
end DL
namespace L2
open PySem PySem.Spec PyProof.Rows
structure tw (tabs:List (Hm×Hm)) (H:Hp):Prop where
 only:∀ b,H b=none\/(∃ o xs,H b=some (.frz o (.lst xs)))\/(b∈tabs.map (·.2)/\H b=some (.tbl #[]))
 all:∀ q∈tabs,H q.2=some (.tbl #[])
theorem vd {P:Hq} {w:Ht} {K:PySem.W.Frag} {mg mb:Str->Hn Hl} {CX:vx} {k:Nat} {fa a:Hm} {fd:FuncData} {x:Str} {sp:Sp} {s₁:Hk} {vs:List Hl} {ns:List Int} {tabs:List (Hm×Hm)}
  (hT:PySem.W.TabsAt tabs s₁.heap) (hnK:PySem.W.noTabs K=true) (hbm:nO mg s₁.heap)
  (KX:K.In s₁.heap) (hns:s₁.heap.Ns mainGlobals mg) (hb:s₁.heap.Ns builtinsNs mb) (hbb:∀ x:Str,x≠"__name__"->mb x=bootBuiltins x) (hlim:s₁.heap.NoLimit) (hg:s₁.gens=#[])
  (ha:s₁.heap.get? a=some {cls:=.type "list",data:=.seq vs.toArray}) (hi:IntsAre vs ns) (hl:ns.length<=sizeLine) (hr:ce k callerA)
  (F:∀ base:Hu,K.In base->base.Ns mainGlobals mg->nO mg base->PySem.W.CodeAll tabs base->aJ P w K mg base CX k fa fd [x] sp) (hbind:∀ (s:Hk) (u:Hl),BindsTo s fd ⟨[u],[]⟩ [(x,u)])
  (hsp:∀ H:Hp,tw tabs H->ir K H a (ns.map V.int)->sp [.ref a] H (λv _=>v=.bl true) λ_ _ _=>False)
  (hCX:∀ H e s',CX [] H s₁ (λ_ _ _=>False) e s'->False):
  codeAny (model P w) callerA (.call (.ref fa) ⟨[.ref a],[]⟩) (λr s'=>r=.ok (.ret (.bool true))/\OldK s₁.heap s'.heap/\s'.os=s₁.os/\AllBare s'.gens) s₁:=by
 have rv:=oJ hi;have lenV:=hi.length;have tabO:∀ b∈tabs.map (·.2),s₁.heap.get? b=some (PySem.W.tabObj #[]):=λb hb=>by
  obtain⟨q,hq,rfl⟩:=List.mem_map.mp hb;exact(hT q hq).2
 have naT:a∉tabs.map (·.2):=λz=>by
  have e:=tabO a z;rw [ha] at e;cases e
 have nKT:∀ b o,K.lookup b=some o->b∉tabs.map (·.2):=λb o e z=>by
  have e1:=KX b o e;rw [tabO b z] at e1;cases e1;have h2:=Hd.mp hnK (b,_) (PySem.W.mem_of_lookupK e);exact absurd (show false=true from h2) Gs
 have core:∀ H:Hp,tw tabs H->ir K H a (ns.map V.int)->kl P w H s₁.heap->(∀ b,H b≠none->b=a\/b∈tabs.map (·.2))->(H a≠none->K.lookup a=none)->
   codeAny (model P w) callerA (.call (.ref fa) ⟨[.ref a],[]⟩) (λr s'=>r=.ok (.ret (.bool true))/\OldK s₁.heap s'.heap/\s'.os=s₁.os/\AllBare s'.gens) s₁:=by
  intro H hO hS hok hA hK;have base_of:∀ {b:Hm} {o:Hz},s₁.heap.get? b=some o->H b=none->(ng s₁.heap H).get? b=some o:=λe n=>wK e n
  have noC:∀ {b:Hm} {o:Hz},s₁.heap.get? b=some o->o.cls≠.type "list"->o.cls≠.none->H b=none:=λ{b o} e d1 d2=>by
   cases q:H b with
   | none=>rfl
   | some u=>
    rcases hA b (by rw [q]; simp) with e' | e'
    ·subst e';rw [ha] at e; cases e
     exact absurd rfl d1
    ·rw [tabO b e'] at e; cases e
     exact absurd rfl d2
  have noA:∀ {b:Hm} {o:Hz} {es:Hw DictEntry} {ep:Nat},s₁.heap.get? b=some o->o.data=.dict es ep->H b=none:=λ{b o es ep} e d=>by
   cases q:H b with
   | none=>rfl
   | some u=>
    rcases hA b (by rw [q]; simp) with e' | e'
    ·subst e';rw [ha] at e; cases e
     have d':Data.seq vs.toArray _=Data.dict es ep:=d;cases d'
    ·rw [tabO b e'] at e; cases e
     cases d
  have nsK:∀ {b:Hm} {m:Str->Hn Hl},s₁.heap.Ns b m->(ng s₁.heap H).Ns b m:=λ{b m} ⟨o,es,ep,e,d,r⟩=>⟨o,es,ep,base_of e (noA e d),d,r⟩
  have hKb:K.In (ng s₁.heap H):=λb o e=>base_of (KX b o e) (by
   cases q:H b with
   | none=>rfl
   | some u=>
    rcases hA b (by rw [q]; simp) with e' | e'
    ·subst e';rw [hK (by rw [q]; simp)] at e; cases e
    ·exact absurd e' (nKT b o e))
  have hBb:nO mg (ng s₁.heap H):=by
   obtain⟨⟨bm,ob,b1,b2,b3,b4,b5⟩,ns⟩:=hbm;refine⟨⟨bm,ob,b1,b2,base_of b3 (noC b3 (by rw [b4]; decide) (by rw [b4]; nofun)),b4,b5⟩,?_,?_,?_,?_⟩
   ·obtain⟨mc,h1,h2⟩:=ns.statics;exact⟨mc,nsK h1,h2⟩
   ·obtain⟨mc,h1,h2⟩:=ns.mods;exact⟨mc,nsK h1,h2⟩
   ·obtain⟨mc,h1,h2⟩:=ns.imp;exact⟨mc,nsK h1,h2⟩
   ·obtain⟨mg',bm',ob',h1,h2,h3,h4,h5⟩:=ns.main;exact⟨mg',bm',ob',nsK h1,h2,base_of h3 (noC h3 (by rw [h4]; decide) (by rw [h4]; nofun)),h4,h5⟩
  have hCb:PySem.W.CodeAll tabs (ng s₁.heap H):=.of λq hq=>by
   obtain⟨o,vs,file,tf,flags,tg,inF,text,tt,e1,r1,r2⟩:=(hT q hq).1;exact⟨o,vs,file,tf,flags,tg,inF,text,tt,base_of e1 (noC e1 (by rw [r1]; decide) (by rw [r1]; nofun)),r1,r2⟩
  have hM:Mod K mg (ng s₁.heap H):=⟨hKb,nsK hns,⟨mb,nsK hb,hbb⟩,let ⟨mc,h1,h2⟩:=hlim; ⟨mc,nsK h1,h2⟩⟩
  have e0:qV P w K mg (ng s₁.heap H) callerA [] s₁ H:=⟨rfl,hM,λb o e=>yz e,Nat.le_of_eq (uR _ _),trivial,λb hb=>absurd (show b∈([]:List Hm) from hb) (by simp),hok,.of_eq hg⟩
  refine codeAny_mono ((F _ hKb (nsK hns) hBb hCb).run callerA [] s₁ H ⟨[.ref a],[]⟩ [.ref a] [.ref a] _ _ hr e0 (hbind s₁ (.ref a)) (.cons rfl .nil) (hsp H hO hS)) λr s' h=>?_
  cases r with
  | error e=>exact(hCX H e s' h).elim
  | ok fl=>
   cases fl with
   | next=>exact False.elim h
   | brk=>exact False.elim h
   | cont=>exact False.elim h
   | ret u=>
    obtain⟨v,H',os,bare,un,hok',r',q⟩:=h;have q':v=.bl true:=q;subst q';obtain rfl:u=Value.bool true:=r';refine⟨rfl,⟨λb o e=>?_,λb o e=>un.there b o e (by simp)⟩,os,bare⟩
    rcases hO.only b with z | ⟨ob,xs,z⟩ | ⟨hm,z⟩
    ·exact .inl (un.keep b o e z (by intro z; exact absurd (show b∈([]:List Hm) from z) (by simp)) (by simp))
    ·have z2:=un.frzs b ob _ z;obtain⟨e1,_⟩:=hok b _ z;obtain⟨e2,_⟩:=hok' b _ z2;rw [e] at e1; cases e1
     exact .inl e2
    ·obtain⟨more,z2⟩:=un.tbls b _ z;have e2:s'.heap.get? b=some (PySem.W.tabObj (#[]++more)):=hok' b _ z2;have e3:=tabO b hm;obtain⟨q,hq,rfl⟩:=List.mem_map.mp hm;rw [e] at e3;cases e3;exact .inr (.inl ⟨((hT q hq).1.tab (hT q hq).2).isCodeTable,rfl,#[],more,rfl,e2⟩)
 have tb:∀ b,b∈tabs.map (·.2)->kl P w (λ_=>none) s₁.heap->dg P w (λ_=>none) s₁.heap b (.tbl #[]):=λb hb _=>tabO b hb
 cases hk:K.lookup a with
 | some o=>
  have e:=KX a o hk;rw [ha] at e;cases e;refine core (λb=>if b∈tabs.map (·.2) then some (.tbl #[]) else none) ⟨λb=>?_,λq hq=>if_pos (List.mem_map_of_mem hq)⟩ (.inr ⟨_,vs.toArray,_,hk,rfl,rfl,rfl,by rw [Gv,lenV]; exact hl,by simpa using rv⟩) (λb u z=>?_) (λb z=>?_) λz=>?_
  ·by_cases hm:b∈tabs.map (·.2)
   ·exact .inr (.inr ⟨hm,if_pos hm⟩)
   ·exact .inl (if_neg hm)
  ·by_cases hm:b∈tabs.map (·.2)
   ·have z':=(if_pos hm).symm.trans z;cases z';exact tabO b hm
   ·have z':=(if_neg hm).symm.trans z;cases z'
  ·by_cases hm:b∈tabs.map (·.2)
   ·exact .inr hm
   ·exact absurd (if_neg hm) z
  ·exact absurd (if_neg naT) z
 | none=>
  refine core (λb=>if b=a then some (.frz {cls:=.type "list",data:=.seq vs.toArray} (.lst (ns.map V.int))) else if b∈tabs.map (·.2) then some (.tbl #[]) else none) ⟨λb=>?_,λq hq=>?_⟩ (.inl (.inr ⟨{cls:=.type "list",data:=.seq vs.toArray},if_pos rfl⟩)) (λb u z=>?_) (λb z=>?_) λ_=>hk
  ·by_cases hb:b=a
   ·exact .inr (.inl ⟨_,_,if_pos hb⟩)
   ·by_cases hm:b∈tabs.map (·.2)
    ·exact .inr (.inr ⟨hm,(if_neg hb).trans (if_pos hm)⟩)
    ·exact .inl ((if_neg hb).trans (if_neg hm))
  ·have hm:q.2∈tabs.map (·.2):=List.mem_map_of_mem hq;have hb:q.2≠a:=λz=>naT (z▸hm)
   exact(if_neg hb).trans (if_pos hm)
  ·by_cases hb:b=a
   ·have z':=(if_pos hb).symm.trans z;cases z';subst hb;exact⟨ha,by rw [Gr]; exact hl,vs,_,rv,ha⟩
   ·by_cases hm:b∈tabs.map (·.2)
    ·have z':=((if_neg hb).trans (if_pos hm)).symm.trans z;cases z';exact tabO b hm
    ·have z':=((if_neg hb).trans (if_neg hm)).symm.trans z;cases z'
  ·by_cases hb:b=a
   ·exact .inl hb
   ·by_cases hm:b∈tabs.map (·.2)
    ·exact .inr hm
    ·exact absurd ((if_neg hb).trans (if_neg hm)) z
theorem xl {l:PySem.W.OpenLaw} {n k:Nat} {q:Hq} {loose:List Str} {XP:(Str->Hn Hl)->Hu->Prop} {YP:Ht->Hu->Prop} {d:DefRec} {K:Params->PySem.W.Frag} {CX:Ht->vx} {sp:Ht->Sp} {x:Str} {tabs:List (Hm×Hm)}
  (himp:importsNone q=true) (hn:l.most=some n) (hn2:n<=sizeLine) (hdf:d.params.defaults=[]) (hr:ce k callerA)
  (hY:∀ (w:Ht) (h:Hu),YP w h->(K w.params).In h) (hnK:∀ w:Ht,PySem.W.noTabs (K w.params)=true) (hT:∀ (w:Ht) (h:Hu),YP w h->PySem.W.TabsAt tabs h)
  (F:∀ (w:Ht) (mg:Str->Hn Hl) (fa:Hm) (h:Hu),(K w.params).In h->h.Ns mainGlobals mg->mg d.name=some (.ref fa)->
   ∃ fd:FuncData,(∀ (s:Hk) (u:Hl),BindsTo s fd ⟨[u],[]⟩ [(x,u)])/\
    ∀ base:Hu,(K w.params).In base->base.Ns mainGlobals mg->nO mg base->PySem.W.CodeAll tabs base->aJ l.prog w (K w.params) mg base (CX w) k fa fd [x] (sp w))
  (hsp:∀ (w:Ht) (H:Hp) (a:Hm) (ns:List Int),ns.length<=n->tw tabs H->ir (K w.params) H a (ns.map V.int)->sp w [.ref a] H (λv _=>v=.bl true) λ_ _ _=>False)
  (hCX:∀ (w:Ht) (H:Hp) (s:Hk) (e:Hl) (s':Hk),CX w [] H s (λ_ _ _=>False) e s'->False):
  PySem.W.WalkO q loose XP YP l.row.toRowW d [] (λf vs=>PySem.call f vs):=by
 refine Att.attach_call hn hdf λw s₀ s₁ mg mb fa o pm cd doc a vs ns G Y ho hd hcd hmg hobj hints hlen hg=>?_
 have KX:=hY w _ Y;obtain⟨fd,hb,hF⟩:=F w mg fa _ KX G.T.g hmg;have hbm:nO mg s₁.heap:=by
  obtain⟨bm,ob,b1,b2,b3,b4,b5,b6⟩:=G.T.bmain;exact⟨⟨bm,ob,b1,b2,b3,b4,b5,b6⟩,G.T.seer himp⟩
 exact vd (hT w _ Y) (hnK w) hbm KX G.T.g G.T.b G.T.builtins G.T.nolimit hg hobj hints (GZ hlen hn2) hr hF hb (λH hO hS=>hsp w H a ns hlen hO hS) λH e s'=>hCX w H s₁ e s'
end L2
namespace DL
open PySem PySem.Spec PyProof.Rows L2
theorem x9 {β:Type}:∀ {l:List (Hm×β)} {a:Hm} {b:β},l.lookup a=some b->(a,b)∈l
 | [],_,_,e=>by cases e
 | (c,x)::r,a,b,e=>by
  rw [List.lookup_cons] at e;cases hb:a == c with
  | true=>rw [hb] at e; cases e; rw [eq_of_beq hb]; exact .head _
  | false=>rw [hb] at e; exact .tail _ (x9 e)
def AX (tq:List (Hm×Str)):DH:=λb=>(tq.lookup b).map λq=>DO.tbl λH ps=>D9 H q ps
theorem zB {K:Fg} {H:Hp} {a:Hm} {ns:List Int} {F:ca} {E:XK} {tabs:List (Hm×Hm)} {tq:List (Hm×Str)} (ho:tw tabs H) (hS:ir K H a (ns.map V.int)) (ht:∀ p∈tq,p.1∈tabs.map (·.2)) (h:F [.rl (ns.map D.int)] (AX tq) (λd _=>d=.bl true)):cV K F [.ref a] H (λv _=>v=.bl true) E:=by
 refine⟨[.rl (ns.map D.int)],AX tq,λd _=>d=.bl true,IsDs.cons (ra.mpr ⟨a,ns.map V.int,rfl,?_,?_⟩) IsDs.nil,λb o e=>?_,h,λd' S' v H' e _ _ i=>?_⟩
 ·rcases hS with (h1 | h1) | h1
  ·rcases ho.only a with z | ⟨o,xs,z⟩ | ⟨_,z⟩
   ·rw [z] at h1; cases h1
   ·rw [z] at h1; cases h1
   ·rw [z] at h1; cases h1
  ·exact .inl h1
  ·exact .inr h1
 ·clear h hS
  induction ns with
  | nil=>exact IsDs.nil
  | cons n ns ih=>exact IsDs.cons (isInt.mpr rfl) ih
 ·unfold AX at e;cases q:tq.lookup b with
  | none=>rw [q] at e; cases e
  | some x=>
   rw [q] at e;cases e;obtain⟨t,ht',e2⟩:=List.mem_map.mp (ht _ (x9 q));have z:=ho.all t ht';rw [e2] at z;exact⟨#[],z,λH2 _=>⟨trivial,λpos cv z2=>by cases z2⟩⟩
 ·subst e;exact bO.mp i
end DL
namespace L2
open PySem PySem.Spec PyProof.Rows
theorem yj {X:Cx} {n:Nat} (hr:ce n X.A) (hn:33<=n) (hB:nO X.mg X.base) (hT:X.prog.given.tree=none) (hst:X.stack=X.env::X.outer) (hg:X.env.scope.isGenerator=false) (hc:X.env.scope.isCoroutine=false):
  gn X (binaryOp .FloorDiv) (rI (λ_ j=>j≠0) λi j=>.int (i.fdiv j)):=by
 intro HA s σ H x y v u Q I rx ry h;obtain⟨i,j,rfl,rfl,hj,q⟩:=h;obtain⟨t,rfl⟩:=rx;obtain⟨t',rfl⟩:=ry;have hd:=hr.dp;have hN:s.heap.NoSeer:=hB.2.keeps I.bk;exact floordiv_int hj ⟨.int (i.fdiv j),H,I.tok _,⟨_,rfl⟩,q⟩ (.inr (PylongRoom.of I.nolimit (by show X.A.depth+100 < recursionLimit; omega) (SeerAt.of hN hT (hst▸I.ok.frames) hg hc I.ok.blt I.ok.glob)))
end L2
namespace DL
open PySem PySem.Spec PyProof.Rows L2
abbrev Cq:D2:=AV (λ_ j=>j≠0) λi j=>.int (i.fdiv j)
theorem j9 {X:Cx} {n:Nat} (hr:ce n X.A) (hB:nO X.mg X.base) (hT:X.prog.given.tree=none) (hst:X.stack=X.env::X.outer) (hg:X.env.scope.isGenerator=false) (hc:X.env.scope.isCoroutine=false) (hn:33<=n):
  gn X (binaryOp .FloorDiv) (jL X.K Cq):=uD (C:=λ_ j=>j≠0) (gV:=λi j=>.int (i.fdiv j)) (yj hr hn hB hT hst hg hc) λ_ _ _=>isInt.mpr rfl
section
variable {X:Cx} {HA:List (Hm×Hz)} {σ:L2.St} {H:Hp} {s:Hk}
theorem xg (I:av X HA σ H s) {S:DH} {a c:Hm} {ds es:List D} {b:Hx} (hS:Hs X.K H S) (h1:S a=some (.lst ds)) (h2:S c=some (.lst es)) (hl:ds.length=es.length) (A:Hr) (hu:A.units+8 < cLine) (h:hG (jM 7) ds es=some b):
  SeqAt.RcAt A s (.ref a) (.ref c) b/\SeqAt.RcNeAt A s (.ref a) (.ref c) (!b):=by
 obtain⟨xs,q1,j1⟩:=hS.lst h1;obtain⟨ys,q2,j2⟩:=hS.lst h2;obtain⟨us,r1,p1,_⟩:=I.list (ir.of q1);obtain⟨ws,r2,p2,_⟩:=I.list (ir.of q2);have l1:=j1.length;have l2:=j2.length;have l3:=r1.length;have l4:=r2.length;have hsz:us.toArray.size=ws.toArray.size:=by simp only [Gv]; omega
 have he:∀ j (h1:j < us.toArray.size) (h2:j < ws.toArray.size),SeqAt.EqAt A.in1 s us.toArray[j] ws.toArray[j] (hZ (jM 7) ds es j):=λj h1 h2=>by
  simp only [Gv] at h1 h2
  obtain⟨d,e,x,y,q1,q2,d1,d2,rx,ry⟩:=qj j1 j2 r1 r2 h1 h2;have:=(qk I 7 A.in1 d e x y us[j] ws[j] _ (by show A.units+1+7 < cLine; omega) (mx h q1 q2) d1 d2 rx ry).1
  simpa using this
 have e:=kR h;rw [hl,Nat.min_self] at e;have e:(List.range us.toArray.size).all (hZ (jM 7) ds es)=b:=by
  simp only [Gv];rw [<- l3,<- l1,hl]
  simpa using e
 refine⟨?_,?_⟩
 ·have z:=SeqAt.RcAt.lists p1.isList p2.isList hsz (by omega) he
  rw [e] at z;exact z
 ·have z:=SeqAt.RcNeAt.lists p1.isList p2.isList hsz (by omega) he
  rw [e] at z;exact z
end
def C9:D2:=λd e S k=>match d,e with
 | .ref a,.ref c=>∃ xs ys b,S a=some (.lst xs)/\S c=some (.lst ys)/\xs.length=ys.length/\hG (jM 7) xs ys=some b/\k (.bl b) S
 | d,e=>∃ b,jM 8 d e=some b/\k (.bl b) S
def Av:D2:=λd e S k=>match d,e with
 | .ref a,.ref c=>∃ xs ys b,S a=some (.lst xs)/\S c=some (.lst ys)/\xs.length=ys.length/\hG (jM 7) xs ys=some b/\k (.bl (!b)) S
 | d,e=>∃ b,jM 8 d e=some b/\k (.bl (!b)) S
theorem CN {X:Cx} {n:Nat} (hr:ce n X.A):gn X (compareOp .Eq) (jL X.K C9):=by
 intro HA s σ H x y v u Q I rx ry h;obtain⟨d,e,S,k,i1,i2,hS,r,m⟩:=h;have hu:=hr.units;unfold C9 at r
 split at r
 ·obtain⟨xs,ys,b,h1,h2,h3,h4,w⟩:=r;have e1:=b_.mp i1;have e2:=b_.mp i2;subst e1 e2;cases rx;cases ry;exact(xg I hS h1 h2 h3 X.A (by omega) h4).1 X.prog X.w X.xe _ ⟨.bl b,H,I,rfl,mC m hS w (bO.mpr rfl)⟩
 ·obtain⟨b,h1,w⟩:=r;exact(qk I 8 X.A d e x y v u b (by omega) h1 i1 i2 rx ry).2 X.prog X.w X.xe _ ⟨.bl b,H,I,rfl,mC m hS w (bO.mpr rfl)⟩
theorem xU {X:Cx} {n:Nat} (hr:ce n X.A):gn X (compareOp .NotEq) (jL X.K Av):=by
 intro HA s σ H x y v u Q I rx ry h;obtain⟨d,e,S,k,i1,i2,hS,r,m⟩:=h;have hu:=hr.units;unfold Av at r
 split at r
 ·obtain⟨xs,ys,b,h1,h2,h3,h4,w⟩:=r;have e1:=b_.mp i1;have e2:=b_.mp i2;subst e1 e2;cases rx;cases ry;exact(xg I hS h1 h2 h3 X.A (by omega) h4).2 X.prog X.w X.xe _ ⟨.bl (!b),H,I,rfl,mC m hS w (bO.mpr rfl)⟩
 ·obtain⟨b,h1,w⟩:=r;exact AU I 8 X.A d e x y v u b (by omega) h1 i1 i2 rx ry X.prog X.w X.xe _ ⟨.bl (!b),H,I,rfl,mC m hS w (bO.mpr rfl)⟩
theorem l6.mk' {P:Hq} {w:Ht} {K:Fg} {mg:Str->Hn Hl} {base:Hu} {x HB:Str} {st:Hv} {f:Hm} {fd:FuncData} {ps:List Str} {n:Nat} {F:kP} (Fn:qz K x HB st f fd) (h:aJ P w K mg base (fm P w) n f fd ps (wl K F)) (hm:mg x=some (.ref f)) (hb:gL K fd ps []):l6 P w K mg base x n F:=
 ⟨f,fd,ps,h,hm,Fn.kp,hb⟩
def xZ:ca:=λds S k=>match ds with
 | [.tup xs]=>k (.tup xs) S
 | [.ref a]=>∃ xs,S a=some (.lst xs)/\k (.tup xs) S
 | _=>False
theorem mr {X:Cx}:dW X (.type "tuple") (sZ X.K xZ):=by
 intro HA s σ H xs us Q I rs h;obtain⟨ds,S,k,i,hS,r,n⟩:=h;unfold xZ at r
 split at r
 ·obtain⟨x,rfl,i1⟩:=jm i;obtain⟨a,vs,rfl,t,j⟩:=bC.mp i1;exact jQ HA s σ H _ us Q I rs ⟨a,vs,rfl,.inr ⟨t,n _ S _ H r (Kp.refl H) hS i1⟩⟩
 ·obtain⟨x,rfl,i1⟩:=jm i;have e1:=b_.mp i1;subst e1;obtain⟨xs,z,r⟩:=r;obtain⟨vs,hl,j⟩:=hS.lst z;refine jQ HA s σ H _ us Q I rs ⟨_,vs,rfl,.inl ⟨ir.of hl,λp hp=>?_⟩⟩
  have kp:Kp H (bt H p (.tup vs)):=Kp.new hp;exact n _ S _ _ r kp (hS.new hp) (bC.mpr ⟨p,vs,rfl,jN.of bA,j.kp kp⟩)
 ·exact r.elim
end DL
namespace L2
open PySem PySem.Spec PyProof.Rows
theorem u8:bootBuiltins "enumerate"=some (.type "enumerate"):=by decide +kernel
theorem xy {P:Hq} {w:Ht} {A:Hr} (b:Hx) (it l:Hm) (xs:Hw Hl) (hh:A.handled=none) (hne:it≠l):Draws P w A it [it,l] xs.size (λi x=>xs[i]?=some x) (λi h=>A8 b it l i h/\sqB b l xs h) where
 live:=λi h st=>by obtain⟨o,e,_⟩:=(bR (P:=P) (w:=w) b it l).obj _ _ st.1; exact⟨o,e⟩
 frame:=λi h h' st q=>⟨(bR (P:=P) (w:=w) b it l).at_ _ _ _ st.1 λo e=>q it (by simp) o e,(bR (P:=P) (w:=w) b it l).sqAt _ _ _ st.2 λo e=>q l (by simp) o e⟩
 item:=λi s Q E hi st hQ=>(bR (P:=P) (w:=w) b it l).item A i s xs xs[i] Q E st.1 st.2 (by simp [hi]) λh' a1 a2=>hQ _ h' s.toks (by simp [hi]) ⟨a1,(bR (P:=P) (w:=w) b it l).sqAt _ _ _ st.2 λo e=>a2.extBut _ _ (Ne.symm hne) e⟩ a2
 done:=λs Q E st hE=>(bR (P:=P) (w:=w) b it l).fin _ _ _ _ _ _ hh st.1 st.2 (by simp) hE
def Dp (K:PySem.W.Frag) (b:Hx) (a:Hm):It:=
 ⟨λi H => ∃ xs x, oO b K H a xs ∧ xs[i]? = some x,
  λi H v H'=>∃ T x,v=.ref T/\H T=none/\H'=bt H T (.tup [.int (i:Nat),x])/\∀ xs,oO b K H a xs->xs[i]?=some x,
  λi H=>∃ xs,oO b K H a xs/\xs.length=i⟩
def FR (b:Hx) (e it a:Hm) (i:Nat) (h:Hu):Prop:=(∃ old,IsEnum h e it (i:Nat) old)/\A8 b it a i h
theorem uY {P:Hq} {w:Ht} {K:PySem.W.Frag} {es:List Ho} {k:Nat} {pos:Pos} (b:Hx) {e it a:Hm} (h1:e≠it) (h2:e≠a) (h3:it≠a):
  uN P w K (.Tuple es k pos) (Dp K b a) [e,it] e (FR b e it a) where
 mem:=by simp
 obj:=λi h st c hc=>by
  obtain⟨⟨old,he⟩,hi⟩:=st;have hc':c=e\/c=it:=by simpa using hc
  rcases hc' with rfl | rfl
  ·exact⟨_,he,λv q=>by cases q⟩
  ·exact(bR (P:=P) (w:=w) b c a).obj _ _ hi
 keep:=λi h h' st q=>by
  obtain⟨⟨old,he⟩,hi⟩:=st;exact⟨⟨old,q e (by simp) _ he⟩,(bR (P:=P) (w:=w) b it a).at_ _ _ _ hi λo x=>q it (by simp) o x⟩
 item:=by
  intro X hP hw hK hc i HA s σ H E I hf st hg;subst hP hw hK;obtain⟨xs,x,q1,hx⟩:=hg;obtain⟨its,rv,p⟩:=I.sqB q1;obtain⟨u,hu,ru⟩:=rv.get hx;obtain⟨⟨old,he⟩,hi⟩:=st;have hn:H s.heap.objs.size=none:=I.hok.fresh (Gq _);have helt:e < s.heap.objs.size:=Go he;have hilt:it < s.heap.objs.size:=by obtain⟨o,z,_⟩:=(bR (P:=X.prog) (w:=X.w) b it a).obj _ _ hi; exact Go z
  have hlt:i < its.toArray.size:=by
   have:=GW.mp hu;obtain⟨z,_⟩:=this
   simpa using z
  refine wpAny_pyNext_enum_itemD (xy b it a its.toArray (show X.A.in1.handled=none from I.ok.hd hc) h3) he ⟨hi,p⟩ hlt h1 (by simp [h1,h2]) λx' h' tk hx' ho hst hT hsz hk=>?_
  have ex:x'=u:=by
   have z:its[i]?=some x':=by simpa using hx'
   rw [hu] at z;exact(GS z).symm
  subst ex;have I1:av X HA σ (bt H s.heap.objs.size (.tup [.int (i:Nat),x])) {s with heap:=h',toks:=tk+1}:=
   I.turnedNew (t':=tk+1) [e,it] (λc o hb y=>hk c o (λq=>hb (by simp [q])) (λq=>hb (by simp [q])) y) hf (Gq _) ⟨GE rfl,[.int (i:Nat) tk,x'],.cons ⟨tk,rfl⟩ (.cons ru .nil),⟨_,hT,rfl,_,rfl⟩⟩
  refine⟨_,rfl,wpAny_letOwnedTupleGo_enum (s:={s with heap:=h',toks:=tk+1}) ho λh2' g1 g2=>?_⟩
  refine⟨.ref s.heap.objs.size,bt H s.heap.objs.size (.tup [.int (i:Nat),x]),?_,rfl,⟨_,x,rfl,hn,rfl,λxs' e1=>by rw [I.sqB_inj e1 q1]; exact hx⟩,⟨⟨x',by simpa using g1⟩,?_⟩,λc hb=>?_⟩
  ·refine I1.turnedL (t':=tk+1) [e] (λc o hb y=>g2.extBut _ _ (λq=>hb (by simp [q])) y) λc hb=>?_
   have z:c=e:=by simpa using hb
   subst z;obtain⟨f0,f1,f2,f3,f4,f5⟩:=hf c (by simp)
   exact⟨by rw [ax (Gx helt)]; exact f0,f1,f2,f3,f4,f5⟩
  ·exact(bR (P:=X.prog) (w:=X.w) b it a).at_ _ _ _ hst.1 λo z=>g2.extBut _ _ (Ne.symm h1) z
  ·have hc':c=e\/c=it:=by simpa using hb
   rw [ax (by rcases hc' with rfl | rfl; exact Gx helt; exact Gx hilt)]
   exact(hf c hb).1
 done:=by
  intro X hP hw hK hc i HA s σ H E I hf st hg;subst hP hw hK;obtain⟨xs,q1,hx⟩:=hg;obtain⟨its,rv,p⟩:=I.sqB q1;obtain⟨⟨old,he⟩,hi⟩:=st;have l1:=rv.length;have ez:i=its.toArray.size:=by simp; omega
  refine wpAny_pyNext_enum_endD (xy b it a its.toArray (show X.A.in1.handled=none from I.ok.hd hc) h3) he ⟨by rw [<- ez]; exact hi,p⟩ λh' kk=>⟨rfl,I.turnedL (t':=s.toks) [it] (λc o hb y=>kk c o (λq=>hb (by simp [q])) y) λc hb=>hf c ?_⟩
  have z:c=it:=by simpa using hb
  subst z;simp
 self:=λ_ _ _ _ _ st h=>by
  obtain⟨⟨old,he⟩,_⟩:=st;exact wpAny_pyIter_enum he h
theorem qZ (l:Hm) (xs:Hw Hl) (n:Nat) (dct:Hn Hm) (sl:Hw (Hn Hl)):
  Meets (Builtin.«enumerate.__new__» ⟨[.type "enumerate",.ref l],[]⟩) (λ_ R s=>s.heap.get? l=some ⟨.type "tuple",dct,.seq xs n,sl⟩/\
   R (.ok (.ret (.ref (zT s.heap "tuple_iterator" l).objs.size))) {s with heap:=(zT s.heap "tuple_iterator" l).push {cls:=.type "enumerate",data:=.fields #[.none,.bool false,.ref s.heap.objs.size,rawInt 0,.none,.none]}}):=
 .of_wp λprog w A R s h=>by
  obtain⟨hp,g,d,tk,os⟩:=s;obtain⟨hl,h⟩:=h;have hsub:=sub_enumerate;have hT:Heap.IsTuple (Shared.heap ⟨hp,g,d,tk,os⟩) l xs:=⟨_,hl,rfl,n,rfl⟩
  wp_walk using AutoSeq1.wpAny_loadPart' hl
  refine wpAny_stack_any λ_=>Gj ?_
  split
  ·rename_i c _ _ _ _ _
   cases (c == Value.type "enumerate") <;> (wp_walk using AutoSeq1.wpAny_loadPart' hl,wpAny_pyIter_tuple hT; exact⟨_,rfl,h⟩)
  ·wp_walk using AutoSeq1.wpAny_loadPart' hl,wpAny_pyIter_tuple hT
   exact⟨_,rfl,h⟩
section
variable {prog:Hq} {w:Ht} {A:Hr} {E:Hl->Hk->Prop} {s:Hk}
theorem rP {l:Hm} {xs:Hw Hl} {Q:Hl->Hk->Prop} (hL:s.heap.IsTuple l xs)
  (h:∀ h',IsEnum h' (s.heap.objs.size+1) s.heap.objs.size 0 .none->h'.get? s.heap.objs.size=some {cls:=.type "tuple_iterator",data:=.fields #[.ref l,.int 0 0]}->(∀ c o,s.heap.get? c=some o->h'.get? c=some o)->Q (.ref (s.heap.objs.size+1)) {s with heap:=h'}):
  wpAny (model prog w) A (call (.type "enumerate") [.ref l]) Q E s:=by
 obtain⟨⟨c,dct,dt,sl⟩,hl,hc,n,hd⟩:=hL;obtain rfl:c=.type "tuple":=hc
 obtain rfl:dt=.seq xs n:=hd;refine callType_new F.called_enumerate (by decide) (F.typeCall_enumerate_1 _) (F.newCall_enumerate_1 _) (λobj=>F.args_object_init_2 obj _) F.entry_enumerate_new (qZ l xs n dct sl) ⟨hl,?_⟩
 have z1:(zT s.heap "tuple_iterator" l).objs.size=s.heap.objs.size+1:=Hc ..
 have g5:=Gk (zT s.heap "tuple_iterator" l) (o:={cls:=.type "enumerate",data:=.fields #[.none,.bool false,.ref s.heap.objs.size,rawInt 0,.none,.none]}) rfl
 show _/\_
 rw [z1] at g5 ⊢;exact⟨⟨_,g5,rfl⟩,h _ g5 (Gi _ (Gk _ rfl)) λc o x=>Gi _ (Gi _ x)⟩
theorem sE {b:Hx} {l:Hm} {xs:Hw Hl} {Q:Hl->Hk->Prop} (hL:sqB b l xs s.heap)
  (h:∀ h',IsEnum h' (s.heap.objs.size+1) s.heap.objs.size 0 .none->A8 b s.heap.objs.size l 0 h'->(∀ c o,s.heap.get? c=some o->h'.get? c=some o)->Q (.ref (s.heap.objs.size+1)) {s with heap:=h'}):
  wpAny (model prog w) A (call (.type "enumerate") [.ref l]) Q E s:=by
 cases b with
 | true=>exact call_enumerate_list hL λh' a1 a2 _ a4=>h h' a1 a2 a4
 | false=>exact rP hL λh' a1 a2 a4=>h h' a1 ⟨_,a2,rfl,rfl⟩ a4
end
def DD (K:PySem.W.Frag) (ta:TA):TI:=fun σ H R=>ta σ H λvs H1=>∃ a b,vs=[.ref a]/\(∃ xs,oO b K H1 a xs)/\R (Dp K b a) H1
theorem yw {X:Cx} {a:Ho} {ta:TA} {p pos tp:Pos} {es:List Ho} {k:Nat} (hg:Gl X "enumerate") (hm:X.mg "enumerate"=none) (ha:PA X [a] ta) (hs:starEach [a] X.env=[(false,eval a X.env)]:=by rfl):
  PI X (.Tuple es k tp) (.Call (.Name "enumerate" p) [a] [] pos) (DD X.K ta):=by
 intro HA s σ H R I h;refine Call_ (lC I hg hm u8 (PyProof.Rows.callWith_type1 (bB (ha pos HA s σ H _ I h) λus s1 ⟨vs,H1,I1,r1,q1⟩=>?_) (by rw [hs]; rfl) rfl))
 obtain⟨a1,b,rfl,⟨xs,e1⟩,q⟩:=q1;cases r1 with
 | cons r rr=>
  cases rr;cases r;obtain⟨its,rv,p1⟩:=I1.sqB e1;have al:=sD p1;refine sE p1 λh' c1 c2 c3=>?_
  refine wpAny_pyIter_enum (s:={s1 with heap:=h'}) c1 ?_
  have fr:∀ j,H1 (s1.heap.objs.size+j)=none:=λj=>I1.hok.fresh (Nat.le_add_right _ _)
  refine⟨_,[s1.heap.objs.size+1,s1.heap.objs.size],_,_,H1,rfl,I1.kept (t':=s1.toks) c3,uY b (Nat.succ_ne_self _) (Nat.ne_of_gt (Nat.lt_succ_of_lt al)) (Nat.ne_of_gt al),⟨⟨_,c1⟩,c2⟩,λc hb=>?_,q⟩
  have hb':c=s1.heap.objs.size+1\/c=s1.heap.objs.size:=by simpa using hb
  rcases hb' with rfl | rfl
  ·exact I1.fpOk (Nat.le_add_right _ _) (fr 1)
  ·exact I1.fpOk (Gq _) (fr 0)
end L2
namespace DL
open PySem PySem.Spec PyProof.Rows L2
def kT:Nat->List D->List D
 | _,[]=>[]
 | j,d::r=>.tup [.int (j:Nat),d]::kT (j+1) r
theorem oK:∀ {ds:List D} {j i:Nat} {c:D},(kT j ds)[i]?=some c->∃ d,ds[i]?=some d/\c=.tup [.int ((j+i:Nat):Int),d]
 | [],_,_,_,h=>by cases h
 | d::r,j,0,c,h=>⟨d,rfl,(GS h).symm⟩
 | d::r,j,i+1,c,h=>by
  obtain⟨e,h1,h2⟩:=oK (ds:=r) (j:=j+1) (i:=i) h;exact⟨e,h1,by rw [h2,show j+1+i=j+(i+1) by omega]⟩
theorem oW:∀ {ds:List D} {j:Nat},(kT j ds).length=ds.length
 | [],_=>rfl
 | _::r,j=>congrArg (·+1) (oW (ds:=r) (j:=j+1))
theorem yC {K:Fg} {H1:Hp} {q:List D×Hn Hm} {a:Hm} {b:Hx} (y:∀ S2 H2,Kp H1 H2->Hs K H2 S2->eC q S2->∃ xs,oO b K H2 a xs/\IsDs K H2 q.1 xs):
  (∀ i d S2 H2,(kT 0 q.1)[i]?=some d->Kp H1 H2->Hs K H2 S2->eC q S2->(Dp K b a).go i H2/\∀ x H',(Dp K b a).yld i H2 x H'->Kp H2 H'/\Hs K H' S2/\bH K H' d x)/\
  ∀ S2 H2,Kp H1 H2->Hs K H2 S2->eC q S2->(Dp K b a).stop (kT 0 q.1).length H2:=by
 refine⟨λi c S2 H2 e k2 hS2 o2=>?_,λS2 H2 k2 hS2 o2=>?_⟩
 ·obtain⟨xs,w1,u1⟩:=y S2 H2 k2 hS2 o2;obtain⟨d,f1,rfl⟩:=oK e;obtain⟨v1,g1,r1⟩:=u1.get f1;refine⟨⟨xs,v1,w1,g1⟩,?_⟩;rintro x H' ⟨T,x',rfl,hT,rfl,al⟩;have l1:=al xs w1;rw [g1] at l1;cases l1;have kn:Kp H2 (bt H2 T (.tup [.int (i:Nat),v1])):=Kp.new hT;exact⟨kn,hS2.new hT,bC.mpr ⟨T,[.int (i:Nat),v1],rfl,jN.of bA,IsDs.cons (isInt.mpr (by rw [Nat.zero_add])) (IsDs.cons (r1.kp kn) IsDs.nil)⟩⟩
 ·obtain⟨xs,w1,u1⟩:=y S2 H2 k2 hS2 o2;refine⟨xs,w1,?_⟩;rw [<- u1.length,oW]
def AH (ta:DA) (g:DG) (b:DS):DS:=λM L S=>ta L S λds S1=>match ds with
 | [d]=>∃ q,aY S1 d=some q/\gH (eC q) g b M (kT 0 q.1) L S1
 | _=>False
section
variable {X:Cx} {a:Ho} {es:List Ho} {kt:Nat} {tp p pos pos':Pos} {gg:DG} {ta:DA} {g:DS} {body:List Hv}
theorem mO (hp:PassesOwn (model X.prog X.w) X.A X.env X.xe) (hc:X.calm=true) (hgl:Gl X "enumerate") (hm:X.mg "enumerate"=none) (ha:AJ X [a] ta) (hg:GJ X (.Tuple es kt tp) gg) (hb:tz X body g)
  (hs1:starEach [a] X.env=[(false,eval a X.env)]:=by rfl) (hs:∀ x,foldedSetIterable (.Call (.Name "enumerate" p) [a] [] pos') X.env x=pure x:=by intro _; rfl):
  SJ X (.For (.Tuple es kt tp) (.Call (.Name "enumerate" p) [a] [] pos') body [] pos) (AH ta gg g):=
 ⟨PS.imp (pf hp hc (yw hgl hm ha.h hs1) hg.h hb.h hs) λN σ H ⟨L,S,M,hL,hS,h,r⟩=>qB.go hL hS h λds S1 vs H1 h1 k1 hL1 hS1 i1=>by
  split at h1
  ·rename_i d1
   obtain⟨v1,rfl,j1⟩:=jm i1;obtain⟨q1,e1,h1⟩:=h1;obtain⟨a1,b1,rfl,x1,y1⟩:=sJ hS1 j1 e1;obtain⟨z1,z2⟩:=yC y1;exact⟨a1,b1,rfl,x1,oQ hL1 hS1 h1 (r.kp k1) z1 z2⟩
  ·exact h1.elim⟩
end
def CS:D2:=λd e S k=>match d,e with
 | .tup ds,.int i=>∃ c,L2.atI ds i=some c/\k c S
 | .rl ds,.int i=>∃ c,L2.atI ds i=some c/\k c S
 | .ref a,.int i=>∃ ds c,S a=some (.lst ds)/\L2.atI ds i=some c/\k c S
 | _,_=>False
theorem di {X:Cx}:vp X (jL X.K CS):=vp.imp Df (jL.imp λd e S k h=>by
 unfold CS at h
 split at h
 ·obtain⟨c,h1,h2⟩:=h;simp only [qA,h1];exact h2
 ·obtain⟨c,h1,h2⟩:=h;simp only [qA,h1];exact h2
 ·obtain⟨ds,c,h0,h1,h2⟩:=h;simp only [qA,h0,h1];exact h2
 ·exact h.elim)
theorem EJ.or {X:Cx} {e:Ho} {g h:DE} (a:EJ X e g) (b:EJ X e h):EJ X e (λL S k=>g L S k\/h L S k):=
 ⟨λHA s σ H Q I z9=>by obtain⟨L,S,k,hL,hS,q,n⟩:=z9; exact q.elim (λq=>a.h HA s σ H Q I ⟨L,S,k,hL,hS,q,n⟩) λq=>b.h HA s σ H Q I ⟨L,S,k,hL,hS,q,n⟩⟩
end DL
namespace HT
open PySem PyProof.Rows
theorem xD {prog:Hq} {w:Ht} {A:Hr} {E:Hl->Hk->Prop} {s:Hk} {t b:Hm} {ws:List Hl} {Q:Hl->Hk->Prop} (ht:IsTup s.heap t ([]:List Hl).toArray) (hb:IsTup s.heap b ws.toArray)
  (h0:Q (.ref b) s):wpAny (model prog w) A (binaryOp .Add (.ref t) (.ref b)) Q E s:=by
 obtain⟨⟨cls,dd,data,sl⟩,ho,hc,n,hd⟩:=id ht;obtain⟨⟨cls2,dd2,data2,sl2⟩,ho2,hc2,n2,hd2⟩:=id hb;simp only at hc hd hc2 hd2
 subst hc hd hc2 hd2;exact concat_meets ⟨_,ho,rfl⟩ ⟨_,ho2,rfl⟩ noFill_tuple_add seq_tuple_add PySem.F.slot_tuple_add PySem.F.entry_tuple_add (PySem.F.args_tuple_add_2 _ _)
   (tuple_addW0 t b ([]:List Hl).toArray ws.toArray n n2 dd dd2 sl sl2 (by simp)) ⟨ho,ho2,h0⟩
end HT
namespace L2
open PySem PySem.Spec PyProof.Rows
section
variable {X:Cx}
theorem xJ:gn X (binaryOp .Add) (λx y H Q=>∃ a b ys,x=.ref a/\y=.ref b/\jN X.K H a []/\jN X.K H b ys/\Q (.ref b) H):=by
 intro HA s σ H x y v u Q I rx ry h;obtain⟨a,b,ys,rfl,rfl,ha,hb,q⟩:=h;cases rx;cases ry;obtain⟨its,r1,p1,_⟩:=I.tuple ha;obtain⟨its2,r2,p2,_⟩:=I.tuple hb;have e:its=[]:=r1.nil_iff.mpr rfl;subst e;exact HT.xD p1 p2 ⟨.ref b,H,I,rfl,q⟩
end
end L2
namespace DL
open PySem PySem.Spec PyProof.Rows L2
def Ak:D2:=λd e S k=>match d,e with
 | .tup xs,.tup ys=>xs.length+ys.length<=sizeLine/\k (.tup (xs++ys)) S
 | d,e=>B5 d e S k
theorem xh {X:Cx}:gn X (binaryOp .Add) (jL X.K Ak):=by
 intro HA s σ H x y v u Q I rx ry h;obtain⟨d,e,S,k,i1,i2,hS,r,n⟩:=h;unfold Ak at r
 split at r
 ·rename_i xs ys
  obtain⟨hl,r⟩:=r
  by_cases h1:xs=[]
  ·subst h1;obtain⟨a,vs,rfl,t1,j1⟩:=bC.mp i1;obtain⟨b,us,rfl,t2,j2⟩:=bC.mp i2;have e:vs=[]:=by
    have:=j1.length;exact Hj.mp this.symm
   subst e;exact xJ HA s σ H _ _ v u Q I rx ry ⟨a,b,us,rfl,rfl,t1,t2,n _ S _ H r (Kp.refl H) hS i2⟩
  ·by_cases h2:ys=[]
   ·subst h2;obtain⟨a,vs,rfl,t1,j1⟩:=bC.mp i1;obtain⟨b,us,rfl,t2,j2⟩:=bC.mp i2;have e:us=[]:=by
     have:=j2.length;exact Hj.mp this.symm
    subst e;rw [GI] at r;exact uh HA s σ H _ _ v u Q I rx ry ⟨a,b,vs,[],rfl,rfl,t1,t2,lN j1 h1,by rw [<- j1.length]; exact hl,λ_=>n _ S _ H r (Kp.refl H) hS i1,λz=>absurd rfl z⟩
   ·exact dh HA s σ H x y v u Q I rx ry ⟨_,_,S,k,i1,i2,hS,⟨h1,h2,hl,r⟩,n⟩
 ·exact dh HA s σ H x y v u Q I rx ry ⟨_,_,S,k,i1,i2,hS,r,n⟩
end DL
namespace HT
open PySem PyProof.Rows
section
variable {prog:Hq} {w:Ht} {A:Hr} {E:Hl->Hk->Prop} {s:Hk}
theorem jK {t sl:Hm} {items:Hw Hl} {vl vu:Hl} {lo hi:Hn Int} {Q:Hl->Hk->Prop} (ht:IsTup s.heap t items) (hs:s.heap.IsSliceOf sl vl vu .none) (pl:IsPart vl lo) (pu:IsPart vu hi)
  (hw:cS items.size 0 lo=0/\cS items.size items.size hi=items.size) (h:Q (.ref t) s):wpAny (model prog w) A (getItem (.ref t) (.ref sl)) Q E s:=by
 obtain⟨os,hos,hcs,hds⟩:=id hs;have hTs:s.TypeIs (.ref sl) "slice":=⟨os,hos,hcs⟩
 unfold getItem
 try with_reducible refine GM ?_
 first | refine pp (Gj ?_) | skip
 refine pp (wpAny_sequenceKey ht.typeIs (by decide) ?_)
 refine pp (Hf (name:=Str.ofString "__getitem__") ht.typeIs PyProof.Rows.slot_tuple_getitem
  (G7 PyProof.Rows.slot_tuple_getitem ht.typeIs entry_tuple_getitem ?_ (args_tuple_getitem _ _)))
 show wpAny _ _ (Builtin.Tuple.tupleItemsOf (.ref t) >>= _) _ _ s
 refine pp (tupleItemsOf_ ht (pp (wpAny_typeOf hTs ?_)));rw [if_pos (by decide)]
 refine pp (hJ hs pl pu ?_);rw [hw.1,hw.2]
 show wpAny _ _ (if ((((0:Nat):Int) == 0) && (1:Int) == 1 && (items.size - 0) == items.size)=true then _ else _) _ _ s
 rw [if_pos (by simp)]
 refine pp (m:=Builtin.Tuple.tupleIsExact (.ref t)) (pp (wpAny_typeOf ht.typeIs (Gj ?_)));rw [if_pos (by decide)]
 first
  | exact Gj ⟨_,rfl,Gj h⟩
  | exact pp (Gj (Gj ⟨_,rfl,Gj h⟩))
  | (wp_walk; exact⟨_,rfl,Gj h⟩)
end
end HT
namespace L2
open PySem PySem.Spec PyProof.Rows
section
variable {X:Cx}
theorem zc:yc X (λx lo hi H Q=>∃ a xs,x=.ref a/\jN X.K H a xs/\(HT.cS xs.length 0 lo=0/\HT.cS xs.length xs.length hi=xs.length)/\Q (.ref a) H):=by
 intro HA s σ H x v vl vu lo hi sl Q I rx hs pl pu h;obtain⟨a,xs,rfl,hx,hw,q⟩:=h;cases rx;obtain⟨its,r,ht,hz⟩:=I.tuple hx;have hlen:its.toArray.size=xs.length:=by rw [Gv]; exact r.length.symm
 refine⟨"tuple",_,PyProof.Rows.slot_tuple_getitem.lookup,ht.typeIs,?_⟩
 exact HT.jK ht hs pl pu (by rw [hlen]; exact hw) ⟨.ref a,H,I,rfl,q⟩
end
end L2
namespace DL
open PySem PySem.Spec PyProof.Rows L2
def CK (g:DE) (tl th:yf):DE:=λL S k=>g L S λx S1=>tl L S1 λlo S2=>th L S2 λhi S3=>match x with
 | .tup xs=>k (.tup (eU xs lo hi)) S3
 | _=>False
theorem uQ {xs:List D} {lo hi:Hn Int} (h:HT.cS xs.length 0 lo=0/\HT.cS xs.length xs.length hi=xs.length):eU xs lo hi=xs:=by
 unfold eU;rw [h.1,h.2];simp
theorem jI {X:Cx} {e:Ho} {g:DE} {lo hi:Hn Ho} {tl th:yf} {p2 pos:Pos} (he:EJ X e g) (hl:OJ X lo tl) (hu:OJ X hi th):EJ X (.Subscript e (.Slice lo hi none p2) pos) (CK g tl th):=
 ⟨PE.imp (mZ (yc.or xN zc) he.h hl.h hu.h) fun σ H Q ⟨L,S,k,hL,hS,h,n⟩=>up.go hL hS h λd S1 v H1 h1 k1 hL1 hS1 i1=>by
  refine⟨L,S1,_,hL1,hS1,h1,λlo' S2 H2 h2 k2 hS2=>⟨L,S2,_,hL1.kp k2,hS2,h2,λhi' S3 H3 h3 k3 hS3=>?_⟩⟩
  cases d with
  | tup xs=>
   obtain⟨a,vs,rfl,t,j⟩:=bC.mp i1;have j3:=j.kp (k2.trans k3)
   by_cases hw:HT.cS xs.length 0 lo'=0/\HT.cS xs.length xs.length hi'=xs.length
   ·refine .inr ⟨a,vs,rfl,(k2.trans k3).tup t,by rw [<- j.length]; exact hw,?_⟩
    have h3:k (.tup (eU xs lo' hi')) S3:=h3;rw [uQ hw] at h3;exact n _ S3 _ _ h3 (k1.trans (k2.trans k3)) hS3 (bC.mpr ⟨a,vs,rfl,(k2.trans k3).tup t,j3⟩)
   ·refine .inl ⟨a,vs,rfl,(k2.trans k3).tup t,by rw [<- j.length]; exact hw,λp hp=>?_⟩
    have k4:Kp H3 (bt H3 p (.tup (ly vs lo' hi'))):=Kp.new hp;refine n _ S3 _ _ h3 (k1.trans (k2.trans (k3.trans k4))) (hS3.new hp) (bC.mpr ⟨p,_,rfl,jN.of bA,?_⟩);unfold eU ly;rw [j.length];exact((j3.drop _).take _).kp k4
  | _=>exact(show False from h3).elim⟩
end DL
set_option linter.all false
namespace DT
abbrev Mx:=Nat->Nat->Rat
def sg (n:Nat):Rat:=if n % 2=0 then 1 else -1
def cl (M:Mx) (a:Nat) (u:Nat->Rat):Mx:=λr c=>if c=a then u r else M r c
end DT
namespace PySem
open Sem (wp)
open Builtin DL
section
variable {prog:Hq} {w:Ht}
section
variable {A:Hr} {E:Hl->Hk->Prop} {s:Hk} {it d v:Hm} {es:Hw DictEntry} {i ep:Nat} {e:DictEntry} {ok ov:Hl}
inductive Ee where
 | k | v
def Ee.nm:Ee->Hy
 | .k=>"dict_keyiterator"
 | .v=>"dict_valueiterator"
def Ee.of (e:DictEntry):Ee->Hl
 | .k=>e.key
 | .v=>e.val
end
end
end PySem
namespace DL
open PySem PySem.Spec PyProof.Rows L2
abbrev FV:=Lo->DH->(List D->(DH->Prop)->DH->Prop)->Prop
end DL
namespace PySem
open Builtin DL
abbrev Sx:=Nat×Tok
end PySem
namespace ST
open PySem PySem.SetTable
def F4 (mask:Nat) (p:Probe):Probe:=
 if p.more > 0 then {p with j:=p.j+1,more:=p.more - 1} else {p with j:=(leap mask p.i p.perturb).1,more:=runEnd mask (leap mask p.i p.perturb).1 - (leap mask p.i p.perturb).1,i:=(leap mask p.i p.perturb).1,perturb:=(leap mask p.i p.perturb).2}
def FP (mask i pt:Nat):Probe:={j:=i,more:=runEnd mask i - i,i:=i,perturb:=pt,dummy:=none}
def sq (mask:Nat) (h:Int):Nat->Probe
 | 0=>FP mask (bits h % (mask+1)) (bits h)
 | n+1=>F4 mask (sq mask h n)
def lp (mask:Nat) (h:Int):Nat->Nat×Nat
 | 0=>(bits h % (mask+1),bits h)
 | n+1=>leap mask (lp mask h n).1 (lp mask h n).2
def F8 (mask:Nat):Prop:=mask=7\/mask=31\/mask=127
def Gd (xs:Hw Nat):Prop:=∀ i j:Nat,i < j->∀ a b:Nat,xs[i]?=some a->xs[j]?=some b->a < b
def On (t:SetTable) (j:Nat):Prop:=∃ i:Nat,t.place[i]?=some j
def FT (t:SetTable) (h:Int) (j:Nat):Prop:=∃ n,(sq t.mask h n).j=j/\∀ m,m < n->On t (sq t.mask h m).j
structure TI (t:SetTable) (hs:List Int):Prop where
 dm:t.dummies=#[]
 ris:Gd t.place
 sz:t.place.size=hs.length
 le:∀ j,On t j->j < t.mask+1
 msk:F8 t.mask
 way:∀ q∈t.place.toList.zip hs,FT t q.2 q.1
def FM (t:SetTable):Prop:=t.place.size*5 < t.mask*3
end ST
namespace ST
open PySem PySem.SetTable PySem.Spec
section
variable {prog:Hq} {w:Ht} {K:Type} [DecidableEq K] {knd:KeyKind prog w K} {A:Hr} {E:Hl->Hk->Prop} {s:Hk}
def ent (knd:KeyKind prog w K) (x:List K×Hm):Int×Hl:=(tupleKeyHash knd x.1,.ref x.2)
structure EO (knd:KeyKind prog w K) (h:Hu) (a:Hm) (o:Hz) (es:Hw (Int×Hl)) (ep:Nat) (t:SetTable) (xs:List (List K×Hm)):Prop where
 get:h.get? a=some o
 ex:o.ExactSet
 data:o.data=.set es ep t
 ent:es.toList=xs.map (ent knd)
 is:∀ x∈xs,IsTupleKey knd h x.1 x.2
 ti:TI t (xs.map λx=>tupleKeyHash knd x.1)
 lax:FM t
end
end ST
namespace ST
open PySem PySem.SetTable PySem.Spec PyProof.Rows
def D5 {α:Type} [DecidableEq α] (a:List α) (k:α):List α:=if k∈a then a else a++[k]
def dd {α:Type} [DecidableEq α] (l:List α):List α:=l.foldl D5 []
section
variable {prog:Hq} {w:Ht} {K:Type} [DecidableEq K] {knd:KeyKind prog w K} {A:Hr} {R:Result->Hk->Prop} {I:Hm} {fp wr:List Hm} {G:Hw GenState->Hw GenState->Prop} {n:Nat} {P:Nat->Hl->Prop} {St:Nat->Hk->Prop}
def Holds (knd:KeyKind prog w K) (h:Hu) (S:Hm) (V:Hm->Prop) (l:List (List K)):Prop:=∃ o es ep t xs,EO knd h S o es ep t xs/\xs.length=(dd l).length/\(∀ k,k∈xs.map (·.1)↔k∈dd l)/\∀ x∈xs,V x.2
end
end ST
namespace DL
open PySem PySem.Spec PyProof.Rows L2
theorem v_:bootBuiltins "range"=some (.type "range"):=by decide +kernel
end DL
namespace L2
open PySem PySem.Spec PyProof.Rows
abbrev Cx.still (X:Cx):Cx:={X with xe:=i8}
theorem av.still {X:Cx} {HA:List (Hm×Hz)} {σ:St} {H:Hp} {s:Hk} (I:av X HA σ H s):av X.still HA σ H s:=
 ⟨⟨I.ok.mod,I.ok.kind,I.ok.glob,I.ok.blt,I.ok.above,I.ok.inj,I.ok.has,I.ok.cab,I.ok.hd,I.ok.frames,I.ok.stk,I.ok.exf,I.ok.bs,I.ok.bsz,I.ok.noex,I.ok.exfs,I.ok.funs,I.ok.frf⟩,I.os,I.bare,I.base,I.loc,I.cell,I.free,I.freeC,I.pin,I.hok,I.len⟩
theorem av.unstill {X:Cx} {HA:List (Hm×Hz)} {σ:St} {H:Hp} {s:Hk} (I:av X.still HA σ H s):av X HA σ H s:=
 ⟨⟨I.ok.mod,I.ok.kind,I.ok.glob,I.ok.blt,I.ok.above,I.ok.inj,I.ok.has,I.ok.cab,I.ok.hd,I.ok.frames,I.ok.stk,I.ok.exf,I.ok.bs,I.ok.bsz,I.ok.noex,I.ok.exfs,I.ok.funs,I.ok.frf⟩,I.os,I.bare,I.base,I.loc,I.cell,I.free,I.freeC,I.pin,I.hok,I.len⟩
def XW (X:Cx) (HA:List (Hm×Hz)) (σ:St) (R:Hp->Prop) (E:XK) (e:Hl) (s':Hk):Prop:=∃ H1 s1,av X HA σ H1 s1/\R H1/\fm X.prog X.w X.stack H1 s1 E e s'
abbrev TX:=St->Hp->VK->(Hp->Prop)->Prop
def Ao (X:Cx) (E:XK) (e:Ho) (t:TX):Prop:=∀ (HA:List (Hm×Hz)) (s:Hk) (σ:St) (H:Hp) (Q:VK) (R:Hp->Prop),av X HA σ H s->t σ H Q R->wpAny (model X.prog X.w) X.A (eval e X.env) (EP X HA σ Q) (XW X HA σ R E) s
section
variable {X:Cx} {E:XK}
theorem Ao.imp {e:Ho} {t t':TX} (h:Ao X E e t) (i:∀ σ H Q R,t' σ H Q R->t σ H Q R):Ao X E e t':=λHA s σ H Q R I q=>h HA s σ H Q R I (i σ H Q R q)
theorem yN {fn:Str} {f:Hm} {fd:FuncData} {ps:List Str} {sp:Sp} {k:Nat} {e:Ho} {es:List Ho} {ta:TA} {fp cp:Pos}
  (F:aJ X.prog X.w X.K X.mg X.base (fm X.prog X.w) k f fd ps sp) (hr:ce k X.A) (hgf:Gl X fn) (hmf:X.mg fn=some (.ref f)) (hkf:PySem.W.keepIn X.K (.ref f)=true) (hb:gL X.K fd ps []) (ha:PA X.still (e::es) ta)
  (hdf:(fn == ("__debug__":Str))=false:=by decide) (he:starEach (e::es) X.env=(false,eval e X.env)::starEach es X.env:=by rfl) (hpl:(backTo cp (starEach es X.env)).any (·.1)=false:=by rfl):
  Ao X E (.Call (.Name fn fp) (e::es) [] cp) (fun σ H Q R=>ta σ H λvs H1=>R H1/\sp vs H1 Q E):=by
 intro HA s σ H Q R I h;refine wpAny_Call_Name_kw (ff I hgf hmf ?_ hdf);refine PySem.W.callWith_K (h₀:=X.base) I.ok.mod.kin hkf (GX (ha cp HA s σ H _ I.still h) (λus s1 ⟨vs,H1,I1,r,hR,q⟩=>?_) λ_ _ z=>z.elim) he hpl
 have I1:av X HA σ H1 s1:=I1.unstill;refine⟨I1.kIn,?_⟩;have r2:bb (vs++[]) (us++[]):=by rw [GI,GI]; exact r
 have q2:sp (vs++[]) H1 Q E:=by rw [GI]; exact q
 have hl:(us++[]).length=ps.length:=by rw [<- r2.length]; exact F.len _ _ _ _ q2
 refine wpAny_call (codeAny_mono (F.run X.A X.stack s1 H1 ⟨us,[]⟩ (us++[]) (vs++[]) _ E hr I1.env0 (hb s1 us I1.kIn hl) r2 q2) λr s' hq=>?_)
 cases r with
 | ok fl=>
  cases fl with
  | ret u=>exact I1.after hq
  | next=>exact False.elim hq
  | brk=>exact False.elim hq
  | cont=>exact False.elim hq
 | error e=>exact⟨H1,s1,I1,hR,hq⟩
def Eb (K:PySem.W.Frag) (E:XK) (cv:Hl) (te:TX) (k:me->St->VK) (t:TS):TS:=λD σ H=>(∀ c d0 H',E c d0 H'->PySem.W.exmOne K c cv=some true)/\
 ∃ R:Hp->Prop,te σ H (k D σ) R/\∀ H1 ea c d0 H' o,R H1->E c d0 H'->DL.Kp H1 H'->H' ea=none->o.cls=c->t D σ (bt H' ea (.frz o (.ext λ_=>True)))
end
end L2
namespace DL
open PySem PySem.Spec PyProof.Rows L2
def Gb (K:Fg) (g:DE):TX:=fun σ H Q R=>∃ L S k,Lc K H L σ/\Hs K H S/\g L S k/\(∀ d S' v H',k d S'->Kp H H'->Hs K H' S'->bH K H' d v->Q v H')/\∀ H1,Kp H H1->R H1
structure Fh (X:Cx) (ex:Er->DH->Prop) (e:Ho) (g:DE):Prop where
 h:Ao X (Gf X.K ex) e (Gb X.K g)
section
variable {X:Cx} {ex:Er->DH->Prop}
theorem rE {fn:Str} {n:Nat} {F:kP} {e:Ho} {es:List Ho} {ta:DA} {fp cp:Pos} (c:l6 X.prog X.w X.K X.mg X.base fn n F) (hr:ce n X.A) (hgf:Gl X fn) (ha:AJ X.still (e::es) ta)
  (hdf:(fn == ("__debug__":Str))=false:=by decide) (he:starEach (e::es) X.env=(false,eval e X.env)::starEach es X.env:=by exact bS rfl) (hpl:(backTo cp (starEach es X.env)).any (·.1)=false:=by exact fh rfl):
  Fh X ex (.Call (.Name fn fp) (e::es) [] cp) (wF F ex ta):=by
 obtain⟨g,fd,ps,F1,h1,h2,h3⟩:=c.ex;refine⟨Ao.imp (yN F1 hr hgf h1 h2 h3 ha.h hdf he hpl) fun σ H Q R ⟨L,S,k,hL,hS,h,n,hR⟩=>?_⟩
 refine qB.go hL hS h λds S1 vs H1 h1 k1 hL1 hS1 i1=>?_
 exact⟨hR H1 k1,ds,S1,k,ex,i1,hS1,h1,λd' S' v H' q k3 z1 z2=>n d' S' v H' q (k1.trans k3) z1 z2,λr' d0 S' H' z zs st=>⟨r',S',rfl,z,zs,st⟩⟩
def Dc (K:Fg) (cv:Hl) (g:(Er->DH->Prop)->DE) (i:Nat) (t:DS):DS:=λM L S=>g (λC S2=>PySem.W.exmOne K (.ref C.1) cv=some true/\t M L S2) L S λd S2=>M.nx (L.set i (some d)) S2
end
inductive CQ (K:Fg) (n:Str) (st:Hv) (f:Hm) (cd:Hl):Prop where
 | mk {oc kV doc pm ct:Hl} {od an:Hn Hm} {osl:Hw (Hn Hl)} (l:K.lookup f=some ⟨oc,od,.func (PySem.W.fnOf n n (c9 st) (bu st) (ai st) .none kV doc pm an cd ct),osl⟩):CQ K n st f cd
structure DI (K:Fg) (n:Str) (st:Hv) (f:Hm) (cd:Hl):Prop where
 a:PySem.W.nsIn K mainGlobals n=some (some (.ref f))
 x:CQ K n st f cd
 e:PySem.W.codeIn K cd n=true
 k:PySem.W.keepIn K (.ref f)=true
def Bd (n:Str) (st:Hv) (ps:List Str):Prop:=∀ (kV doc pm:Hl) (an:Hn Hm) (cdv ct:Hl) (us:List Hl),us.length=ps.length->bindArgs (PySem.W.fnOf n n (c9 st) (bu st) (ai st) .none kV doc pm an cdv ct) ⟨us,[]⟩=pure (ps.zip us)
theorem lc {us:List Hl} {n:Nat} (h:us.length=n+1):∃ u r,us=u::r/\r.length=n:=by
 cases us with
 | nil=>cases h
 | cons u r=>exact⟨u,r,rfl,Nat.succ.inj h⟩
theorem FD {n a1:Str} {st:Hv} (h:∀ (kV doc pm:Hl) (an:Hn Hm) (cdv ct u1:Hl),bindArgs (PySem.W.fnOf n n (c9 st) (bu st) (ai st) .none kV doc pm an cdv ct) ⟨[u1],[]⟩=pure (List.zip [a1] [u1])):Bd n st [a1]:=λ_ _ _ _ _ _ us hl=>by obtain⟨u1,us,rfl,h1⟩:=lc hl; cases Hj.mp h1; exact h _ _ _ _ _ _ u1
theorem FC {n a1 a2:Str} {st:Hv} (h:∀ (kV doc pm:Hl) (an:Hn Hm) (cdv ct u1 u2:Hl),bindArgs (PySem.W.fnOf n n (c9 st) (bu st) (ai st) .none kV doc pm an cdv ct) ⟨[u1,u2],[]⟩=pure (List.zip [a1,a2] [u1,u2])):Bd n st [a1,a2]:=λ_ _ _ _ _ _ us hl=>by obtain⟨u1,us,rfl,h1⟩:=lc hl; obtain⟨u2,us,rfl,h2⟩:=lc h1; cases Hj.mp h2; exact h _ _ _ _ _ _ u1 u2
theorem FA {n a1 a2 a3:Str} {st:Hv} (h:∀ (kV doc pm:Hl) (an:Hn Hm) (cdv ct u1 u2 u3:Hl),bindArgs (PySem.W.fnOf n n (c9 st) (bu st) (ai st) .none kV doc pm an cdv ct) ⟨[u1,u2,u3],[]⟩=pure (List.zip [a1,a2,a3] [u1,u2,u3])):Bd n st [a1,a2,a3]:=λ_ _ _ _ _ _ us hl=>by obtain⟨u1,us,rfl,h1⟩:=lc hl; obtain⟨u2,us,rfl,h2⟩:=lc h1; obtain⟨u3,us,rfl,h3⟩:=lc h2; cases Hj.mp h3; exact h _ _ _ _ _ _ u1 u2 u3
theorem FI {n a1 a2 a3 a4:Str} {st:Hv} (h:∀ (kV doc pm:Hl) (an:Hn Hm) (cdv ct u1 u2 u3 u4:Hl),bindArgs (PySem.W.fnOf n n (c9 st) (bu st) (ai st) .none kV doc pm an cdv ct) ⟨[u1,u2,u3,u4],[]⟩=pure (List.zip [a1,a2,a3,a4] [u1,u2,u3,u4])):Bd n st [a1,a2,a3,a4]:=λ_ _ _ _ _ _ us hl=>by obtain⟨u1,us,rfl,h1⟩:=lc hl; obtain⟨u2,us,rfl,h2⟩:=lc h1; obtain⟨u3,us,rfl,h3⟩:=lc h2; obtain⟨u4,us,rfl,h4⟩:=lc h3; cases Hj.mp h4; exact h _ _ _ _ _ _ u1 u2 u3 u4
inductive Bs (P:Hq) (w:Ht) (base:Hu):Prop where
 | mk:Bs P w base
section
variable {P:Hq} {w:Ht} {K:Fg} {mg:Str->Hn Hl} {base h:Hu} {n:Str} {st:Hv} {f:Hm} {cd:Hl} {ps:List Str} {k:Nat}
theorem DI.own {F:ca} (d:DI K n st f cd) (_:Bs P w base) (X:K.In h) (G:h.Ns mainGlobals mg) (ok:∀ fd,qz K n n st f fd->fd.code=cd->aJ P w K mg base cJ k f fd ps (cV K F))
  (hb:Bd n st ps:=by first | exact FD λ_ _ _ _ _ _ _=>rfl | exact FC λ_ _ _ _ _ _ _ _=>rfl | exact FA λ_ _ _ _ _ _ _ _ _=>rfl | exact FI λ_ _ _ _ _ _ _ _ _ _=>rfl | exact bd5 λ_ _ _ _ _ _ _ _ _ _ _=>rfl | exact bd6 λ_ _ _ _ _ _ _ _ _ _ _ _=>rfl | exact bd7 λ_ _ _ _ _ _ _ _ _ _ _ _ _=>rfl):aW P w K mg base n k F:=by
 obtain⟨lk⟩:=d.x;have Fn:=pV lk d.e d.k;exact aW.mk' Fn (ok _ Fn rfl) (PySem.W.mg_of X G d.a) (Fn.binds hb)
theorem DI.fn (d:DI K n st f cd) (hb:∀ (kV doc pm:Hl) (an:Hn Hm) (ct v:Hl),bindArgs (PySem.W.fnOf n n (c9 st) (bu st) (ai st) .none kV doc pm an cd ct) ⟨[v],[]⟩=pure [(("script":Str),v)]:=by exact λ_ _ _ _ _ _=>rfl):∃ fd:FuncData,qz K n n st f fd/\fd.code=cd/\∀ (s:Hk) (v:Hl),BindsTo s fd ⟨[v],[]⟩ [("script",v)]:=by
 obtain⟨lk⟩:=d.x;exact⟨_,pV lk d.e d.k,rfl,λs v=>.of_eq (hb _ _ _ _ _ v)⟩
theorem DI.ownX {F:kP} (d:DI K n st f cd) (_:Bs P w base) (X:K.In h) (G:h.Ns mainGlobals mg) (ok:∀ fd,qz K n n st f fd->aJ P w K mg base (fm P w) k f fd ps (wl K F))
  (hb:Bd n st ps:=by first | exact FD λ_ _ _ _ _ _ _=>rfl | exact FC λ_ _ _ _ _ _ _ _=>rfl | exact FA λ_ _ _ _ _ _ _ _ _=>rfl | exact FI λ_ _ _ _ _ _ _ _ _ _=>rfl | exact bd5 λ_ _ _ _ _ _ _ _ _ _ _=>rfl | exact bd6 λ_ _ _ _ _ _ _ _ _ _ _ _=>rfl | exact bd7 λ_ _ _ _ _ _ _ _ _ _ _ _ _=>rfl):l6 P w K mg base n k F:=by
 obtain⟨lk⟩:=d.x;have Fn:=pV lk d.e d.k;exact l6.mk' Fn (ok _ Fn) (PySem.W.mg_of X G d.a) (Fn.binds hb)
end
end DL
namespace L2
open PySem PySem.Spec PyProof.Rows
abbrev rY (h:Hu) (C:Hm) (vs:List Hl):Hu:=(h.push {cls:=.type "tuple",data:=.seq vs.toArray}).push {cls:=.ref C,data:=.fields #[.ref h.objs.size,.none,.none,.none,.bool false,.none]}
inductive gK (h:Hu) (bmB:List Hl) (n:Str):List Hl->Prop
 | base:gK h bmB n bmB
 | own {a:Hm} {c0:Hl} {dd:Hn Hm} {cd:ClassData} {sl:Hw (Hn Hl)} {m:Str->Hn Hl} {tl:List Hl}:h.get? a=some ⟨c0,dd,.cls cd,sl⟩->h.Ns cd.ns m->m n=none->gK h bmB n tl->gK h bmB n (.ref a::tl)
section
variable {prog:Hq} {w:Ht} {A:Hr} {E:Hl->Hk->Prop} {h:Hu} {g:Hw GenState} {d:Drawn} {t:Nat} {os:OsState}
variable {nm q:Str} {C N:Hm} {bs bm bmB:List Hl} {hdct:Hx} {sn:List Str} {sub:List Hl} {ab:Hx} {col:Hn Hx} {dd:Hn Hm} {k0 k1 k2 k3 k5:Hn Hl} {B newId initId:Hy} {mN:Str->Hn Hl}
theorem rX {M:Model} {n:Str} {tl:List Hl} {y:Hn Hl} {Q:Hn Hl->Hk->Prop} (T:gK h bmB n tl) (hr:lookupAlong bmB n=pure y) (hq:Q y ⟨h,g,d,t,os⟩):wpAny M A (lookupAlong tl n) Q E ⟨h,g,d,t,os⟩:=by
 induction T with
 | base=>rw [hr]; exact Gj hq
 | own a b c _ ih=>
  rw [lookupAlong_cons];refine pp (wpAny_classOwn_cls a b ?_);rw [c];exact ih
theorem nq {M:Model} {n:Str} {y:Hn Hl} {Q:Hn Hl->Hk->Prop} (hC:h.get? C=some (excClassObj nm q C N bs bm hdct sn sub ab col dd k0 k1 k2 k3 k5 newId)) (hn:h.Ns N mN) (T:gK h bmB n bm) (hm:mroOf (.type B)=pure bmB) (hB:typeLookup (.type B) n=pure y) (h0:mN n=none)
  (hq:Q y ⟨h,g,d,t,os⟩):wpAny M A (typeLookup (.ref C) n) Q E ⟨h,g,d,t,os⟩:=by
 rw [typeLookup_eq,hm] at hB;rw [typeLookup_eq];refine pp (wpAny_mroOf_exc hC ?_);rw [lookupAlong_cons];refine pp (wpAny_classOwn_exc hC hn ?_);rw [h0];exact rX T hB hq
theorem wR (F:ExcBaseFacts B newId initId bmB) (T:OwnTail h bmB bm) {vs:List Hl} {fI:Hm} {oI:Hz} {Q:Fin->Hk->Prop} (hC:h.get? C=some (excClassObj nm q C N bs bm hdct sn sub ab col dd k0 k1 k2 k3 k5 newId)) (hn:h.Ns N mN) (hi:mN "__init__"=some (.ref fI)) (hf:h.get? fI=some oI) (hc:oI.cls=.type "function")
  (hq:wpAny (model prog w) A (call (.ref fI) (.ref (h.objs.size+1)::vs)) (λr s'=>r=.none/\Q (.done (.ret (.ref (h.objs.size+1)))) s') E ⟨rY h C vs,g,d,t,os⟩) (hv:vs.length<=sizeLine):wpAny (model prog w) A (Builtin.«type.__call__» ⟨.ref C::vs,[]⟩) Q E ⟨h,g,d,t,os⟩:=by
 have kp:∀ b o,h.get? b=some o->(rY h C vs).get? b=some o:=λb o e=>Gi _ (Gi _ e)
 have C1:=kp _ _ hC;have f1:=kp _ _ hf;have n1:=hn.keeps kp;have T1:=T.keeps kp;have g1:(rY h C vs).get? (h.objs.size+1)=some {cls:=.ref C,data:=.fields #[.ref h.objs.size,.none,.none,.none,.bool false,.none]}:=by heap_get
 have cC:(Value.ref C::bm).contains (.ref C)=true:=by simp
 repeat (first | with_reducible refine wpAny_loadPart_at hC ?_ | with_reducible refine wpAny_madeBy_exc hC ?_ | wp_step)
 refine codeAny_call_builtin_code (Code.quiet_builtin _ F.quiet) (wpAny_check_new_subT F T hC (codeAny_exc_new_subT F T hC ?_ hv))
 show wpAny _ _ _ _ _ _
 unfold isInstance
 repeat (first | with_reducible refine wpAny_loadPart_at g1 ?_ | (with_reducible refine wpAny_isSubtype_exc C1 ?_; rw [cC]) | wp_step)
 show wpAny _ _ (typeLookup (.ref C) _) _ _ _
 refine wpAny_typeLookup_tail C1 n1 T1 F.mroIs F.init.lookup ?_;rw [hi];refine GM (pp ?_);unfold bindSpecial;refine pp (wpAny_typeOf (T:="function") ⟨_,f1,hc⟩ ?_)
 rw [if_pos (by decide)]
 refine Gj (pp (GX hq (λr s' hr=>?_) λ_ _ z=>z))
 obtain⟨rfl,hQ⟩:=hr
 wp_walk
 exact hQ
theorem vZ (F:ExcBaseFacts B newId initId bmB) (T:OwnTail h bmB bm) {vs:List Hl} {fI:Hm} {oI:Hz} {Q:Hl->Hk->Prop} (hC:h.get? C=some (excClassObj nm q C N bs bm hdct sn sub ab col dd k0 k1 k2 k3 k5 newId)) (hn:h.Ns N mN) (hi:mN "__init__"=some (.ref fI)) (hf:h.get? fI=some oI) (hc:oI.cls=.type "function")
  (hq:wpAny (model prog w) (A.under (.builtin "type.__call__" ⟨.ref C::vs,[]⟩)) (call (.ref fI) (.ref (h.objs.size+1)::vs)) (λr s'=>r=.none/\Q (.ref (h.objs.size+1)) s') E ⟨rY h C vs,g,d,t,os⟩) (hv:vs.length<=sizeLine):wpAny (model prog w) A (call (.ref C) vs) Q E ⟨h,g,d,t,os⟩:=by
 have f1:=tc_lookup;have f2:=tc_bind (.ref C);have hT:(⟨h,g,d,t,os⟩:Hk).TypeIs (.ref C) "type":=⟨_,hC,rfl⟩
 refine wpAny_call (codeAny_of_tree ?_)
 show wpAny _ _ (callAny (.ref C) _) _ _ _
 repeat (any_goals (first | assumption | with_reducible refine wpAny_loadPart_at hC ?_ | wp_step))
 exact⟨rfl,codeAny_call_builtin_at (Code.quiet_builtin _ (by decide +kernel)) entry_typeCall (wpAny_check_type_call_sub hC (wR F T hC hn hi hf hc hq hv))⟩
end
end L2
namespace L2
open PySem PySem.Spec PyProof.Rows Builtin Builtin.ObjectAttr
section
variable {prog:Hq} {w:Ht} {A:Hr} {E:Hl->Hk->Prop} {h:Hu} {g:Hw GenState} {d:Drawn} {t:Nat} {os:OsState}
variable {nm q:Str} {C N x:Hm} {bs bm bmB:List Hl} {sn:List Str} {sub:List Hl} {ab:Hx} {col:Hn Hx} {dd:Hn Hm} {k0 k1 k2 k3 k5:Hn Hl} {B newId sa owner:Hy} {mN:Str->Hn Hl} {name:Str} {v:Hl}
def qH (h:Hu) (e C:Hm) (vs:Hw Hl) (dd:Hn Hm):Prop:=∃ o,h.get? e=some o/\o.cls=.ref C/\o.data=.fields vs/\o.dict=dd
theorem qr {n what:Str} {self:Hl} {tl:List Hl} (T:gK h bmB n tl):refuseLoop self what tl=refuseLoop self what bmB:=by
 induction T with
 | base=>rfl
 | own _ _ _ _ ih=>rw [refuseLoop_ref,ih]
theorem ut {n:Str} {tl:List Hl} {X:Hy} {b:Hx} (T:gK h bmB n tl) (hb:bmB.contains (.type X)=b):tl.contains (.type X)=b:=by
 induction T with
 | base=>exact hb
 | own _ _ _ _ ih=>rw [List.contains_cons,ih]; rfl
theorem uw {M:Model} {o:Hz} {nv:Hl} {n:Str} {Q:Unit->Hk->Prop} (SF:StoreFacts B bmB sa owner) (T:gK h bmB n bm) (hC:h.get? C=some (excClassObj nm q C N bs bm true sn sub ab col dd k0 k1 k2 k3 k5 newId)) (hx:h.get? x=some o) (hc:o.cls=.ref C) (hq:Q () ⟨h,g,d,t,os⟩):
  wpAny M A (checkBuiltinCall sa ⟨[.ref x,nv,v],[]⟩) Q E ⟨h,g,d,t,os⟩:=by
 have cB:(Value.ref C::bm).contains (.type owner)=true:=by rw [List.contains_cons,ut T SF.hasOwner,Bool.or_true]
 have ao:=SF.args (.ref x) nv v;simp only [checkBuiltinCall,SF.kind,SF.split];refine pp ?_;unfold isInstance
 repeat (first | (with_reducible refine wpAny_loadPart_at hx ?_; rw [hc]) | (with_reducible refine wpAny_isSubtype_exc hC ?_; rw [cB]) | wp_step)
 cases sg:Manifest.signature? sa with
 | none=>exact Gj hq
 | some z=>
  simp only [argsOk,sg] at ao
  show wpAny M A (Bind.checkArgs sa z ⟨[.ref x,nv,v],[]⟩) Q E _
  rw [show Bind.checkArgs sa z ⟨[.ref x,nv,v],[]⟩=pure () from ao]
  exact Gj hq
theorem u7 {tk:Tok} {vs:Hw Hl} {o:Hz} {Q:Fin->Hk->Prop} (SF:StoreFacts B bmB sa owner) (hC:h.get? C=some (excClassObj nm q C N bs bm true sn sub ab col dd k0 k1 k2 k3 k5 newId)) (hn:h.Ns N mN) (T:gK h bmB name bm) (ha:mN name=none) (hB:typeLookup (.type B) name=pure none)
  (hx:h.get? x=some o) (hc:o.cls=.ref C) (hd:o.data=.fields vs) (h0:o.dict=none) (hq:∀ h' tk',qH h' x C vs (some h.objs.size)->h'.Ns1 h.objs.size (λy=>if y=name then some v else none)->(∀ b o,b≠x->h.get? b=some o->h'.get? b=some o)->Q (.done (.ret .none)) ⟨h',g,d,tk',os⟩):
  wpAny (model prog w) A (Builtin.«object.__setattr__» ⟨[.ref x,.str name tk,v],[]⟩) Q E ⟨h,g,d,t,os⟩:=by
 have pz:=(qr (self:=.ref x) (what:="__setattr__") T).trans (SF.passes (.ref x))
 have xs:x≠h.objs.size:=Gx (Go hx);have x1:(h.push {cls:=.type "dict",data:=.dict #[]}).get? x=some o:=Gi _ hx
 unfold Builtin.«object.__setattr__»
 repeat (first | rw [refuse_eq] | (rw [refuseLoop_ref,pz]) | (with_reducible refine wpAny_loadPart_at hx ?_; rw [hc]) | with_reducible refine wpAny_mroOf_exc hC ?_ | with_reducible refine nq hC hn T SF.mro hB ha ?_ | wp_step)
 rw [h0,if_neg (by simp [typeHasDict])]
 split
 ·rename_i z
  cases z
 split
 ·rename_i c z
  rw [hd] at z;cases z
 refine pp (wpAny_alloc' (pp (wpAny_update' x1 (Gj ?_))));generalize hh:((h.push {cls:=.type "dict",data:=.dict #[]}).update x λo=>{cls:=o.cls,dict:=some h.objs.size,data:=o.data,slots:=o.slots})=hu
 have gd:hu.get? h.objs.size=some {cls:=.type "dict",data:=.dict #[]}:=by rw [<- hh]; exact(Heap.get?_update_ne _ _ _ _ xs.symm).trans (Heap.get?_push_at rfl rfl)
 have gx:hu.get? x=some {cls:=o.cls,dict:=some h.objs.size,data:=o.data,slots:=o.slots}:=by
  rw [<- hh];refine G5 _ x1 ?_;rw [hd]
  rfl
 have nd:hu.Ns h.objs.size (λ_=>none):=⟨_,#[],_,gd,rfl,λe he=>absurd he (by simp),λ_=>rfl⟩
 show wpAny _ _ (storeInDict h.objs.size (.str name tk) name v) _ _ _
 unfold storeInDict newKeyGuard;refine pp (Gj (pp (wpAny_nsSet1 (Heap.Ns1.of_empty nd) λh' n' hs=>?_)))
 obtain⟨oD,eD,pD,gD,dD,cD⟩:=n'.count (Within.cons name v Within.nil);refine pp (wpAny_lookBehind gD (by rw [dD]; exact pastItsLine_dict (GZ cD (by rw [GC,List.length_nil,sizeLine_eq]; omega))) ?_)
 wp_walk
 refine hq h' _ ⟨_,(hs.2 x xs).trans gx,hc,hd,rfl⟩ n' λb ob nb e=>(hs.2 b (Gx (Go e))).trans ?_
 rw [<- hh];exact(Heap.get?_update_ne _ _ _ _ nb).trans (Gi _ e)
theorem xG {vs:Hw Hl} {o:Hz} {Q:Unit->Hk->Prop} (SF:StoreFacts B bmB sa owner) (hC:h.get? C=some (excClassObj nm q C N bs bm true sn sub ab col dd k0 k1 k2 k3 k5 newId)) (hn:h.Ns N mN) (T0:gK h bmB "__setattr__" bm) (T:gK h bmB name bm) (hs:mN "__setattr__"=none) (ha:mN name=none) (hB:typeLookup (.type B) name=pure none)
  (hx:h.get? x=some o) (hc:o.cls=.ref C) (hd:o.data=.fields vs) (h0:o.dict=none) (hq:∀ h' tk',qH h' x C vs (some h.objs.size)->h'.Ns1 h.objs.size (λy=>if y=name then some v else none)->(∀ b o,b≠x->h.get? b=some o->h'.get? b=some o)->Q () ⟨h',g,d,tk',os⟩):
  wpAny (model prog w) A (setAttr (.ref x) name v) Q E ⟨h,g,d,t,os⟩:=by
 have f3:=SF.slot.bind (.ref x);unfold setAttr callSpecial? specialOf
 repeat (any_goals (first | assumption | (with_reducible refine wpAny_loadPart_at hx ?_; rw [hc]) | with_reducible refine nq hC hn T0 SF.mro SF.slot.lookup hs ?_ | wp_step))
 refine codeAny_call_builtin SF.slot.plain SF.entry (uw SF T hC hx hc (u7 SF hC hn T ha hB hx hc hd h0 λh' tk' e1 e0 e2=>?_))
 repeat (any_goals (first | assumption | wp_step))
 exact hq h' tk' e1 e0 e2
end
end L2
namespace L2
open PySem PySem.Spec PyProof.Rows
def kJ (K:PySem.W.Frag) (bmB:List Hl) (n:Str):List Hl->Hx
 | []=>bmB == []
 | v::r=>((v::r) == bmB) || (match v with
  | .ref a=>(match K.lookup a with
   | some ⟨_,_,.cls cd,_⟩=>(PySem.W.nsOkIn K cd.ns && (PySem.W.nsIn K cd.ns n == some none)) && kJ K bmB n r
   | _=>false)
  | _=>false)
theorem nE {K:PySem.W.Frag} {h:Hu} {bmB:List Hl} {n:Str} (X:K.In h):∀ {l:List Hl},kJ K bmB n l=true->gK h bmB n l
 | [],e=>by
  have e:(bmB == [])=true:=e;rw [<- beq_iff_eq.mp e];exact .base
 | v::r,e=>by
  unfold kJ at e;rcases Bool.or_eq_true_iff.mp e with z | z
  ·rw [beq_iff_eq.mp z];exact .base
  ·split at z
   ·split at z
    ·rename_i y
     simp only [G3,beq_iff_eq] at z;exact .own (X _ _ y) (.of_isNs (PySem.W.isNs_of_in X z.1.1)) (PySem.W.nsMap_none_of_in X z.1.1 z.1.2) (nE X z.2)
    ·cases z
   ·cases z
theorem AC {K:PySem.W.Frag} {h:Hu} {N:Hm} {m:Str->Hn Hl} {n:Str} {v:Hl} (X:K.In h) (G:h.Ns N m) (e:PySem.W.nsIn K N n=some (some v)):m n=some v:=by
 obtain⟨o,es,ep,ho,hd,_,hf⟩:=G;unfold PySem.W.nsIn at e
 split at e
 ·rename_i z
  have y:=X _ _ z;rw [ho] at y;cases y;cases hd;rw [<- hf];unfold nsFind findBy;rw [<- Array.find?_toList]
  split at e
  ·rename_i u
   cases e;rw [u]
   rfl
  ·split at e <;> cases e
 ·cases e
def BN (K:PySem.W.Frag) (f:Hm):Hx:=match K.lookup f with
 | some o=>o.cls == .type "function"
 | none=>false
theorem CU {K:PySem.W.Frag} {f:Hm} (h:BN K f=true):∃ o,K.lookup f=some o/\o.cls=.type "function":=by
 unfold BN at h
 split at h
 ·rename_i o e
  exact⟨o,e,beq_iff_eq.mp h⟩
 ·cases h
def tX (K:PySem.W.Frag) (C:Hm) (bmB:List Hl) (newId:Hy) (fI:Hm) (n:Str):Hx:=match K.lookup C with
 | some ⟨.type "type",_,.cls cd,sl⟩=>(match cd.mro,sl.toList with
  | .ref C'::bm,[_,_,_,_,some (.builtin m),_]=>(C' == C) && ((m == newId) && ((!cd.hasDel) && (cd.hasDict && (PySem.W.tailIn K bmB bm && (kJ K bmB "__setattr__" bm && (kJ K bmB n bm && (PySem.W.nsOkIn K cd.ns && ((PySem.W.nsIn K cd.ns "__init__" == some (some (.ref fI))) && ((PySem.W.nsIn K cd.ns "__setattr__" == some none) && ((PySem.W.nsIn K cd.ns n == some none) && (BN K fI && (PySem.W.keepIn K (.ref C)))))))))))))
  | _,_=>false)
 | _=>false
structure Fp (K:PySem.W.Frag) (C:Hm) (bmB:List Hl) (newId:Hy) (fI:Hm) (n:Str):Prop where
 obj:∃ (tl:List Hl) (N:Hm) (nm q:Str) (bs:List Hl) (sn:List Str) (sub:List Hl) (ab:Hx) (col:Hn Hx) (dd:Hn Hm) (k0 k1 k2 k3 k5:Hn Hl),
  K.lookup C=some (excClassObj nm q C N bs tl true sn sub ab col dd k0 k1 k2 k3 k5 newId)/\(∃ oI,K.lookup fI=some oI/\oI.cls=.type "function")/\PySem.W.keepIn K (.ref C)=true/\∀ h:Hu,K.In h->∃ mN,h.Ns N mN/\mN "__init__"=some (.ref fI)/\mN "__setattr__"=none/\mN n=none/\OwnTail h bmB tl/\gK h bmB "__setattr__" tl/\gK h bmB n tl
theorem pH {K:PySem.W.Frag} {C:Hm} {bmB:List Hl} {newId:Hy} {fI:Hm} {n:Str} (q:tX K C bmB newId fI n=true):Fp K C bmB newId fI n:=by
 refine⟨?_⟩;unfold tX at q
 split at q
 ·rename_i d1 c1 sl hlk
  split at q
  ·rename_i C1 bm a0 a1 a2 a3 nn a5 hmro hsl
   simp only [G3,beq_iff_eq,Bool.not_eq_true'] at q;obtain⟨q1,q2,q3,q4,q5,q6,q7,q8,q9,q10,q11,q12,q13⟩:=q;subst q1 q2;obtain⟨v1,v2,v3,v4,v5,v6,v7,v8,v9,v10,v11⟩:=c1;dsimp only at hmro q3 q4 q8 q9 q10 q11
   subst hmro q3 q4;obtain⟨l⟩:=sl;simp only at hsl;subst hsl;exact⟨bm,v4,v1,v5,v2,v7,v8,v9,v10,d1,a0,a1,a2,a3,a5,hlk,CU q12,q13,λh X=>⟨_,.of_isNs (PySem.W.isNs_of_in X q8),AC X (.of_isNs (PySem.W.isNs_of_in X q8)) q9,PySem.W.nsMap_none_of_in X q8 q10,PySem.W.nsMap_none_of_in X q8 q11,PySem.W.tail_of_in X q5,nE X q6,nE X q7⟩⟩
  ·cases q
 ·cases q
section
variable {M:Model} {A:Hr} {E:Hl->Hk->Prop} {env:Env}
variable {nm q:Str} {C N:Hm} {bs bm:List Hl} {hdct:Hx} {sn:List Str} {sub:List Hl} {ab:Hx} {col:Hn Hx} {dd:Hn Hm} {k0 k1 k2 k3 k5:Hn Hl} {newId:Hy}
theorem uI {s:Hk} {x:Sem Hl} {Q:Flow->Hk->Prop} (hbase:bm.contains (.type "BaseException")=true) (hh:A.handled=none)
  (h:wpAny M A x (λv s1=>∃ e o vs,v=.ref e/\s1.heap.get? C=some (excClassObj nm q C N bs bm hdct sn sub ab col dd k0 k1 k2 k3 k5 newId)/\s1.heap.get? e=some o/\o.cls=.ref C/\o.data=.fields vs/\vs[1]?=some .none/\E (.ref e) s1) E s):wpAny M A (raiseStmt env (some x) none) Q E s:=by
 have cB:(Value.ref C::bm).contains (.type "BaseException")=true:=by rw [List.contains_cons,hbase,Bool.or_true]
 unfold raiseStmt;refine pp (GX h (λv s1 h1=>?_) λ_ _ z=>z)
 obtain⟨e,o,vs,rfl,hC,he,hc,hd,hv,hE⟩:=h1;obtain⟨hp,g,d,tk,os⟩:=s1
 repeat (first | (with_reducible refine wpAny_loadPart_at he ?_; rw [hc]) | with_reducible refine wpAny_loadPart_at hC ?_ | (with_reducible refine wpAny_isSubtype_exc hC ?_; rw [cB]) | with_reducible refine GY he hd hv ?_ | wp_step)
 exact wpAny_raiseNew_none hh hE
end
section
variable {P:Hq} {w:Ht} {K:PySem.W.Frag} {mg:Str->Hn Hl} {base:Hu} {N:List Str} {HB:Str} {scope:Scope} {f:Hm} {cd:Hl} {A:Hr} {outer:List Env} {s0:Hk} {H0:Hp} {E:XK}
abbrev k6 (P:Hq) (w:Ht) (K:PySem.W.Frag) (mg:Str->Hn Hl) (base:Hu) (N:List Str) (HB:Str) (scope:Scope) (f:Hm) (cd:Hl) (A:Hr) (outer:List Env) (s0:Hk) (H0:Hp) (E:XK):Cx:=bW (fm P w) P w K mg base N HB scope f cd A outer s0 H0 E
end
inductive qy (h:Hu):Hm->Hm->Prop
 | one {a b:Hm} {o:Hz} {vs:Hw Hl}:h.get? a=some o->o.data=.fields vs->vs[2]?=some (.ref b)->qy h a b
 | step {a b c:Hm} {o:Hz} {vs:Hw Hl}:h.get? a=some o->o.data=.fields vs->vs[2]?=some (.ref b)->qy h b c->qy h a c
theorem qy.snoc {h:Hu} {a b c:Hm} {o:Hz} {vs:Hw Hl} (x:qy h a b) (g:h.get? b=some o) (d:o.data=.fields vs) (v:vs[2]?=some (.ref c)):qy h a c:=by
 induction x with
 | one p q r=>exact .step p q r (.one g d v)
 | step p q r _ ih=>exact .step p q r (ih g)
theorem qy.next {h:Hu} {a c:Hm} (x:qy h a c):∃ b o vs,h.get? a=some o/\o.data=.fields vs/\vs[2]?=some (.ref b)/\(b=c\/qy h b c):=by
 cases x with
 | one p q r=>exact⟨_,_,_,p,q,r,.inl rfl⟩
 | step p q r y=>exact⟨_,_,_,p,q,r,.inr y⟩
theorem jY:entryFor table "proto.unchain"=some Builtin.«proto.unchain»:=entryFor_of_tree (by kernel_rfl)
section
variable {prog:Hq} {w:Ht} {A:Hr} {R:Result->Hk->Prop} {h B:Hu} {g:Hw GenState} {d:Drawn} {t:Nat} {os:OsState} {e:Hm}
theorem unchain (hB:B.StaysIn h) (ne:∀ a o,B.get? a=some o->a≠e) (hR:R (.ok (.ret .none)) ⟨h,g,d,t,os⟩) {v:Hl} (c:ig B v):∀ {cur sl:Hm} {tg:Hx} {o:Hz} {vs:Hw Hl},h.get? cur=some o->o.data=.fields vs->vs[2]?=some v->(tg=false->sl=cur\/qy h sl cur)->(tg=true->qy h sl cur)->
  codeAny (model prog w) A (.builtin "proto.unchain" ⟨[.ref e,.ref cur,.ref sl,.bool tg],[]⟩) R ⟨h,g,d,t,os⟩:=by
 induction c with
 | last=>
  intro cur sl tg o vs hc hd hv _ _;refine codeAny_builtin jY ?_;unfold Builtin.«proto.unchain»;refine pp (GY hc hd hv ?_)
  wp_walk
  exact hR
 | more ga gd gv cc ih=>
  rename_i a oa va v'
  intro cur sl tg o vs hc hd hv h1 h2;have ae:=ne _ _ ga;have ha:=hB _ _ ga;refine codeAny_builtin jY ?_;unfold Builtin.«proto.unchain»;refine pp (GY hc hd hv ?_);have z1:(Value.ref a == Value.none)=false:=rfl;have z2:(Value.ref a == Value.ref e)=false:=by simp [ae]
  simp only [z1,z2,Bool.false_eq_true,if_false]
  by_cases as:a=sl
  ·subst as;simp only [beq_self_eq_true,if_true]
   wp_walk
   exact hR
  ·have z3:(Value.ref a == Value.ref sl)=false:=by simp [as]
   simp only [z3,Bool.false_eq_true,if_false];cases tg with
   | false=>
    simp only [Bool.false_eq_true,if_false];refine pp (Gj ?_);refine Gj ⟨Code.quiet_builtin _ (by decide +kernel),ih ha gd gv (λz=>by cases z) λ_=>?_⟩
    rcases h1 rfl with rfl | y
    ·exact .one hc hd hv
    ·exact y.snoc hc hd hv
   | true=>
    obtain⟨b,ob,vb,x1,x2,x3,x4⟩:=(h2 rfl).next;simp only [if_true];refine pp (GY x1 x2 x3 ?_);refine Gj ⟨Code.quiet_builtin _ (by decide +kernel),ih ha gd gv (λ_=>?_) λz=>by cases z⟩
    rcases x4 with rfl | y
    ·exact .inr (.one hc hd hv)
    ·exact .inr (y.snoc hc hd hv)
end
theorem rH {X:Cx} {A':Hr} {HA:List (Hm×Hz)} {s:Hk} {σ:St} {H:Hp} {E:Hl->Hk->Prop} {Q:Hl->Hk->Prop} {i:Nat} {x:Str} {pos:Pos} {v:V} (I:av X HA σ H s) (hN:X.N[i]?=some x) (hv:qQ X.env.scope x) (hd:(x == ("__debug__":Str))=false) (hcd:(x == ("__classdict__":Str))=false) (e:σ[i]?=some (some v))
  (fin:∀ u,bh v u->Q u s):wpAny (model X.prog X.w) A' (eval (.Name x pos) X.env) Q E s:=by
 obtain⟨m,hn,hl⟩:=I.loc;obtain⟨u,r,l⟩:=hl i x v hN e hv;rcases l with ⟨hk,hm⟩ | ⟨hk,c,hc,hcell⟩
 ·exact wpAny_Name (wpAny_loadName_local I.ok.kind hk hn hm (fin u r)) hd
 ·rcases hk with hk | hk
  ·exact wpAny_Name (wpAny_loadName_cell I.ok.kind hk hc hcell (fin u r)) hd
  ·exact wpAny_Name (wpAny_loadName_free I.ok.kind hk hc hcell (fin u r) hcd) hd
structure xu (K:PySem.W.Frag) (C fI:Hm) (bmB:List Hl) (newId:Hy) (n y nmI HB:Str) (st:Hv) (fd:FuncData):Prop where
 fn:qz K nmI HB st fI fd
 sc:ar ["self",y] ["self",y] (ai st)
 body:∃ p1 p2 p3 pos,bu st=[.Assign [.Attribute (.Name "self" p1) n p2] (.Name y p3) pos]
 v1:qQ (ai st) "self"
 v2:qQ (ai st) y
 d2:(y == ("__debug__":Str))=false
 c2:(y == ("__classdict__":Str))=false
 ini:tX K C bmB newId fI n=true
theorem sP {P:Hq} {w:Ht} {K:PySem.W.Frag} {mg:Str->Hn Hl} {base:Hu} {C fI:Hm} {bmB:List Hl} {B newId sa owner:Hy} {n y nmI HB:Str} {st:Hv} {fd:FuncData} (F:xu K C fI bmB newId n y nmI HB st fd)
  (SF:StoreFacts B bmB sa owner) (hB:typeLookup (.type B) n=pure none) {A A':Hr} {outer:List Env} {h:Hu} {g:Hw GenState} {d:Drawn} {t:Nat} {os:OsState} {H:Hp} {e:Hm} {us:Hw Hl} {o:Hz} {v:V} {u:Hl} {R:Result->Hk->Prop} (hr:ce 1 A) (hA:A'.depth < recursionLimit) (e0:qV P w K mg base A outer ⟨h,g,d,t,os⟩ H)
  (bi:BindsTo ⟨h,g,d,t,os⟩ fd ⟨[.ref e,u],[]⟩ (([("self":Str),y]:List Str).zip [.ref e,u])) (r:bh v u) (he:h.get? e=some o) (hc:o.cls=.ref C) (hd:o.data=.fields us) (h0:o.dict=none)
  (q:∀ h' tk' dx u',qH h' e C us (some dx)->e < dx->h'.Ns1 dx (λy=>if y=n then some u' else none)->bh v u'->(∀ b o,b≠e->h.get? b=some o->h'.get? b=some o)->R (.ok (.ret .none)) ⟨h',g,d,tk',os⟩):codeAny (model P w) A' (.call (.ref fI) ⟨[.ref e,u],[]⟩) R ⟨h,g,d,t,os⟩:=by
 obtain⟨Ff,S,⟨p1,p2,p3,pos,hb⟩,v1,v2,d2,c2,hK⟩:=F;obtain⟨oc,od,kV,doc,pm,an,cdv,ct,osl,rfl,lk,hcd⟩:=Ff.ex;have KX:K.In h:=e0.mod.kin.keeps λb o e=>(e0.bs b o e).1
 have li:h.NoLimit:=e0.mod.nolimit.keeps λb o e=>(e0.bs b o e).1
 have hkind:∀ x∈([("self":Str),y]:List Str).zip [Value.ref e,u],(ai st).names.lookup x.1=some .local\/((ai st).names.lookup x.1=some .cell/\((cellsFrom (h.objs.size+1) (ai st).names []).lookup x.1).isSome=true):=λ⟨m,a⟩ hy=>by
  rcases S.par m (List.of_mem_zip hy).1 with k | k
  ·exact .inl k
  ·exact .inr ⟨k,PySem.W.cellsFrom_some _ _ _ (.inl k)⟩
 refine codeAny_call_function hA (KX _ _ lk) rfl S.co S.gen rfl (PySem.W.codeRec_of KX hcd) (bi _ _ _ _ ?_);refine wpAny_newFunctionEnv_cells S.kind hkind λenv he' s1 x=>?_
 subst he';refine⟨li.keeps x.toInCall.keep,codeAny_func ?_⟩;have rr:bb [V.ref e,v] [Value.ref e,u]:=.cons rfl (.cons r .nil);have I:av (bW cJ P w K mg base ["self",y] HB (ai st) fI cdv A outer ⟨h,g,d,t,os⟩ H E0) [] (start ["self",y] [V.ref e,v]) H s1:=oB S hr.hd e0 rfl rr x
 obtain⟨tl,N,nm,qn,bs,sn,sub,ab,col,dd,k0,k1,k2,k3,k5,lk,_,_,al⟩:=(pH hK).obj;have hC:=I.kIn _ _ lk;obtain⟨mN,hn,hi,hse,hna,T,T0,T1⟩:=al _ I.kIn;obtain⟨h1,tk,rfl,hk⟩:=x.done;have he1:=hk _ _ he
 show wpAny (model P w) _ (execs (bu st) _) _ _ _
 rw [hb];refine wpAny_execs_cons (plainObj_wpAny_Assign_Attribute (rH I (i:=1) rfl v2 d2 c2 rfl λu2 r2=>?_) rfl)
 refine rH I (i:=0) rfl v1 rfl rfl rfl λu1 r1=>?_
 cases (show u1=Value.ref e from r1)
 refine xG SF hC hn T0 T1 hse hna hB he1 hc hd h0 λh' tk' er en kp=>?_
 exact wpAny_execs_nil (q h' tk' _ _ er (Go he1) en r2 λb o nb gg=>kp b o nb (hk b o gg))
section
variable {prog:Hq} {w:Ht} {A:Hr} {E:Hl->Hk->Prop} {env:Env}
variable {nm q:Str} {C N:Hm} {bs bm:List Hl} {hdct:Hx} {sn:List Str} {sub:List Hl} {ab:Hx} {col:Hn Hx} {dd:Hn Hm} {k0 k1 k2 k3 k5:Hn Hl} {newId:Hy}
theorem sS {s:Hk} {x c:Sem Hl} {Q:Flow->Hk->Prop} {ea:Hm} (hbase:bm.contains (.type "BaseException")=true) (hh:A.handled=some (.ref ea)) (hc:∀ {Q:Hl->Hk->Prop} {s:Hk},Q .none s->wpAny (model prog w) A c Q E s)
  (h:wpAny (model prog w) A x (λv s1=>∃ e o vs,v=.ref e/\s1.heap.get? C=some (excClassObj nm q C N bs bm hdct sn sub ab col dd k0 k1 k2 k3 k5 newId)/\C≠e/\s1.heap.get? e=some o/\o.cls=.ref C/\o.data=.fields vs/\vs.size=6/\vs[1]?=some .none/\ea≠e/\
   (∃ (B:Hu) (oa:Hz) (va:Hw Hl) (w2:Hl),B.StaysIn s1.heap/\(∀ a o,B.get? a=some o->a≠e)/\s1.heap.get? ea=some oa/\oa.data=.fields va/\va[2]?=some w2/\ig B w2)/\
   ∀ h',qH h' e C (((vs.setIfInBounds 3 .none).setIfInBounds 4 (.bool true)).setIfInBounds 2 (.ref ea)) o.dict->(∀ b o,b≠e->s1.heap.get? b=some o->h'.get? b=some o)->E (.ref e) {s1 with heap:=h'}) E s):wpAny (model prog w) A (raiseStmt env (some x) (some c)) Q E s:=by
 have cB:(Value.ref C::bm).contains (.type "BaseException")=true:=by rw [List.contains_cons,hbase,Bool.or_true]
 unfold raiseStmt;refine pp (GX h (λv s1 h1=>?_) λ_ _ z=>z)
 obtain⟨e,o,vs,rfl,hC,Ce,he,hcl,hd,hz,hv,ae,⟨B,oa,va,w2,hB,hn,ga,da,a2,cx⟩,hE⟩:=h1;obtain⟨hp,g,d,tk,os⟩:=s1;refine pp (GM (hc ?_));have d1:=Obj.data_mapFields hd (·.setIfInBounds 3 Value.none);have e1:=G5 (Obj.mapFields (·.setIfInBounds 3 Value.none)) he (Obj.isFreed_of_fields d1);have d2:=Obj.data_mapFields d1 (·.setIfInBounds 4 (Value.bool true));have e2:=G5 (Obj.mapFields (·.setIfInBounds 4 (Value.bool true))) e1 (Obj.isFreed_of_fields d2)
 repeat (first | (with_reducible refine wpAny_loadPart_at he ?_; rw [hcl]) | with_reducible refine wpAny_loadPart_at hC ?_ | (with_reducible refine wpAny_isSubtype_exc hC ?_; rw [cB]) | wp_step)
 rw [hd];dsimp only;rw [if_pos (by omega)]
 have c1:(Obj.mapFields (·.setIfInBounds 3 Value.none) o).cls=.ref C:=(Obj.cls_mapFields _ _).trans hcl;have k2:(Obj.mapFields (·.setIfInBounds 4 (Value.bool true)) (Obj.mapFields (·.setIfInBounds 3 Value.none) o)).dict=o.dict:=(eL _ _).trans (eL _ _);have c2:(Obj.mapFields (·.setIfInBounds 4 (Value.bool true)) (Obj.mapFields (·.setIfInBounds 3 Value.none) o)).cls=.ref C:=(Obj.cls_mapFields _ _).trans c1;refine wpAny_update' he (pp (wpAny_setField e1 d1 (by rw [Array.size_setIfInBounds]; omega) ?_))
 have ot:∀ b,b≠e->((hp.update e (Obj.mapFields (·.setIfInBounds 3 Value.none))).update e (Obj.mapFields (·.setIfInBounds 4 (Value.bool true)))).get? b=hp.get? b:=λb nb=>(GR _ _ (Ne.symm nb)).trans (GR _ _ (Ne.symm nb))
 have C2:=(ot C Ce).trans hC;have v2:((vs.setIfInBounds 3 Value.none).setIfInBounds 4 (Value.bool true))[1]?=some .none:=by rw [Array.getElem?_setIfInBounds_ne (by decide),Array.getElem?_setIfInBounds_ne (by decide)]; exact hv
 generalize hh2:(hp.update e (Obj.mapFields (·.setIfInBounds 3 Value.none))).update e (Obj.mapFields (·.setIfInBounds 4 (Value.bool true)))=h2 at e2 ot C2 ⊢
 generalize ho2:Obj.mapFields (·.setIfInBounds 4 (Value.bool true)) (Obj.mapFields (·.setIfInBounds 3 Value.none) o)=o2 at e2 d2 c2 k2 ⊢
 repeat (first | (with_reducible refine wpAny_loadPart_at e2 ?_; rw [c2]) | with_reducible refine wpAny_loadPart_at C2 ?_ | (with_reducible refine wpAny_isSubtype_exc C2 ?_; rw [cB]) | with_reducible refine GY e2 d2 v2 ?_ | wp_step)
 have hB2:B.StaysIn h2:=λa o p=>(ot a (hn a o p)).trans (hB a o p)
 have ga2:=(ot ea ae).trans ga;refine pp (wpAny_handled ?_);rw [hh];dsimp only;rw [if_pos (by simp [ae])]
 refine pp (GM (wpAny_runValue (unchain hB2 hn ?_ cx ga2 da a2 (λ_=>.inl rfl) (λz=>by cases z))))
 have z2:((vs.setIfInBounds 3 Value.none).setIfInBounds 4 (Value.bool true)).size=6:=by rw [Array.size_setIfInBounds,Array.size_setIfInBounds]; exact hz
 have d3:=Obj.data_mapFields d2 (·.setIfInBounds 2 (Value.ref ea));have e3:=G5 (Obj.mapFields (·.setIfInBounds 2 (Value.ref ea))) e2 (Obj.isFreed_of_fields d3);have c3:(Obj.mapFields (·.setIfInBounds 2 (Value.ref ea)) o2).cls=.ref C:=(Obj.cls_mapFields _ _).trans c2;dsimp only;refine pp (wpAny_setField (a:=e) e2 d2 (by rw [z2]; decide) ?_)
 refine wpAny_throw (hE _ ⟨_,e3,c3,d3,(eL _ _).trans k2⟩ λb o nb g=>?_)
 exact(GR _ _ (Ne.symm nb)).trans ((ot b nb).trans g)
end
theorem ig.mono {B B':Hu} {v:Hl} (c:ig B v) (k:∀ a o vs,B.get? a=some o->o.data=.fields vs->B'.get? a=some o):ig B' v:=by
 induction c with
 | last=>exact .last
 | more ga gd gv _ ih=>exact .more (k _ _ _ ga gd) gd gv ih
section
variable {M:Model} {A A':Hr} {E E':Hl->Hk->Prop} {s:Hk} {B:Hu} {env:Env} {outer:List Env} {L e:Hm} {Q:Unit->Hk->Prop}
theorem mE {l:List Env} {cls a0 f0:Hl} (fr:Hn Hm) (x1:B.StaysIn s.heap) (x2:B.get? e=none) (x3:s.heap.FunFrames B l) (x4:s.heap.TracedAtW B e cls a0 f0) {dd:Hn Hm} (x5:wL B s.heap e dd)
  (hQ:∀ h',B.StaysIn h'->h'.FunFrames B l->h'.TracedAtW B e cls a0 (fr.elim Value.none λf=>rawInt f)->wL B h' e dd->s.heap.UpToSlots h'->Q () {s with heap:=h'}):wpAny M A (setFlight (.ref e) fr) Q E s:=by
 obtain⟨oe,vs,T,oT,ts,he,hc,hd,h1,nT,te,hT,dT,h3⟩:=x4;obtain⟨oc,vc,w2,gc,dc,c2,ok2,dk⟩:=x5;rw [he] at gc;cases gc;rw [hd] at dc;cases dc;have z3:3 < ts.size:=(Array.getElem?_eq_some_iff.mp h3).1;have ot:∀ b,b≠T->(s.heap.update T (Obj.mapFields (·.setIfInBounds 3 (fr.elim Value.none λf=>rawInt f)))).get? b=s.heap.get? b:=λb hb=>GR _ _ (Ne.symm hb)
 have nr:∀ b o,s.heap.get? b=some o->(∀ vs,o.data≠.fields vs)->b≠T:=λb o hb z y=>by
  rw [y,hT] at hb;cases hb;exact z ts dT
 unfold setFlight;refine pp (GY he hd h1 ?_);rw [if_pos (by simp)]
 have ge:=(ot e (Ne.symm te)).trans he;refine wpAny_setField hT dT z3 (hQ _ (λb o y=>(ot b λz=>by rw [z,nT] at y; cases y).trans (x1 b o y)) (x3.of_keeps λb o hb z=>⟨o,(ot b (nr b o hb z)).trans hb,rfl⟩) ?_ ⟨_,_,w2,ge,hd,c2,ok2,dk⟩ λb o hb z=>⟨o.slots,(ot b (nr b o hb z)).trans hb⟩)
 exact⟨oe,vs,T,_,_,ge,hc,hd,h1,nT,te,G5 _ hT (Obj.isFreed_of_fields (Obj.data_mapFields dT _)),Obj.data_mapFields dT _,by simp [z3]⟩
theorem xq {W:Hl->Hk->Prop} {oe:Hz} {vs:Hw Hl} {a0 v2:Hl} (hW:∀ s2,wpAny M A (leaving env (.ref e)) Q E s2->W (.ref e) s2) (hfr:A'.frames=some (env::outer)) (hl:s.heap.FunFrames B (env::outer)) (hf:env.frame=some L) (he:s.heap.get? e=some oe) (hk:B.StaysIn s.heap) (hn:B.get? e=none) (hd:oe.data=.fields vs) (h1:vs[1]?=some .none) (h0:vs[0]?=some a0) (h2:vs[2]?=some v2) (ok2:ig B v2)
  (hQ:∀ h',la B outer e oe.cls (a0,oe.dict) h'->s.heap.UpToSlots h'->Q () {s with heap:=h'}):wpAny M A' (noteFrame (.ref e) env) (λ_ s1=>cameBackBy M A env W (.ref e) s1) E' s:=by
 unfold noteFrame;simp only [hf];refine pp (GY he hd h1 ?_);rw [if_neg (by decide)]
 refine lb hfr hl hf he hk hn hd (Array.getElem?_eq_some_iff.mp h1).1 h0 h2 ok2 λh' ⟨x1,x2,x3,x4⟩ cx=>?_
 have x3':=x3;obtain⟨oe',vs',T,oT,ts,he',hc,hd',h1',nT,te,hT,dT,h3⟩:=x3';unfold cameBackBy;refine pp (GY he' hd' h1' ?_);rw [if_neg (by simp),hf]
 refine mE (some L) x1 hn x2 x3 cx λh3 y1 y2 y3 y4 y5=>?_
 refine hW _ ?_;unfold leaving;refine pp (wpAny_noteFrame_againW hf y3 ?_);exact g_ (s:={s with heap:=h3}) (a0:=(a0,oe.dict)) ⟨⟨y1,hn,y2,y3⟩,y4⟩ λh4 z2 u2=>hQ h4 (qd z2) (Heap.UpToSlots.trans x4 (Heap.UpToSlots.trans y5 u2))
end
section
variable {P:Hq} {w:Ht} {K:PySem.W.Frag} {mg:Str->Hn Hl} {base:Hu} {N:List Str} {HB:Str} {scope:Scope} {f:Hm} {cd:Hl} {A:Hr} {outer:List Env} {s0:Hk} {H0:Hp} {E:XK}
theorem ue {HA:List (Hm×Hz)} {σ:St} {H H3:Hp} {s s3:Hk} {C e:Hm} {a0:Hl×Hn Hm} {h':Hu} (I:av (k6 P w K mg base N HB scope f cd A outer s0 H0 E) HA σ H s) (I3:av (k6 P w K mg base N HB scope f cd A outer s0 H0 E) HA σ H3 s3) (h3:∀ b u,H b=some u->H3 b=some u) (n3:∀ b o,s.heap.get? b=some o->H b=none->H3 b=none) (He:H3 e=none)
  (ne:s.heap.get? e=none) (k3:∀ b o,s.heap.get? b=some o->s3.heap.get? b=some o) (fl:la (PySem.W.hideAll s3.heap (e::fo (k6 P w K mg base N HB scope f cd A outer s0 H0 E).stack)) outer e (.ref C) a0 h') (up:s3.heap.UpToSlots h') (q:E (.ref C) a0.2 H3):fm P w outer H0 s0 E (.ref e) {s3 with heap:=h'}:=by
 have bne:∀ b o,s.heap.get? b=some o->b≠e:=λb o z y=>by rw [y,ne] at z; cases z
 have hide:∀ b o,s.heap.get? b=some o->b∉fo (k6 P w K mg base N HB scope f cd A outer s0 H0 E).stack->(PySem.W.hideAll s3.heap (e::fo (k6 P w K mg base N HB scope f cd A outer s0 H0 E).stack)).get? b=some o:=λb o z hb=>PySem.W.hideAll_get _ (k3 b o z) λy=>by
  rcases Gw.mp y with y | y
  ·exact bne b o z y
  ·exact hb y
 refine s9 (sx:=s3) I (I3.os.trans I.os.symm) I3.bare fl (λb ob z=>?_) (λb o z n hb=>hide b o z hb) (λb o z hb=>⟨o,hide b o z hb⟩) (λb hb o z=>?_) n3 (λ_ _ z=>h3 _ _ z) (λ_ _ _ z=>h3 _ _ z) (λb ps z=>⟨#[],by rw [h3 _ _ z]; simp⟩) q
 ·have be:b≠e:=λy=>by rw [y,He] at z; cases z
  refine(I3.hok b ob z).stay (λc v hc y=>PySem.W.hideAll_get _ y λhf=>?_) (λ_ y=>y) λ_ _ y=>y
  rcases Gw.mp hf with rfl | hf
  ·rcases hc with rfl | hc
   ·exact be rfl
   ·rw [He] at hc; cases hc
  ·have hn:=I3.stkFree c hf;rcases hc with rfl | hc
   ·rw [hn] at z; cases z
   ·rw [hn] at hc; cases hc
 ·have hb':b∈fo (k6 P w K mg base N HB scope f cd A outer s0 H0 E).stack:=Gz _ hb;have e1:=k3 b o z;obtain⟨_,o2,e2,d2⟩:=I3.stack.mem hb';rw [e1] at e2;cases e2;exact up b _ e1 d2
end
theorem s_ {X:Cx} {HA:List (Hm×Hz)} {σ:St} {H:Hp} {h:Hu} {g:Hw GenState} {d:Drawn} {t:Nat} {os:OsState} {x ay yI n nmI qI:Str} {C fI:Hm} {bmB:List Hl} {B newId initId sa owner:Hy} {st:Hv} {fd:FuncData} {A':Hr} {j:Nat} {v:V} {np ap cpos:Pos} {Q:Hl->Hk->Prop} {W:Hl->Hk->Prop} (FB:ExcBaseFacts B newId initId bmB) (F:xu X.K C fI bmB newId n yI nmI qI st fd) (SF:StoreFacts B bmB sa owner) (hB:typeLookup (.type B) n=pure none) (hb:gL X.K fd ["self",yI] []) (hm:X.mg x=some (.ref C))
  (hr:ce 2 X.A) (hA:∀ c,(A'.under c).depth=(X.A.under c).depth) (I:av X HA σ H ⟨h,g,d,t,os⟩) (hx:∀ {Q:Hl->Hk->Prop},Q (.ref C) ⟨h,g,d,t,os⟩->wpAny (model X.prog X.w) A' (eval (.Name x np) X.env) Q W ⟨h,g,d,t,os⟩) (hN:X.N[j]?=some ay) (hv:qQ X.env.scope ay) (hd:(ay == ("__debug__":Str))=false) (hcd:(ay == ("__classdict__":Str))=false) (e1:σ[j]?=some (some v))
  (he:starEach [.Name ay ap] X.env=[(false,eval (.Name ay ap) X.env)])
  (hq:∀ h' tk' a dx u',h.get? (h.objs.size+1)=none->h.objs.size+1 < dx->h'.Ns1 dx (λy=>if y=n then some u' else none)->bh v u'->(∀ b o,h.get? b=some o->h'.get? b=some o)->qH h' (h.objs.size+1) C #[.ref a,.none,.none,.none,.bool false,.none] (some dx)->Q (.ref (h.objs.size+1)) ⟨h',g,d,tk',os⟩):
  wpAny (model X.prog X.w) A' (eval (.Call (.Name x np) [.Name ay ap] [] cpos) X.env) Q W ⟨h,g,d,t,os⟩:=by
 obtain⟨tl,Nn,nm,qn,bs,sn,sub,ab,col,dd,k0,k1,k2,k3,k5,lk,⟨oI,lI,cI⟩,kp,al⟩:=(pH F.ini).obj;obtain⟨mN,hn,hi,_,_,T,_,_⟩:=al _ I.kIn;refine wpAny_Call_Name_kw (hx ?_);refine PySem.W.callWith_K (h₀:=X.base) I.ok.mod.kin kp ?_ he rfl;rw [he]
 show wpAny _ _ (spliced [(false,eval (.Name ay ap) X.env)]) _ _ _
 refine Calls.spliced_cons (rH I hN hv hd hcd e1 λu r=>Calls.spliced_nil ⟨I.kIn,?_⟩)
 show wpAny _ _ (call (.ref C) [u]) _ _ _
 refine vZ FB T (I.kIn _ _ lk) hn hi (I.kIn _ _ lI) cI ?_ (GE rfl);have kk:∀ b o,h.get? b=some o->(rY h C [u]).get? b=some o:=λb o z=>Gi _ (Gi _ z)
 have g1:(rY h C [u]).get? (h.objs.size+1)=some {cls:=.ref C,data:=.fields #[.ref h.objs.size,.none,.none,.none,.bool false,.none]}:=by heap_get
 have I2:av X HA σ H ⟨rY h C [u],g,d,t,os⟩:=I.kept kk;have hr':=hr.make C [u] [];refine wpAny_call (sP F SF hB hr' ?_ (I2.env0.make C [u] []) (hb _ [.ref (h.objs.size+1),u] I2.kIn rfl) r g1 rfl rfl rfl λh' tk' dx u' er lt en ru kp=>⟨rfl,?_⟩)
 ·rw [hA]; exact hr'.depth
 ·have nw:h.get? (h.objs.size+1)=none:=Heap.get?_none_of_le (Nat.le_succ _);exact hq h' tk' _ dx u' nw lt en ru (λb o z=>kp b o (λy=>by rw [y,nw] at z; cases z) (kk b o z)) er
theorem yF {X:Cx} {HA:List (Hm×Hz)} {σ:St} {H:Hp} {s s':Hk} {E:XK} {e:Hl} (hex:X.ex=[]) (hst:X.stack=X.env::X.outer) (hf:X.env.frame=some X.env.locals) (I:av X HA σ H s) (h:fm X.prog X.w X.stack H s E e s') {Cn:Str} {cv:Hl} {p1 hp:Pos} {b0:Hv} {suite:List Hv} {Q:Flow->Hk->Prop}
  (hg:Gl X Cn) (hm:X.mg Cn=some cv) (hdb:(Cn == ("__debug__":Str))=false) (hx:∀ c d0 H',E c d0 H'->PySem.W.exmOne X.K c cv=some true)
  (k:∀ ea c d0 H' o s6 B vs v2,E c d0 H'->H' ea=none->o.cls=c->ea∉fo X.stack->o.data=.fields vs->vs[2]?=some v2->ig B v2->B.StaysIn s6.heap->s6.heap.get? ea=some o->av X HA σ (bt H' ea (.frz o (.ext λ_=>True))) s6->
   wpAny (model X.prog X.w) (X.A.mark (some (.ref ea))) (execs (b0::suite) X.env) Q (notedBy (model X.prog X.w) (X.A.mark (some (.ref ea))) X.env λx s2=>cameBackBy (model X.prog X.w) X.A X.env X.xe x s2) s6):
  wpAny (model X.prog X.w) X.A (noteFrame e X.env) (λ_ s2=>wpAny (model X.prog X.w) X.A (setFlight e none) (λ_ s3=>wpAny (model X.prog X.w) X.A (handleBy e X.env [.ExceptHandler (some (.Name Cn p1)) none (b0::suite) hp]) Q X.xe s3) X.xe s2) X.xe s':=by
 obtain⟨ea,cls,a0,H',B,rfl,os,bare,flc,hok,hB,hB2,un,q⟩:=h;have fl:=flc.1;have fr0:X.A.frames=some (X.env::X.outer):=by rw [<- hst]; exact I.ok.frames
 have fl0:la B (X.env::X.outer) ea cls a0 s'.heap:=by rw [<- hst]; exact flc
 refine lq fr0 hf fl0 λh4 held4 up4=>?_
 refine g_ held4 λh5 fl5 up5=>?_
 have up45:=up4.trans up5;have I5:=I.landed os bare fl (by rw [hst]; exact fl5.1) up45 hok hB hB2 un
 obtain⟨ob,hob,hobc⟩:=fl5.1.there;refine wpAny_handleBy_cons (codeAny_handlers_test (ff (X:=X.marked (.ref ea) i8) (I5.marked (.ref ea) _) hg hm ?_ hdb)) (by intro z; cases z)
 have LT:PySem.W.Looks (model X.prog X.w) h5 (typeOf (.ref ea)) cls:=by
  subst hobc;exact(PySem.W.Looks.ld hob).andThen .now
 refine PySem.W.exm_one I5.kIn LT (hx cls a0.2 H' q) _ _ _ _ (λ_ _ z=>z) ?_
 refine codeAny_handlers_suite ?_;refine mE none fl5.1.1 fl5.1.2.1 fl5.1.2.2.1 fl5.1.2.2.2.at fl5.2 λh6 y1 y2 y3 y4 up6=>?_
 have fl6:Heap.FlyingW B (X.env::X.outer) ea cls a0.1 h6:=⟨y1,fl5.1.2.1,y2,y3⟩;have I6:=I.landed os bare fl (by rw [hst]; exact fl6) (up45.trans up6) hok hB hB2 un
 obtain⟨o6,ho6,hc6⟩:=fl6.there;obtain⟨oc,vc,v2,gc,dc,c2,cx,_⟩:=y4;rw [ho6] at gc;cases gc;have nfr:ea∉fo X.stack:=λz=>by
  obtain⟨_,o2,e2,d2⟩:=fl.2.2.1.mem z;obtain⟨oe,vs,T,oT,ts,w1,w2,w3,w4⟩:=fl.2.2.2;rw [w1] at e2;cases e2;exact d2 _ w3
 have nB:B.get? ea=none:=fl.2.1;have nw:∀ b o,s.heap.get? b=some o->b≠ea:=λb o z y=>by
  subst y;obtain⟨o',z'⟩:=hB2 b o z nfr;rw [nB] at z';cases z'
 have hn:H' ea=none:=by
  cases y:H' ea with
  | none=>rfl
  | some u=>
   obtain⟨o',z'⟩:=(hok ea u y).there;rw [nB] at z';cases z'
 have h0:X.s₀.heap.get? ea=none:=by
  cases y:X.s₀.heap.get? ea with
  | none=>rfl
  | some u=>
   obtain⟨o',z'⟩:=I.base.there ea u y (by rw [hex]; simp)
   exact absurd rfl (nw ea o' z')
 have I7:=I6.freeze ho6 hn h0 (λz=>nfr (by rw [hst,z]; unfold fo; rw [List.filterMap_cons,hf]; exact Gy)) (λx c z=>by
  obtain⟨v,o,z2,_⟩:=I.cell x c z;exact nw c o z2) (λp z=>nw p.1 p.2 (I.pin p z).1)
 exact k ea cls a0.2 H' o6 _ B vc v2 q hn hc6 nfr dc c2 cx y1 ho6 I7
section
variable {P:Hq} {w:Ht} {K:PySem.W.Frag} {mg:Str->Hn Hl} {base:Hu} {N:List Str} {HB:Str} {scope:Scope} {f:Hm} {cd:Hl} {A:Hr} {outer:List Env} {s0:Hk} {H0:Hp} {E:XK}
def CM (E:XK) (C:Hm) (j:Nat) (n:Str):TS:=λ_ σ H=>∃ i,σ[j]?=some (some (.int i))/\∀ dx,H dx=none->E (.ref C) (some dx) (bt H dx (.xd [(n,.int i)]))
theorem Ar {P:Hq} {w:Ht} {H:Hp} {h:Hu} {dx:Hm} {n:Str} {v:V} {u:Hl} (x:h.Ns1 dx (λy=>if y=n then some u else none)) (r:bh v u):dg P w H h dx (.xd [(n,v)]):=by
 refine⟨_,x,λf=>?_⟩
 by_cases z:f=n
 ·subst z;rw [if_pos rfl]
  show wP (([(f,v)]:List (Str×V)).lookup f) (some u)
  rw [show ([(f,v)]:List (Str×V)).lookup f=some v by simp [List.lookup]]
  exact r
 ·rw [if_neg z]
  show wP (([(n,v)]:List (Str×V)).lookup f) none
  have zb:(f == n)=false:=by simpa using z
  have e:([(n,v)]:List (Str×V)).lookup f=none:=by
   show(match f == n with | true=>some v | false=>none)=none
   rw [zb]
  rw [e]
  trivial
theorem wt {stack:List Env} {h:Hu} {e:Hm}:∀ env∈stack,∀ b,env.frame=some b->b∈e::fo stack:=λenv he b hb=>Gz _ (List.mem_filterMap.mpr ⟨env,he,hb⟩)
theorem ux {x ay yI n nmI qI:Str} {C fI:Hm} {bmB:List Hl} {B newId initId sa owner:Hy} {st:Hv} {fd:FuncData} {j:Nat} {np ap cpos pos:Pos} (FB:ExcBaseFacts B newId initId bmB) (F:xu K C fI bmB newId n yI nmI qI st fd) (SF:StoreFacts B bmB sa owner) (hB:typeLookup (.type B) n=pure none) (hb:gL K fd ["self",yI] []) (hm:mg x=some (.ref C))
  (hr:ce 2 (k6 P w K mg base N HB scope f cd A outer s0 H0 E).A) (hg:Gl (k6 P w K mg base N HB scope f cd A outer s0 H0 E) x) (hN:N[j]?=some ay) (hv:qQ scope ay) (hdx:(x == ("__debug__":Str))=false:=by decide) (hd:(ay == ("__debug__":Str))=false:=by decide) (hcd:(ay == ("__classdict__":Str))=false:=by decide)
  (he:starEach [.Name ay ap] (k6 P w K mg base N HB scope f cd A outer s0 H0 E).env=[(false,eval (.Name ay ap) (k6 P w K mg base N HB scope f cd A outer s0 H0 E).env)]:=by rfl):
  PS (k6 P w K mg base N HB scope f cd A outer s0 H0 E) (.Raise (some (.Call (.Name x np) [.Name ay ap] [] cpos)) none pos) (CM E C j n):=by
 intro HA s σ H D I h;obtain⟨iv,e1,q⟩:=h;obtain⟨tl,Nn,nm,qn,bs,sn,sub,ab,col,dd,k0,k1,k2,k3,k5,lk,⟨oI,lI,cI⟩,kp,al⟩:=(pH F.ini).obj;obtain⟨_,_,_,_,_,T0,_,_⟩:=al _ I.kIn;rw [arm_exec_Raise];simp only [evalOpt,Option.map];refine pp (wpAny_standAt (uI (C:=C) (nm:=nm) (q:=qn) (N:=Nn) (bs:=bs) (bm:=tl) (hdct:=true) (sn:=sn) (sub:=sub) (ab:=ab) (col:=col) (dd:=dd) (k0:=k0) (k1:=k1) (k2:=k2) (k3:=k3) (k5:=k5) (newId:=newId) (T0.hasType FB.hasBase) (I.ok.hd rfl) ?_));obtain⟨hp,g,d,tk,os⟩:=s;refine pp (s_ FB F SF hB hb hm hr (λ_=>rfl) I (λz=>ff I hg hm z hdx) hN hv hd hcd e1 he λh' tk' a dx u' ne lt en ru kk er=>pp (wpAny_standAt (Gj ?_)))
 obtain⟨o,go,gc,gd,gk⟩:=er;have le:hp.objs.size<=dx:=by omega
 have I3:av (k6 P w K mg base N HB scope f cd A outer s0 H0 E) HA σ (bt H dx (.xd [(n,.int iv)])) ⟨h',g,d,tk',os⟩:=I.laid kk le (Ar en ru);have hx:H dx=none:=I.hok.fresh le;refine⟨_,o,_,rfl,I3.kIn _ _ lk,go,gc,gd,rfl,?_⟩
 show wpAny _ _ (leaving _ (.ref _)) _ _ _
 refine o_ (B:=PySem.W.hideAll h' ((hp.objs.size+1)::fo (k6 P w K mg base N HB scope f cd A outer s0 H0 E).stack)) I.ok.frames (PySem.W.funFrames_hide I3.stack (wt (h:=h'))) rfl go (λb o z=>PySem.W.of_hideAll _ z) (PySem.W.hideAll_none _ Gy) gd rfl rfl rfl .last λh2 fl up=>?_
 rw [gc,gk] at fl;exact ue I I3 (λb u z=>by rw [ax (λy=>by rw [y,hx] at z; cases z)]; exact z) (λb o z y=>by rw [ax (λw=>by have:=Go z; rw [w] at this; exact absurd (show dx < hp.objs.size from this) (by omega))]; exact y) (by rw [ax (Gx lt)]; exact I.hok.fresh (Nat.le_succ _)) ne kk fl up (q dx hx)
theorem zl {x0 Cn x ay yI n nmI qI:Str} {cv:Hl} {E':XK} {i k9:Nat} {e:Ho} {te:TX} {C fI:Hm} {bmB:List Hl} {B newId initId sa owner:Hy} {st:Hv} {fd:FuncData} {j:Nat} {xp xap p1 hp np ap cpos npos rpos pos:Pos} (hpe:Ao (k6 P w K mg base N HB scope f cd A outer s0 H0 E) E' e te) (FB:ExcBaseFacts B newId initId bmB) (F:xu K C fI bmB newId n yI nmI qI st fd) (SF:StoreFacts B bmB sa owner) (hB:typeLookup (.type B) n=pure none) (hb:gL K fd ["self",yI] []) (hm:mg x=some (.ref C))
  (hr:ce 2 (k6 P w K mg base N HB scope f cd A outer s0 H0 E).A) (hg:Gl (k6 P w K mg base N HB scope f cd A outer s0 H0 E) x) (hN:N[j]?=some ay) (hv:qQ scope ay) (hgC:Gl (k6 P w K mg base N HB scope f cd A outer s0 H0 E) Cn) (hmC:mg Cn=some cv) (hNd:N.Nodup) (hi:N[i]?=some x0) (hx0:xF scope x0)
  (hsw:swapsWith e (some (.Name x0 xp)) xap.line (k6 P w K mg base N HB scope f cd A outer s0 H0 E).env=pure false:=by rfl) (hdb:(Cn == ("__debug__":Str))=false:=by decide) (hdx:(x == ("__debug__":Str))=false:=by decide) (hd:(ay == ("__debug__":Str))=false:=by decide) (hcd:(ay == ("__classdict__":Str))=false:=by decide)
  (he:starEach [.Name ay ap] (k6 P w K mg base N HB scope f cd A outer s0 H0 E).env=[(false,eval (.Name ay ap) (k6 P w K mg base N HB scope f cd A outer s0 H0 E).env)]:=by rfl):
  PS (k6 P w K mg base N HB scope f cd A outer s0 H0 E) (.Try [.Assign [.Name x0 xp] e xap] [.ExceptHandler (some (.Name Cn p1)) none [.Raise (some (.Call (.Name x np) [.Name ay ap] [] cpos)) (some (.Constant .none k9 npos)) rpos] hp] [] [] pos) (Eb K E' cv te (λD σ v H=>D.nx (σ.set i (some v)) H) (CM E C j n)):=by
 intro HA s σ H D I h;obtain⟨hE,R,h,kk⟩:=h;refine wpAny_Try_except (wpAny_execs_cons (wpAny_Assign_Name (GX (hpe HA s σ H _ R I h) (λv s1 ⟨y,H1,I1,r1,q1⟩=>?_) λe s' z=>?_) hsw))
 ·exact eG I1 hNd hi hx0 r1 (λs2 I2=>wpAny_execs_nil (wpAny_execs_nil ⟨_,H1,I2,q1⟩)) (.inl rfl)
 obtain⟨H1,s1,I1,hR,hq⟩:=z;refine yF rfl rfl rfl I1 (DL.wJ hq) hgC hmC hdb (λc d0 H' z=>hE c d0 H' z.1) λea c d0 H' oa s6 B0 va v2 y1 y2 y3 nfr da a2 cx hB0 ga I6=>?_
 obtain⟨iv,e1,q⟩:=kk H1 ea c d0 H' oa hR y1.1 y1.2 y2 y3;obtain⟨tl,Nn,nm,qn,bs,sn,sub,ab,col,dd,k0,k1,k2,k3,k5,lk,⟨oI,lI,cI⟩,kp,al⟩:=(pH F.ini).obj;obtain⟨_,_,_,_,_,T0,_,_⟩:=al _ I6.kIn;refine wpAny_execs_cons ?_;rw [arm_exec_Raise];simp only [evalOpt,Option.map];refine pp (wpAny_standAt (sS (C:=C) (ea:=ea) (nm:=nm) (q:=qn) (N:=Nn) (bs:=bs) (bm:=tl) (hdct:=true) (sn:=sn) (sub:=sub) (ab:=ab) (col:=col) (dd:=dd) (k0:=k0) (k1:=k1) (k2:=k2) (k3:=k3) (k5:=k5) (newId:=newId) (T0.hasType FB.hasBase) rfl (λz=>?_) ?_))
 ·exact pp (wpAny_Constant_none (pp (wpAny_standAt (Gj z))))
 obtain⟨hp6,g,d,tk,os⟩:=s6;refine pp (s_ FB F SF hB hb hm hr (λ_=>rfl) I6 (λz=>ff (X:=(k6 P w K mg base N HB scope f cd A outer s0 H0 E).marked (.ref ea) i8) (I6.marked (.ref ea) _) hg hm z hdx) hN hv hd hcd e1 he λh' tk' a dx u' ne lt en ru k7 er=>pp (wpAny_standAt (Gj ?_)))
 obtain⟨o,go,gc,gd,gk⟩:=er;have I3:av (k6 P w K mg base N HB scope f cd A outer s0 H0 E) HA σ _ ⟨h',g,d,tk',os⟩:=I6.kept k7;have le:hp6.objs.size<=dx:=by omega
 have nB0:∀ a o,B0.get? a=some o->a≠hp6.objs.size+1:=λa o z y=>by
  have z:=hB0 a o z;rw [y] at z;exact absurd (z.symm.trans ne) (by simp)
 have nea:ea≠hp6.objs.size+1:=λy=>by
  rw [y] at ga;exact absurd (ga.symm.trans ne) (by simp)
 have lkC:=I3.kIn _ _ lk;have Cne:C≠hp6.objs.size+1:=λy=>by
  have z:=I6.kIn _ _ lk;rw [y] at z;exact absurd (z.symm.trans ne) (by simp)
 refine⟨_,o,_,rfl,lkC,Cne,go,gc,gd,rfl,rfl,nea,⟨B0,oa,va,v2,λb o z=>k7 b o (hB0 b o z),nB0,k7 _ _ ga,da,a2,cx⟩,λh8 er8 k8=>?_⟩
 have k9:∀ b o,hp6.get? b=some o->h8.get? b=some o:=λb o z=>k8 b o (λy=>by rw [y] at z; exact absurd (z.symm.trans ne) (by simp)) (k7 b o z)
 have en8:h8.Ns1 dx (λy=>if y=n then some u' else none):=en.at λob z=>k8 dx ob (Nat.ne_of_gt lt) z
 have I8:av (k6 P w K mg base N HB scope f cd A outer s0 H0 E) HA σ (bt _ dx (.xd [(n,.int iv)])) ⟨h8,g,d,tk',os⟩:=I6.laid k9 le (Ar en8 ru);have hx:=I6.hok.fresh le;obtain⟨o8,g8,c8,d8,dk8⟩:=er8;have nst:∀ a o vs,hp6.get? a=some o->o.data=.fields vs->a∉fo (k6 P w K mg base N HB scope f cd A outer s0 H0 E).stack:=λa o vs z y hf=>by
  obtain⟨_,o2,e2,d2⟩:=I6.stack.mem hf;rw [z] at e2;cases e2;exact d2 _ y
 have hid:∀ a o vs,hp6.get? a=some o->o.data=.fields vs->(PySem.W.hideAll h8 ((hp6.objs.size+1)::fo (k6 P w K mg base N HB scope f cd A outer s0 H0 E).stack)).get? a=some o:=λa o vs z y=>PySem.W.hideAll_get _ (k9 a o z) λhf=>by
  rcases Gw.mp hf with rfl | hf
  ·exact absurd (z.symm.trans ne) (by simp)
  ·exact nst a o vs z y hf
 show wpAny _ _ (noteFrame _ _) _ _ _
 refine xq (λ_ z=>z) (A':=(k6 P w K mg base N HB scope f cd A outer s0 H0 E).A.mark (some (.ref ea))) (B:=PySem.W.hideAll h8 ((hp6.objs.size+1)::fo (k6 P w K mg base N HB scope f cd A outer s0 H0 E).stack)) I6.ok.frames (PySem.W.funFrames_hide I8.stack (wt (h:=h8))) rfl g8 (λb o z=>PySem.W.of_hideAll _ z) (PySem.W.hideAll_none _ Gy) d8 rfl rfl rfl (.more (hid ea oa va ga da) da a2 (cx.mono λa o vs z y=>hid a o vs (hB0 a o z) y)) λh9 fl up=>?_
 rw [c8,dk8,gk] at fl;exact ue I6 I8 (λb u z=>by rw [ax (λy=>by rw [y,hx] at z; cases z)]; exact z) (λb o z y=>by rw [ax (λw=>by have:=Go z; rw [w] at this; exact absurd (show dx < hp6.objs.size from this) (by omega))]; exact y) (by rw [ax (Gx lt)]; exact I6.hok.fresh (Nat.le_succ _)) ne k9 fl up (q dx hx)
end
end L2
namespace DL
open PySem PySem.Spec PyProof.Rows L2
inductive DW (K:Fg) (q:Str) (st:Hv) (f:Hm) (cd:Hl):Prop where
 | mk {oc kV doc pm ct:Hl} {od an:Hn Hm} {osl:Hw (Hn Hl)} (l:K.lookup f=some ⟨oc,od,.func (PySem.W.fnOf "__init__" q (c9 st) (bu st) (ai st) .none kV doc pm an cd ct),osl⟩):DW K q st f cd
structure EI (K:Fg) (bmB:List Hl) (q n:Str) (st:Hv) (C f:Hm) (cd:Hl):Prop where
 b:PySem.W.findIn K (.ref C) "__init__"=some (some (.ref f))
 x:DW K q st f cd
 e:PySem.W.codeIn K cd q=true
 k:PySem.W.keepIn K (.ref f)=true
 i:tX K C bmB "ValueError.__new__" f n=true
structure xP (K:Fg) (mg:Str->Hn Hl) (x:Str) (C:Hm):Prop where
 ex:∃ (fI:Hm) (bmB:List Hl) (B newId initId sa owner:Hy) (yI nmI qI:Str) (st:Hv) (fd:FuncData),ExcBaseFacts B newId initId bmB/\xu K C fI bmB newId "step" yI nmI qI st fd/\StoreFacts B bmB sa owner/\typeLookup (.type B) "step"=pure none/\gL K fd ["self",yI] []/\mg x=some (.ref C)
theorem EI.err {K:Fg} {mg:Str->Hn Hl} {bmB:List Hl} {initId sa owner:Hy} {x q y:Str} {st:Hv} {C f:Hm} {cd:Hl} (d:EI K bmB q "step" st C f cd) (hm:mg x=some (.ref C)) (FB:ExcBaseFacts "ValueError" "ValueError.__new__" initId bmB) (SF:StoreFacts "ValueError" bmB sa owner) (sc:ar ["self",y] ["self",y] (ai st)) (body:∃ p1 p2 p3 pos,bu st=[.Assign [.Attribute (.Name "self" p1) "step" p2] (.Name y p3) pos])
  (hB:typeLookup (.type "ValueError") "step"=pure none) (v1:qQ (ai st) "self":=by exact .inl rfl) (v2:qQ (ai st) y:=by exact .inl rfl) (d2:(y == ("__debug__":Str))=false:=by decide) (c2:(y == ("__classdict__":Str))=false:=by decide)
  (hb:∀ (kV doc pm:Hl) (an:Hn Hm) (cdv ct u1 u2:Hl),bindArgs (PySem.W.fnOf "__init__" q (c9 st) (bu st) (ai st) .none kV doc pm an cdv ct) ⟨[u1,u2],[]⟩=pure (List.zip [("self":Str),y] [u1,u2]):=by exact λ_ _ _ _ _ _ _ _=>rfl):xP K mg x C:=by
 obtain⟨lk⟩:=d.x;have Fn:=pV lk d.e d.k;exact⟨f,bmB,_,_,initId,sa,owner,y,_,q,st,_,FB,⟨Fn,sc,body,v1,v2,d2,c2,d.i⟩,SF,hB,Fn.binds λ_ _ _ _ _ _ us hl=>match us,hl with | [u1,u2],_=>hb _ _ _ _ _ _ _ _,hm⟩
section
variable {P:Hq} {w:Ht} {K:Fg} {mg:Str->Hn Hl} {base:Hu} {N:List Str} {HB:Str} {scope:Scope} {f:Hm} {cd:Hl} {A:Hr} {outer:List Env} {s0:Hk} {H0:Hp} {E:XK} {ex:Er->DH->Prop}
def BB (ex:Er->DH->Prop) (C:Hm) (j:Nat):DS:=λ_ L S=>∃ i,L[j]?=some (some (.int i))/\ex (C,some i) S
theorem rg {x ay:Str} {C:Hm} {j:Nat} {np ap cpos pos:Pos} (hE:∀ r d0 S' H',ex r S'->Hs K H' S'->gW r.2 d0 H'->E (.ref r.1) d0 H') (q:xP K mg x C) (hr:ce 2 (bW (fm P w) P w K mg base N HB scope f cd A outer s0 H0 E).A)
  (hg:Gl (bW (fm P w) P w K mg base N HB scope f cd A outer s0 H0 E) x) (hN:N[j]?=some ay) (hv:qQ scope ay) (hdx:(x == ("__debug__":Str))=false:=by decide) (hd:(ay == ("__debug__":Str))=false:=by decide) (hcd:(ay == ("__classdict__":Str))=false:=by decide):
  SJ (bW (fm P w) P w K mg base N HB scope f cd A outer s0 H0 E) (.Raise (some (.Call (.Name x np) [.Name ay ap] [] cpos)) none pos) (BB ex C j):=by
 obtain⟨fI,bmB,B,newId,initId,sa,owner,yI,nmI,qI,st,fd,FB,F,SF,hB,hb,hm⟩:=q.ex;refine⟨PS.imp (ux FB F SF hB hb hm hr hg hN hv hdx hd hcd rfl) λ_ σ H ⟨L,S,_,hL,hS,⟨i,e,h⟩,_⟩=>?_⟩
 obtain⟨v,z,z2⟩:=hL.get e;have z3:=isInt.mp z2;subst z3;exact⟨i,z,λdx hx=>hE (C,some i) (some dx) S _ h (hS.new hx) λi' e'=>by cases e'; exact⟨dx,rfl,bA⟩⟩
theorem uL {x0 Cn x ay:Str} {cv:Hl} {i j k9:Nat} {e:Ho} {g:(Er->DH->Prop)->DE} {C:Hm} {xp xap p1 hp np ap cpos npos rpos pos:Pos} (hE:∀ r d0 S' H',ex r S'->Hs K H' S'->gW r.2 d0 H'->E (.ref r.1) d0 H') (q:xP K mg x C) (he:∀ ex,Fh (bW (fm P w) P w K mg base N HB scope f cd A outer s0 H0 E) ex e (g ex)) (hr:ce 2 (bW (fm P w) P w K mg base N HB scope f cd A outer s0 H0 E).A)
  (hg:Gl (bW (fm P w) P w K mg base N HB scope f cd A outer s0 H0 E) x) (hN:N[j]?=some ay) (hv:qQ scope ay) (hgC:Gl (bW (fm P w) P w K mg base N HB scope f cd A outer s0 H0 E) Cn) (hmC:mg Cn=some cv) (hNd:N.Nodup) (hi:N[i]?=some x0) (hx0:xF scope x0)
  (hsw:swapsWith e (some (.Name x0 xp)) xap.line (bW (fm P w) P w K mg base N HB scope f cd A outer s0 H0 E).env=pure false:=by rfl) (hdb:(Cn == ("__debug__":Str))=false:=by decide) (hdx:(x == ("__debug__":Str))=false:=by decide) (hd:(ay == ("__debug__":Str))=false:=by decide) (hcd:(ay == ("__classdict__":Str))=false:=by decide):
  SJ (bW (fm P w) P w K mg base N HB scope f cd A outer s0 H0 E) (.Try [.Assign [.Name x0 xp] e xap] [.ExceptHandler (some (.Name Cn p1)) none [.Raise (some (.Call (.Name x np) [.Name ay ap] [] cpos)) (some (.Constant .none k9 npos)) rpos] hp] [] [] pos) (Dc K cv g i (BB ex C j)):=by
 obtain⟨fI,bmB,B,newId,initId,sa,owner,yI,nmI,qI,st,fd,FB,F,SF,hB,hb,hm⟩:=q.ex;refine⟨λHA s σ H M0 I ⟨L,S,M,hL,hS,h,r⟩=>zl (he (λC' S2=>PySem.W.exmOne K (.ref C'.1) cv=some true/\BB ex C j M L S2)).h FB F SF hB hb hm hr hg hN hv hgC hmC hNd hi hx0 hsw hdb hdx hd hcd rfl HA s σ H M0 I ⟨?_,Kp H,⟨L,S,_,hL,hS,h,λd S' v H' q k1 hS' i1=>r.nx _ _ _ _ q k1 ((hL.kp k1).set i1 i) hS',λ_ z=>z⟩,?_⟩⟩
 ·rintro c d0 H' ⟨C',S',rfl,z,_⟩;exact z.1
 ·rintro H1 ea c d0 H' o k0 ⟨C',S',rfl,⟨_,i,e,z⟩,zs,_⟩ kp hn ho;obtain⟨v,z1,z2⟩:=hL.get e;have z3:=isInt.mp z2;subst z3;exact⟨i,z1,λdx hx=>hE (C,some i) (some dx) S' _ z ((zs.new hn).new hx) λi' e'=>by cases e'; exact⟨dx,rfl,bA⟩⟩
end
def CW (g:DE) (tl th:yf):DE:=λL S k=>g L S λx S1=>tl L S1 λlo S2=>th L S2 λhi S3=>match x with
 | .ref a=>∃ xs,S3 a=some (.lst xs)/\∀ p,S3 p=none->k (.ref p) (put S3 p (.lst (eU xs lo hi)))
 | _=>False
theorem mj {X:Cx} {e:Ho} {g:DE} {lo hi:Hn Ho} {tl th:yf} {p2 pos:Pos} (he:EJ X e g) (hl:OJ X lo tl) (hu:OJ X hi th):EJ X (.Subscript e (.Slice lo hi none p2) pos) (CW g tl th):=
 ⟨PE.imp (mZ tD he.h hl.h hu.h) fun σ H Q ⟨L,S,k,hL,hS,h,n⟩=>up.go hL hS h λd S1 v H1 h1 k1 hL1 hS1 i1=>by
  refine⟨L,S1,_,hL1,hS1,h1,λlo' S2 H2 h2 k2 hS2=>⟨L,S2,_,hL1.kp k2,hS2,h2,λhi' S3 H3 h3 k3 hS3=>?_⟩⟩
  cases d with
  | ref a=>
   have e1:=b_.mp i1;subst e1;obtain⟨xs,z,h3⟩:=h3;obtain⟨vs,hl,j⟩:=hS3.lst z;refine⟨a,vs,rfl,ir.of hl,λp hp=>?_⟩
   refine n _ _ _ _ (h3 p (hS3.free hp)) (k1.trans (k2.trans (k3.trans (Kp.new hp)))) (hS3.newL hp ?_) (b_.mpr rfl);unfold eU ly;rw [j.length];exact(j.drop _).take _
  | _=>exact(show False from h3).elim⟩
def oD:Hn Hm->D
 | none=>.non
 | some l=>.ref l
def zu (i j:Int):Prop:=0<=j/\(Builtin.Int.intBits i:Int)+j<=2 ^ 27
abbrev CV:D2:=AV zu λi j=>.int (i*2 ^ j.toNat)
theorem Bc {X:Cx}:gn X (binaryOp .LShift) (jL X.K CV):=uD (C:=zu) (gV:=λi j=>.int (i*2 ^ j.toNat)) (Co (C:=zu) λ_ _ _ _ _ _ _ hc q=>lshift_int hc.1 hc.2 q) λ_ _ _=>isInt.mpr rfl
end DL
namespace L2
open PySem PySem.Spec PyProof.Rows
structure mY (K:PySem.W.Frag) (C:Hm) (n:Str):Prop where
 ga:PySem.W.findIn K (.ref C) "__getattribute__"=some (some (.builtin "BaseException.__getattribute__"))
 gt:PySem.W.findIn K (.ref C) "__getattr__"=some none
 nn:PySem.W.findIn K (.ref C) n=some none
 sb:PySem.W.subIn K (.ref C) (.type "BaseException")=some true
section
variable {prog:Hq} {w:Ht} {A:Hr} {E:Hl->Hk->Prop} {h:Hu} {g:Hw GenState} {d:Drawn} {t:Nat} {os:OsState} {a C dx:Hm} {o:Hz} {K:PySem.W.Frag} {n:Str} {m:Str->Hn Hl} {oC:Hz} {cd:ClassData} {iv:Int} {it:Tok}
theorem uG {tk:Tok} {vs:Hw Hl} {Q:Fin->Hk->Prop} (X:K.In h) (c:mY K C n) (hx:h.get? a=some o) (hc:o.cls=.ref C) (hC:h.get? C=some oC) (hcd:oC.data=.cls cd) (hhd:cd.hasDict=true) (hf:o.data=.fields vs) (hd:o.dict=some dx) (hn:h.Ns dx m) (hv:m n=some (.int iv it)) (hq:Q (.done (.ret (.int iv it))) ⟨h,g,d,t,os⟩):
  wpAny (model prog w) A (Builtin.«object.__getattribute__» ⟨[.ref a,.str n tk],[]⟩) Q E ⟨h,g,d,t,os⟩:=by
 have L:=PySem.W.looks_findIn (M:=model prog w) X c.nn
 repeat (any_goals (first | assumption | (with_reducible refine wpAny_loadPart_at hx ?_; rw [hc]) | with_reducible refine L.at ?_ | wp_step))
 rw [hf];dsimp only;unfold instanceDict
 repeat (any_goals (first | assumption | (with_reducible refine wpAny_loadPart_at hx ?_; rw [hd]) | wp_step))
 rw [hc];dsimp only;unfold classData
 repeat (any_goals (first | assumption | (with_reducible refine wpAny_loadPart_at hC ?_) | wp_step))
 rw [hcd];refine Gj ?_;rw [hhd];refine Gj ?_;unfold Builtin.ObjectAttr.inDict;refine wpAny_nsGet hn ?_;rw [hv]
 repeat (any_goals (first | assumption | wp_step))
theorem uu {M:Model} {nameV:Hl} {Q:Unit->Hk->Prop} (X:K.In h) (c:mY K C n) (hx:h.get? a=some o) (hc:o.cls=.ref C) (hq:Q () ⟨h,g,d,t,os⟩):
  wpAny M A (checkBuiltinCall "BaseException.__getattribute__" ⟨[.ref a,nameV],[]⟩) Q E ⟨h,g,d,t,os⟩:=by
 have hk:builtinKind "BaseException.__getattribute__"=some .slot:=by decide +kernel
 have hsplit:splitId "BaseException.__getattribute__"=some ("BaseException","__getattribute__"):=by decide +kernel
 have L:=PySem.W.looks_subIn (M:=M) X c.sb;have ha:=F.args_bexc_ga (.ref a) nameV;simp only [checkBuiltinCall,hk,hsplit];refine pp ?_;unfold isInstance
 repeat (first | (with_reducible refine wpAny_loadPart_at hx ?_; rw [hc]) | with_reducible refine L.at ?_ | wp_step)
 exact hq
theorem AR {tk:Tok} {fill expr:Hx} {vs:Hw Hl} {Q:Hl->Hk->Prop} (X:K.In h) (c:mY K C n) (hx:h.get? a=some o) (hc:o.cls=.ref C) (hC:h.get? C=some oC) (hcd:oC.data=.cls cd) (hhd:cd.hasDict=true) (hf:o.data=.fields vs) (hd:o.dict=some dx) (hn:h.Ns dx m) (hv:m n=some (.int iv it)) (hq:Q (.int iv it) ⟨h,g,d,t,os⟩):
  wpAny (model prog w) A (getAttrBy (.ref a) (.str n tk) fill expr) Q E ⟨h,g,d,t,os⟩:=by
 have f3:=F.excAttr_ValueError.ga.bind (.ref a);have hx0:(expr && onTheHeap (Value.builtin "BaseException.__getattribute__"))=false:=by cases expr <;> rfl
 have hx2:(Value.builtin "BaseException.__getattribute__" == Value.builtin "object.__getattribute__")=false:=by decide +kernel
 have hx1:(onTheHeap (Value.ref C) && Value.builtin "BaseException.__getattribute__" == Value.builtin "object.__getattribute__")=false:=by rw [hx2]; rfl
 have L1:=PySem.W.looks_findIn (M:=model prog w) X c.ga;have L2:=PySem.W.looks_findIn (M:=model prog w) X c.gt
 repeat (any_goals (first | assumption | (with_reducible refine wpAny_loadPart_at hx ?_; rw [hc]) | with_reducible refine L1.at ?_ | with_reducible refine L2.at ?_ | wp_step))
 refine codeAny_call_builtin F.excAttr_ValueError.ga.plain F.entry_bexc_ga (uu X c hx hc (uG X c hx hc hC hcd hhd hf hd hn hv ?_))
 repeat (any_goals (first | assumption | wp_step))
theorem vz {expr:Hx} {vs:Hw Hl} {Q:Hl->Hk->Prop} (X:K.In h) (c:mY K C n) (hx:h.get? a=some o) (hc:o.cls=.ref C) (hC:h.get? C=some oC) (hcd:oC.data=.cls cd) (hhd:cd.hasDict=true) (hf:o.data=.fields vs) (hd:o.dict=some dx) (hn:h.Ns dx m) (hv:m n=some (.int iv it)) (hq:Q (.int iv it) ⟨h,g,d,t+1,os⟩):
  wpAny (model prog w) A (getAttr (.ref a) n expr) Q E ⟨h,g,d,t,os⟩:=by
 unfold getAttr
 repeat (any_goals (first | assumption | with_reducible apply AR X c hx hc hC hcd hhd hf hd hn hv | wp_step))
end
section
variable {X:Cx} {HA:List (Hm×Hz)} {σ:St} {H:Hp} {s s':Hk} {E:XK}
theorem zn {e:Hl} (hex:X.ex=[]) (hst:X.stack=X.env::X.outer) (hf:X.env.frame=some X.env.locals) (I:av X HA σ H s) (h:fm X.prog X.w X.stack H s E e s') {C1 C2 n:Str} {c1 c2:Hl} {p1 p2 hp1 hp2:Pos} {b0 b1:Hv} {su1 su2:List Hv} {i:Nat} {Q:Flow->Hk->Prop}
  (hg1:Gl X C1) (hm1:X.mg C1=some c1) (hg2:Gl X C2) (hm2:X.mg C2=some c2) (hd1:(C1 == ("__debug__":Str))=false) (hd2:(C2 == ("__debug__":Str))=false) (hN:X.N.Nodup) (hi:X.N[i]?=some n) (hl:X.env.kindOf n=some .local)
  (hx:∀ c d0 H',E c d0 H'->PySem.W.exmOne X.K c c1=some true\/(PySem.W.exmOne X.K c c1=some false/\PySem.W.exmOne X.K c c2=some true))
  (k1:∀ ea c d0 H' o s6,E c d0 H'->PySem.W.exmOne X.K c c1=some true->H' ea=none->o.cls=c->av X HA σ (bt H' ea (.frz o (.ext λ_=>True))) s6->
   wpAny (model X.prog X.w) (X.A.mark (some (.ref ea))) (execs (b0::su1) X.env) Q i8 s6)
  (k2:∀ ea c d0 H' o vs s6,E c d0 H'->PySem.W.exmOne X.K c c1=some false->PySem.W.exmOne X.K c c2=some true->H' ea=none->o.cls=c->o.data=.fields vs->o.dict=d0->av X HA (σ.set i (some (.ref ea))) (bt H' ea (.frz o (.ext λ_=>True))) s6->
   wpAny (model X.prog X.w) (X.A.mark (some (.ref ea))) (execs (b1::su2) X.env) (λf s7=>∃ σ7 H7,av X HA σ7 H7 s7/\∀ s8,av X HA (σ7.set i none) H7 s8->Q f s8) i8 s6):
  wpAny (model X.prog X.w) X.A (noteFrame e X.env) (λ_ s2=>wpAny (model X.prog X.w) X.A (setFlight e none) (λ_ s3=>wpAny (model X.prog X.w) X.A (handleBy e X.env [.ExceptHandler (some (.Name C1 p1)) none (b0::su1) hp1,.ExceptHandler (some (.Name C2 p2)) (some n) (b1::su2) hp2]) Q X.xe s3) X.xe s2) X.xe s':=by
 obtain⟨ea,cls,a0,H',B,rfl,os,bare,flc,hok,hB,hB2,un,q⟩:=h;have fl:=flc.1;have fr0:X.A.frames=some (X.env::X.outer):=by rw [<- hst]; exact I.ok.frames
 have fl0:la B (X.env::X.outer) ea cls a0 s'.heap:=by rw [<- hst]; exact flc
 refine lq fr0 hf fl0 λh4 held4 up4=>?_
 refine g_ held4 λh5 fl5 up5=>?_
 have up45:=up4.trans up5;have I5:=I.landed os bare fl (by rw [hst]; exact fl5.1) up45 hok hB hB2 un
 obtain⟨ob,hob,hobc⟩:=fl5.1.there;have nfr:ea∉fo X.stack:=λz=>by
  obtain⟨_,o2,e2,d2⟩:=fl.2.2.1.mem z;obtain⟨oe,vs,T,oT,ts,w1,w2,w3,w4⟩:=fl.2.2.2;rw [w1] at e2;cases e2;exact d2 _ w3
 have nB:B.get? ea=none:=fl.2.1;have nw:∀ b o,s.heap.get? b=some o->b≠ea:=λb o z y=>by
  subst y;obtain⟨o',z'⟩:=hB2 b o z nfr;rw [nB] at z';cases z'
 have hn:H' ea=none:=by
  cases y:H' ea with
  | none=>rfl
  | some u=>
   obtain⟨o',z'⟩:=(hok ea u y).there;rw [nB] at z';cases z'
 have h0:X.s₀.heap.get? ea=none:=by
  cases y:X.s₀.heap.get? ea with
  | none=>rfl
  | some u=>
   obtain⟨o',z'⟩:=I.base.there ea u y (by rw [hex]; simp)
   exact absurd rfl (nw ea o' z')
 have nlo:ea≠X.env.locals:=λz=>nfr (by rw [hst,z]; unfold fo; rw [List.filterMap_cons,hf]; exact Gy)
 have ncl:∀ x c,X.env.cells.lookup x=some c->c≠ea:=λx c z=>by
  obtain⟨v,o,z2,_⟩:=I.cell x c z;exact nw c o z2
 have LT:PySem.W.Looks (model X.prog X.w) h5 (typeOf (.ref ea)) cls:=by
  subst hobc;exact(PySem.W.Looks.ld hob).andThen .now
 have I5m:=I5.marked (.ref ea) (i8:Hl->Hk->Prop);rcases hx cls a0.2 H' q with x1 | ⟨x1,x2⟩
 ·refine wpAny_handleBy_cons (codeAny_handlers_test (ff (X:=X.marked (.ref ea) i8) (I5.marked (.ref ea) _) hg1 hm1 ?_ hd1)) (by intro z; cases z)
  refine PySem.W.exm_one I5.kIn LT x1 _ _ _ _ (λ_ _ z=>z) ?_
  refine codeAny_handlers_suite ?_;refine mE none fl5.1.1 fl5.1.2.1 fl5.1.2.2.1 fl5.1.2.2.2.at fl5.2 λh6 y1 y2 y3 y4 up6=>?_
  have fl6:Heap.FlyingW B (X.env::X.outer) ea cls a0.1 h6:=⟨y1,fl5.1.2.1,y2,y3⟩;have I6:=I.landed os bare fl (by rw [hst]; exact fl6) (up45.trans up6) hok hB hB2 un
  obtain⟨o6,ho6,hc6⟩:=fl6.there;have I7:=I6.freeze ho6 hn h0 nlo ncl (λp z=>nw p.1 p.2 (I.pin p z).1)
  exact GX (k1 ea cls a0.2 H' o6 _ q x1 hn hc6 I7) (λ_ _ z=>z) λ_ _ z=>z.elim
 ·refine wpAny_handleBy_cons (codeAny_handlers_test (ff (X:=X.marked (.ref ea) i8) (I5.marked (.ref ea) _) hg1 hm1 ?_ hd1)) (by intro z; cases z)
  refine PySem.W.exm_one I5.kIn LT x1 _ _ _ _ (λ_ _ z=>z) ?_
  refine wpAny_handleBy_cons (codeAny_handlers_test (ff (X:=X.marked (.ref ea) i8) (I5.marked (.ref ea) _) hg2 hm2 ?_ hd2)) (by intro z; cases z)
  refine PySem.W.exm_one I5.kIn LT x2 _ _ _ _ (λ_ _ z=>z) ?_
  refine codeAny_handlers_suite_as ?_;refine mE none fl5.1.1 fl5.1.2.1 fl5.1.2.2.1 fl5.1.2.2.2.at fl5.2 λh6 y1 y2 y3 y4 up6=>?_
  have fl6:Heap.FlyingW B (X.env::X.outer) ea cls a0.1 h6:=⟨y1,fl5.1.2.1,y2,y3⟩;have I6:=I.landed os bare fl (by rw [hst]; exact fl6) (up45.trans up6) hok hB hB2 un
  obtain⟨o6,ho6,hc6⟩:=fl6.there;obtain⟨oc,vc,v2,gc,dc,_,_,dk⟩:=y4;rw [ho6] at gc;cases gc;have I7:=I6.freeze ho6 hn h0 nlo ncl (λp z=>nw p.1 p.2 (I.pin p z).1)
  refine eG (v:=.ref ea) I7 hN hi (.inl hl) rfl (λs7 I8=>?_) (.inr hl)
  exact GX (k2 ea cls a0.2 H' o6 vc s7 q x1 x2 hn hc6 dc dk I8) (λf s8 ⟨σ7,H7,I9,kk⟩=>uz I9 hN hi hl kk) λ_ _ z=>z.elim
end
section
variable {X:Cx} {E:XK}
def C0 (K:PySem.W.Frag) (E:XK) (c1 c2:Hl) (i:Nat) (te:TX) (k:me->St->VK) (t1 t2:TS):TS:=λD σ H=>(∀ c d0 H',E c d0 H'->PySem.W.exmOne K c c1=some true\/(PySem.W.exmOne K c c1=some false/\PySem.W.exmOne K c c2=some true))/\
 ∃ R:Hp->Prop,te σ H (k D σ) R/\(∀ H1 ea c d0 H' o,R H1->E c d0 H'->PySem.W.exmOne K c c1=some true->DL.Kp H1 H'->H' ea=none->o.cls=c->t1 D σ (bt H' ea (.frz o (.ext λ_=>True))))/\
 ∀ H1 ea c d0 H' o vs,R H1->E c d0 H'->PySem.W.exmOne K c c1=some false->PySem.W.exmOne K c c2=some true->DL.Kp H1 H'->H' ea=none->o.cls=c->o.data=.fields vs->o.dict=d0->
  t2 ⟨fun σ7 H7=>D.nx (σ7.set i none) H7,D.rt,fun σ7 H7=>D.bk (σ7.set i none) H7,fun σ7 H7=>D.ct (σ7.set i none) H7⟩ (σ.set i (some (.ref ea))) (bt H' ea (.frz o (.ext λ_=>True)))
theorem zj {x C1 C2 n:Str} {c1 c2:Hl} {ix i:Nat} {e:Ho} {te:TX} {t1 t2:TS} {b0 b1:Hv} {su1 su2:List Hv} {xp ap p1 p2 hp1 hp2 pos:Pos} (he:Ao X E e te)
  (hd:X.calm=true->X.A.handled=none) (hex:X.ex=[]) (hst:X.stack=X.env::X.outer) (hf:X.env.frame=some X.env.locals)
  (hg1:Gl X C1) (hm1:X.mg C1=some c1) (hg2:Gl X C2) (hm2:X.mg C2=some c2) (hN:X.N.Nodup) (hix:X.N[ix]?=some x) (hxl:xF X.env.scope x) (hi:X.N[i]?=some n) (hl:X.env.kindOf n=some .local) (hs1:∀ v,nJ (X.marked v i8) (b0::su1) t1) (hs2:∀ v,nJ (X.marked v i8) (b1::su2) t2)
  (hsw:swapsWith e (some (.Name x xp)) ap.line X.env=pure false:=by rfl) (hfx:X.fn x=true\/X.env.scope.names.lookup x=some .local:=by first | exact .inl rfl | exact .inr rfl | assumption)
  (hd1:(C1 == ("__debug__":Str))=false:=by decide) (hd2:(C2 == ("__debug__":Str))=false:=by decide):
  PS X (.Try [.Assign [.Name x xp] e ap] [.ExceptHandler (some (.Name C1 p1)) none (b0::su1) hp1,.ExceptHandler (some (.Name C2 p2)) (some n) (b1::su2) hp2] [] [] pos) (C0 X.K E c1 c2 i te (λD σ v H=>D.nx (σ.set ix (some v)) H) t1 t2):=by
 intro HA s σ H D I h;obtain⟨hE,R,h,kk1,kk2⟩:=h;refine wpAny_Try_except (wpAny_execs_cons (wpAny_Assign_Name (GX (he HA s σ H _ R I h) (λv s1 ⟨y,H1,I1,r1,q1⟩=>?_) λe s' z=>?_) hsw))
 ·exact eG I1 hN hix hxl r1 (λs2 I2=>wpAny_execs_nil (wpAny_execs_nil ⟨_,H1,I2,q1⟩)) hfx
 ·obtain⟨H1,s1,I1,hR,hq⟩:=z;refine zn hex hst hf I1 (DL.wJ hq) hg1 hm1 hg2 hm2 hd1 hd2 hN hi hl (λc d0 H' z=>hE c d0 H' z.1) (λea c d0 H' o s6 y1 x1 y2 y3 I6=>?_) λea c d0 H' o vs s6 y1 x1 x2 y2 y3 y4 y5 I6=>?_
  ·refine bB (hs1 (.ref ea) HA s6 _ _ _ (I6.marked (.ref ea) i8) (kk1 H1 ea c d0 H' o hR y1.1 x1 y1.2 y2 y3)) λf s7 y=>?_
   cases f with
   | next=>
    obtain⟨σ7,H7,I7,q⟩:=y;exact⟨σ7,H7,I7.unmarked hd,q⟩
   | brk=>
    obtain⟨σ7,H7,I7,q⟩:=y;exact⟨σ7,H7,I7.unmarked hd,q⟩
   | cont=>
    obtain⟨σ7,H7,I7,q⟩:=y;exact⟨σ7,H7,I7.unmarked hd,q⟩
   | ret v=>
    obtain⟨v,σ7,H7,I7,r,q⟩:=y;exact⟨v,σ7,H7,I7.unmarked hd,r,q⟩
  ·refine bB (hs2 (.ref ea) HA s6 _ _ _ (I6.marked (.ref ea) i8) (kk2 H1 ea c d0 H' o vs hR y1.1 x1 x2 y1.2 y2 y3 y4 y5)) λf s7 y=>?_
   cases f with
   | next=>
    obtain⟨σ7,H7,I7,q⟩:=y;exact⟨σ7,H7,I7.unmarked hd,λs8 I8=>⟨_,_,I8,q⟩⟩
   | brk=>
    obtain⟨σ7,H7,I7,q⟩:=y;exact⟨σ7,H7,I7.unmarked hd,λs8 I8=>⟨_,_,I8,q⟩⟩
   | cont=>
    obtain⟨σ7,H7,I7,q⟩:=y;exact⟨σ7,H7,I7.unmarked hd,λs8 I8=>⟨_,_,I8,q⟩⟩
   | ret v=>
    obtain⟨v,σ7,H7,I7,r,q⟩:=y;exact⟨σ7,H7,I7.unmarked hd,λs8 I8=>⟨v,_,H7,I8,r,q⟩⟩
end
def oH (K:PySem.W.Frag) (C:Hm):Hx:=(PySem.W.findIn K (.ref C) "__getattribute__" == some (some (.builtin "BaseException.__getattribute__"))) && ((PySem.W.findIn K (.ref C) "__getattr__" == some none) && ((PySem.W.findIn K (.ref C) "step" == some none) && ((PySem.W.subIn K (.ref C) (.type "BaseException") == some true) && (match K.lookup C with
 | some ⟨_,_,.cls cd,_⟩=>cd.hasDict
 | _=>false))))
theorem Bv {K:PySem.W.Frag} {C:Hm} (h:oH K C=true):mY K C "step"/\∃ oC cd,K.lookup C=some oC/\oC.data=.cls cd/\cd.hasDict=true:=by
 unfold oH at h;simp only [G3,beq_iff_eq] at h;obtain⟨h1,h2,h3,h4,h5⟩:=h;refine⟨⟨h1,h2,h3,h4⟩,?_⟩
 split at h5
 ·rename_i e
  exact⟨_,_,e,rfl,h5⟩
 ·cases h5
def DC (C:Hm) (i ix:Nat):TS:=λD σ H=>∃ a o u dx vs iv,σ[i]?=some (some (.ref a))/\H a=some (.frz o u)/\o.cls=.ref C/\o.data=.fields vs/\o.dict=some dx/\H dx=some (.xd [("step",.int iv)])/\D.nx (σ.set ix (some (.int iv))) H
theorem A4 {X:Cx} {C:Hm} {x n:Str} {i ix:Nat} {xp np ap pos:Pos} (hC:oH X.K C=true) (hN:X.N.Nodup) (hix:X.N[ix]?=some x) (hxl:xF X.env.scope x) (hi:X.N[i]?=some n) (hv:qQ X.env.scope n) (hfx:X.fn x=true\/X.env.scope.names.lookup x=some .local)
  (hsw:swapsWith (.Attribute (.Name n np) "step" ap) (some (.Name x xp)) pos.line X.env=pure false) (hbase:attributeBase (.Name n np) "step" X.env (eval (.Name n np) X.env)=eval (.Name n np) X.env) (hd:(n == ("__debug__":Str))=false) (hcd:(n == ("__classdict__":Str))=false):
  nJ X [.Assign [.Name x xp] (.Attribute (.Name n np) "step" ap) pos] (DC C i ix):=by
 intro HA s σ H D I h;obtain⟨a,o,u,dx,vs,iv,e1,e2,hc,hf,hdk,e3,q⟩:=h;obtain⟨cs,oC,cd,lk,hcl,hhd⟩:=Bv hC;refine wpAny_execs_cons (wpAny_Assign_Name (zg hbase (B9 I hi hv e1 (λw r=>?_) hd hcd)) hsw)
 cases r;obtain⟨ho,_⟩:=(show dg X.prog X.w H s.heap a (.frz o u) from I.hok a _ e2)
 obtain⟨mA,ns,rel⟩:=(show dg X.prog X.w H s.heap dx (.xd [("step",.int iv)]) from I.hok dx _ e3)
 have r2:wP (some (.int iv)) (mA "step"):=rel "step"
 cases hm:mA "step" with
 | none=>rw [hm] at r2; exact r2.elim
 | some w=>
  rw [hm] at r2;obtain⟨it,rfl⟩:=(show ∃ t,w=Value.int iv t from r2)
  have kin:=I.kIn;obtain⟨hh,g,d,t,os⟩:=s;refine vz kin cs ho hc (kin _ _ lk) hcl hhd hf hdk ns.ns hm ?_;exact eG (v:=.int iv) (I.tok (t+1)) hN hix hxl ⟨it,rfl⟩ (λs2 I2=>wpAny_execs_nil ⟨_,H,I2,q⟩) hfx
end L2
namespace DL
open PySem PySem.Spec PyProof.Rows L2
def DV (K:Fg) (c1:Hl) (cB:Hm) (g:(Er->DH->Prop)->DE) (ix i:Nat) (t1:DS):DS:=λM L S=>g (λr S2=>(PySem.W.exmOne K (.ref r.1) c1=some true/\t1 M L S2)\/(PySem.W.exmOne K (.ref r.1) c1=some false/\PySem.W.exmOne K (.ref r.1) (.ref cB)=some true/\r.1=cB/\∃ iv,r.2=some iv/\M.nx ((L.set ix (some (.int iv))).set i none) S2)) L S λd S2=>M.nx (L.set ix (some d)) S2
section
variable {X:Cx}
theorem uW {x C1 C2 n:Str} {c1:Hl} {cB:Hm} {ix i:Nat} {e:Ho} {g:(Er->DH->Prop)->DE} {t1:DS} {b0:Hv} {su1:List Hv} {xp ap p1 p2 hp1 hp2 pos xp2 np2 ap2 pos2:Pos} (he:∀ ex,Fh X ex e (g ex)) (hB:oH X.K cB=true)
  (hd:X.calm=true->X.A.handled=none) (hex:X.ex=[]) (hst:X.stack=X.env::X.outer) (hf:X.env.frame=some X.env.locals)
  (hg1:Gl X C1) (hm1:X.mg C1=some c1) (hg2:Gl X C2) (hm2:X.mg C2=some (.ref cB)) (hN:X.N.Nodup) (hix:X.N[ix]?=some x) (hxl:xF X.env.scope x) (hi:X.N[i]?=some n) (hl:X.env.kindOf n=some .local) (hs1:∀ v,tz (X.marked v i8) (b0::su1) t1)
  (hsw:swapsWith e (some (.Name x xp)) ap.line X.env=pure false:=by rfl) (hfx:X.fn x=true\/X.env.scope.names.lookup x=some .local:=by first | exact .inl rfl | exact .inr rfl | assumption)
  (hd1:(C1 == ("__debug__":Str))=false:=by decide) (hd2:(C2 == ("__debug__":Str))=false:=by decide) (hne:i≠ix:=by decide)
  (hsw2:swapsWith (.Attribute (.Name n np2) "step" ap2) (some (.Name x xp2)) pos2.line X.env=pure false:=by rfl) (hbase:attributeBase (.Name n np2) "step" X.env (eval (.Name n np2) X.env)=eval (.Name n np2) X.env:=by rfl) (hdn:(n == ("__debug__":Str))=false:=by decide) (hcdn:(n == ("__classdict__":Str))=false:=by decide):
  SJ X (.Try [.Assign [.Name x xp] e ap] [.ExceptHandler (some (.Name C1 p1)) none (b0::su1) hp1,.ExceptHandler (some (.Name C2 p2)) (some n) [.Assign [.Name x xp2] (.Attribute (.Name n np2) "step" ap2) pos2] hp2] [] [] pos) (DV X.K c1 cB g ix i t1):=by
 refine⟨λHA s σ H N I ⟨L,S,M,hL,hS,h,r⟩=>zj (t1:=ya X.K t1) (t2:=DC cB i ix) (he _).h hd hex hst hf hg1 hm1 hg2 hm2 hN hix hxl hi hl (λv=>(hs1 v).h) (λv=>A4 (X:=X.marked v i8) hB hN hix hxl hi (.inl hl) hfx hsw2 hbase hdn hcdn) hsw hfx hd1 hd2 HA s σ H N I ⟨?_,Kp H,⟨L,S,_,hL,hS,h,λd S' v H' q k1 hS' i1=>r.nx _ _ _ _ q k1 ((hL.kp k1).set i1 ix) hS',λ_ z=>z⟩,?_,?_⟩⟩
 ·rintro c d0 H' ⟨r',S',rfl,z | z,_⟩
  ·exact .inl z.1
  ·exact .inr ⟨z.1,z.2.1⟩
 ·rintro H1 ea c d0 H' o k0 ⟨r',S',rfl,z,zs,_⟩ x1 kp hn ho;rcases z with z | z
  ·have k2:Kp H (bt H' ea (.frz o (.ext λ_=>True))):=k0.trans (kp.trans (Kp.new hn))
   exact⟨L,S',M,hL.kp k2,zs.new hn,z.2,r.kp k2⟩
  ·rw [z.1] at x1;cases x1
 ·rintro H1 ea c d0 H' o vs k0 ⟨r',S',rfl,z,zs,st⟩ x1 x2 kp hn ho hfd hdk;rcases z with z | ⟨_,_,er,iv,e2,q⟩
  ·rw [z.1] at x1;cases x1
  ·have k2:Kp H (bt H' ea (.frz o (.ext λ_=>True))):=k0.trans (kp.trans (Kp.new hn))
   obtain⟨dx,ed,hdx⟩:=st iv e2;have nd:dx≠ea:=λy=>by rw [y,hn] at hdx; cases hdx
   have li:i < σ.length:=by rw [I.len]; exact(GW.mp hi).1
   refine⟨ea,o,_,dx,vs,iv,by rw [List.getElem?_set_self li],bA,by rw [ho,er],hfd,by rw [hdk,ed],by rw [ax nd]; exact hdx,?_⟩
   have eσ:((σ.set i (some (.ref ea))).set ix (some (.int iv))).set i none=(σ.set ix (some (.int iv))).set i none:=by rw [List.set_comm _ _ hne,List.set_set]
   show N.nx (((σ.set i (some (.ref ea))).set ix (some (.int iv))).set i none) _
   rw [eσ];exact r.nx _ _ _ _ q k2 (((hL.kp k2).set (isInt.mpr rfl) ix).unset i) (zs.new hn)
end
end DL
namespace My
abbrev FN (K:PySem.W.Frag) (n:PySem.Str) (st:PySem.Stmt) (f:PySem.Addr) (fd:PySem.FuncData):=L2.qz K n n st f fd
variable {P:Hq} {w:Ht} {K:Fg} {mg:Str->Hn Hl} {base:Hu} {f:Hm} {fd:FuncData}
open PySem PySem.Spec PyProof.Rows L2 DL HM
set_option maxHeartbeats 4000000
def ek (i : Nat) : Hv := PySem.Challenge.pw_hingedraw_k45_whole_machines_shifted_and.main.body.getD i (.Pass ⟨0, 0, 0, 0⟩)
abbrev eS:Hv:=ek 9
abbrev pX:Hv:=ek 10
abbrev rV:Hv:=ek 11
abbrev qt:Hv:=ek 12
abbrev pL:Hv:=ek 13
abbrev sC:Hv:=ek 14
abbrev j':Hv:=ek 15
abbrev gf:Hv:=ek 16
abbrev iA:Hv:=ek 17
abbrev cF:Hv:=ek 18
abbrev lF:Hv:=ek 19
abbrev j8:Hv:=ek 21
abbrev f_:Hv:=ek 22
abbrev rZ:Hv:=ek 23
abbrev iH:Hv:=ek 25
abbrev p5:Hv:=ek 26
abbrev nF:Hv:=ek 27
abbrev ft:Hv:=ek 28
abbrev jg:Hv:=ek 29
abbrev iS:Hv:=ek 30
abbrev ij:Hv:=ek 31
abbrev gO:Hv:=ek 37
abbrev gZ:Hv:=ek 34
abbrev j7:Hv:=ek 35
abbrev jh:Hv:=ek 39
abbrev eB:Hv:=ek 40
abbrev p_:Hv:=ek 41
abbrev fu:Hv:=ek 42
abbrev iE:Hv:=ek 43
abbrev cg:Hv:=ek 44
abbrev jd:Hv:=ek 24
abbrev dI:Hv:=ek 36
abbrev eJ:Hv:=ek 45
abbrev gs:Hv:=ek 47
abbrev ju:Hv:=ek 48
abbrev eQ:Hv:=ek 33
abbrev fG:Hv:=ek 49
abbrev jH:Hv:=ek 38
abbrev fV:Hv:=ek 52
abbrev iQ:Hv:=ek 53
abbrev i9:Hv:=ek 54
abbrev fS:Hv:=ek 55
abbrev im:Hv:=ek 56
abbrev il:Hv:=ek 59
abbrev ip:Hv:=ek 61
abbrev jn:Hv:=ek 57
abbrev iu:Hv:=ek 62
abbrev eE:Hv:=ek 64
abbrev eV:Hv:=ek 65
abbrev fY:Hv:=ek 66
abbrev mq:Hv:=ek 50
abbrev iB:Hv:=ek 63
abbrev ja:Hv:=ek 70
abbrev gY:Hv:=ek 67
abbrev jl:Hv:=ek 68
abbrev gq:Hv:=ek 69
abbrev fE:Hv:=ek 71
abbrev gT:Hv:=ek 72
abbrev xx:Hv:=ek 73
abbrev t5:Hv:=yX (ek 5) 0
theorem vU:ar ["self","step"] ["self","step"] (ai t5):=eu
theorem p6:bootBuiltins "abs"=some (.builtin "abs"):=by decide +kernel
theorem gX:bootBuiltins "len"=some (.builtin "len"):=by decide +kernel
theorem v_:bootBuiltins "range"=some (.type "range"):=by decide +kernel
theorem kB:bootBuiltins "tuple"=some (.type "tuple"):=by decide +kernel
theorem jW:bootBuiltins "isinstance"=some (.builtin "isinstance"):=by decide +kernel
theorem tj:bootBuiltins "list"=some (.type "list"):=by decide +kernel
theorem Bw:bootBuiltins "max"=some (.builtin "max"):=by decide +kernel
theorem A1:bootBuiltins "min"=some (.builtin "min"):=by decide +kernel
theorem AK {y:Int} {A B:Prop} (h1:y≠0->A) (h2:y=0->B):if (!decide (y=0))=true then A else B:=by
 by_cases h:y=0
 ·rw [if_neg (by simp [h])]; exact h2 h
 ·rw [if_pos (by simp [h])]; exact h1 h
theorem aS {p:Prop} [Decidable p] {A B:Prop} (h1:p->A) (h2:¬ p->B):if decide p=true then A else B:=by
 by_cases h:p
 ·rw [if_pos (by simp [h])]; exact h1 h
 ·rw [if_neg (by simp [h])]; exact h2 h
theorem fk {p:Prop} [Decidable p] {A B:Prop} (h1:¬ p->A) (h2:p->B):if (!decide p)=true then A else B:=by
 by_cases h:p
 ·rw [if_neg (by simp [h])]; exact h2 h
 ·rw [if_pos (by simp [h])]; exact h1 h
theorem wG {c:Hx} {A B:Prop} (h1:c=false->A) (h2:c=true->B):if (!c)=true then A else B:=by
 cases c
 ·exact wH (h1 rfl)
 ·exact vA (h2 rfl)
theorem mB {ds:List D} {i:Int} (h0:0<=i) (h1:i < (ds.length:Int)):∃ d,L2.atI ds i=some d/\d∈ds:=by
 obtain⟨n,rfl⟩:=Int.eq_ofNat_of_zero_le h0;have hn:n < ds.length:=by omega
 exact⟨ds[n],io (by simp [hn]),List.getElem_mem hn⟩
theorem rA {ok:DH->Prop} {g:DG} {b:DS} {M:lT} {P:D->Prop} (Iv:Lo->DH->Prop) (hok:∀ L S,Iv L S->ok S)
  (hs:∀ d L S N,P d->Iv L S->(∀ L' S',Iv L' S'->N L' S')->g d L S λL1 S1=>b {M with nx:=N,ct:=N,bk:=M.nx} L1 S1) (hd:∀ L S,Iv L S->M.nx L S):∀ r,(∀ d∈r,P d)->∀ L S,Iv L S->gH ok g b M r L S
 | [],_,L,S,i=>⟨hok L S i,hd L S i⟩
 | d::r,hp,L,S,i=>⟨hok L S i,hs d L S _ (hp d Gy) i λL' S' i'=>rA Iv hok hs hd r (λe he=>hp e (Gz _ he)) L' S' i'⟩
instance {n:Nat} {x:Int}:Decidable (Bt n x):=inferInstanceAs (Decidable (x.natAbs < 2 ^ n))
theorem dM {ds:List D} (h:Nat.ble ds.length sizeLine=true:=by rfl):ds.length<=sizeLine:=GE h
def nP (S:DH) (a:Hm):Prop:=∃ n b,S a=some (.lst [.int n,.bl b])/\(b=false->0<=n/\n < 2147483647)
def Dr (a:Hm) (S S':DH):Prop:=nP S' a/\∀ b o,b≠a->S b=some o->S' b=some o
theorem Dr.trans {a:Hm} {S S1 S2:DH} (h1:Dr a S S1) (h2:Dr a S1 S2):Dr a S S2:=⟨h2.1,λb o n e=>h2.2 b o n (h1.2 b o n e)⟩
theorem nP.ne {a p:Hm} {S:DH} (h:nP S a) (hp:S p=none):p≠a:=by
 obtain⟨n,b,e,_⟩:=h;intro z;subst z;rw [e] at hp;cases hp
theorem nP.new {a p:Hm} {S:DH} {o:DO} (h:nP S a) (hp:S p=none):nP (put S p o) a:=by
 have z:=h.ne hp;obtain⟨n,b,e,q⟩:=h;exact⟨n,b,by rw [cj (Ne.symm z)]; exact e,q⟩
theorem Dr.new {a p:Hm} {S:DH} {o:DO} (h:nP S a) (hp:S p=none):Dr a S (put S p o):=
 ⟨h.new hp,λb u n e=>by rw [cj (xK e hp)]; exact e⟩
theorem vh {x:Int} (h1:0<=x) (h2:x < 2147483648):Bt 31 x:=by
 unfold Bt;omega
def N (u a b:Rat):D:=.tup [fr a,fr (ss b*u)]
structure Fd (u:Rat):Prop where
 pos:0 < u
 no:i7 u
 sz:Sz 6700000 u
structure Sm (n:Nat) (a b:Rat):Prop where
 a:Sz n a
 b:Sz n b
theorem Sm.mono {m n:Nat} {a b:Rat} (h:Sm m a b) (hm:m<=n):Sm n a b:=⟨h.a.mono hm,h.b.mono hm⟩
theorem Sm.add {m n:Nat} {a b c d:Rat} (h:Sm m a b) (h':Sm n c d):Sm (m+n+1) (a+c) (b+d):=⟨h.a.add h'.a,h.b.add h'.b⟩
theorem Sm.sub {m n:Nat} {a b c d:Rat} (h:Sm m a b) (h':Sm n c d):Sm (m+n+1) (a - c) (b - d):=⟨h.a.sub h'.a,h.b.sub h'.b⟩
theorem wC {q:Rat}:D.tup [.int (-q.num),.int (q.den:Int)]=fr (-q):=by
 show _=D.tup [.int (-q).num,.int ((-q).den:Int)]
 rw [Rat.neg_num,Rat.neg_den]
theorem DZ {q:Rat}:D.tup [.int (if q.num < 0 then -q.num else q.num),.int (q.den:Int)]=fr (ab q):=by
 show _=D.tup [.int (ab q).num,.int ((ab q).den:Int)]
 rw [Be,B8]
theorem vB {n:Nat} {t b:Int} (h:b≠0) (hb:Bt n b):Bt n ((Int.gcd t b:Nat):Int):=by
 refine hb.le ?_;have h1:Int.gcd t b ∣ b.natAbs:=by
  have:=Int.gcd_dvd_right t b;exact(by have:=Int.natAbs_dvd_natAbs.mpr this; simpa using this)
 have:=Nat.le_of_dvd (by omega) h1
 omega
def cW:ca:=λds S k=>match ds with
 | [.int a,.int b]=>k (.int ((Int.gcd a b:Nat):Int)) S
 | _=>False
theorem cH:ar ["one","other","rest"] ["one","other"] (ai eS):=eu
theorem kO (Fn:FN K "common_divisor" eS f fd) (jZ:mg "abs"=none):
  aJ P w K mg base cJ 1 f fd ["one","other"] (cV K cW):=by
 refine Fn.okJ cH (λds S k h=>?_) (λcdv A outer s H E hr=>⟨_,(af (j5 PassesOwn.never (aw ER (ag 1) am (aE _)) (af (aj (i:=2) cH.nd (aB kD (ag 0) (ag 1))) (af (aj (i:=0) cH.nd (ag 1)) (ah (aj (i:=1) cH.nd (ag 2)))))) (ah (ak (bp tH rfl jZ p6 (az 0 ac))))),λds S k h=>?_⟩)
 ·unfold cW at h
  split at h
  ·rfl
  ·exact h.elim
 ·unfold cW at h
  split at h
  ·rename_i a b
   refine⟨λm L S'=>S'=S/\∃ x y r,L=[some (.int x),some (.int y),r]/\m=y.natAbs/\Int.gcd x y=Int.gcd a b,⟨_,rfl,a,b,_,rfl,rfl,rfl⟩,?_⟩
   rintro m L S' ⟨rfl,x,y,r,rfl,rfl,e⟩;refine AK (λhy=>⟨λL' S''=>∃ m',m' < y.natAbs/\S''=S'/\∃ x y r,L'=[some (.int x),some (.int y),r]/\m'=y.natAbs/\Int.gcd x y=Int.gcd a b,λ_ _ z=>z,hy,?_⟩) (λhy=>?_)
   ·exact⟨_,tK x y hy,rfl,y,x.fmod y,_,rfl,rfl,(qT x y).trans e⟩
   ·subst hy;have e2:=rD x;rw [e] at e2
    show k (.int (if x < 0 then -x else x)) S'
    rw [<- e2];exact h
  ·exact h.elim
def gJ:ca:=λds S k=>match ds with
 | [.int t,.int b]=>b≠0/\Bt 130000000 b/\k (fr (Rat.divInt t b)) S
 | _=>False
theorem kF {S:DH} {k:DK} {t b:Int} {q:Rat} (e:Rat.divInt t b=q) (h0:b≠0) (hb:Bt 130000000 b) (h:k (fr q) S):gJ [.int t,.int b] S k:=by subst e; exact⟨h0,hb,h⟩
theorem nt:ar ["top","bottom","shared"] ["top","bottom"] (ai pX):=eu
theorem xi (Fn:FN K "ratio" pX f fd) (eX:aW P w K mg base "common_divisor" 1 cW) (hBl:nO mg base) (hTr:P.given.tree=none):
  aJ P w K mg base cJ 34 f fd ["top","bottom"] (cV K gJ):=by
 refine Fn.okJ nt (λds S k h=>?_) (λcdv A outer s H E hr=>⟨_,(af (aA (aw fy (ag 1) am (aE _)) (ah dN) aF) (af (aj (i:=2) nt.nd (dq eX hr (az 0 (az 1 ac)))) (af (aA (aw mP (ag 1) am (aE _)) (ah (aj (i:=2) nt.nd (Ah Ap (ag 2)))) aF) (ah (ak (aD (aa (aB (j9 hr hBl hTr rfl rfl rfl (by decide)) (ag 0) (ag 2)) (aa (aB (j9 hr hBl hTr rfl rfl rfl (by decide)) (ag 1) (ag 2)) ac)))))))),λds S k h=>?_⟩)
 ·unfold gJ at h
  split at h
  ·rfl
  ·exact h.elim
 ·unfold gJ at h
  split at h
  ·rename_i t b
   obtain⟨h0,hb,q⟩:=h;have hg:=vB (t:=t) h0 hb;have hs:=vJ (t:=t) h0;have e1:=mm (t:=t) h0;have e2:=kr (t:=t) h0;have qq:k (.tup [.int (t.fdiv (vk t b)),.int (b.fdiv (vk t b))]) S:=by rw [e1,e2]; exact q
   unfold vk at qq hs
   refine aS (λz=>absurd z h0) (λ_=>aS (λhl=>?_) (λhl=>?_))
   ·rw [if_pos hl] at qq hs
    exact⟨hs,hs,dM,qq⟩
   ·rw [if_neg hl] at qq hs
    exact⟨hs,hs,dM,qq⟩
  ·exact h.elim
def iC:ca:=λds S k=>∃ p q:Rat,ds=[fr p,fr q]/\Sz 60000000 p/\Sz 60000000 q/\k (fr (p+q)) S
theorem yO:ar ["one","other"] ["one","other"] (ai rV):=eu
theorem zv (Fn:FN K "plus" rV f fd) (dG:aW P w K mg base "ratio" 34 gJ):
  aJ P w K mg base cJ 35 f fd ["one","other"] (cV K iC):=by
 refine Fn.okJ yO (λds S k h=>?_) (λcdv A outer s H E hr=>⟨_,(ah (ak (dq dG hr (aa (aB dh (aB dr (aT 0) (aT 1)) (aB dr (aT 1) (aT 0))) (aa (aB dr (aT 0) (aT 1)) ac))))),λds S k h=>?_⟩)
 ·obtain⟨_,_,rfl,_⟩:=h
  rfl
 ·obtain⟨p,q,rfl,hp,hq,w⟩:=h;exact⟨n5 hp.num hq.den,n5 hq.num hp.den,n5 hp.den hq.den,kF (pI p q) (cf p q) ((hp.den.mul hq.den).mono (by decide)) w⟩
def kQ:ca:=λds S k=>∃ p q:Rat,ds=[fr p,fr q]/\Sz 60000000 p/\Sz 60000000 q/\k (fr (p - q)) S
theorem vH:ar ["one","other"] ["one","other"] (ai qt):=eu
theorem wE (Fn:FN K "minus" qt f fd) (dG:aW P w K mg base "ratio" 34 gJ):
  aJ P w K mg base cJ 35 f fd ["one","other"] (cV K kQ):=by
 refine Fn.okJ vH (λds S k h=>?_) (λcdv A outer s H E hr=>⟨_,(ah (ak (dq dG hr (aa (aB m5 (aB dr (aT 0) (aT 1)) (aB dr (aT 1) (aT 0))) (aa (aB dr (aT 0) (aT 1)) ac))))),λds S k h=>?_⟩)
 ·obtain⟨_,_,rfl,_⟩:=h
  rfl
 ·obtain⟨p,q,rfl,hp,hq,w⟩:=h;exact⟨n5 hp.num hq.den,n5 hq.num hp.den,n5 hp.den hq.den,kF (wn p q) (cf p q) ((hp.den.mul hq.den).mono (by decide)) w⟩
def fJ:ca:=λds S k=>∃ p q:Rat,ds=[fr p,fr q]/\Sz 60000000 p/\Sz 60000000 q/\k (fr (p*q)) S
theorem vL:ar ["one","other"] ["one","other"] (ai pL):=eu
theorem wZ (Fn:FN K "times" pL f fd) (dG:aW P w K mg base "ratio" 34 gJ):
  aJ P w K mg base cJ 35 f fd ["one","other"] (cV K fJ):=by
 refine Fn.okJ vL (λds S k h=>?_) (λcdv A outer s H E hr=>⟨_,(ah (ak (dq dG hr (aa (aB dr (aT 0) (aT 1)) (aa (aB dr (aT 0) (aT 1)) ac))))),λds S k h=>?_⟩)
 ·obtain⟨_,_,rfl,_⟩:=h
  rfl
 ·obtain⟨p,q,rfl,hp,hq,w⟩:=h;exact⟨n5 hp.num hq.num,n5 hp.den hq.den,kF (rT p q) (cf p q) ((hp.den.mul hq.den).mono (by decide)) w⟩
def lE:ca:=λds S k=>∃ p q:Rat,ds=[fr p,fr q]/\q≠0/\Sz 60000000 p/\Sz 60000000 q/\k (fr (p / q)) S
theorem yE:ar ["one","other"] ["one","other"] (ai sC):=eu
theorem yh (Fn:FN K "over" sC f fd) (dG:aW P w K mg base "ratio" 34 gJ):
  aJ P w K mg base cJ 35 f fd ["one","other"] (cV K lE):=by
 refine Fn.okJ yE (λds S k h=>?_) (λcdv A outer s H E hr=>⟨_,(ah (ak (dq dG hr (aa (aB dr (aT 0) (aT 1)) (aa (aB dr (aT 0) (aT 1)) ac))))),λds S k h=>?_⟩)
 ·obtain⟨_,_,rfl,_⟩:=h
  rfl
 ·obtain⟨p,q,rfl,h0,hp,hq,w⟩:=h;exact⟨n5 hp.num hq.den,n5 hp.den hq.num,kF (xk p q) (Int.mul_ne_zero (pR p) (rW h0)) ((hp.den.mul hq.num).mono (by decide)) w⟩
def dO:ca:=λds S k=>∃ q:Rat,ds=[fr q]/\k (fr (-q)) S
theorem rh:ar ["one"] ["one"] (ai j'):=eu
theorem rj (Fn:FN K "negative" j' f fd):
  aJ P w K mg base cJ 1 f fd ["one"] (cV K dO):=by
 refine Fn.okJ rh (λds S k h=>?_) (λcdv A outer s H E hr=>⟨_,(ah (ak (aD (aa (Ah Ap (aT 0)) (aa (aT 0) ac))))),λds S k h=>?_⟩)
 ·obtain⟨_,rfl,_⟩:=h
  rfl
 ·obtain⟨q,rfl,w⟩:=h;rw [<- wC] at w;exact⟨dM,w⟩
def cR:ca:=λds S k=>∃ q:Rat,ds=[fr q]/\k (fr (ab q)) S
theorem mi:ar ["one"] ["one"] (ai gf):=eu
theorem l_ (Fn:FN K "without_sign" gf f fd) (jZ:mg "abs"=none):
  aJ P w K mg base cJ 1 f fd ["one"] (cV K cR):=by
 refine Fn.okJ mi (λds S k h=>?_) (λcdv A outer s H E hr=>⟨_,(ah (ak (aD (aa (bp tH rfl jZ p6 (aa (aT 0) ac)) (aa (aT 0) ac))))),λds S k h=>?_⟩)
 ·obtain⟨_,rfl,_⟩:=h
  rfl
 ·obtain⟨q,rfl,w⟩:=h;rw [<- DZ] at w;exact⟨dM,w⟩
set_option maxHeartbeats 4000000
structure Gu (n g:Int):Prop where
 pos:0 < g
 ge:iZ n<=g
theorem Gu.next {n g:Int} (h0:1<=n) (h:Gu n g) (hl:(g+n.fdiv g).fdiv 2 < g):Gu n ((g+n.fdiv g).fdiv 2):=by
 have rt:=jw (n:=n) (by omega)
 have r1:1<=iZ n:=rt.le_of (by omega)
 rw [oX _ (by decide),oX _ h.pos] at hl ⊢
 have h1:=um h.pos rt.nn rt.le;exact⟨by omega,h1⟩
theorem Gu.last {n g:Int} (h0:1<=n) (h:Gu n g) (hl:¬ (g+n.fdiv g).fdiv 2 < g):g=iZ n:=by
 have rt:=jw (n:=n) (by omega)
 rw [oX _ (by decide),oX _ h.pos] at hl
 have h1:=h.ge;rcases Int.lt_or_le (iZ n) g with h2 | h2
 ·exact absurd (u_ (by omega) rt h2) hl
 ·omega
theorem Gu.first {n:Int} {b:Nat} (h0:1<=n) (hn:n.natAbs < 2 ^ b):Gu n ((1:Int)*2 ^ ((((b:Nat):Int)+1).fdiv 2).toNat):=by
 have e:((((b:Nat):Int)+1).fdiv 2).toNat=(b+1) / 2:=by rw [oX _ (by decide)]; omega
 rw [e,Int.one_mul];have hp:(0:Int) < 2 ^ ((b+1) / 2):=Int.pow_pos (by decide)
 have rt:=jw (n:=n) (by omega)
 refine⟨hp,?_⟩;apply Int.not_lt.mp;intro hl;have h1:=kL (Int.le_of_lt hp) (Int.le_of_lt hl);have h2:=rt.le;have h3:(2:Int) ^ ((b+1) / 2)*2 ^ ((b+1) / 2)=2 ^ ((b+1) / 2+(b+1) / 2):=(Int.pow_add _ _ _).symm;have h4:2 ^ b<=2 ^ ((b+1) / 2+(b+1) / 2):=m_ (by omega)
 have h5:((2 ^ ((b+1) / 2+(b+1) / 2):Nat):Int)=(2:Int) ^ ((b+1) / 2+(b+1) / 2):=by rw [Int.natCast_pow]; rfl
 have h6:((2 ^ b:Nat):Int)<=((2 ^ ((b+1) / 2+(b+1) / 2):Nat):Int):=Int.ofNat_le.mpr h4;have h7:(n.natAbs:Int) < ((2 ^ b:Nat):Int):=Int.ofNat_lt.mpr hn;rw [h3] at h1;rw [h5] at h6;omega
def kX:ca:=λds S k=>∃ n:Int,ds=[.int n]/\0<=n/\Bt 34000000 n/\k (.int (iZ n)) S
theorem dz:ar ["number","guess","better"] ["number"] (ai iA):=eu
theorem nX (Fn:FN K "whole_root" iA f fd) (hBl:nO mg base) (hTr:P.given.tree=none):
  aJ P w K mg base cJ 34 f fd ["number"] (cV K kX):=by
 refine Fn.okJ dz (λds S k h=>?_) (λcdv A outer s H E hr=>⟨_,(af (aA (aw fy (ag 0) am (aE _)) (ah (ak am)) aF) (af (aj (i:=1) dz.nd (aB Bc am (aB (j9 hr hBl hTr rfl rfl rfl (by decide)) (aB dh (zA (ag 0)) am) am))) (af (aj (i:=2) dz.nd (aB (j9 hr hBl hTr rfl rfl rfl (by decide)) (aB dh (ag 1) (aB (j9 hr hBl hTr rfl rfl rfl (by decide)) (ag 0) (ag 1))) am)) (af (j5 PassesOwn.never (aw mP (ag 2) (ag 1) (aE _)) (af (aj (i:=1) dz.nd (ag 2)) (ah (aj (i:=2) dz.nd (aB (j9 hr hBl hTr rfl rfl rfl (by decide)) (aB dh (ag 1) (aB (j9 hr hBl hTr rfl rfl rfl (by decide)) (ag 0) (ag 1))) am))))) (ah (ak (ag 1))))))),λds S k h=>?_⟩)
 ·obtain⟨_,rfl,_⟩:=h
  rfl
 ·obtain⟨n,rfl,h0,hb,q⟩:=h;refine aS (λe=>?_) (λe=>?_)
  ·subst e;rw [xc] at q;exact q
  ·have hbits:Builtin.Int.intBits n<=34000000:=intBits_le_iff.mpr hb;have h1:1<=n:=by omega
   have hn:n.natAbs < 2 ^ Builtin.Int.intBits n:=intBits_le_iff.mp (Gq _);have G:=Gu.first h1 hn;have hc:zu 1 ((((Builtin.Int.intBits n:Nat):Int)+1).fdiv 2):=by
    have e2:=oX (((Builtin.Int.intBits n:Nat):Int)+1) (b:=2) (by decide)
    exact⟨by rw [e2]; omega,by rw [e2]; show(1:Int)+_<=134217728; omega⟩
   have two:(2:Int)≠0:=by decide
   have dv:∀ g:Int,Gu n g->g≠0:=λg G=>by have:=G.pos; omega
   refine⟨two,hc,dv _ G,two,λm L S'=>S'=S/\∃ g,L=[some (.int n),some (.int g),some (.int ((g+n.fdiv g).fdiv 2))]/\m=g.toNat/\Gu n g,⟨_,rfl,_,rfl,rfl,G⟩,?_⟩
   rintro m L S' ⟨rfl,g,rfl,rfl,G⟩;refine aS (λhl=>⟨λL' S''=>∃ m',m' < g.toNat/\S''=S'/\∃ g,L'=[some (.int n),some (.int g),some (.int ((g+n.fdiv g).fdiv 2))]/\m'=g.toNat/\Gu n g,λ_ _ z=>z,dv _ (G.next h1 hl),two,?_⟩) (λhl=>?_)
   ·have G2:=G.next h1 hl;exact⟨_,by have:=G2.pos; have:=G.pos; omega,rfl,_,rfl,rfl,G2⟩
   ·rw [<- G.last h1 hl] at q;exact q
def zK (n:Int):D:=if iZ n*iZ n=n then .int (iZ n) else .non
def eO:ca:=λds S k=>∃ n:Int,ds=[.int n]/\0<=n/\Bt 34000000 n/\k (zK n) S
theorem eI:ar ["number","root"] ["number"] (ai cF):=eu
theorem ik (Fn:FN K "square_root_or_none" cF f fd) (iR:aW P w K mg base "whole_root" 34 kX):
  aJ P w K mg base cJ 35 f fd ["number"] (cV K eO):=by
 refine Fn.okJ eI (λds S k h=>?_) (λcdv A outer s H E hr=>⟨_,(af (aj (i:=1) eI.nd (dq iR hr (az 0 ac))) (ah (ak (oG (aw fy (aB dr (ag 1) (ag 1)) (ag 0) (aE _)) (ag 1) eR)))),λds S k h=>?_⟩)
 ·obtain⟨_,rfl,_⟩:=h
  rfl
 ·obtain⟨n,rfl,h0,hb,q⟩:=h;have b2:=AD h0 hb;refine⟨n,rfl,h0,hb,n5 b2 b2,aS (λe=>?_) (λe=>?_)⟩
  ·rw [zK,if_pos e] at q;exact q
  ·rw [zK,if_neg e] at q;exact q
def jF:ca:=λds S k=>∃ q:Rat,ds=[fr q]/\0<=q/\Sz 34000000 q/\(∀ r,0<=r->r*r=q->k (fr r) S)/\(i7 q->k .non S)
theorem kc:ar ["one","top","bottom"] ["one"] (ai lF):=eu
theorem sj (Fn:FN K "root_in" lF f fd) (bL:aW P w K mg base "square_root_or_none" 35 eO):
  aJ P w K mg base cJ 36 f fd ["one"] (cV K jF):=by
 refine Fn.okJ kc (λds S k h=>?_) (λcdv A outer s H E hr=>⟨_,(af (aj (i:=1) kc.nd (dq bL hr (aa (aT 0) ac))) (af (aA (aw uT (ag 1) eR (aE _)) (ah (ak eR)) aF) (af (aj (i:=2) kc.nd (dq bL hr (aa (aT 0) ac))) (af (aA (aw uT (ag 2) eR (aE _)) (ah (ak eR)) aF) (ah (ak (aD (az 1 (az 2 ac))))))))),λds S k h=>?_⟩)
 ·obtain⟨_,rfl,_⟩:=h
  rfl
 ·obtain⟨q,rfl,h0,hs,h1,h2⟩:=h;have n0:=sR h0
  by_cases e:iZ q.num*iZ q.num=q.num
  ·by_cases e2:iZ (q.den:Int)*iZ (q.den:Int)=(q.den:Int)
   ·obtain⟨r,r0,rr⟩:=rM h0 e e2;obtain⟨e3,e4⟩:=kb r0 rr;have w:=h1 r r0 rr;refine⟨q.num,rfl,n0,hs.num,?_⟩;rw [show zK q.num=.int (iZ q.num) from if_pos e]
    refine⟨(q.den:Int),rfl,by omega,hs.den,?_⟩
    rw [show zK (q.den:Int)=.int (iZ (q.den:Int)) from if_pos e2,e3,e4]
    exact⟨dM,w⟩
   ·refine⟨q.num,rfl,n0,hs.num,?_⟩;rw [show zK q.num=.int (iZ q.num) from if_pos e]
    refine⟨(q.den:Int),rfl,by omega,hs.den,?_⟩
    rw [show zK (q.den:Int)=.non from if_neg e2]
    refine h2 λr rr=>e2 ?_
    have:=congrArg (λz:Rat=>(z.den:Int)) rr
    simp only [p4,Int.natCast_mul] at this;exact vE this
  ·refine⟨q.num,rfl,n0,hs.num,?_⟩;rw [show zK q.num=.non from if_neg e]
   refine h2 λr rr=>e ?_
   have:=congrArg Rat.num rr;rw [mW] at this;exact vE this
def dQ:ca:=λds S k=>∃ x q,ds=[.tup [x,fr q]]/\k (.bl (decide (q=0))) S
theorem qU:ar ["one"] ["one"] (ai j8):=eu
theorem qP (Fn:FN K "is_plain" j8 f fd):
  aJ P w K mg base cJ 1 f fd ["one"] (cV K dQ):=by
 refine Fn.okJ qU (λds S k h=>?_) (λcdv A outer s H E hr=>⟨_,(ah (ak (ww fy (bn fj (aT 0) am Zf) am (aE _)))),λds S k h=>?_⟩)
 ·obtain⟨_,_,rfl,_⟩:=h
  rfl
 ·obtain⟨x,q,rfl,w⟩:=h;have e:decide (q.num=0)=decide (q=0):=by
   by_cases h0:q=0
   ·subst h0; rfl
   ·rw [G_ h0,G_ (rW h0)]
  rw [<- e] at w;exact w
def cO:ca:=λds S k=>∃ p q:Rat,ds=[fr p,fr q]/\k (fr (sg p q)) S
theorem lU:ar ["one","other"] ["one","other"] (ai f_):=eu
theorem lY (Fn:FN K "with_sign_of" f_ f fd) (aI:aW P w K mg base "negative" 1 dO):
  aJ P w K mg base cJ 2 f fd ["one","other"] (cV K cO):=by
 refine Fn.okJ lU (λds S k h=>?_) (λcdv A outer s H E hr=>⟨_,(ah (ak (oG (aw mP (aT 1) am (aE _)) (dq aI hr (az 0 ac)) (ag 0)))),λds S k h=>?_⟩)
 ·obtain⟨_,_,rfl,_⟩:=h
  rfl
 ·obtain⟨p,q,rfl,w⟩:=h;unfold sg at w;refine aS (λhn=>?_) (λhn=>?_)
  ·rw [if_pos ((dS q).mp hn)] at w;exact⟨p,rfl,w⟩
  ·rw [if_neg (λz=>hn ((dS q).mpr z))] at w
   exact w
set_option maxHeartbeats 4000000
theorem oY (n:Nat):n<=n*n:=by
 rcases Nat.eq_zero_or_pos n with h | h
 ·subst h; decide
 ·exact Nat.le_mul_of_pos_left n h
theorem _root_.HM.Sz.root {n:Nat} {q r:Rat} (h:Sz n q) (e:r*r=q):Sz n r:=by
 subst e;refine⟨h.num.le ?_,h.den.le ?_⟩
 ·rw [mW,Int.natAbs_mul];exact oY _
 ·rw [p4];have:=oY r.den;omega
open Classical in
noncomputable def vo (p q:Rat):D:=if h:∃ r,0<=r/\r*r=ab q then .tup [fr (p+sg h.choose q),fr 0] else .tup [fr p,fr q]
theorem o9 {r r' q:Rat} (h0:0<=r) (h1:0<=r') (e:r*r=q) (e':r'*r'=q):r=r':=by
 obtain⟨a1,a2⟩:=kb h0 e;obtain⟨b1,b2⟩:=kb h1 e';refine Rat.ext (a1.symm.trans b1) ?_;have:=a2.symm.trans b2;omega
theorem mL {p q r:Rat} (r0:0<=r) (rr:r*r=ab q):vo p q=.tup [fr (p+sg r q),fr 0]:=by
 have h:∃ r,0<=r/\r*r=ab q:=⟨r,r0,rr⟩;unfold vo;rw [dif_pos h,o9 h.choose_spec.1 r0 h.choose_spec.2 rr]
theorem x8 {p q:Rat} (no:i7 (ab q)):vo p q=.tup [fr p,fr q]:=by
 unfold vo;rw [dif_neg λz9=>by obtain⟨r,_,e⟩:=z9; exact no r e]
theorem w5 {p:Rat}:vo p 0=.tup [fr p,fr 0]:=by
 rw [mL (r:=0) (by decide) (by unfold ab; grind),show p+sg 0 0=p by unfold sg; grind]
def xI:ca:=λds S k=>∃ p q:Rat,ds=[fr p,fr q]/\Sz 800000 p/\Sz 800000 q/\k (vo p q) S
theorem tF:ar ["part","under","root"] ["part","under"] (ai rZ):=eu
theorem zr (Fn:FN K "made" rZ f fd) (cX:aW P w K mg base "root_in" 36 jF) (aK:aW P w K mg base "without_sign" 1 cR) (bg:aW P w K mg base "plus" 35 iC) (aO:aW P w K mg base "with_sign_of" 2 cO) (a9:oi K mg "NOUGHT" [0,1]):
  aJ P w K mg base cJ 37 f fd ["part","under"] (cV K xI):=by
 refine Fn.okJ tF (λds S k h=>?_) (λcdv A outer s H E hr=>⟨_,(af (aj (i:=2) tF.nd (dq cX hr (aa (dq aK hr (az 1 ac)) ac))) (af (aA (aw uT (ag 2) eR (aE _)) (ah (ak (aD (az 0 (az 1 ac))))) aF) (ah (ak (aD (aa (dq bg hr (az 0 (aa (dq aO hr (az 2 (az 1 ac))) ac))) (aa (fD a9 rfl) ac))))))),λds S k h=>?_⟩)
 ·obtain⟨_,_,rfl,_⟩:=h
  rfl
 ·obtain⟨p,q,rfl,hp,hq,w⟩:=h;refine⟨q,rfl,ab q,rfl,kg q,hq.ab.mono (by decide),λr r0 rr=>?_,λno=>⟨dM,?_⟩⟩
  ·rw [mL r0 rr] at w;exact⟨r,q,rfl,p,sg r q,rfl,hp.mono (by decide),((hq.ab.root rr).sg).mono (by decide),dM,w⟩
  ·rw [x8 no] at w;exact w
def iq:ca:=λds S k=>∃ u a b c d:Rat,ds=[N u a b,N u c d]/\0 < u/\k (fr (pick b d*pick b d*u)) S
theorem ox:ar ["one","other"] ["one","other"] (ai iH):=eu
theorem og (Fn:FN K "field_base" iH f fd) (aK:aW P w K mg base "without_sign" 1 cR) (aH:aW P w K mg base "is_plain" 1 dQ):
  aJ P w K mg base cJ 2 f fd ["one","other"] (cV K iq):=by
 refine Fn.okJ ox (λds S k h=>?_) (λcdv A outer s H E hr=>⟨_,(ah (ak (dq aK hr (aa (oG (bZ (dq aH hr (az 0 ac))) (aT 1) (aT 0)) ac)))),λds S k h=>?_⟩)
 ·obtain⟨_,_,_,_,_,rfl,_⟩:=h
  rfl
 ·obtain⟨u,a,b,c,d,rfl,u0,w⟩:=h;refine⟨fr a,ss b*u,rfl,aS (λe=>⟨_,rfl,?_⟩) (λe=>⟨_,rfl,?_⟩)⟩
  ·have e2:b=0:=(kM u0).mp e;rw [show pick b d=d from if_pos e2] at w
   rw [oZ u0];exact w
  ·have e2:¬ b=0:=λz=>e ((kM u0).mpr z)
   rw [show pick b d=b from if_neg e2] at w
   rw [oZ u0];exact w
def pF:ca:=λds S k=>∃ u a b e:Rat,ds=[N u a b,fr (e*e*u)]/\0 < u/\(b=0\/e≠0)/\Sm 5100000 b e/\Sz 6700000 u/\k (fr (b / ab e)) S
theorem qY:ar ["one","base","root"] ["one","base"] (ai p5):=eu
theorem x6 (Fn:FN K "share" p5 f fd) (aH:aW P w K mg base "is_plain" 1 dQ) (cX:aW P w K mg base "root_in" 36 jF) (cA:aW P w K mg base "over" 35 lE) (aK:aW P w K mg base "without_sign" 1 cR) (aO:aW P w K mg base "with_sign_of" 2 cO) (a9:oi K mg "NOUGHT" [0,1]):
  aJ P w K mg base cJ 37 f fd ["one","base"] (cV K pF):=by
 refine Fn.okJ qY (λds S k h=>?_) (λcdv A outer s H E hr=>⟨_,(af (aA (bZ (dq aH hr (az 0 ac))) (ah (ak (fD a9 rfl))) aF) (af (aj (i:=2) qY.nd (dq cX hr (aa (dq cA hr (aa (dq aK hr (aa (aT 0) ac)) (az 1 ac))) ac))) (af (aA (aw uT (ag 2) eR (aE _)) (ah dN) aF) (ah (ak (dq aO hr (az 2 (aa (aT 0) ac)))))))),λds S k h=>?_⟩)
 ·obtain⟨_,_,_,_,rfl,_⟩:=h
  rfl
 ·obtain⟨u,a,b,e,rfl,u0,hbe,hs,hu,w⟩:=h;refine⟨fr a,ss b*u,rfl,aS (λz=>?_) (λz=>?_)⟩
  ·have e2:b=0:=(kM u0).mp z;subst e2;rw [show (0:Rat) / ab e=0 by grind] at w
   exact w
  ·have e2:¬ b=0:=λq=>z ((kM u0).mpr q)
   have e0:e≠0:=hbe.resolve_left e2;have ne:e*e*u≠0:=by grind
   have ea:ab (ss b*u)=b*b*u:=oZ u0;have s1:Sz 16900000 (ab (ss b*u)):=(hs.a.ss.mul hu).ab;have s2:Sz 16900000 (e*e*u):=(hs.b.mul hs.b).mul hu;have nn:0<=ab (ss b*u) / (e*e*u):=jx (kg _) (GK (dy e) (Rat.le_of_lt u0));refine⟨_,rfl,ab (ss b*u),e*e*u,rfl,ne,s1.mono (by decide),s2.mono (by decide),_,rfl,nn,(s1.div s2 ne).mono (by decide),λr r0 rr=>?_,λno=>?_⟩
   ·rw [ea] at rr;have er:=rR u0 e0 r0 rr;subst er;refine⟨_,ss b*u,rfl,?_⟩;rw [wN u0];exact w
   ·rw [ea] at no;exact absurd (xB u0 e0) (no _)
def mK:ca:=λds S k=>∃ a p c:Rat,ds=[fr a,fr p,fr c]/\Sz 24000000 p/\Sz 17000000 c/\k (.tup [fr a,fr (ss p*c)]) S
theorem oz:ar ["part","portion","base","under"] ["part","portion","base"] (ai nF):=eu
theorem uA (Fn:FN K "joined" nF f fd) (aL:aW P w K mg base "times" 35 fJ) (aO:aW P w K mg base "with_sign_of" 2 cO):
  aJ P w K mg base cJ 36 f fd ["part","portion","base"] (cV K mK):=by
 refine Fn.okJ oz (λds S k h=>?_) (λcdv A outer s H E hr=>⟨_,(af (aj (i:=3) oz.nd (dq aL hr (aa (dq aL hr (az 1 (az 1 ac))) (az 2 ac)))) (ah (ak (aD (az 0 (aa (dq aO hr (az 3 (az 1 ac))) ac)))))),λds S k h=>?_⟩)
 ·obtain⟨_,_,_,rfl,_⟩:=h
  rfl
 ·obtain⟨a,p,c,rfl,hp,hc,w⟩:=h;refine⟨p,p,rfl,hp.mono (by decide),hp.mono (by decide),p*p,c,rfl,(hp.mul hp).mono (by decide),hc.mono (by decide),p*p*c,p,rfl,dM,?_⟩
  rw [wS];exact w
def iY:ca:=λds S k=>∃ u a b:Rat,ds=[N u a b]/\k (N u (-a) (-b)) S
theorem lM:ar ["one"] ["one"] (ai ft):=eu
theorem lA (Fn:FN K "root_negative" ft f fd) (aI:aW P w K mg base "negative" 1 dO):
  aJ P w K mg base cJ 2 f fd ["one"] (cV K iY):=by
 refine Fn.okJ lM (λds S k h=>?_) (λcdv A outer s H E hr=>⟨_,(ah (ak (aD (aa (dq aI hr (aa (aT 0) ac)) (aa (dq aI hr (aa (aT 0) ac)) ac))))),λds S k h=>?_⟩)
 ·obtain⟨_,_,_,rfl,_⟩:=h
  rfl
 ·obtain⟨u,a,b,rfl,w⟩:=h;refine⟨a,rfl,ss b*u,rfl,dM,?_⟩;unfold N at w;rw [df,show -ss b*u=-(ss b*u) by grind] at w
  exact w
def bs (u b d:Rat):Rat:=pick b d*pick b d*u
theorem zN {u b d:Rat} (hu:Fd u) (hb:Sz 5100000 b) (hd:Sz 5100000 d):Sz 16900000 (bs u b d):=((hb.pick hd).mul (hb.pick hd)).mul hu.sz
theorem zH {b d e:Rat} (hb:Sz 5100000 b) (he:Sz 5100000 e):Sz 10200100 (b / ab e):=(hb.div' he.ab).mono (by decide)
structure Sn (a b:Rat):Prop where
 a:Sz 12500000 a
 b:Sz 5100000 b
theorem Sn.neg {a b:Rat} (h:Sn a b):Sn (-a) (-b):=⟨h.a.neg,h.b.neg⟩
theorem Sm.sn {n:Nat} {a b:Rat} (h:Sm n a b) (hn:n<=5100000):Sn a b:=⟨h.a.mono (by omega),h.b.mono hn⟩
def fg:ca:=λds S k=>∃ u a b c d:Rat,ds=[N u a b,N u c d]/\Fd u/\Sn a b/\Sn c d/\k (N u (a+c) (b+d)) S
theorem iK:ar ["one","other","base","portion"] ["one","other"] (ai jg):=eu
theorem qv (Fn:FN K "root_plus" jg f fd) (cY:aW P w K mg base "field_base" 2 iq) (bg:aW P w K mg base "plus" 35 iC) (gI:aW P w K mg base "share" 37 pF) (ii:aW P w K mg base "joined" 36 mK):
  aJ P w K mg base cJ 38 f fd ["one","other"] (cV K fg):=by
 refine Fn.okJ iK (λds S k h=>?_) (λcdv A outer s H E hr=>⟨_,(af (aj (i:=2) iK.nd (dq cY hr (az 0 (az 1 ac)))) (af (aj (i:=3) iK.nd (dq bg hr (aa (dq gI hr (az 0 (az 2 ac))) (aa (dq gI hr (az 1 (az 2 ac))) ac)))) (ah (ak (dq ii hr (aa (dq bg hr (aa (aT 0) (aa (aT 1) ac))) (az 3 (az 2 ac)))))))),λds S k h=>?_⟩)
 ·obtain⟨_,_,_,_,_,rfl,_⟩:=h
  rfl
 ·obtain⟨u,a,b,c,d,rfl,hu,h1,h2,w⟩:=h;have hp:=h1.b.pick h2.b;have s1:=zH (d:=d) h1.b hp;have s2:=zH (d:=d) h2.b hp;refine⟨u,a,b,c,d,rfl,hu.pos,u,a,b,pick b d,rfl,hu.pos,xV,⟨h1.b,hp⟩,hu.sz,u,c,d,pick b d,rfl,hu.pos,xj,⟨h2.b,hp⟩,hu.sz,_,_,rfl,s1.mono (by decide),s2.mono (by decide),?_⟩
  refine⟨a,c,rfl,h1.a.mono (by decide),h2.a.mono (by decide),_,_,_,rfl,(s1.add s2).mono (by decide),(zN hu h1.b h2.b).mono (by decide),?_⟩
  rw [uB];exact w
def eA:ca:=λds S k=>∃ u a b c d:Rat,ds=[N u a b,N u c d]/\Fd u/\Sn a b/\Sn c d/\k (N u (a - c) (b - d)) S
theorem n4:ar ["one","other"] ["one","other"] (ai iS):=eu
theorem om (Fn:FN K "root_minus" iS f fd) (aM:aW P w K mg base "root_plus" 38 fg) (fq:aW P w K mg base "root_negative" 2 iY):
  aJ P w K mg base cJ 39 f fd ["one","other"] (cV K eA):=by
 refine Fn.okJ n4 (λds S k h=>?_) (λcdv A outer s H E hr=>⟨_,(ah (ak (dq aM hr (az 0 (aa (dq fq hr (az 1 ac)) ac))))),λds S k h=>?_⟩)
 ·obtain⟨_,_,_,_,_,rfl,_⟩:=h
  rfl
 ·obtain⟨u,a,b,c,d,rfl,hu,h1,h2,w⟩:=h;refine⟨u,c,d,rfl,u,a,b,-c,-d,rfl,hu,h1,h2.neg,?_⟩;rw [show a - c=a+-c by grind,show b - d=b+-d by grind] at w
  exact w
def iM:ca:=λds S k=>∃ u a b c d:Rat,ds=[N u a b,N u c d]/\Fd u/\Sm 1250000 a b/\Sm 1250000 c d/\k (N u (a*c+b*d*u) (a*d+b*c)) S
theorem cw:ar ["one","other","base","mine","theirs","part","portion"] ["one","other"] (ai ij):=eu
theorem nZ (Fn:FN K "root_times" ij f fd) (cY:aW P w K mg base "field_base" 2 iq) (gI:aW P w K mg base "share" 37 pF) (bg:aW P w K mg base "plus" 35 iC) (aL:aW P w K mg base "times" 35 fJ) (ii:aW P w K mg base "joined" 36 mK):
  aJ P w K mg base cJ 38 f fd ["one","other"] (cV K iM):=by
 refine Fn.okJ cw (λds S k h=>?_) (λcdv A outer s H E hr=>⟨_,(af (aj (i:=2) cw.nd (dq cY hr (az 0 (az 1 ac)))) (af (aj (i:=3) cw.nd (dq gI hr (az 0 (az 2 ac)))) (af (aj (i:=4) cw.nd (dq gI hr (az 1 (az 2 ac)))) (af (aj (i:=5) cw.nd (dq bg hr (aa (dq aL hr (aa (aT 0) (aa (aT 1) ac))) (aa (dq aL hr (aa (dq aL hr (az 3 (az 4 ac))) (az 2 ac))) ac)))) (af (aj (i:=6) cw.nd (dq bg hr (aa (dq aL hr (aa (aT 0) (az 4 ac))) (aa (dq aL hr (aa (aT 1) (az 3 ac))) ac)))) (ah (ak (dq ii hr (az 5 (az 6 (az 2 ac))))))))))),λds S k h=>?_⟩)
 ·obtain⟨_,_,_,_,_,rfl,_⟩:=h
  rfl
 ·obtain⟨u,a,b,c,d,rfl,hu,h1,h2,w⟩:=h;have b1:=h1.b.mono (n:=5100000) (by decide)
  have b2:=h2.b.mono (n:=5100000) (by decide)
  have hp0:=h1.b.pick h2.b;have hp:=b1.pick b2;have s1:Sz 2500001 (b / ab (pick b d)):=h1.b.div' hp0.ab;have s2:Sz 2500001 (d / ab (pick b d)):=h2.b.div' hp0.ab;have s3:=zN hu b1 b2;refine⟨u,a,b,c,d,rfl,hu.pos,u,a,b,pick b d,rfl,hu.pos,xV,⟨b1,hp⟩,hu.sz,u,c,d,pick b d,rfl,hu.pos,xj,⟨b2,hp⟩,hu.sz,?_⟩;refine⟨a,c,rfl,h1.a.mono (by decide),h2.a.mono (by decide),_,_,rfl,s1.mono (by decide),s2.mono (by decide),_,_,rfl,(s1.mul s2).mono (by decide),s3.mono (by decide),_,_,rfl,(h1.a.mul h2.a).mono (by decide),((s1.mul s2).mul s3).mono (by decide),?_⟩
  refine⟨a,_,rfl,h1.a.mono (by decide),s2.mono (by decide),c,_,rfl,h2.a.mono (by decide),s1.mono (by decide),_,_,rfl,(h1.a.mul s2).mono (by decide),(h2.a.mul s1).mono (by decide),?_⟩
  refine⟨_,_,_,rfl,((h1.a.mul s2).add (h2.a.mul s1)).mono (by decide),s3.mono (by decide),?_⟩
  rw [rJ,sT];exact w
set_option maxHeartbeats 4000000
def cK (S S':DH):Prop:=∀ b o,S b=some o->S' b=some o
theorem cK.refl (S:DH):cK S S:=λ_ _ h=>h
theorem cK.trans {S S1 S2:DH} (a:cK S S1) (b:cK S1 S2):cK S S2:=λc o h=>b c o (a c o h)
theorem cK.new {S:DH} {p:Hm} {o:DO} (h:S p=none):cK S (put S p o):=λb u e=>by
 unfold put
 split
 ·rename_i z; subst z; rw [h] at e; cases e
 ·exact e
theorem cK.put {S S1:DH} {p:Hm} {o:DO} (e:cK S S1) (h:S p=none):cK S (put S1 p o):=λb u z=>by
 unfold DL.put
 split
 ·rename_i y; subst y; rw [h] at z; cases z
 ·exact e b u z
theorem cK.none {S S1:DH} {p:Hm} (e:cK S S1) (h:S1 p=none):S p=none:=by
 cases q:S p with
 | none=>rfl
 | some o=>rw [e p o q] at h; cases h
theorem du {u r:Rat}:D.tup [fr r,fr 0]=N u r 0:=by
 unfold N;rw [show ss 0*u=0 by unfold ss; grind]
abbrev Q:=Rat×Rat
def qa (x y:Q):Q:=(x.1+y.1,x.2+y.2)
def qs (x y:Q):Q:=(x.1 - y.1,x.2 - y.2)
def qm (u:Rat) (x y:Q):Q:=(x.1*y.1+x.2*y.2*u,x.1*y.2+x.2*y.1)
abbrev Sq (n:Nat) (x:Q):Prop:=Sm n x.1 x.2
theorem FU {m n:Nat} {x y:Q} (h:Sq m x) (h':Sq n y):Sq (m+n+1) (qa x y):=h.add h'
theorem Ev {m n:Nat} {x y:Q} (h:Sq m x) (h':Sq n y):Sq (m+n+1) (qs x y):=h.sub h'
def Pq (u:Rat) (x y:Q):D:=.tup [N u x.1 x.2,N u y.1 y.2]
def qo (p:Rat):Q:=(p,0)
theorem C6 {n:Nat} {p:Rat} (h:Sz n p) (hn:1<=n):Sq n (qo p):=⟨h,Sz.zero.mono hn⟩
def gM (u:Rat) (x y:Q):Q:=qa (qm u x x) (qm u y y)
def mG (u:Rat) (x y z w p q:Q):Q:=qa x (qs (qm u p (qs z x)) (qm u q (qs w y)))
def nj (u:Rat) (x y z w p q:Q):Q:=qa y (qa (qm u p (qs w y)) (qm u q (qs z x)))
def uf (u:Rat) (x y z w a b:Q):Q:=qs (qm u (qs z x) (qs b y)) (qm u (qs w y) (qs a x))
def gQ:ca:=λds S k=>∃ (u:Rat) (x y z v:Q),ds=[Pq u x y,Pq u z v]/\Fd u/\Sq 610000 x/\Sq 610000 y/\Sq 610000 z/\Sq 610000 v/\k (Pq u (qs z x) (qs v y)) S
theorem mH:ar ["one","other"] ["one","other"] (ai gO):=eu
theorem nH (Fn:FN K "way_between" gO f fd) (aX:aW P w K mg base "root_minus" 39 eA):
  aJ P w K mg base cJ 40 f fd ["one","other"] (cV K gQ):=by
 refine Fn.okJ mH (λds S k h=>?_) (λcdv A outer s H E hr=>⟨_,(ah (ak (aD (aa (dq aX hr (aa (aT 1) (aa (aT 0) ac))) (aa (dq aX hr (aa (aT 1) (aa (aT 0) ac))) ac))))),λds S k h=>?_⟩)
 ·obtain⟨_,_,_,_,_,rfl,_⟩:=h
  rfl
 ·obtain⟨u,x,y,z,v,rfl,hu,hx,hy,hz,hv,w⟩:=h;exact⟨u,_,_,_,_,rfl,hu,hz.sn (by decide),hx.sn (by decide),u,_,_,_,_,rfl,hu,hv.sn (by decide),hy.sn (by decide),dM,w⟩
def W (x y:Rat):D:=.tup [fr x,fr y]
def PP (x y:Rat):D:=.tup [.tup [fr x,fr 0],.tup [fr y,fr 0]]
noncomputable def MP (x y a b s:Rat):D:=.tup [vo x (ss a*s),vo y (ss b*s)]
noncomputable def hV (x y a b s:Rat):List D:=if s < 0 then [] else if s=0 then [PP x y] else [MP x y a b s,MP x y (-a) (-b) s]
def dw:ca:=λds S k=>∃ x y:Rat,ds=[W x y]/\k (PP x y) S
theorem nL:ar ["place"] ["place"] (ai gZ):=eu
theorem mV (Fn:FN K "plain_point" gZ f fd) (a9:oi K mg "NOUGHT" [0,1]):
  aJ P w K mg base cJ 1 f fd ["place"] (cV K dw):=by
 refine Fn.okJ nL (λds S k h=>?_) (λcdv A outer s H E hr=>⟨_,(ah (ak (aD (aa (aD (aa (aT 0) (aa (fD a9 rfl) ac))) (aa (aD (aa (aT 0) (aa (fD a9 rfl) ac))) ac))))),λds S k h=>?_⟩)
 ·obtain⟨_,_,rfl,_⟩:=h
  rfl
 ·obtain⟨x,y,rfl,w⟩:=h;exact⟨dM,dM,dM,w⟩
def iP:ca:=λds S k=>∃ x y:Rat,ds=[PP x y]/\k (W x y) S
theorem rb:ar ["point"] ["point"] (ai j7):=eu
theorem qC (Fn:FN K "place_of" j7 f fd):
  aJ P w K mg base cJ 1 f fd ["point"] (cV K iP):=by
 refine Fn.okJ rb (λds S k h=>?_) (λcdv A outer s H E hr=>⟨_,(ah (ak (aD (aa (bn fj (aT 0) am Zf) (aa (bn fj (aT 0) am Zf) ac))))),λds S k h=>?_⟩)
 ·obtain⟨_,_,rfl,_⟩:=h
  rfl
 ·obtain⟨x,y,rfl,w⟩:=h;exact⟨dM,w⟩
def jB:ca:=λds S k=>∃ x y z v:Rat,ds=[W x y,W z v]/\Sz 60000000 x/\Sz 60000000 y/\Sz 60000000 z/\Sz 60000000 v/\k (W (z - x) (v - y)) S
theorem pi:ar ["one","other"] ["one","other"] (ai jh):=eu
theorem pJ (Fn:FN K "plain_way" jh f fd) (ci:aW P w K mg base "minus" 35 kQ):
  aJ P w K mg base cJ 36 f fd ["one","other"] (cV K jB):=by
 refine Fn.okJ pi (λds S k h=>?_) (λcdv A outer s H E hr=>⟨_,(ah (ak (aD (aa (dq ci hr (aa (aT 1) (aa (aT 0) ac))) (aa (dq ci hr (aa (aT 1) (aa (aT 0) ac))) ac))))),λds S k h=>?_⟩)
 ·obtain⟨_,_,_,_,rfl,_⟩:=h
  rfl
 ·obtain⟨x,y,z,v,rfl,hx,hy,hz,hv,w⟩:=h;exact⟨z,x,rfl,hz,hx,v,y,rfl,hv,hy,dM,w⟩
def eN:ca:=λds S k=>∃ x y z v:Rat,ds=[W x y,W z v]/\Sz 360000 x/\Sz 360000 y/\Sz 360000 z/\Sz 360000 v/\k (fr (x*z+y*v)) S
theorem kf:ar ["one","other"] ["one","other"] (ai eB):=eu
theorem j_ (Fn:FN K "product_of_ways" eB f fd) (bg:aW P w K mg base "plus" 35 iC) (aL:aW P w K mg base "times" 35 fJ):
  aJ P w K mg base cJ 36 f fd ["one","other"] (cV K eN):=by
 refine Fn.okJ kf (λds S k h=>?_) (λcdv A outer s H E hr=>⟨_,(ah (ak (dq bg hr (aa (dq aL hr (aa (aT 0) (aa (aT 1) ac))) (aa (dq aL hr (aa (aT 0) (aa (aT 1) ac))) ac))))),λds S k h=>?_⟩)
 ·obtain⟨_,_,_,_,rfl,_⟩:=h
  rfl
 ·obtain⟨x,y,z,v,rfl,hx,hy,hz,hv,w⟩:=h;exact⟨x,z,rfl,hx.mono (by decide),hz.mono (by decide),y,v,rfl,hy.mono (by decide),hv.mono (by decide),_,_,rfl,(hx.mul hz).mono (by decide),(hy.mul hv).mono (by decide),w⟩
def my:ca:=λds S k=>∃ x y a b t:Rat,ds=[W x y,W a b,fr t]/\Sz 360000 x/\Sz 360000 y/\Sz 360000 a/\Sz 360000 b/\Sz 360000 t/\k (W (x+a*t) (y+b*t)) S
theorem vP:ar ["place","way","by"] ["place","way","by"] (ai p_):=eu
theorem wa (Fn:FN K "moved" p_ f fd) (bg:aW P w K mg base "plus" 35 iC) (aL:aW P w K mg base "times" 35 fJ):
  aJ P w K mg base cJ 36 f fd ["place","way","by"] (cV K my):=by
 refine Fn.okJ vP (λds S k h=>?_) (λcdv A outer s H E hr=>⟨_,(ah (ak (aD (aa (dq bg hr (aa (aT 0) (aa (dq aL hr (aa (aT 1) (az 2 ac))) ac))) (aa (dq bg hr (aa (aT 0) (aa (dq aL hr (aa (aT 1) (az 2 ac))) ac))) ac))))),λds S k h=>?_⟩)
 ·obtain⟨_,_,_,_,_,rfl,_⟩:=h
  rfl
 ·obtain⟨x,y,a,b,t,rfl,hx,hy,ha,hb,ht,w⟩:=h;exact⟨a,t,rfl,ha.mono (by decide),ht.mono (by decide),_,_,rfl,hx.mono (by decide),(ha.mul ht).mono (by decide),b,t,rfl,hb.mono (by decide),ht.mono (by decide),_,_,rfl,hy.mono (by decide),(hb.mul ht).mono (by decide),dM,w⟩
def i6:ca:=λds S k=>∃ x y a b s:Rat,ds=[W x y,W a b,fr s]/\Sz 400000 x/\Sz 400000 y/\Sz 160000 a/\Sz 160000 b/\Sz 400000 s/\∀ S',cK S S'->k (MP x y a b s) S'
theorem b9:ar ["place","way","square","numbers","part","portion","under"] ["place","way","square"] (ai fu):=eu
theorem lK (Fn:FN K "moved_by_root" fu f fd) (aL:aW P w K mg base "times" 35 fJ) (sm:aW P w K mg base "made" 37 xI) (aO:aW P w K mg base "with_sign_of" 2 cO) (vK:mg "zip"=none):
  aJ P w K mg base cJ 38 f fd ["place","way","square"] (cV K i6):=by
 refine Fn.okJ b9 (λds S k h=>?_) (λcdv A outer s H E hr=>⟨_,(af (aj (i:=3) b9.nd (dj ac)) (af (uq PassesOwn.never rfl rfl vK (az 0 (az 1 ac)) (mD (n:=2) rfl (dZ (aQ (i:=4) b9.nd) (dZ (aQ (i:=5) b9.nd) kC))) (af (aj (i:=6) b9.nd (dq aL hr (aa (dq aL hr (az 5 (az 5 ac))) (az 2 ac)))) (ah (bo (fA (ag 3) (dq sm hr (az 4 (aa (dq aO hr (az 6 (az 5 ac))) ac)))))))) (ah (ak (aD (aa (aT 3) (aa (aT 3) ac))))))),λds S k h=>?_⟩)
 ·obtain⟨_,_,_,_,_,rfl,_⟩:=h
  rfl
 ·obtain⟨x,y,a,b,s,rfl,hx,hy,ha,hb,hs,w⟩:=h;have big':∀ n:Nat,n < 300->n < sizeLine:=λn h=>GA h (GE (rfl:Nat.ble 300 sizeLine=true))
  refine⟨dM,λq hq=>⟨([fr x,fr y],none),([fr a,fr b],none),rfl,rfl,?_⟩⟩
  have m1:=(ha.mul ha).mul hs;have m2:=(hb.mul hb).mul hs;have s1:Sz 800000 (sg (a*a*s) a):=m1.sg.mono (by decide)
  have s2:Sz 800000 (sg (b*b*s) b):=m2.sg.mono (by decide)
  refine⟨⟨trivial,trivial⟩,([fr x,fr a],none),rfl,rfl,rfl,a,a,rfl,ha.mono (by decide),ha.mono (by decide),_,s,rfl,(ha.mul ha).mono (by decide),hs.mono (by decide),?_⟩
  refine⟨⟨_,aq⟩,_,a,rfl,x,_,rfl,hx.mono (by decide),s1,[],aq,big' 0 (by decide),?_⟩
  refine⟨⟨trivial,trivial⟩,([fr y,fr b],none),rfl,rfl,rfl,b,b,rfl,hb.mono (by decide),hb.mono (by decide),_,s,rfl,(hb.mul hb).mono (by decide),hs.mono (by decide),?_⟩
  refine⟨⟨_,aq⟩,_,b,rfl,y,_,rfl,hy.mono (by decide),s2,_,aq,big' 1 (by decide),?_⟩
  refine⟨⟨trivial,trivial⟩,_,_,aq,nA,_,_,aq,AW,dM,?_⟩;rw [wS,wS];exact w _ (((cK.new hq).put hq).put hq)
def iI:ca:=λds S k=>∃ x y a b s:Rat,ds=[W x y,W a b,fr s]/\Sz 400000 x/\Sz 400000 y/\Sz 160000 a/\Sz 160000 b/\Sz 400000 s/\∀ S' p,cK S S'->S' p=none->k (.ref p) (put S' p (.lst (hV x y a b s)))
theorem jP:ar ["place","way","square","against"] ["place","way","square"] (ai iE):=eu
theorem oq (Fn:FN K "both_moved" iE f fd) (aV:aW P w K mg base "plain_point" 1 dw) (aI:aW P w K mg base "negative" 1 dO) (dA:aW P w K mg base "moved_by_root" 38 i6):
  aJ P w K mg base cJ 39 f fd ["place","way","square"] (cV K iI):=by
 refine Fn.okJ jP (λds S k h=>?_) (λcdv A outer s H E hr=>⟨_,(af (aA (aw mP (aT 2) am (aE _)) (ah (ak (dj ac))) aF) (af (aA (aw fy (aT 2) am (aE _)) (ah (ak (dj (aa (dq aV hr (az 0 ac)) ac)))) aF) (af (aj (i:=3) jP.nd (aD (aa (dq aI hr (aa (aT 1) ac)) (aa (dq aI hr (aa (aT 1) ac)) ac)))) (ah (ak (dj (aa (dq dA hr (az 0 (az 1 (az 2 ac)))) (aa (dq dA hr (az 0 (az 3 (az 2 ac)))) ac)))))))),λds S k h=>?_⟩)
 ·obtain⟨_,_,_,_,_,rfl,_⟩:=h
  rfl
 ·obtain⟨x,y,a,b,s,rfl,hx,hy,ha,hb,hs,w⟩:=h;refine aS (λn=>?_) (λn=>aS (λz=>?_) (λz=>?_))
  ·have w':=λp hp=>w S p (cK.refl S) hp
   rw [show hV x y a b s=[] from if_pos ((dS s).mp n)] at w'
   exact⟨dM,w'⟩
  ·have z:s=0:=Rat.num_eq_zero.mp z;have w':=λp hp=>w S p (cK.refl S) hp
   rw [show hV x y a b s=[PP x y] by unfold hV; rw [if_neg (by rw [z]; decide),if_pos z]] at w'
   exact⟨x,y,rfl,dM,w'⟩
  ·have z:s≠0:=λq=>z (by rw [q]; rfl)
   refine⟨a,rfl,b,rfl,dM,x,y,a,b,s,rfl,hx,hy,ha,hb,hs,λS1 e1=>⟨x,y,-a,-b,s,rfl,hx,hy,ha.neg,hb.neg,hs,λS2 e2=>⟨dM,λp hp=>?_⟩⟩⟩
   have w':=w S2 p (e1.trans e2) hp;rw [show hV x y a b s=[MP x y a b s,MP x y (-a) (-b) s] by unfold hV; rw [if_neg (λq=>n ((dS s).mpr q)),if_neg z]] at w'
   exact w'
def gy:ca:=λds S k=>∃ a b:Rat,ds=[W a b]/\Sz 360000 a/\Sz 360000 b/\a*a+b*b≠0/\k (fr (a*a+b*b)) S
theorem b7:ar ["way","square"] ["way"] (ai cg):=eu
theorem jO (Fn:FN K "square_of_unlike" cg f fd) (bv:aW P w K mg base "product_of_ways" 36 eN):
  aJ P w K mg base cJ 37 f fd ["way"] (cV K gy):=by
 refine Fn.okJ b7 (λds S k h=>?_) (λcdv A outer s H E hr=>⟨_,(af (aj (i:=1) b7.nd (dq bv hr (az 0 (az 0 ac)))) (af (aA (aw fy (aT 1) am (aE _)) (ah dN) aF) (ah (ak (ag 1))))),λds S k h=>?_⟩)
 ·obtain⟨_,_,rfl,_⟩:=h
  rfl
 ·obtain⟨a,b,rfl,ha,hb,h0,w⟩:=h;exact⟨a,b,a,b,rfl,ha,hb,ha,hb,aS (λz=>absurd (Rat.num_eq_zero.mp z) h0) (λ_=>w)⟩
set_option maxHeartbeats 4000000
abbrev Gn:=Rat×Rat
abbrev gD (n:Gn):D:=.tup [fr n.1,fr n.2]
abbrev gP (p:Gn×Gn):D:=.tup [gD p.1,gD p.2]
def yq (q:Rat):Prop:=∃ r,r*r=q
def yV (m n:Gn):Prop:=m.2=0\/n.2=0\/yq (ab m.2 / ab n.2)
noncomputable def zf (m n:Gn):Hx:=@decide (yV m n) (Classical.propDecidable _)
theorem xT {m n:Gn} (h:yV m n):zf m n=true:=@decide_eq_true _ (Classical.propDecidable _) h
theorem zR {m n:Gn} (h:¬ yV m n):zf m n=false:=@G_ _ (Classical.propDecidable _) h
theorem An {m n:Gn} (h:zf m n=true):yV m n:=by
 apply Classical.byContradiction;intro z;rw [zR z] at h;cases h
def jy:ca:=λds S k=>∃ m n:Gn,ds=[gD m,gD n]/\Sz 6700000 m.2/\Sz 6700000 n.2/\k (.bl (zf m n)) S
theorem qx:ar ["one","other"] ["one","other"] (ai jd):=eu
theorem pC (Fn:FN K "one_field" jd f fd) (aH:aW P w K mg base "is_plain" 1 dQ) (cX:aW P w K mg base "root_in" 36 jF) (cA:aW P w K mg base "over" 35 lE) (aK:aW P w K mg base "without_sign" 1 cR):
  aJ P w K mg base cJ 37 f fd ["one","other"] (cV K jy):=by
 refine Fn.okJ qx (λds S k h=>?_) (λcdv A outer s H E hr=>⟨_,(af (aA (WJ.pt (lr (bZ (dq aH hr (az 0 ac))) (kI (bZ (dq aH hr (az 1 ac)))))) (ah (ak kU)) aF) (ah (ak (ww yg (dq cX hr (aa (dq cA hr (aa (dq aK hr (aa (aT 0) ac)) (aa (dq aK hr (aa (aT 1) ac)) ac))) ac)) eR (aE _))))),λds S k h=>?_⟩)
 ·obtain⟨_,_,rfl,_⟩:=h
  rfl
 ·obtain⟨m,n,rfl,hm,hn,w⟩:=h;have yes:(m.2=0\/n.2=0\/yq (ab m.2 / ab n.2))->k (.bl true) S:=λc=>by
   rw [show zf m n=true from xT c] at w
   exact w
  refine⟨fr m.1,m.2,rfl,aS (λe=>yes (.inl e)) (λe=>⟨fr n.1,n.2,rfl,aS (λe2=>yes (.inr (.inl e2))) (λe2=>?_)⟩)⟩
  have ne:ab n.2≠0:=iU e2;refine⟨_,rfl,_,rfl,_,_,rfl,ne,hm.ab.mono (by decide),hn.ab.mono (by decide),_,rfl,jx (kg _) (kg _),(hm.ab.div hn.ab ne).mono (by decide),λr r0 rr=>yes (.inr (.inr ⟨r,rr⟩)),λno=>?_⟩
  rw [show zf m n=false from zR (by rintro(z | z | ⟨r,z⟩); exact e z; exact e2 z; exact no r z)] at w
  exact w
def cM (ps:List (Gn×Gn)):List Gn:=ps.flatMap λp=>[p.1,p.2].filter λn=>!decide (n.2=0)
def uH (ps:List (Gn×Gn)):Prop:=∀ n∈(cM ps).tail,zf ((cM ps).headD (0,0)) n=true
theorem p9:∀ ps:List (Gn×Gn),(cM ps).length<=2*ps.length
 | []=>Gq _
 | p::ps=>by
  have ih:=p9 ps;unfold cM at ih ⊢;rw [List.flatMap_cons,GH,GC];have:([p.1,p.2].filter λn=>!decide (n.2=0)).length<=2:=List.length_filter_le _ _
  omega
theorem kK {ps:List (Gn×Gn)} {n:Gn} (h:n∈cM ps):n.2≠0/\∃ p∈ps,n=p.1\/n=p.2:=by
 obtain⟨p,hp,hn⟩:=List.mem_flatMap.mp h;obtain⟨h1,h2⟩:=List.mem_filter.mp hn;refine⟨by simpa using h2,p,hp,by simpa using h1⟩
theorem qh {ps qs:List (Gn×Gn)}:cM (ps++qs)=cM ps++cM qs:=by unfold cM; rw [List.flatMap_append]
theorem pd {p:Gn×Gn} (h1:¬ p.1.2=0) (h2:¬ p.2.2=0):cM [p]=[p.1,p.2]:=by simp [cM,h1,h2]
theorem qc {p:Gn×Gn} (h1:¬ p.1.2=0) (h2:p.2.2=0):cM [p]=[p.1]:=by simp [cM,h1,h2]
theorem qe {p:Gn×Gn} (h1:p.1.2=0) (h2:¬ p.2.2=0):cM [p]=[p.2]:=by simp [cM,h1,h2]
theorem pA {p:Gn×Gn} (h1:p.1.2=0) (h2:p.2.2=0):cM [p]=[]:=by simp [cM,h1,h2]
theorem oU (n:Nat) (h:n < 300):n < sizeLine:=GA h (GE (rfl:Nat.ble 300 sizeLine=true))
theorem zO {x:D} {t:List D}:DL.eU (x::t) (some 1) none=t:=by
 unfold DL.eU;have h1:HT.cS (x::t).length 0 (some 1)=1:=by unfold HT.cS; simp
 have h2:HT.cS (x::t).length (x::t).length none=(x::t).length:=rfl;rw [h1,h2];simp
theorem Cp {n:Nat} (h:n<=300):n<=sizeLine:=GZ h (GE (rfl:Nat.ble 300 sizeLine=true))
def iV:ca:=λds S k=>∃ ps:List (Gn×Gn),ds=[.tup (ps.map gP)]/\(∀ p∈ps,Sz 6700000 p.1.2/\Sz 6700000 p.2.2)/\ps.length<=90/\uH ps/\∀ S',cK S S'->k .non S'
theorem bc:ar ["points","rooted","point","number"] ["points"] (ai dI):=eu
theorem lB (Fn:FN K "ask_one_field" dI f fd) (aH:aW P w K mg base "is_plain" 1 dQ) (dX:aW P w K mg base "one_field" 37 jy):
  aJ P w K mg base cJ 38 f fd ["points"] (cV K iV):=by
 refine Fn.okJ bc (λds S k h=>?_) (λcdv A outer s H E hr=>⟨_,(af (aj (i:=1) bc.nd (dj ac)) (af (eY PassesOwn.never rfl (ag 0) (aQ (i:=2) bc.nd) (ah (bo (xS (ag 1) (ke rfl (jq (N:=["number"]) (cap:=[none]) rfl rfl rfl rfl trivial rfl rfl trivial) (ag 2) (λ_ _ _ _=>(aQ (i:=0) (show List.Nodup (["number"]:List Str) from by decide +kernel))) (λ_ _ _ _=>(fK (bZ (dq aH hr (az 0 ac))))) (λ_ _ _ _=>(ag 0))))))) (ah (eY PassesOwn.never rfl (t_ (ag 1) (cu am) cm) (aQ (i:=3) bc.nd) (ah (aA (fK (bZ (dq dX hr (aa (aT 1) (az 3 ac))))) (ah dN) aF)))))),λds S k h=>?_⟩)
 ·obtain⟨_,rfl,_⟩:=h
  rfl
 ·obtain⟨ps,rfl,hp,hl,one,w1⟩:=h;refine⟨dM,λq hq=>?_⟩
  refine⟨(ps.map gP,none),rfl,?_⟩;refine fe (λr' L S1=>∃ ps1 ps2 l2 l3,L=[some (.tup (ps.map gP)),some (.ref q),l2,l3]/\cK S S1/\S1 q=some (.lst ((cM ps1).map gD))/\ps=ps1++ps2/\r'=ps2.map gP) (λ_ _ _ _=>trivial) ?_ ?_ _ _ _ ⟨[],ps,none,none,rfl,cK.new hq,aq,rfl,rfl⟩
  ·rintro d r L S1 Nx ⟨ps1,ps2,l2,l3,rfl,e,hS1,eps,er⟩ hN;cases ps2 with
   | nil=>cases er
   | cons p ps2=>
    cases er;have nxt:∀ (es:List D) (S2:DH) (l2':Hn D),es=(cM [p]).map gD->cK S S2->S2 q=some (.lst ((cM ps1).map gD++es))->Nx [some (.tup (ps.map gP)),some (.ref q),l2',l3] S2:=λes S2 l2' he e2 h2=>hN _ _ ⟨ps1++[p],ps2,l2',l3,rfl,e2,by rw [h2,qh,List.map_append,he],by rw [eps,List.append_assoc]; rfl,rfl⟩
    refine⟨⟨_,hS1⟩,([gD p.1,gD p.2],none),rfl,λp1 hp2=>?_⟩
    have qp:q≠p1:=λz=>by subst z; rw [hS1] at hp2; cases hp2
    have sp:S p1=none:=e.none hp2;have hlen:(cM ps1).length<=180:=by
     have h1:=p9 ps1;have h2:ps.length=ps1.length+(p::ps2).length:=by rw [eps,GH]
     omega
    have fin:∀ (es:List D) (S2:DH),cK S S2->S2 q=some (.lst ((cM ps1).map gD))->S2 p1=some (.lst es)->es.length<=2->es=(cM [p]).map gD->∃ ds es',S2 q=some (.lst ds)/\S2 p1=some (.lst es')/\ds.length+es'.length<=sizeLine/\Nx [some (.tup (ps.map gP)),some (.ref q),some (gP p),l3] (put S2 q (.lst (ds++es'))):=λes S2 e2 h1 h2 h3 h4=>
     ⟨_,es,h1,h2,Cp (by rw [Gr]; omega),nxt es _ _ h4 (e2.put hq) aq⟩
    have e0:cK S (put S1 p1 (.lst [])):=e.put sp;have q0:put S1 p1 (.lst []) q=some (.lst ((cM ps1).map gD)):=by rw [cj qp]; exact hS1
    refine⟨trivial,_,_,rfl,fk (λh1=>⟨aq,oU 0 (by decide),trivial,_,_,rfl,fk (λh2=>⟨aq,oU 1 (by decide),trivial,?_⟩) (λh2=>⟨trivial,?_⟩)⟩) (λh1=>⟨trivial,_,_,rfl,fk (λh2=>⟨aq,oU 0 (by decide),trivial,?_⟩) (λh2=>⟨trivial,?_⟩)⟩)⟩
    ·exact fin [gD p.1,gD p.2] _ ((e0.put sp).put sp) (by rw [cj qp,cj qp]; exact q0) aq (by show 2<=2; decide) (by rw [pd h1 h2]; rfl)
    ·exact fin [gD p.1] _ (e0.put sp) (by rw [cj qp]; exact q0) aq (by show 1<=2; decide) (by rw [qc h1 h2]; rfl)
    ·exact fin [gD p.2] _ (e0.put sp) (by rw [cj qp]; exact q0) aq (by show 1<=2; decide) (by rw [qe h1 h2]; rfl)
    ·exact fin [] _ e0 q0 aq (by show 0<=2; decide) (by rw [pA h1 h2]; rfl)
  ·rintro L S1 ⟨ps1,ps2,l2,l3,rfl,e,hS1,eps,er⟩;cases ps2 with
   | cons _ _=>cases er
   | nil=>
    rw [GI] at eps;subst eps;refine⟨_,hS1,λp2 hp2=>⟨(DL.eU ((cM ps).map gD) (some 1) none,some p2),by simp only [aY,aq],?_⟩⟩
    have qp:q≠p2:=λz=>by subst z; rw [hS1] at hp2; cases hp2
    have ecut:DL.eU ((cM ps).map gD) (some 1) none=(cM ps).tail.map gD:=by
     cases cM ps with
     | nil=>rfl
     | cons x t=>exact zO
    refine fe (λr L S2=>∃ t' l2 l3,L=[some (.tup (ps.map gP)),some (.ref q),l2,l3]/\cK S S2/\S2 q=some (.lst ((cM ps).map gD))/\S2 p2=some (.lst (DL.eU ((cM ps).map gD) (some 1) none))/\r=t'.map gD/\(∀ n∈t',n∈cM ps)/\(uH ps↔∀ n∈t',zf ((cM ps).headD (0,0)) n=true)) (λr L S2 ⟨_,_,_,_,_,_,z,_⟩=>z) ?_ ?_ _ _ _ ⟨(cM ps).tail,l2,l3,rfl,e.put (e.none hp2),(cj qp).trans hS1,aq,ecut,λn hn=>List.mem_of_mem_tail hn,Iff.rfl⟩
    ·rintro d r L S2 Nx ⟨t',l2,l3,rfl,e2,h1,h2,er,hm,hO⟩ hN;cases t' with
     | nil=>cases er
     | cons n t'=>
      cases er;obtain⟨x0,t,ex⟩:∃ x0 t,cM ps=x0::t:=by
       cases h:cM ps with
       | nil=>have:=hm n Gy; rw [h] at this; cases this
       | cons x0 t=>exact⟨x0,t,rfl⟩
      have sz:∀ n∈cM ps,Sz 6700000 n.2:=λn hn=>by
       obtain⟨_,p,hp2,hh⟩:=kK hn;rcases hh with rfl | rfl
       ·exact(hp p hp2).1
       ·exact(hp p hp2).2
      have eh:(cM ps).headD (0,0)=x0:=by rw [ex]; rfl
      have h1':=h1;rw [ex] at h1';rw [eh] at hO;refine⟨_,_,h1',nA,x0,n,rfl,sz x0 (by rw [ex]; exact Gy),sz n (hm n Gy),wG (λz=>False.elim ?_) (λz=>hN _ _ ⟨t',_,_,rfl,e2,h1,h2,rfl,λy hy=>hm y (Gz _ hy),?_⟩)⟩
      ·rw [hO.mp one n Gy] at z;cases z
      ·rw [eh];exact⟨λo y hy=>hO.mp o y (Gz _ hy),λo=>hO.mpr λy hy=>by
        rcases Gw.mp hy with rfl | hy
        ·exact z
        ·exact o y hy⟩
    ·rintro L S2 ⟨t',l2,l3,rfl,e2,h1,h2,er,hm,hO⟩;cases t' with
     | cons _ _=>cases er
     | nil=>exact w1 S2 e2
def ie (aC:Hm):kP:=λds S k x=>∃ ps:List (Gn×Gn),ds=[.tup (ps.map gP)]/\(∀ p∈ps,Sz 6700000 p.1.2/\Sz 6700000 p.2.2)/\ps.length<=90/\(uH ps->∀ S',cK S S'->k .non S')/\(¬ uH ps->∀ S',cK S S'->x aC S')
theorem ky {P:Hq} {w:Ht} {K:Fg} {mg:Str->Hn Hl} {base:Hu} {f:Hm} {fd:FuncData} {aC:Hm} (Fn:FN K "ask_one_field" dI f fd) (dX:aW P w K mg base "one_field" 37 jy) (aH:aW P w K mg base "is_plain" 1 dQ) (cU:mg "NoField"=some (.ref aC)) (lG:PySem.W.excIn K aC [.type "ValueError",.type "Exception",.type "BaseException",.type "object"] "ValueError.__new__"=true):
  aJ P w K mg base (fm P w) 38 f fd ["points"] (wl K (ie aC)):=by
 refine Fn.okX bc (λds S k x h=>?_) (λcdv A outer s H E ex hr hE=>⟨_,(af (aj (i:=1) bc.nd (dj ac)) (af (eY PassesOwn.leaving rfl (ag 0) (aQ (i:=2) bc.nd) (ah (bo (xS (ag 1) (ke rfl (jq (N:=["number"]) (cap:=[none]) rfl rfl rfl rfl trivial rfl rfl trivial) (ag 2) (λ_ _ _ _=>(aQ (i:=0) (show List.Nodup (["number"]:List Str) from by decide +kernel))) (λ_ _ _ _=>(fK (bZ (dq aH hr (az 0 ac))))) (λ_ _ _ _=>(ag 0))))))) (ah (eY PassesOwn.leaving rfl (t_ (ag 1) (cu am) cm) (aQ (i:=3) bc.nd) (ah (aA (fK (bZ (dq dX hr (aa (aT 1) (az 3 ac))))) (ah (j6 hE PySem.F.excBase_ValueError lG cU rfl)) aF)))))),λds S k h=>?_⟩)
 ·obtain⟨_,rfl,_⟩:=h
  rfl
 ·obtain⟨ps,rfl,hp,hl,w1,w0⟩:=h;refine⟨dM,λq hq=>?_⟩
  refine⟨(ps.map gP,none),rfl,?_⟩;refine fe (λr' L S1=>∃ ps1 ps2 l2 l3,L=[some (.tup (ps.map gP)),some (.ref q),l2,l3]/\cK S S1/\S1 q=some (.lst ((cM ps1).map gD))/\ps=ps1++ps2/\r'=ps2.map gP) (λ_ _ _ _=>trivial) ?_ ?_ _ _ _ ⟨[],ps,none,none,rfl,cK.new hq,aq,rfl,rfl⟩
  ·rintro d r L S1 Nx ⟨ps1,ps2,l2,l3,rfl,e,hS1,eps,er⟩ hN;cases ps2 with
   | nil=>cases er
   | cons p ps2=>
    cases er;have nxt:∀ (es:List D) (S2:DH) (l2':Hn D),es=(cM [p]).map gD->cK S S2->S2 q=some (.lst ((cM ps1).map gD++es))->Nx [some (.tup (ps.map gP)),some (.ref q),l2',l3] S2:=λes S2 l2' he e2 h2=>hN _ _ ⟨ps1++[p],ps2,l2',l3,rfl,e2,by rw [h2,qh,List.map_append,he],by rw [eps,List.append_assoc]; rfl,rfl⟩
    refine⟨⟨_,hS1⟩,([gD p.1,gD p.2],none),rfl,λp1 hp2=>?_⟩
    have qp:q≠p1:=λz=>by subst z; rw [hS1] at hp2; cases hp2
    have sp:S p1=none:=e.none hp2;have hlen:(cM ps1).length<=180:=by
     have h1:=p9 ps1;have h2:ps.length=ps1.length+(p::ps2).length:=by rw [eps,GH]
     omega
    have fin:∀ (es:List D) (S2:DH),cK S S2->S2 q=some (.lst ((cM ps1).map gD))->S2 p1=some (.lst es)->es.length<=2->es=(cM [p]).map gD->∃ ds es',S2 q=some (.lst ds)/\S2 p1=some (.lst es')/\ds.length+es'.length<=sizeLine/\Nx [some (.tup (ps.map gP)),some (.ref q),some (gP p),l3] (put S2 q (.lst (ds++es'))):=λes S2 e2 h1 h2 h3 h4=>
     ⟨_,es,h1,h2,Cp (by rw [Gr]; omega),nxt es _ _ h4 (e2.put hq) aq⟩
    have e0:cK S (put S1 p1 (.lst [])):=e.put sp;have q0:put S1 p1 (.lst []) q=some (.lst ((cM ps1).map gD)):=by rw [cj qp]; exact hS1
    refine⟨trivial,_,_,rfl,fk (λh1=>⟨aq,oU 0 (by decide),trivial,_,_,rfl,fk (λh2=>⟨aq,oU 1 (by decide),trivial,?_⟩) (λh2=>⟨trivial,?_⟩)⟩) (λh1=>⟨trivial,_,_,rfl,fk (λh2=>⟨aq,oU 0 (by decide),trivial,?_⟩) (λh2=>⟨trivial,?_⟩)⟩)⟩
    ·exact fin [gD p.1,gD p.2] _ ((e0.put sp).put sp) (by rw [cj qp,cj qp]; exact q0) aq (by show 2<=2; decide) (by rw [pd h1 h2]; rfl)
    ·exact fin [gD p.1] _ (e0.put sp) (by rw [cj qp]; exact q0) aq (by show 1<=2; decide) (by rw [qc h1 h2]; rfl)
    ·exact fin [gD p.2] _ (e0.put sp) (by rw [cj qp]; exact q0) aq (by show 1<=2; decide) (by rw [qe h1 h2]; rfl)
    ·exact fin [] _ e0 q0 aq (by show 0<=2; decide) (by rw [pA h1 h2]; rfl)
  ·rintro L S1 ⟨ps1,ps2,l2,l3,rfl,e,hS1,eps,er⟩;cases ps2 with
   | cons _ _=>cases er
   | nil=>
    rw [GI] at eps;subst eps;refine⟨_,hS1,λp2 hp2=>⟨(DL.eU ((cM ps).map gD) (some 1) none,some p2),by simp only [aY,aq],?_⟩⟩
    have qp:q≠p2:=λz=>by subst z; rw [hS1] at hp2; cases hp2
    have ecut:DL.eU ((cM ps).map gD) (some 1) none=(cM ps).tail.map gD:=by
     cases cM ps with
     | nil=>rfl
     | cons x t=>exact zO
    refine fe (λr L S2=>∃ t' l2 l3,L=[some (.tup (ps.map gP)),some (.ref q),l2,l3]/\cK S S2/\S2 q=some (.lst ((cM ps).map gD))/\S2 p2=some (.lst (DL.eU ((cM ps).map gD) (some 1) none))/\r=t'.map gD/\(∀ n∈t',n∈cM ps)/\(uH ps↔∀ n∈t',zf ((cM ps).headD (0,0)) n=true)) (λr L S2 ⟨_,_,_,_,_,_,z,_⟩=>z) ?_ ?_ _ _ _ ⟨(cM ps).tail,l2,l3,rfl,e.put (e.none hp2),(cj qp).trans hS1,aq,ecut,λn hn=>List.mem_of_mem_tail hn,Iff.rfl⟩
    ·rintro d r L S2 Nx ⟨t',l2,l3,rfl,e2,h1,h2,er,hm,hO⟩ hN;cases t' with
     | nil=>cases er
     | cons n t'=>
      cases er;obtain⟨x0,t,ex⟩:∃ x0 t,cM ps=x0::t:=by
       cases h:cM ps with
       | nil=>have:=hm n Gy; rw [h] at this; cases this
       | cons x0 t=>exact⟨x0,t,rfl⟩
      have sz:∀ n∈cM ps,Sz 6700000 n.2:=λn hn=>by
       obtain⟨_,p,hp2,hh⟩:=kK hn;rcases hh with rfl | rfl
       ·exact(hp p hp2).1
       ·exact(hp p hp2).2
      have eh:(cM ps).headD (0,0)=x0:=by rw [ex]; rfl
      have h1':=h1;rw [ex] at h1';rw [eh] at hO;refine⟨_,_,h1',nA,x0,n,rfl,sz x0 (by rw [ex]; exact Gy),sz n (hm n Gy),wG (λz=>w0 (λo=>?_) S2 e2) (λz=>hN _ _ ⟨t',_,_,rfl,e2,h1,h2,rfl,λy hy=>hm y (Gz _ hy),?_⟩)⟩
      ·rw [hO.mp o n Gy] at z;cases z
      ·rw [eh];exact⟨λo y hy=>hO.mp o y (Gz _ hy),λo=>hO.mpr λy hy=>by
        rcases Gw.mp hy with rfl | hy
        ·exact z
        ·exact o y hy⟩
    ·rintro L S2 ⟨t',l2,l3,rfl,e2,h1,h2,er,hm,hO⟩;cases t' with
     | cons _ _=>cases er
     | nil=>exact w1 (hO.mpr λ_ h=>by cases h) S2 e2
set_option maxHeartbeats 4000000
def fF (aR:Hm):kP:=λds S k x=>∃ a b:Rat,ds=[W a b]/\Sz 360000 a/\Sz 360000 b/\(a*a+b*b=0->x aR S)/\(a*a+b*b≠0->k (fr (a*a+b*b)) S)
theorem i_ {P:Hq} {w:Ht} {K:Fg} {mg:Str->Hn Hl} {base:Hu} {f:Hm} {fd:FuncData} {aR:Hm} (Fn:FN K "square_of_unlike" cg f fd) (bv:aW P w K mg base "product_of_ways" 36 eN) (ib:mg "NoMeet"=some (.ref aR)) (rC:PySem.W.excIn K aR [.type "ValueError",.type "Exception",.type "BaseException",.type "object"] "ValueError.__new__"=true):
  aJ P w K mg base (fm P w) 37 f fd ["way"] (wl K (fF aR)):=by
 refine Fn.okX b7 (λds S k x h=>?_) (λcdv A outer s H E ex hr hE=>⟨_,(af (aj (i:=1) b7.nd (dq bv hr (az 0 (az 0 ac)))) (af (aA (aw fy (aT 1) am (aE _)) (ah (j6 hE PySem.F.excBase_ValueError rC ib rfl)) aF) (ah (ak (ag 1))))),λds S k h=>?_⟩)
 ·obtain⟨_,_,rfl,_⟩:=h
  rfl
 ·obtain⟨a,b,rfl,ha,hb,w0,w1⟩:=h;exact⟨a,b,a,b,rfl,ha.mono (by decide),hb.mono (by decide),ha.mono (by decide),hb.mono (by decide),aS (λz=>w0 (Rat.num_eq_zero.mp z)) (λz=>w1 λe=>z (by rw [e]; rfl))⟩
def cT (x y s z v r:Rat):Rat:=((s - r)+((z - x)*(z - x)+(v - y)*(v - y))) / (((z - x)*(z - x)+(v - y)*(v - y))+((z - x)*(z - x)+(v - y)*(v - y)))
def cE (x y s z v r:Rat):Rat:=s / ((z - x)*(z - x)+(v - y)*(v - y)) - cT x y s z v r*cT x y s z v r
noncomputable def cL (x y s z v r:Rat):List D:=hV (x+(z - x)*cT x y s z v r) (y+(v - y)*cT x y s z v r) (-(v - y)) (z - x) (cE x y s z v r)
theorem tm {A:Rat} (h:A≠0):A+A≠0:=by grind
def gr:ca:=λds S k=>match ds with
 | [.non,.non,.non,.non]=>False/\k .non S
 | _=>False
theorem aG:ar ["one","square","other","other_square","start","way","apart","along","aside"] ["one","square","other","other_square"] (ai eJ):=eu
theorem md (Fn:FN K "circles_meet" eJ f fd) (bJ:aW P w K mg base "place_of" 1 iP) (dU:aW P w K mg base "plain_way" 36 jB) (dP:aW P w K mg base "square_of_unlike" 37 gy) (cA:aW P w K mg base "over" 35 lE) (bg:aW P w K mg base "plus" 35 iC) (ci:aW P w K mg base "minus" 35 kQ) (aL:aW P w K mg base "times" 35 fJ) (c_:aW P w K mg base "both_moved" 39 iI) (aI:aW P w K mg base "negative" 1 dO) (fQ:aW P w K mg base "moved" 36 my):
  aJ P w K mg base cJ 40 f fd ["one","square","other","other_square"] (cV K gr):=by
 refine Fn.okJ aG (λds S k h=>?_) (λcdv A outer s H E hr=>⟨_,(af (aj (i:=4) aG.nd (dq bJ hr (az 0 ac))) (af (aj (i:=5) aG.nd (dq dU hr (az 4 (aa (dq bJ hr (az 2 ac)) ac)))) (af (aj (i:=6) aG.nd (dq dP hr (az 5 ac))) (af (aj (i:=7) aG.nd (dq cA hr (aa (dq bg hr (aa (dq ci hr (az 1 (az 3 ac))) (az 6 ac))) (aa (dq bg hr (az 6 (az 6 ac))) ac)))) (af (aj (i:=8) aG.nd (dq ci hr (aa (dq cA hr (az 1 (az 6 ac))) (aa (dq aL hr (az 7 (az 7 ac))) ac)))) (ah (ak (dq c_ hr (aa (dq fQ hr (az 4 (az 5 (az 7 ac)))) (aa (aD (aa (dq aI hr (aa (aT 5) ac)) (aa (aT 5) ac))) (az 8 ac))))))))))),λds S k h=>?_⟩)
 ·unfold gr at h
  split at h
  ·rfl
  ·exact h.elim
 ·unfold gr at h
  split at h
  ·exact h.1.elim
  ·exact h.elim
structure Ba (x y s z v r:Rat):Prop where
 hx:Sz 49000 x
 hy:Sz 49000 y
 hs:Sz 30 s
 hz:Sz 49000 z
 hv:Sz 49000 v
 hr:Sz 30 r
 ha:Sz 98000 (z - x)
 hb:Sz 98000 (v - y)
 ht:(z - x)*(z - x)+(v - y)*(v - y)≠0->Sz 195000 (cT x y s z v r)
 he:(z - x)*(z - x)+(v - y)*(v - y)≠0->Sz 390000 (cE x y s z v r)
 hX:(z - x)*(z - x)+(v - y)*(v - y)≠0->Sz 295000 (x+(z - x)*cT x y s z v r)
 hY:(z - x)*(z - x)+(v - y)*(v - y)≠0->Sz 295000 (y+(v - y)*cT x y s z v r)
def i4 (aR:Hm):kP:=λds S k e=>∃ x y s z v r:Rat,ds=[PP x y,fr s,PP z v,fr r]/\Ba x y s z v r/\((z - x)*(z - x)+(v - y)*(v - y)=0->e aR S)/\((z - x)*(z - x)+(v - y)*(v - y)≠0->∀ S' p,cK S S'->S' p=none->k (.ref p) (put S' p (.lst (cL x y s z v r))))
theorem lg {P:Hq} {w:Ht} {K:Fg} {mg:Str->Hn Hl} {base:Hu} {f:Hm} {fd:FuncData} {aR:Hm} (Fn:FN K "circles_meet" eJ f fd) (c_:aW P w K mg base "both_moved" 39 iI) (aI:aW P w K mg base "negative" 1 dO) (fQ:aW P w K mg base "moved" 36 my) (ci:aW P w K mg base "minus" 35 kQ) (aL:aW P w K mg base "times" 35 fJ) (cA:aW P w K mg base "over" 35 lE) (bg:aW P w K mg base "plus" 35 iC) (dU:aW P w K mg base "plain_way" 36 jB) (bJ:aW P w K mg base "place_of" 1 iP) (dn:l6 P w K mg base "square_of_unlike" 37 (fF aR)):
  aJ P w K mg base (fm P w) 40 f fd ["one","square","other","other_square"] (wl K (i4 aR)):=by
 refine Fn.okX aG (λds S k x h=>?_) (λcdv A outer s H E ex hr hE=>⟨_,(af (aj (i:=4) aG.nd (dq bJ hr (az 0 ac))) (af (aj (i:=5) aG.nd (dq dU hr (az 4 (aa (dq bJ hr (az 2 ac)) ac)))) (af (aj (i:=6) aG.nd (km hE dn (hr.mono (by decide)) rfl (az 5 ac))) (af (aj (i:=7) aG.nd (dq cA hr (aa (dq bg hr (aa (dq ci hr (az 1 (az 3 ac))) (az 6 ac))) (aa (dq bg hr (az 6 (az 6 ac))) ac)))) (af (aj (i:=8) aG.nd (dq ci hr (aa (dq cA hr (az 1 (az 6 ac))) (aa (dq aL hr (az 7 (az 7 ac))) ac)))) (ah (ak (dq c_ hr (aa (dq fQ hr (az 4 (az 5 (az 7 ac)))) (aa (aD (aa (dq aI hr (aa (aT 5) ac)) (aa (aT 5) ac))) (az 8 ac))))))))))),λds S k h=>?_⟩)
 ·obtain⟨_,_,_,_,_,_,rfl,_⟩:=h
  rfl
 ·obtain⟨x,y,s,z,v,r,rfl,hz,w0,w⟩:=h;have sA:=(hz.ha.mul hz.ha).add (hz.hb.mul hz.hb);have sp:=(hz.hs.sub hz.hr).add sA;have sB:=sA.add sA;refine⟨x,y,rfl,z,v,rfl,x,y,z,v,rfl,hz.hx.mono (by decide),hz.hy.mono (by decide),hz.hz.mono (by decide),hz.hv.mono (by decide),_,_,rfl,hz.ha.mono (by decide),hz.hb.mono (by decide),w0,λh0=>?_⟩
  have w:=w h0;have ht:=hz.ht h0;have he:=hz.he h0;have h2:=tm h0;have sq:=hz.hs.div sA h0;have sX:=hz.hX h0;have sY:=hz.hY h0;refine⟨s,r,rfl,hz.hs.mono (by decide),hz.hr.mono (by decide),_,_,rfl,(hz.hs.sub hz.hr).mono (by decide),sA.mono (by decide),_,_,rfl,sA.mono (by decide),sA.mono (by decide),_,_,rfl,h2,sp.mono (by decide),sB.mono (by decide),?_⟩
  refine⟨s,_,rfl,h0,hz.hs.mono (by decide),sA.mono (by decide),_,_,rfl,ht.mono (by decide),ht.mono (by decide),_,_,rfl,sq.mono (by decide),(ht.mul ht).mono (by decide),?_⟩
  refine⟨_,_,_,_,_,rfl,hz.hx.mono (by decide),hz.hy.mono (by decide),hz.ha.mono (by decide),hz.hb.mono (by decide),ht.mono (by decide),?_⟩
  exact⟨_,rfl,dM,_,_,_,_,_,rfl,sX.mono (by decide),sY.mono (by decide),hz.hb.neg.mono (by decide),hz.ha.mono (by decide),he.mono (by decide),w⟩
set_option maxHeartbeats 4000000
theorem iw:Sz 1 (1:Rat):=⟨by decide,by decide⟩
theorem Du {m n:Nat} (h1:m*m < n) (h2:n < (m+1)*(m+1)) (k:Nat):k*k≠n:=λe=>by
 subst e;rcases Nat.lt_or_ge m k with h | h
 ·have:=Nat.mul_le_mul (show m+1<=k from h) (show m+1<=k from h)
  omega
 ·have:=Nat.mul_le_mul h h;omega
theorem AS {q:Rat} {m n:Nat} (h:q.num=(n:Int)) (h1:m*m < n) (h2:n < (m+1)*(m+1)):i7 q:=λr e=>by
 have e1:=congrArg Rat.num e;rw [mW,h] at e1;have:=congrArg Int.natAbs e1;rw [Int.natAbs_mul] at this;exact Du h1 h2 _ this
theorem sN:Fd 2:=⟨by decide,AS (q:=2) (m:=1) (n:=2) rfl (by decide) (by decide),(show Sz 2 2 from⟨by decide,by decide⟩).mono (by decide)⟩
theorem wg {a s:Rat} (no:i7 s) (ha:a≠0):i7 (a*a*s):=λr e=>no (r / a) (by
 have h:r / a*a=r:=Rat.div_mul_cancel ha;generalize r / a=t at h;subst h;have:a*a*(t*t - s)=0:=by grind
 have h2:a*a≠0:=by grind
 grind)
theorem z_ {p a s:Rat} (s0:0 < s) (no:i7 s):vo p (ss a*s)=N s p a:=by
 by_cases ha:a=0
 ·subst ha;rw [show ss 0*s=0 by unfold ss; grind,w5]
  exact du
 ·rw [x8 (by rw [oZ s0]; exact wg no ha)]
  rfl
theorem Am {p a ρ:Rat} (r0:0 < ρ):vo p (ss a*(ρ*ρ))=.tup [fr (p+a*ρ),fr 0]:=by
 have s0:0 < ρ*ρ:=GQ r0 r0;have n1:0<=ab a*ρ:=GK (kg a) (Rat.le_of_lt r0);have n2:ab a*ρ*(ab a*ρ)=ab (ss a*(ρ*ρ)):=by
  rw [oZ s0];unfold ab
  split <;> grind
 rw [mL n1 n2];have e:sg (ab a*ρ) (ss a*(ρ*ρ))=a*ρ:=by
  have h:=Aw (b:=a) s0;unfold sg ab;rcases tri a with z | z | z
  ·have:¬ ss a*(ρ*ρ) < 0:=λq=>by rw [mz q,pj z] at h; exact absurd h (by decide)
   rw [if_neg this,if_neg (by grind)]
  ·have:ss a*(ρ*ρ) < 0:=by
    have:yJ (ss a*(ρ*ρ))=-1:=by rw [h,mz z]
    unfold yJ at this
    split at this
    ·exact absurd this (by decide)
    ·split at this
     ·assumption
     ·exact absurd this (by decide)
   rw [if_pos this,if_pos z]; grind
  ·subst z
   split <;> grind
 rw [e]
theorem BJ {s:Rat} (s0:0 < s):i7 s\/∃ ρ,0 < ρ/\ρ*ρ=s:=by
 by_cases h:∃ r,r*r=s
 ·obtain⟨r,e⟩:=h
  right
  rcases tri r with z | z | z
  ·exact⟨r,z,e⟩
  ·exact⟨-r,by grind,by grind⟩
  ·subst z; grind
 ·exact .inl λr e=>h ⟨r,e⟩
theorem Dt {x y a b s:Rat} (s0:0 < s) (no:i7 s):MP x y a b s=Pq s (x,a) (y,b):=by
 unfold MP;rw [z_ s0 no,z_ s0 no]
 rfl
theorem Aj {x y a b ρ:Rat} (r0:0 < ρ):MP x y a b (ρ*ρ)=PP (x+a*ρ) (y+b*ρ):=by
 unfold MP;rw [Am r0,Am r0]
 rfl
theorem t9 {n m:Nat} (h:n*n < 2 ^ (2*m)):n < 2 ^ m:=by
 rcases Nat.lt_or_ge n (2 ^ m) with z | z
 ·exact z
 ·have h2:=Nat.mul_le_mul z z;rw [<- Nat.pow_add,show m+m=2*m by omega] at h2
  omega
theorem uE {m:Nat} {q r:Rat} (h:Sz (2*m) q) (e:r*r=q):Sz m r:=by
 subst e;have h1:(r*r).num.natAbs < 2 ^ (2*m):=h.num;have h2:((r*r).den:Int).natAbs < 2 ^ (2*m):=h.den;rw [mW,Int.natAbs_mul] at h1;rw [p4,Int.natAbs_natCast] at h2;exact⟨t9 h1,by show((r.den:Nat):Int).natAbs < 2 ^ m; rw [Int.natAbs_natCast]; exact t9 h2⟩
theorem sG {b:Rat} (h:b≠0):0 < b*b:=by
 rcases tri b with z | z | z
 ·exact GQ z z
 ·have:=GQ (show 0 < -b by grind) (show 0 < -b by grind); grind
 ·exact absurd z h
theorem yl {x y s z v r t A e σ:Rat} (hσ:σ*σ=1) (hA:A=(z - x)*(z - x)+(v - y)*(v - y)) (ht:t*(A+A)=s - r+A) (he:e*A=s - t*t*A):
  gM e (qs (x+(z - x)*t,σ*-(v - y)) (qo x)) (qs (y+(v - y)*t,σ*(z - x)) (qo y))=(s,0)/\gM e (qs (x+(z - x)*t,σ*-(v - y)) (qo z)) (qs (y+(v - y)*t,σ*(z - x)) (qo v))=(r,0)/\
  uf e (qo x) (qo y) (qo z) (qo v) (x+(z - x)*t,σ*-(v - y)) (y+(v - y)*t,σ*(z - x))=(0,σ*A):=by
 simp only [gM,uf,qa,qm,qs,qo];refine⟨GG ?_ ?_,GG ?_ ?_,GG ?_ ?_⟩ <;> dsimp only <;> grind
theorem zz {u x y s z v r t A ρ σ:Rat} (hσ:σ*σ=1) (hA:A=(z - x)*(z - x)+(v - y)*(v - y)) (ht:t*(A+A)=s - r+A) (he:ρ*ρ*A=s - t*t*A):
  gM u (qs (qo (x+(z - x)*t+σ*-(v - y)*ρ)) (qo x)) (qs (qo (y+(v - y)*t+σ*(z - x)*ρ)) (qo y))=(s,0)/\gM u (qs (qo (x+(z - x)*t+σ*-(v - y)*ρ)) (qo z)) (qs (qo (y+(v - y)*t+σ*(z - x)*ρ)) (qo v))=(r,0)/\
  uf u (qo x) (qo y) (qo z) (qo v) (qo (x+(z - x)*t+σ*-(v - y)*ρ)) (qo (y+(v - y)*t+σ*(z - x)*ρ))=(σ*A*ρ,0):=by
 simp only [gM,uf,qa,qm,qs,qo];refine⟨GG ?_ ?_,GG ?_ ?_,GG ?_ ?_⟩ <;> dsimp only <;> grind
theorem DY {u x y:Rat}:PP x y=Pq u (qo x) (qo y):=by
 unfold PP Pq qo;rw [du (u:=u),du (u:=u)]
theorem ym (q:Rat):((q.den:Int):Rat)≠0:=λz=>by
 have:=q.den_nz;have:(q.den:Int)=0:=Rat.intCast_inj.mp (by rw [z]; rfl)
 omega
theorem cn (q:Rat):((q.den:Int):Rat)*q=(q.num:Rat):=by
 have d0:=ym q;have e:=Rat.num_divInt_den q;rw [GV] at e;grind
theorem jV (q:Rat):0 < (q.den:Int):=by have:=q.den_pos; omega
theorem gF {n d:Int} {k:Nat} {q:Rat} (d0:d≠0) (e:q*(d:Rat)=(n:Rat)) (hn:Bt k n) (hd:Bt k d):Sz k q:=by
 have d1:(d:Rat)≠0:=λz=>d0 (by exact_mod_cast z)
 have e1:q=Rat.divInt n d:=by
  rw [GV,<- e,Rat.mul_div_cancel d1]
 rw [e1];exact⟨by rw [<- mm d0]; exact hn.le (HM.cN _ _),by rw [<- kr d0]; exact hd.le (HM.cN _ _)⟩
section
variable {x y s z v r:Rat} {P Q K:Int}
theorem wB (h0:(z - x)*(z - x)+(v - y)*(v - y)≠0):cT x y s z v r*(((z - x)*(z - x)+(v - y)*(v - y))+((z - x)*(z - x)+(v - y)*(v - y)))=s - r+((z - x)*(z - x)+(v - y)*(v - y)):=Rat.div_mul_cancel (tm h0)
theorem vW (h0:(z - x)*(z - x)+(v - y)*(v - y)≠0):cE x y s z v r*((z - x)*(z - x)+(v - y)*(v - y))=s - cT x y s z v r*cT x y s z v r*((z - x)*(z - x)+(v - y)*(v - y)):=by
 have h:s / ((z - x)*(z - x)+(v - y)*(v - y))*((z - x)*(z - x)+(v - y)*(v - y))=s:=Rat.div_mul_cancel h0;unfold cE;generalize s / ((z - x)*(z - x)+(v - y)*(v - y))=q at h ⊢;grind
end
theorem uS {q:Rat} {M:Int} (h:q*q=(M:Rat)):∃ F:Int,q=(F:Rat):=by
 refine⟨q.num,?_⟩;have dp:=q.den_pos;have e:=cn q;have e2:((q.num*q.num:Int):Rat)=((M*((q.den:Int)*(q.den:Int)):Int):Rat):=by
  rw [Gm,Gm,Gm,<- h,<- e];grind
 have e3:q.num*q.num=M*((q.den:Int)*(q.den:Int)):=by exact_mod_cast e2
 have d1:q.den ∣ q.num.natAbs*q.num.natAbs:=by
  have:(q.den:Int) ∣ q.num*q.num:=⟨M*q.den,by rw [e3]; grind⟩
  have:=Int.natAbs_dvd_natAbs.mpr this
  rwa [Int.natAbs_mul,Int.natAbs_natCast] at this
 have c:Nat.Coprime q.den q.num.natAbs:=q.reduced.symm;have d2:q.den ∣ q.num.natAbs:=c.dvd_of_dvd_mul_left d1;have d3:q.den=1:=by
  have g:=Nat.gcd_eq_left d2;rw [c] at g;exact g.symm
 rw [<- e,d3];grind
structure Cd (n:Nat) (x y:Rat):Prop where
 ex:∃ X Y K:Int,0 < K/\Bt n K/\Bt n X/\Bt n Y/\x*(K:Rat)=X/\y*(K:Rat)=Y
theorem Cd.mono {m n:Nat} {x y:Rat} (h:Cd m x y) (l:m<=n):Cd n x y:=by
 obtain⟨X,Y,K,h0,h1,h2,h3,h4,h5⟩:=h.ex;exact⟨X,Y,K,h0,h1.mono l,h2.mono l,h3.mono l,h4,h5⟩
theorem Cd.sx {n:Nat} {x y:Rat} (h:Cd n x y):Sz n x:=by
 obtain⟨X,Y,K,h0,h1,h2,h3,h4,h5⟩:=h.ex;exact gF (by omega) h4 h2 h1
theorem Cd.sy {n:Nat} {x y:Rat} (h:Cd n x y):Sz n y:=by
 obtain⟨X,Y,K,h0,h1,h2,h3,h4,h5⟩:=h.ex;exact gF (by omega) h5 h3 h1
theorem Cd.of {m:Nat} {x y:Rat} (hx:Sz m x) (hy:Sz m y):Cd (m+m) x y:=by
 refine⟨x.num*(y.den:Int),y.num*(x.den:Int),(x.den:Int)*(y.den:Int),Int.mul_pos (jV x) (jV y),hx.den.mul hy.den,hx.num.mul hy.den,hy.num.mul hx.den,?_,?_⟩
 ·rw [Gm,Gm,<- cn x];grind
 ·rw [Gm,Gm,<- cn y];grind
theorem Cd.way {n:Nat} {x y z v:Rat} (h:Cd n x y) (g:Cd n z v):∃ P Q X Y K:Int,0 < K/\Bt (n+n) K/\Bt (n+n+1) P/\Bt (n+n+1) Q/\Bt (n+n) X/\Bt (n+n) Y/\(z - x)*(K:Rat)=P/\(v - y)*(K:Rat)=Q/\x*(K:Rat)=X/\y*(K:Rat)=Y:=by
 obtain⟨X,Y,K,h0,h1,h2,h3,h4,h5⟩:=h.ex;obtain⟨Z,V,L,g0,g1,g2,g3,g4,g5⟩:=g.ex;refine⟨Z*K - X*L,V*K - Y*L,X*L,Y*L,K*L,Int.mul_pos h0 g0,h1.mul g1,((g2.mul h1).sub (h2.mul g1)).mono (by omega),((g3.mul h1).sub (h3.mul g1)).mono (by omega),h2.mul g1,h3.mul g1,?_,?_,?_,?_⟩
 ·rw [GU,Gm,Gm,Gm,<- g4,<- h4];grind
 ·rw [GU,Gm,Gm,Gm,<- g5,<- h5];grind
 ·rw [Gm,Gm,<- h4];grind
 ·rw [Gm,Gm,<- h5];grind
section
variable {x y s z v r:Rat} {P Q K:Int}
theorem Fi (hK:0 < K) (ha:(z - x)*(K:Rat)=P) (hb:(v - y)*(K:Rat)=Q) (h0:(z - x)*(z - x)+(v - y)*(v - y)≠0):
  (P*P+Q*Q≠0)/\cT x y s z v r*((2*(P*P+Q*Q)*(s.den:Int)*(r.den:Int):Int):Rat)=(((s.num*(r.den:Int) - r.num*(s.den:Int))*(K*K)+(P*P+Q*Q)*(s.den:Int)*(r.den:Int):Int):Rat):=by
 have g:((z - x)*(z - x)+(v - y)*(v - y))*((K:Rat)*K)=((P*P+Q*Q:Int):Rat):=by
  rw [GF,Gm,Gm,<- ha,<- hb];grind
 have K0:(K:Rat)≠0:=λe=>by
  have:K=0:=by exact_mod_cast e
  omega
 refine⟨λe=>?_,?_⟩
 ·rw [e] at g;rcases Rat.mul_eq_zero.mp g with q | q
  ·exact h0 q
  ·rcases Rat.mul_eq_zero.mp q with q | q <;> exact K0 q
 ·have t:=wB (x:=x) (y:=y) (s:=s) (z:=z) (v:=v) (r:=r) h0;have d1:=cn s;have d2:=cn r;simp only [GF,Gm,GU] at g ⊢;generalize (z - x)*(z - x)+(v - y)*(v - y)=A at*
  generalize cT x y s z v r=T at*
  grind
theorem vI {n:Nat} (h:Cd n x y) (g:Cd n z v) (sn:Bt 8 s.num) (sd:Bt 8 (s.den:Int)) (rn:Bt 8 r.num) (rd:Bt 8 (r.den:Int)) (h0:(z - x)*(z - x)+(v - y)*(v - y)≠0):
  ∃ P Q X Y K N D M:Int,0 < K/\0 < D/\Bt (n+n) K/\Bt (n+n+1) P/\Bt (n+n+1) Q/\Bt (n+n) X/\Bt (n+n) Y/\(z - x)*(K:Rat)=P/\(v - y)*(K:Rat)=Q/\x*(K:Rat)=X/\y*(K:Rat)=Y/\
   Bt (4*n+21) D/\Bt (4*n+22) N/\Bt (8*n+45) M/\cT x y s z v r*(D:Rat)=N/\cE x y s z v r*((D:Rat)*D)=M:=by
 obtain⟨P,Q,X,Y,K,hK,bK,bP,bQ,bX,bY,ha,hb,hx,hy⟩:=h.way g;obtain⟨G0,t⟩:=Fi (s:=s) (r:=r) hK ha hb h0;have s0:=jV s;have r0:=jV r;have bG:Bt (4*n+3) (P*P+Q*Q):=((bP.mul bP).add (bQ.mul bQ)).mono (by omega)
 have Gp:0 < P*P+Q*Q:=by
  have a1:0<=P*P:=by rw [<- Int.natAbs_mul_self' P]; exact Int.natCast_nonneg _
  have a2:0<=Q*Q:=by rw [<- Int.natAbs_mul_self' Q]; exact Int.natCast_nonneg _
  omega
 have bD:Bt (4*n+21) (2*(P*P+Q*Q)*(s.den:Int)*(r.den:Int)):=((((show Bt 2 2 by decide).mul bG).mul sd).mul rd).mono (by omega)
 have bN:Bt (4*n+22) ((s.num*(r.den:Int) - r.num*(s.den:Int))*(K*K)+(P*P+Q*Q)*(s.den:Int)*(r.den:Int)):=((((sn.mul rd).sub (rn.mul sd)).mul (bK.mul bK)).add ((bG.mul sd).mul rd)).mono (by omega)
 have D0:0 < 2*(P*P+Q*Q)*(s.den:Int)*(r.den:Int):=Int.mul_pos (Int.mul_pos (by omega) s0) r0
 have g:((z - x)*(z - x)+(v - y)*(v - y))*((K:Rat)*K)=((P*P+Q*Q:Int):Rat):=by
  rw [GF,Gm,Gm,<- ha,<- hb];grind
 have e:=vW (x:=x) (y:=y) (s:=s) (z:=z) (v:=v) (r:=r) h0;have d1:=cn s;generalize hN:(s.num*(r.den:Int) - r.num*(s.den:Int))*(K*K)+(P*P+Q*Q)*(s.den:Int)*(r.den:Int)=N at*
 have f:cE x y s z v r*(((2*(P*P+Q*Q)*(s.den:Int)*(r.den:Int):Int):Rat)*((2*(P*P+Q*Q)*(s.den:Int)*(r.den:Int):Int):Rat))=((4*(P*P+Q*Q)*s.num*(s.den:Int)*((r.den:Int)*(r.den:Int))*(K*K) - N*N:Int):Rat):=by
  clear hN bN bD D0 bG Gp;generalize P*P+Q*Q=G at*
  simp only [Gm,GU] at g t ⊢
  rw [<- t];generalize (z - x)*(z - x)+(v - y)*(v - y)=A at*
  generalize cT x y s z v r=T at*
  generalize cE x y s z v r=C at*
  rw [<- g,<- d1];have e2:((4:Int):Rat)=4:=rfl;have e3:((2:Int):Rat)=2:=rfl;rw [e2,e3];generalize ((s.den:Int):Rat)=a;generalize ((r.den:Int):Rat)=b;clear t g d1;have:=congrArg (·*(4*A*((K:Rat)*K)*((K:Rat)*K)*a*a*b*b)) e;grind
 have bM:Bt (8*n+45) (4*(P*P+Q*Q)*s.num*(s.den:Int)*((r.den:Int)*(r.den:Int))*(K*K) - N*N):=(((((((show Bt 3 4 by decide).mul bG).mul sn).mul sd).mul (rd.mul rd)).mul (bK.mul bK)).sub (bN.mul bN)).mono (by omega)
 exact⟨P,Q,X,Y,K,N,_,_,hK,D0,bK,bP,bQ,bX,bY,ha,hb,hx,hy,bD,bN,bM,t,f⟩
end
theorem yL {k:Nat} {F M:Int} (h:F*F=M) (b:Bt (k+k) M):Bt k F:=by
 unfold Bt at*
 rw [<- h,Int.natAbs_mul,Nat.pow_add] at b;refine Nat.lt_of_not_le λz=>?_
 exact absurd b (Nat.not_lt.mpr (Nat.mul_le_mul z z))
section
variable {x y s z v r:Rat}
theorem zZ {n:Nat} (h:Cd n x y) (g:Cd n z v) (sn:Bt 8 s.num) (sd:Bt 8 (s.den:Int)) (rn:Bt 8 r.num) (rd:Bt 8 (r.den:Int)) (h0:(z - x)*(z - x)+(v - y)*(v - y)≠0):
  Sz (2*n+1) (z - x)/\Sz (2*n+1) (v - y)/\Sz (4*n+22) (cT x y s z v r)/\Sz (8*n+45) (cE x y s z v r)/\Cd (6*n+26) (x+(z - x)*cT x y s z v r) (y+(v - y)*cT x y s z v r):=by
 obtain⟨P,Q,X,Y,K,N,D,M,hK,hD,bK,bP,bQ,bX,bY,ha,hb,hx,hy,bD,bN,bM,ht,he⟩:=vI h g sn sd rn rd h0;refine⟨gF (by omega) ha (bP.mono (by omega)) (bK.mono (by omega)),gF (by omega) hb (bQ.mono (by omega)) (bK.mono (by omega)),gF (by omega) ht bN (bD.mono (by omega)),?_,?_⟩
 ·have D1:=Int.mul_pos hD hD;exact gF (n:=M) (d:=D*D) (by omega) (by rw [Gm]; exact he) bM ((bD.mul bD).mono (by omega))
 ·refine⟨X*D+P*N,Y*D+Q*N,K*D,Int.mul_pos hK hD,(bK.mul bD).mono (by omega),((bX.mul bD).add (bP.mul bN)).mono (by omega),((bY.mul bD).add (bQ.mul bN)).mono (by omega),?_,?_⟩
  ·rw [GF,Gm,Gm,Gm,<- hx,<- ha,<- ht];grind
  ·rw [GF,Gm,Gm,Gm,<- hy,<- hb,<- ht];grind
theorem wu {n:Nat} {e:Rat} (h:Cd n x y) (g:Cd n z v) (sn:Bt 8 s.num) (sd:Bt 8 (s.den:Int)) (rn:Bt 8 r.num) (rd:Bt 8 (r.den:Int)) (h0:(z - x)*(z - x)+(v - y)*(v - y)≠0) (ee:e*e=cE x y s z v r):
  Cd (6*n+26) (x+(z - x)*cT x y s z v r+-(v - y)*e) (y+(v - y)*cT x y s z v r+(z - x)*e):=by
 obtain⟨P,Q,X,Y,K,N,D,M,hK,hD,bK,bP,bQ,bX,bY,ha,hb,hx,hy,bD,bN,bM,ht,he⟩:=vI h g sn sd rn rd h0;have eF:(e*(D:Rat))*(e*(D:Rat))=(M:Rat):=by
  rw [<- he,<- ee];grind
 obtain⟨F,hF⟩:=uS eF;have eM:F*F=M:=by
  rw [hF,<- Gm] at eF
  exact_mod_cast eF
 have bF:Bt (4*n+23) F:=yL eM (bM.mono (by omega))
 refine⟨X*D+P*N+-Q*F,Y*D+Q*N+P*F,K*D,Int.mul_pos hK hD,(bK.mul bD).mono (by omega),(((bX.mul bD).add (bP.mul bN)).add (bQ.neg.mul bF)).mono (by omega),(((bY.mul bD).add (bQ.mul bN)).add (bP.mul bF)).mono (by omega),?_,?_⟩
 ·rw [GF,GF,Gm,Gm,Gm,Gm,Rat.intCast_neg,<- hx,<- ha,<- hb,<- ht,<- hF];grind
 ·rw [GF,GF,Gm,Gm,Gm,Gm,<- hy,<- hb,<- ha,<- ht,<- hF];grind
theorem Cd.like {n k:Nat} {p q:Rat} (h:Cd n x y) (g:Cd n z v) (hp:Sz k p) (hq:Sz k q):Cd (2*n+2*k+4) (x+(p*(z - x) - q*(v - y))) (y+(p*(v - y)+q*(z - x))):=by
 obtain⟨P,Q,X,Y,K,hK,bK,bP,bQ,bX,bY,ha,hb,hx,hy⟩:=h.way g;have e1:=cn p;have e2:=cn q;refine⟨X*((p.den:Int)*q.den)+(p.num*q.den*P - q.num*p.den*Q),Y*((p.den:Int)*q.den)+(p.num*q.den*Q+q.num*p.den*P),K*((p.den:Int)*q.den),Int.mul_pos hK (Int.mul_pos (jV p) (jV q)),(bK.mul (hp.den.mul hq.den)).mono (by omega),?_,?_,?_,?_⟩
 ·exact((bX.mul (hp.den.mul hq.den)).add (((hp.num.mul hq.den).mul bP).sub ((hq.num.mul hp.den).mul bQ))).mono (by omega)
 ·exact((bY.mul (hp.den.mul hq.den)).add (((hp.num.mul hq.den).mul bQ).add ((hq.num.mul hp.den).mul bP))).mono (by omega)
 ·simp only [GF,GU,Gm];rw [<- hx,<- ha,<- hb,<- e1,<- e2];grind
 ·simp only [GF,GU,Gm];rw [<- hy,<- ha,<- hb,<- e1,<- e2];grind
end
structure Jg (n:Nat) (x y s z v r:Rat) (d:D) (u:Rat) (X Y:Q):Prop where
 e:d=Pq u X Y
 u0:0 < u
 no:i7 u
 su:Sz (8*n+45) u
 xb:Sz (2*n+2) X.2
 yb:Sz (2*n+2) Y.2
 cd:Cd (6*n+26) X.1 Y.1
 one:gM u (qs X (qo x)) (qs Y (qo y))=(s,0)
 two:gM u (qs X (qo z)) (qs Y (qo v))=(r,0)
section
variable {x y s z v r:Rat}
theorem Ae {σ:Rat} (hσ:σ*σ=1) (sσ:Sz 1 σ) {n:Nat} (h:Cd n x y) (g:Cd n z v) (sn:Bt 8 s.num) (sd:Bt 8 (s.den:Int)) (rn:Bt 8 r.num) (rd:Bt 8 (r.den:Int)) (h0:(z - x)*(z - x)+(v - y)*(v - y)≠0) (e0:0 < cE x y s z v r) (no:i7 (cE x y s z v r)):
  Jg n x y s z v r (MP (x+(z - x)*cT x y s z v r) (y+(v - y)*cT x y s z v r) (σ*-(v - y)) (σ*(z - x)) (cE x y s z v r)) (cE x y s z v r) (x+(z - x)*cT x y s z v r,σ*-(v - y)) (y+(v - y)*cT x y s z v r,σ*(z - x)):=by
 obtain⟨c1,c2,_⟩:=yl (x:=x) (y:=y) (s:=s) (z:=z) (v:=v) (r:=r) hσ rfl (wB h0) (by rw [vW h0])
 obtain⟨a1,a2,a3,a4,a5⟩:=zZ h g sn sd rn rd h0;exact⟨Dt e0 no,e0,no,a4,(sσ.mul a2.neg).mono (by omega),(sσ.mul a1).mono (by omega),a5,c1,c2⟩
theorem vF {σ ρ:Rat} (hσ:σ=1\/σ=-1) {n:Nat} (h:Cd n x y) (g:Cd n z v) (sn:Bt 8 s.num) (sd:Bt 8 (s.den:Int)) (rn:Bt 8 r.num) (rd:Bt 8 (r.den:Int)) (h0:(z - x)*(z - x)+(v - y)*(v - y)≠0) (eρ:ρ*ρ=cE x y s z v r):
  Jg n x y s z v r (PP (x+(z - x)*cT x y s z v r+σ*-(v - y)*ρ) (y+(v - y)*cT x y s z v r+σ*(z - x)*ρ)) 2 (qo (x+(z - x)*cT x y s z v r+σ*-(v - y)*ρ)) (qo (y+(v - y)*cT x y s z v r+σ*(z - x)*ρ)):=by
 have hs:σ*σ=1:=by rcases hσ with rfl | rfl <;> grind
 obtain⟨c1,c2,_⟩:=zz (u:=2) (x:=x) (y:=y) (s:=s) (z:=z) (v:=v) (r:=r) (ρ:=ρ) hs rfl (wB h0) (by rw [eρ,vW h0])
 have c:=wu (e:=σ*ρ) h g sn sd rn rd h0 (by rw [<- eρ]; grind)
 rw [show -(v - y)*(σ*ρ)=σ*-(v - y)*ρ by grind,show(z - x)*(σ*ρ)=σ*(z - x)*ρ by grind] at c
 obtain⟨t1,t2,_⟩:=sN;exact⟨DY,t1,t2,⟨(show Bt 2 (2:Rat).num by decide).mono (by omega),(show Bt 2 ((2:Rat).den:Int) by decide).mono (by omega)⟩,Sz.zero.mono (by omega),Sz.zero.mono (by omega),c,c1,c2⟩
theorem xm {n:Nat} (h:Cd n x y) (g:Cd n z v) (sn:Bt 8 s.num) (sd:Bt 8 (s.den:Int)) (rn:Bt 8 r.num) (rd:Bt 8 (r.den:Int)) (h0:(z - x)*(z - x)+(v - y)*(v - y)≠0):∀ d∈cL x y s z v r,∃ u X Y,Jg n x y s z v r d u X Y:=by
 have o1:Sz 1 (1:Rat):=⟨by decide,by decide⟩
 have o2:Sz 1 (-1:Rat):=⟨by decide,by decide⟩
 have q1:(1:Rat)*1=1:=by grind
 have q2:(-1:Rat)*-1=1:=by grind
 intro d hd
 by_cases e1:cE x y s z v r < 0
 ·rw [show cL x y s z v r=[] from if_pos e1] at hd
  cases hd
 by_cases e2:cE x y s z v r=0
 ·have c:cL x y s z v r=[PP (x+(z - x)*cT x y s z v r) (y+(v - y)*cT x y s z v r)]:=by
   unfold cL hV;rw [if_neg e1,if_pos e2]
  have j:=vF (ρ:=0) (.inl rfl) h g sn sd rn rd h0 (by rw [e2]; grind)
  rw [Rat.mul_zero,Rat.mul_zero,Rat.add_zero,Rat.add_zero] at j;rw [c,List.mem_singleton] at hd;rw [hd];exact⟨_,_,_,j⟩
 have e3:0 < cE x y s z v r:=by grind
 have c:cL x y s z v r=[MP (x+(z - x)*cT x y s z v r) (y+(v - y)*cT x y s z v r) (-(v - y)) (z - x) (cE x y s z v r),MP (x+(z - x)*cT x y s z v r) (y+(v - y)*cT x y s z v r) (- -(v - y)) (-(z - x)) (cE x y s z v r)]:=by
  unfold cL hV;rw [if_neg e1,if_neg e2]
 rw [c] at hd;simp only [Gw,GD,or_false] at hd;rcases BJ e3 with no | ⟨ρ,r0,eρ⟩
 ·rcases hd with rfl | rfl
  ·have j:=Ae q1 o1 h g sn sd rn rd h0 e3 no;rw [show (1:Rat)*-(v - y)=-(v - y) by grind,show(1:Rat)*(z - x)=z - x by grind] at j
   exact⟨_,_,_,j⟩
  ·have j:=Ae q2 o2 h g sn sd rn rd h0 e3 no;rw [show (-1:Rat)*-(v - y)=- -(v - y) by grind,show(-1:Rat)*(z - x)=-(z - x) by grind] at j
   exact⟨_,_,_,j⟩
 ·rw [<- eρ,Aj r0,Aj r0] at hd;rcases hd with rfl | rfl
  ·have j:=vF (.inl rfl) h g sn sd rn rd h0 eρ;rw [show (1:Rat)*-(v - y)=-(v - y) by grind,show(1:Rat)*(z - x)=z - x by grind] at j
   exact⟨_,_,_,j⟩
  ·have j:=vF (.inr rfl) h g sn sd rn rd h0 eρ;rw [show (-1:Rat)*-(v - y)=- -(v - y) by grind,show(-1:Rat)*(z - x)=-(z - x) by grind] at j
   exact⟨_,_,_,j⟩
end
set_option maxHeartbeats 4000000
theorem AA {a b:Rat} (h:ss a=ss b):a=b:=by
 have key:∀ {x y:Rat},0<=x->0<=y->x*x=y*y->x=y:=λhx hy e=>o9 hx hy e rfl
 unfold ss ab at h
 split at h <;> split at h
 ·have:=key (x:=-a) (y:=-b) (by grind) (by grind) (by grind)
  grind
 ·rename_i h1 h2
  have:=dy b;have:=sG (b:=a) (by grind)
  grind
 ·rename_i h1 h2
  have:=dy a;have:=sG (b:=b) (by grind)
  grind
 ·exact key (by grind) (by grind) h
def je (u x:Rat):Prop:=∃ b,ss b*u=x
noncomputable def bq (u x:Rat):Rat:=@dite _ (je u x) (Classical.propDecidable _) (λh=>Classical.choose h) (λ_=>0)
theorem rB {u x:Rat} (h:je u x):ss (bq u x)*u=x:=by
 unfold bq;rw [dif_pos h];exact Classical.choose_spec h
theorem td {u x b:Rat} (u0:0 < u) (e:ss b*u=x):bq u x=b:=by
 have h:=rB ⟨b,e⟩;apply AA;generalize ss (bq u x)=s at h ⊢;generalize ss b=t at e ⊢;have h2:(s - t)*u=0:=by grind
 have:u≠0:=by grind
 grind
theorem pG {u:Rat} (u0:0 < u):bq u 0=0:=td u0 (by rw [bI,Rat.zero_mul])
noncomputable def rq (u:Rat) (n:Gn):Q:=(n.1,bq u n.2)
noncomputable def rp (u:Rat) (p:Gn×Gn):Q×Q:=(rq u p.1,rq u p.2)
def HR (u:Rat) (ps:List (Gn×Gn)):Prop:=∀ p∈ps,je u p.1.2/\je u p.2.2
def F2 (u:Rat) (p:Q×Q):D:=Pq u p.1 p.2
theorem zW {u:Rat} {p:Gn×Gn} (h:je u p.1.2/\je u p.2.2):gP p=F2 u (rp u p):=by
 show D.tup [.tup [fr p.1.1,fr p.1.2],.tup [fr p.2.1,fr p.2.2]]=D.tup [.tup [fr p.1.1,fr (ss (bq u p.1.2)*u)],.tup [fr p.2.1,fr (ss (bq u p.2.2)*u)]]
 rw [rB h.1,rB h.2]
structure Dl (m:Nat) (n:Gn):Prop where
 a:Sz m n.1
 u:Sz m n.2
 no:n.2=0\/i7 (ab n.2)
def CC (m:Nat) (p:Gn×Gn):Prop:=Dl m p.1/\Dl m p.2
theorem Ca {m:Nat} {x y r:Rat} (hx:x≠0) (hy:y≠0) (e:r*r=ab x / ab y) (sx:Sz m x) (sy:Sz m y):∃ b,ss b*ab x=y/\Sz (m+3) b:=by
 have ye:=iU hy;have e1:ab r*ab r=ab x / ab y:=(ni r).trans e;have e2:ab r*ab r*ab y=ab x:=by rw [e1]; exact Rat.div_mul_cancel ye
 have st:Sz (m+1) (ab r):=uE ((sx.ab.div' sy.ab).mono (by omega)) e1
 have r0:0<=ab r:=kg r;generalize ab r=t at*
 have t0:t≠0:=λz=>by
  rw [z] at e2;exact iU hx (by rw [<- e2]; grind)
 have si:Sz (m+3) (1 / t):=(Sz.div' iw st).mono (by omega)
 have ei:1 / t*t=1:=Rat.div_mul_cancel t0;have i0:0<=1 / t:=jx (by decide) r0
 generalize 1 / t=i at*
 have es:ss i*ab x=ab y:=by
  rw [ic i0,<- e2];generalize ab y=y' at*
  have:i*i*(t*t*y')=(i*t)*(i*t)*y':=by grind
  rw [this,ei];grind
 by_cases n:y < 0
 ·refine⟨-i,?_,si.neg⟩;rw [df];have:ab y=-y:=by unfold ab; rw [if_pos n]
  rw [this] at es;generalize ss i=s at*
  generalize ab x=x' at*
  grind
 ·exact⟨i,by rw [es]; unfold ab; rw [if_neg n],si⟩
theorem ph {ps:List (Gn×Gn)} {p:Gn×Gn} (hp:p∈ps) {n:Gn} (hn:n=p.1\/n=p.2) (h0:n.2≠0):n∈cM ps:=
 List.mem_flatMap.mpr ⟨p,hp,List.mem_filter.mpr ⟨by rcases hn with rfl | rfl <;> simp,by simpa using h0⟩⟩
theorem yU {m:Nat} (m6:m<=6700000) {ps:List (Gn×Gn)} (ok:∀ p∈ps,CC m p) (h:uH ps):∃ u,Fd u/\Sz (m+3) u/\HR u ps/\∀ p∈ps,Sq (m+3) (rq u p.1)/\Sq (m+3) (rq u p.2):=by
 have fin:∀ u,Fd u->Sz (m+3) u->(∀ p∈ps,∀ n:Gn,(n=p.1\/n=p.2)->∃ b,ss b*u=n.2/\Sz (m+3) b)->∃ u,Fd u/\Sz (m+3) u/\HR u ps/\∀ p∈ps,Sq (m+3) (rq u p.1)/\Sq (m+3) (rq u p.2):=λu hu su w=>by
  have sq:∀ p∈ps,∀ n:Gn,(n=p.1\/n=p.2)->Dl m n->Sq (m+3) (rq u n):=λp hp n hn ok=>by
   obtain⟨b,e,s⟩:=w p hp n hn;refine⟨ok.a.mono (by omega),?_⟩
   show Sz (m+3) (bq u n.2)
   rw [td hu.pos e];exact s
  refine⟨u,hu,su,λp hp=>⟨?_,?_⟩,λp hp=>⟨sq p hp _ (.inl rfl) (ok p hp).1,sq p hp _ (.inr rfl) (ok p hp).2⟩⟩
  ·obtain⟨b,e,_⟩:=w p hp _ (.inl rfl); exact⟨b,e⟩
  ·obtain⟨b,e,_⟩:=w p hp _ (.inr rfl); exact⟨b,e⟩
 have nok:∀ n∈cM ps,n.2≠0/\Dl m n:=λn hn=>by
  obtain⟨h0,p,hp,hh⟩:=kK hn;rcases hh with rfl | rfl
  ·exact⟨h0,(ok p hp).1⟩
  ·exact⟨h0,(ok p hp).2⟩
 have zero:∀ {u:Rat} {n:Gn},n.2=0->∃ b,ss b*u=n.2/\Sz (m+3) b:=λh0=>⟨0,by rw [h0,bI,Rat.zero_mul],Sz.zero.mono (by omega)⟩
 cases e:cM ps with
 | nil=>
  refine fin 2 sN (Sz.mono (m:=2) ⟨by decide,by decide⟩ (by omega)) λp hp n hn=>zero ?_
  apply Classical.byContradiction;intro h0;have:=ph hp hn h0;rw [e] at this;cases this
 | cons x0 t=>
  have m0:x0∈cM ps:=by rw [e]; exact Gy
  obtain⟨n0,ok0⟩:=nok x0 m0;refine fin (ab x0.2) ⟨pe n0,ok0.no.resolve_left n0,ok0.u.ab.mono (by omega)⟩ (ok0.u.ab.mono (by omega)) λp hp n hn=>?_
  by_cases h0:n.2=0
  ·exact zero h0
  ·have mn:=ph hp hn h0;obtain⟨_,okn⟩:=nok n mn;have sq:yq (ab x0.2 / ab n.2):=by
    rw [e] at mn;rcases Gw.mp mn with rfl | mn
    ·refine⟨1,?_⟩;rw [Rat.div_def,Rat.mul_inv_cancel _ (iU h0),Rat.mul_one]
    ·have:=An (h n (by rw [e]; exact mn))
     rw [show (cM ps).headD (0,0)=x0 by rw [e]; rfl] at this
     rcases this with z | z | z
     ·exact absurd z n0
     ·exact absurd z h0
     ·exact z
   obtain⟨r,er⟩:=sq;exact Ca n0 h0 er ok0.u okn.u
theorem AF {u:Rat} {ps:List (Gn×Gn)} (u0:0 < u) (h:HR u ps):uH ps:=λn hn=>by
 have has:∀ n∈cM ps,n.2≠0/\je u n.2:=λn hn=>by
  obtain⟨h0,p,hp,hh⟩:=kK hn;rcases hh with rfl | rfl
  ·exact⟨h0,(h p hp).1⟩
  ·exact⟨h0,(h p hp).2⟩
 cases e:cM ps with
 | nil=>rw [e] at hn; cases hn
 | cons x0 t=>
  obtain⟨m0,b,eb⟩:=has x0 (by rw [e]; exact Gy)
  obtain⟨n0,d,ed⟩:=has n (List.mem_of_mem_tail hn);refine xT (.inr (.inr ⟨b / d,?_⟩))
  show b / d*(b / d)=ab x0.2 / ab n.2
  rw [<- eb,<- ed,wk u0,wk u0];have d0:d≠0:=λz=>n0 (by rw [<- ed,z,bI,Rat.zero_mul])
  have hb:b / d*d=b:=Rat.div_mul_cancel d0;have une:u≠0:=by grind
  have dd:d*d*u≠0:=by
   have:=sG d0;have:=GQ this u0;grind
  have h2:b*b*u / (d*d*u)*(d*d*u)=b*b*u:=Rat.div_mul_cancel dd;generalize b*b*u / (d*d*u)=y at*
  generalize b / d=x at*
  have:(x*x - y)*(d*d*u)=0:=by subst hb; grind
  grind
set_option maxHeartbeats 4000000
theorem fR (t:Rat):1+t*t≠0:=by
 have:0<=t*t:=by
  rcases tri t with h | h | h
  ·exact Rat.le_of_lt (GQ h h)
  ·have:=GQ (show 0 < -t by grind) (show 0 < -t by grind); grind
  ·subst h; rw [Rat.mul_zero]; decide
 grind
def rF:Hn Rat->D
 | none=>.non
 | some t=>fr t
def nG:Hn Rat->Rat
 | none=>-1
 | some t=>(1 - t*t) / (1+t*t)
def lO:Hn Rat->Rat
 | none=>0
 | some t=>(t+t) / (1+t*t)
def ow (o:Hn Rat):Prop:=∀ t,o=some t->Sz 4 t
def jk:ca:=λds S k=>∃ o:Hn Rat,ds=[rF o]/\ow o/\k (W (nG o) (lO o)) S
theorem fB:ar ["drive","square","total"] ["drive"] (ai gs):=eu
theorem mf (Fn:FN K "direction_of" gs f fd) (aI:aW P w K mg base "negative" 1 dO) (aL:aW P w K mg base "times" 35 fJ) (bg:aW P w K mg base "plus" 35 iC) (cA:aW P w K mg base "over" 35 lE) (ci:aW P w K mg base "minus" 35 kQ) (a9:oi K mg "NOUGHT" [0,1]) (qE:oi K mg "ONE" [1,1]):
  aJ P w K mg base cJ 36 f fd ["drive"] (cV K jk):=by
 refine Fn.okJ fB (λds S k h=>?_) (λcdv A outer s H E hr=>⟨_,(af (aA (aw uT (ag 0) eR (aE _)) (ah (ak (aD (aa (dq aI hr (aa (fD qE rfl) ac)) (aa (fD a9 rfl) ac))))) aF) (af (aj (i:=1) fB.nd (dq aL hr (az 0 (az 0 ac)))) (af (aj (i:=2) fB.nd (dq bg hr (aa (fD qE rfl) (az 1 ac)))) (ah (ak (aD (aa (dq cA hr (aa (dq ci hr (aa (fD qE rfl) (az 1 ac))) (az 2 ac))) (aa (dq cA hr (aa (dq bg hr (az 0 (az 0 ac))) (az 2 ac))) ac)))))))),λds S k h=>?_⟩)
 ·obtain⟨_,rfl,_⟩:=h
  rfl
 ·obtain⟨o,rfl,ho,w⟩:=h;cases o with
  | none=>exact⟨1,rfl,dM,w⟩
  | some t=>
   have s:=ho t rfl;exact⟨t,t,rfl,s.mono (by decide),s.mono (by decide),1,t*t,rfl,iw.mono (by decide),(s.mul s).mono (by decide),1,t*t,rfl,iw.mono (by decide),(s.mul s).mono (by decide),_,_,rfl,fR t,(iw.sub (s.mul s)).mono (by decide),(iw.add (s.mul s)).mono (by decide),t,t,rfl,s.mono (by decide),s.mono (by decide),_,_,rfl,fR t,(s.add s).mono (by decide),(iw.add (s.mul s)).mono (by decide),dM,w⟩
theorem yi {o:Hn Rat} (h:ow o):Sz 20 (nG o):=by
 cases o with
 | none=>exact⟨by decide,by decide⟩
 | some t=>
  have s:=h t rfl;exact((iw.sub (s.mul s)).div (iw.add (s.mul s)) (fR t)).mono (by decide)
theorem yA {o:Hn Rat} (h:ow o):Sz 20 (lO o):=by
 cases o with
 | none=>exact⟨by decide,by decide⟩
 | some t=>
  have s:=h t rfl;exact((s.add s).div (iw.add (s.mul s)) (fR t)).mono (by decide)
def jA:ca:=λds S k=>∃ (x y l:Rat) (o:Hn Rat),ds=[PP x y,fr l,rF o]/\Sz 30 x/\Sz 30 y/\Sz 14 l/\ow o/\k (PP (x+nG o*l) (y+lO o*l)) S
theorem pK:ar ["middle","length","drive"] ["middle","length","drive"] (ai ju):=eu
theorem ql (Fn:FN K "crank_end" ju f fd) (aV:aW P w K mg base "plain_point" 1 dw) (fQ:aW P w K mg base "moved" 36 my) (fZ:aW P w K mg base "direction_of" 36 jk) (bJ:aW P w K mg base "place_of" 1 iP):
  aJ P w K mg base cJ 37 f fd ["middle","length","drive"] (cV K jA):=by
 refine Fn.okJ pK (λds S k h=>?_) (λcdv A outer s H E hr=>⟨_,(ah (ak (dq aV hr (aa (dq fQ hr (aa (dq bJ hr (az 0 ac)) (aa (dq fZ hr (az 2 ac)) (az 1 ac)))) ac)))),λds S k h=>?_⟩)
 ·obtain⟨_,_,_,_,rfl,_⟩:=h
  rfl
 ·obtain⟨x,y,l,o,rfl,hx,hy,hl,ho,w⟩:=h;exact⟨x,y,rfl,o,rfl,ho,x,y,nG o,lO o,l,rfl,hx.mono (by decide),hy.mono (by decide),(yi ho).mono (by decide),(yA ho).mono (by decide),hl.mono (by decide),_,_,rfl,w⟩
set_option maxHeartbeats 4000000
abbrev Pt:=Gn×Gn
def pN:Nat->Nat
 | 0=>32
 | c+1=>6*pN c+26
def vN:Nat->Nat
 | 0=>32
 | c+1=>11*vN c+90
theorem wM:∀ c,pN c<=vN c
 | 0=>Gq _
 | c+1=>by have:=wM c; show 6*pN c+26<=11*vN c+90; omega
theorem zk (c:Nat):pN c<=pN (c+1):=by show pN c<=6*pN c+26; omega
theorem zm (c:Nat):vN c<=vN (c+1):=by show vN c<=11*vN c+90; omega
theorem qu {a b:Nat} (h:a<=b):pN a<=pN b:=by
 induction h with
 | refl=>exact Gq _
 | step _ ih=>exact GZ ih (zk _)
theorem pw {a b:Nat} (h:a<=b):vN a<=vN b:=by
 induction h with
 | refl=>exact Gq _
 | step _ ih=>exact GZ ih (zm _)
theorem F5 {c:Nat} (h:c<=4):pN c<=48206:=GZ (qu h) (by decide)
theorem F' {c:Nat} (h:c<=4):vN c<=600272:=GZ (pw h) (by decide)
theorem yv {c:Nat} (h:c<=4):12*pN c+49<=vN (c+1):=by
 match c,h with
 | 0,_=>decide
 | 1,_=>decide
 | 2,_=>decide
 | 3,_=>decide
 | 4,_=>decide
structure lH (c:Nat) (p:Pt):Prop where
 cd:Cd (pN c) p.1.1 p.2.1
 u1:Sz (vN c) p.1.2
 u2:Sz (vN c) p.2.2
 n1:p.1.2=0\/i7 (ab p.1.2)
 n2:p.2.2=0\/i7 (ab p.2.2)
theorem lH.mono {a b:Nat} {p:Pt} (h:lH a p) (l:a<=b):lH b p:=⟨h.cd.mono (qu l),h.u1.mono (pw l),h.u2.mono (pw l),h.n1,h.n2⟩
theorem lH.pok {c:Nat} {p:Pt} (h:lH c p):CC (vN c) p:=⟨⟨h.cd.sx.mono (wM c),h.u1,h.n1⟩,⟨h.cd.sy.mono (wM c),h.u2,h.n2⟩⟩
def Pl (p:Pt):Prop:=p.1.2=0/\p.2.2=0
instance {p:Pt}:Decidable (Pl p):=inferInstanceAs (Decidable (_/\_))
theorem Pl.e {p:Pt} (h:Pl p):gP p=PP p.1.1 p.2.1:=by
 show D.tup [.tup [fr p.1.1,fr p.1.2],.tup [fr p.2.1,fr p.2.2]]=_
 rw [h.1,h.2]
 rfl
def pU (u:Rat) (X Y:Q):Pt:=((X.1,ss X.2*u),(Y.1,ss Y.2*u))
theorem ug {u b:Rat} (u0:0 < u) (no:i7 u):ss b*u=0\/i7 (ab (ss b*u)):=by
 by_cases h:b=0
 ·exact .inl ((kM u0).mpr h)
 ·right
  rw [oZ u0];exact wg no h
noncomputable def tI (u:Rat) (p q:Pt) (a l:Rat):Pt:=pU u (mG u (rq u p.1) (rq u p.2) (rq u q.1) (rq u q.2) (qo a) (qo l)) (nj u (rq u p.1) (rq u p.2) (rq u q.1) (rq u q.2) (qo a) (qo l))
theorem iy {u p q:Rat} {x y z v:Q}:(mG u x y z v (qo p) (qo q)).1=x.1+(p*(z.1 - x.1) - q*(v.1 - y.1))/\(nj u x y z v (qo p) (qo q)).1=y.1+(p*(v.1 - y.1)+q*(z.1 - x.1))/\(mG u x y z v (qo p) (qo q)).2=x.2+(p*(z.2 - x.2) - q*(v.2 - y.2))/\(nj u x y z v (qo p) (qo q)).2=y.2+(p*(v.2 - y.2)+q*(z.2 - x.2)):=by
 simp only [mG,nj,qa,qs,qm,qo];refine⟨?_,?_,?_,?_⟩ <;> grind
theorem lH.like {c:Nat} {p q:Pt} {u a l:Rat} (hp:lH c p) (hq:lH c q) (sa:Sz 4 a) (sl:Sz 4 l) (u0:0 < u) (no:i7 u) (su:Sz (vN c+3) u)
  (b1:Sq (vN c+3) (rq u p.1)) (b2:Sq (vN c+3) (rq u p.2)) (b3:Sq (vN c+3) (rq u q.1)) (b4:Sq (vN c+3) (rq u q.2)):lH (c+1) (tI u p q a l):=by
 obtain⟨e1,e2,e3,e4⟩:=iy (u:=u) (p:=a) (q:=l) (x:=rq u p.1) (y:=rq u p.2) (z:=rq u q.1) (v:=rq u q.2);have pc:32<=pN c:=qu (Ha c);refine⟨?_,?_,?_,ug u0 no,ug u0 no⟩
 ·show Cd _ (mG u (rq u p.1) (rq u p.2) (rq u q.1) (rq u q.2) (qo a) (qo l)).1 (nj u (rq u p.1) (rq u p.2) (rq u q.1) (rq u q.2) (qo a) (qo l)).1
  rw [e1,e2];exact(Cd.like hp.cd hq.cd sa sl).mono (by show 2*pN c+2*4+4<=6*pN c+26; omega)
 ·show Sz _ (ss (mG u (rq u p.1) (rq u p.2) (rq u q.1) (rq u q.2) (qo a) (qo l)).2*u)
  rw [e3];exact(((b1.b.add ((sa.mul (b3.b.sub b1.b)).sub (sl.mul (b4.b.sub b2.b)))).ss).mul su).mono (by show _<=11*vN c+90; omega)
 ·show Sz _ (ss (nj u (rq u p.1) (rq u p.2) (rq u q.1) (rq u q.2) (qo a) (qo l)).2*u)
  rw [e4];exact(((b2.b.add ((sa.mul (b4.b.sub b2.b)).add (sl.mul (b3.b.sub b1.b)))).ss).mul su).mono (by show _<=11*vN c+90; omega)
theorem Bi {n:Nat} {x y s z v r:Rat} (hn:n<=48206) (h:Cd n x y) (g:Cd n z v) (hs:Sz 8 s) (hr:Sz 8 r):Ba x y s z v r:=by
 obtain⟨P,Q,X,Y,K,hK,bK,bP,bQ,bX,bY,ha,hb,hx,hy⟩:=h.way g;have s1:Sz 98000 (z - x):=(gF (k:=n+n+1) (by omega) ha bP (bK.mono (by omega))).mono (by omega)
 have s2:Sz 98000 (v - y):=(gF (k:=n+n+1) (by omega) hb bQ (bK.mono (by omega))).mono (by omega)
 refine⟨h.sx.mono (by omega),h.sy.mono (by omega),hs.mono (by decide),g.sx.mono (by omega),g.sy.mono (by omega),hr.mono (by decide),s1,s2,λh0=>?_,λh0=>?_,λh0=>?_,λh0=>?_⟩ <;> obtain⟨_,_,a3,a4,a5⟩:=zZ h g hs.num hs.den hr.num hr.den h0
 ·exact a3.mono (by omega)
 ·exact a4.mono (by omega)
 ·exact a5.sx.mono (by omega)
 ·exact a5.sy.mono (by omega)
theorem lH.pair {c:Nat} {x y s z v r:Rat} {d:D} {u:Rat} {X Y:Q} (h4:c<=4) (j:Jg (pN c) x y s z v r d u X Y):lH (c+1) (pU u X Y):=by
 have:=yv h4;exact⟨j.cd,((j.xb.ss).mul j.su).mono (by omega),((j.yb.ss).mul j.su).mono (by omega),ug j.u0 j.no,ug j.u0 j.no⟩
theorem Cd.crank {x y l:Rat} {o:Hn Rat} (hx:Sz 9 x) (hy:Sz 9 y) (hl:Sz 4 l) (ho:ow o):Cd 32 (x+nG o*l) (y+lO o*l):=by
 have ex:=cn x;have ey:=cn y;have el:=cn l;have px:=jV x;have py:=jV y;have pl:=jV l;cases o with
 | none=>
  refine⟨x.num*y.den*l.den - l.num*x.den*y.den,y.num*x.den*l.den,x.den*y.den*l.den,Int.mul_pos (Int.mul_pos px py) pl,((hx.den.mul hy.den).mul hl.den).mono (by decide),(((hx.num.mul hy.den).mul hl.den).sub ((hl.num.mul hx.den).mul hy.den)).mono (by decide),((hy.num.mul hx.den).mul hl.den).mono (by decide),?_,?_⟩
  ·show(x+-1*l)*_=_
   simp only [GU,Gm];rw [<- ex,<- el];grind
  ·show(y+0*l)*_=_
   simp only [GU,Gm];rw [<- ey];grind
 | some t=>
  have et:=cn t;have pt:=jV t;have ht:=ho t rfl;have h1:=fR t;have e1:(1 - t*t) / (1+t*t)*(1+t*t)=1 - t*t:=Rat.div_mul_cancel h1;have e2:(t+t) / (1+t*t)*(1+t*t)=t+t:=Rat.div_mul_cancel h1;have q0:0<=t.num*t.num:=by rw [<- Int.natAbs_mul_self' t.num]; exact Int.natCast_nonneg _
  have q1:0 < (t.den:Int)*(t.den:Int)+t.num*t.num:=by have:=Int.mul_pos pt pt; omega
  have bq:Bt 9 ((t.den:Int)*(t.den:Int)+t.num*t.num):=((ht.den.mul ht.den).add (ht.num.mul ht.num)).mono (by decide)
  have br:Bt 9 ((t.den:Int)*(t.den:Int) - t.num*t.num):=((ht.den.mul ht.den).sub (ht.num.mul ht.num)).mono (by decide)
  have b2:Bt 9 (t.num*t.den+t.num*t.den):=((ht.num.mul ht.den).add (ht.num.mul ht.den)).mono (by decide)
  refine⟨x.num*y.den*l.den*(t.den*t.den+t.num*t.num)+(t.den*t.den - t.num*t.num)*l.num*x.den*y.den,y.num*x.den*l.den*(t.den*t.den+t.num*t.num)+(t.num*t.den+t.num*t.den)*l.num*x.den*y.den,x.den*y.den*l.den*(t.den*t.den+t.num*t.num),Int.mul_pos (Int.mul_pos (Int.mul_pos px py) pl) q1,(((hx.den.mul hy.den).mul hl.den).mul bq).mono (by decide),((((hx.num.mul hy.den).mul hl.den).mul bq).add (((br.mul hl.num).mul hx.den).mul hy.den)).mono (by decide),((((hy.num.mul hx.den).mul hl.den).mul bq).add (((b2.mul hl.num).mul hx.den).mul hy.den)).mono (by decide),?_,?_⟩
  ·show(x+(1 - t*t) / (1+t*t)*l)*_=_
   simp only [GU,Gm,GF];rw [<- ex,<- el,<- et];generalize (1 - t*t) / (1+t*t)=d at*
   grind
  ·show(y+(t+t) / (1+t*t)*l)*_=_
   simp only [GU,Gm,GF];rw [<- ey,<- el,<- et];generalize (t+t) / (1+t*t)=d at*
   grind
theorem lH.plain {x y:Rat} (h:Cd 32 x y):lH 0 ((x,0),(y,0)):=⟨h,Sz.zero.mono (by decide),Sz.zero.mono (by decide),.inl rfl,.inl rfl⟩
set_option maxHeartbeats 4000000
def eW:ca:=λds S k=>∃ p:Pt,ds=[gP p]/\k (.bl (decide (Pl p))) S
theorem kE:ar ["point"] ["point"] (ai eQ):=eu
theorem kA (Fn:FN K "is_plain_point" eQ f fd) (aH:aW P w K mg base "is_plain" 1 dQ):
  aJ P w K mg base cJ 2 f fd ["point"] (cV K eW):=by
 refine Fn.okJ kE (λds S k h=>?_) (λcdv A outer s H E hr=>⟨_,(ah (ak (Bx (dq aH hr (aa (aT 0) ac)) (BD (dq aH hr (aa (aT 0) ac)))))),λds S k h=>?_⟩)
 ·obtain⟨_,rfl,_⟩:=h
  rfl
 ·obtain⟨p,rfl,w⟩:=h;refine⟨fr p.1.1,p.1.2,rfl,aS (λe=>⟨fr p.2.1,p.2.2,rfl,?_⟩) (λe=>?_)⟩
  ·have z:decide (Pl p)=decide (p.2.2=0):=by
    unfold Pl;simp [e]
   rw [z] at w;exact w
  ·rw [show decide (Pl p)=false from G_ λz=>e z.1] at w
   exact w
theorem mT {x y a b s:Rat}:(hV x y a b s).length<=2:=by
 unfold hV
 split
 ·decide
 ·split
  ·show 1<=2; decide
  ·show 2<=2; decide
noncomputable def i5 (l:List D) (i:Nat):D:=if l.length=2 then l.getD i .non else l.getD 0 .non
theorem q_ {l:List D} {i:Nat} (h:l≠[]) (h2:l.length<=2) (hi:i < 2):i5 l i∈l:=by
 match l,h,h2 with
 | [a],_,_=>show i5 [a] i∈[a]; unfold i5; simp
 | [a,b],_,_=>
  match i,hi with
  | 0,_=>simp [i5]
  | 1,_=>simp [i5]
noncomputable abbrev cP (p q:Pt) (s t:Rat):List D:=cL p.1.1 p.2.1 s q.1.1 q.2.1 t
abbrev aP (p q:Pt):Rat:=(q.1.1 - p.1.1)*(q.1.1 - p.1.1)+(q.2.1 - p.2.1)*(q.2.1 - p.2.1)
theorem wD {ps:List Pt} {i:Nat} {p:Pt} (h:ps[i]?=some p):L2.atI (ps.map gP) ((i:Nat):Int)=some (gP p):=L2.io (by rw [GP,h]; rfl)
def fN:ca:=λds S k=>match ds with
 | [.non,.non,.non]=>False/\k .non S
 | _=>False
theorem bU:ar ["step","number","points","one","other","found"] ["step","number","points"] (ai fG):=eu
theorem nU (Fn:FN K "pair_point" fG f fd) (bf:aW P w K mg base "is_plain_point" 2 eW) (dR:mg "len"=none):
  aJ P w K mg base cJ 3 f fd ["step","number","points"] (cV K fN):=by
 refine Fn.okJ bU (λds S k h=>?_) (λcdv A outer s H E hr=>⟨_,(af (aj (i:=3) bU.nd (bn fj (ag 2) (aT 0) Zf)) (af (aj (i:=4) bU.nd (bn fj (ag 2) (aT 0) Zf)) (af (aA (WJ.pt (lr (fK (bZ (dq bf hr (az 3 ac)))) (kI (fK (bZ (dq bf hr (az 4 ac))))))) (ah dN) aF) (af dN (af (aA (aw fy (bp gS rfl dR gX (az 5 ac)) am (aE _)) (ah dN) aF) (ah (ak (oG (aw fy (bp gS rfl dR gX (az 5 ac)) am (aE _)) (bn fj (ag 5) (aT 0) Zf) (aT 5))))))))),λds S k h=>?_⟩)
 ·unfold fN at h
  split at h
  ·rfl
  ·exact h.elim
 ·unfold fN at h
  split at h
  ·exact h.1.elim
  ·exact h.elim
def jT (aC aR bw:Hm):kP:=λds S k e=>∃ (i j:Nat) (s t:Rat) (v n:Nat) (q:Hm) (ps:List Pt) (p1 p2:Pt),ds=[.tup [.str "pair",.int (i:Nat),.int (j:Nat),fr s,fr t,.int (v:Nat)],.int n,.ref q]/\S q=some (.lst (ps.map gP))/\ps[i]?=some p1/\ps[j]?=some p2/\v < 2/\(Pl p1->Pl p2->Ba p1.1.1 p1.2.1 s p2.1.1 p2.2.1 t)/\
 (¬ (Pl p1/\Pl p2)->∀ S',cK S S'->e aC S')/\(Pl p1->Pl p2->aP p1 p2=0\/cP p1 p2 s t=[]->∀ S',cK S S'->e (bw,some (n:Int)) S')/\(Pl p1->Pl p2->aP p1 p2≠0->cP p1 p2 s t≠[]->∀ S' d,cK S S'->d=i5 (cP p1 p2 s t) v->k d S')
theorem ny {P:Hq} {w:Ht} {K:Fg} {mg:Str->Hn Hl} {base:Hu} {f:Hm} {fd:FuncData} {aC aR bw:Hm} (Fn:FN K "pair_point" fG f fd) (bf:aW P w K mg base "is_plain_point" 2 eW) (fw:l6 P w K mg base "circles_meet" 40 (i4 aR)) (dR:mg "len"=none) (jG:mg "Stuck"=some (.ref bw)) (qi_Stuck:xP K mg "Stuck" bw) (ib:mg "NoMeet"=some (.ref aR)) (rC:PySem.W.excIn K aR [.type "ValueError",.type "Exception",.type "BaseException",.type "object"] "ValueError.__new__"=true) (cU:mg "NoField"=some (.ref aC)) (lG:PySem.W.excIn K aC [.type "ValueError",.type "Exception",.type "BaseException",.type "object"] "ValueError.__new__"=true) (ia:PySem.W.exmOne K (.ref aR) (.ref aR)=some true):
  aJ P w K mg base (fm P w) 41 f fd ["step","number","points"] (wl K (jT aC aR bw)):=by
 refine Fn.okX bU (λds S k x h=>?_) (λcdv A outer s H E ex hr hE=>⟨_,(af (aj (i:=3) bU.nd (bn fj (ag 2) (aT 0) Zf)) (af (aj (i:=4) bU.nd (bn fj (ag 2) (aT 0) Zf)) (af (aA (WJ.pt (lr (fK (bZ (dq bf hr (az 3 ac)))) (kI (fK (bZ (dq bf hr (az 4 ac))))))) (ah (j6 hE PySem.F.excBase_ValueError lG cU rfl)) aF) (af (uL (i:=5) (j:=1) hE qi_Stuck (λex=>(rE fw (hr.mono (by decide)) rfl (az 3 (aa (aT 0) (az 4 (aa (aT 0) ac)))))) (hr.mono (by decide)) rfl rfl (.inl rfl) rfl ib bU.nd rfl (.inl rfl)) (af (aA (aw fy (bp gS rfl dR gX (az 5 ac)) am (aE _)) (ah (rg (j:=1) hE qi_Stuck (hr.mono (by decide)) rfl rfl (.inl rfl))) aF) (ah (ak (oG (aw fy (bp gS rfl dR gX (az 5 ac)) am (aE _)) (bn fj (ag 5) (aT 0) Zf) (aT 5))))))))),λds S k h=>?_⟩)
 ·obtain⟨_,_,_,_,_,_,_,_,_,_,rfl,_⟩:=h
  rfl
 ·obtain⟨i,j,s,t,v,n,q,ps,p1,p2,rfl,hq,h1,h2,hv,hz,wf,w0,w1⟩:=h;refine⟨_,_,hq,wD h1,_,_,hq,wD h2,p1,rfl,fk (λz=>wH (wf (λh=>z h.1) S (cK.refl S))) (λhp1=>⟨p2,rfl,fk (λz=>wf (λh=>z h.2) S (cK.refl S)) (λhp2=>?_)⟩)⟩
  have hz:=hz hp1 hp2;have w0:=w0 hp1 hp2;have w1:=w1 hp1 hp2;refine⟨p1.1.1,p1.2.1,s,p2.1.1,p2.2.1,t,by rw [<- hp1.e,<- hp2.e],hz,λa0=>⟨ia,_,rfl,w0 (.inl a0) S (cK.refl S)⟩,λa1 S' p e hp=>?_⟩
  have hl:(cP p1 p2 s t).length<=2:=mT;have e1:cK S (put S' p (.lst (cP p1 p2 s t))):=e.put (e.none hp)
  show zw _ _ _ _ (put S' p (.lst (cP p1 p2 s t)))
  generalize cP p1 p2 s t=l at*
  refine⟨_,aq,aS (λz0=>?_) (λz0=>⟨_,aq,aS (λz2=>?_) (λz2=>?_)⟩)⟩
  ·exact⟨_,rfl,w0 (.inr (Hj.mp (by omega))) _ e1⟩
  ·match l,z2 with
   | [a,b],_=>
    have w:=w1 a1 (λz=>by cases z) _ _ e1 rfl
    match v,hv with
    | 0,_=>exact⟨_,_,aq,nA,w⟩
    | 1,_=>exact⟨_,_,aq,AW,w⟩
   | [],z=>exact absurd z (by decide)
   | [_],z=>exact absurd (show (1:Int)=2 from z) (by decide)
  ·match l,z0,z2,hl with
   | [a],_,_,_=>exact⟨_,_,aq,nA,w1 a1 (λz=>by cases z) _ _ e1 rfl⟩
   | [],z,_,_=>exact absurd rfl z
   | [_,_],_,z,_=>exact absurd rfl z
set_option maxHeartbeats 4000000
def jJ:ca:=λds S k=>match ds with
 | [.non,.non,.non,.non]=>False/\k .non S
 | _=>False
theorem bz:ar ["one","other","along","left","way","ahead","aside","x","y"] ["one","other","along","left"] (ai jH):=eu
theorem r_ (Fn:FN K "like_at" jH f fd) (fv:aW P w K mg base "ask_one_field" 38 iV) (cy:aW P w K mg base "way_between" 40 gQ) (aX:aW P w K mg base "root_minus" 39 eA) (a_:aW P w K mg base "root_times" 38 iM) (aM:aW P w K mg base "root_plus" 38 fg) (a9:oi K mg "NOUGHT" [0,1]):
  aJ P w K mg base cJ 41 f fd ["one","other","along","left"] (cV K jJ):=by
 refine Fn.okJ bz (λds S k h=>?_) (λcdv A outer s H E hr=>⟨_,(af (bo (dq fv hr (aa (aD (az 0 (az 1 ac))) ac))) (af (aj (i:=4) bz.nd (dq cy hr (az 0 (az 1 ac)))) (af (aj (i:=5) bz.nd (aD (az 2 (aa (fD a9 rfl) ac)))) (af (aj (i:=6) bz.nd (aD (az 3 (aa (fD a9 rfl) ac)))) (af (aj (i:=7) bz.nd (dq aX hr (aa (dq a_ hr (az 5 (aa (aT 4) ac))) (aa (dq a_ hr (az 6 (aa (aT 4) ac))) ac)))) (af (aj (i:=8) bz.nd (dq aM hr (aa (dq a_ hr (az 5 (aa (aT 4) ac))) (aa (dq a_ hr (az 6 (aa (aT 4) ac))) ac)))) (ah (ak (aD (aa (dq aM hr (aa (aT 0) (az 7 ac))) (aa (dq aM hr (aa (aT 0) (az 8 ac))) ac))))))))))),λds S k h=>?_⟩)
 ·unfold jJ at h
  split at h
  ·rfl
  ·exact h.elim
 ·unfold jJ at h
  split at h
  ·exact h.1.elim
  ·exact h.elim
theorem HR.two {u:Rat} {p q:Pt} (h:HR u [p,q]):(je u p.1.2/\je u p.2.2)/\je u q.1.2/\je u q.2.2:=⟨h p (by simp),h q (by simp)⟩
def mX (aC:Hm):kP:=λds S k x=>∃ (m:Nat) (p q:Pt) (a l:Rat),ds=[gP p,gP q,fr a,fr l]/\m<=600272/\CC m p/\CC m q/\Sz 4 a/\Sz 4 l/\(¬ uH [p,q]->∀ S',cK S S'->x aC S')/\
 (∀ u,0 < u->i7 u->Sz (m+3) u->HR u [p,q]->Sq (m+3) (rq u p.1)->Sq (m+3) (rq u p.2)->Sq (m+3) (rq u q.1)->Sq (m+3) (rq u q.2)->∀ S',cK S S'->k (gP (tI u p q a l)) S')
theorem rm {P:Hq} {w:Ht} {K:Fg} {mg:Str->Hn Hl} {base:Hu} {f:Hm} {fd:FuncData} {aC:Hm} (Fn:FN K "like_at" jH f fd) (aM:aW P w K mg base "root_plus" 38 fg) (a_:aW P w K mg base "root_times" 38 iM) (aX:aW P w K mg base "root_minus" 39 eA) (cy:aW P w K mg base "way_between" 40 gQ) (eZ:l6 P w K mg base "ask_one_field" 38 (ie aC)) (a9:oi K mg "NOUGHT" [0,1]):
  aJ P w K mg base (fm P w) 41 f fd ["one","other","along","left"] (wl K (mX aC)):=by
 refine Fn.okX bz (λds S k x h=>?_) (λcdv A outer s H E ex hr hE=>⟨_,(af (bo (km hE eZ (hr.mono (by decide)) rfl (aa (aD (az 0 (az 1 ac))) ac))) (af (aj (i:=4) bz.nd (dq cy hr (az 0 (az 1 ac)))) (af (aj (i:=5) bz.nd (aD (az 2 (aa (fD a9 rfl) ac)))) (af (aj (i:=6) bz.nd (aD (az 3 (aa (fD a9 rfl) ac)))) (af (aj (i:=7) bz.nd (dq aX hr (aa (dq a_ hr (az 5 (aa (aT 4) ac))) (aa (dq a_ hr (az 6 (aa (aT 4) ac))) ac)))) (af (aj (i:=8) bz.nd (dq aM hr (aa (dq a_ hr (az 5 (aa (aT 4) ac))) (aa (dq a_ hr (az 6 (aa (aT 4) ac))) ac)))) (ah (ak (aD (aa (dq aM hr (aa (aT 0) (az 7 ac))) (aa (dq aM hr (aa (aT 0) (az 8 ac))) ac))))))))))),λds S k h=>?_⟩)
 ·obtain⟨_,_,_,_,_,rfl,_⟩:=h
  rfl
 ·obtain⟨m,p,q,a,l,rfl,hm,hp,hq,sa,sl,w0,w⟩:=h;have all:∀ r∈[p,q],CC m r:=λr hr=>by
   simp only [Gw,GD,or_false] at hr;rcases hr with rfl | rfl
   ·exact hp
   ·exact hq
  refine⟨dM,[p,q],rfl,λr hr=>⟨(all r hr).1.u.mono (by omega),(all r hr).2.u.mono (by omega)⟩,(by show 2<=90; decide),λone S1 e1=>?_,w0⟩
  obtain⟨u,hu,su,hR,hs⟩:=yU (m:=m) (by omega) all one
  obtain⟨x1,y1⟩:=hs p (by simp)
  obtain⟨z1,v1⟩:=hs q (by simp)
  have w:=w u hu.pos hu.no su hR x1 y1 z1 v1 S1 e1;have hd1:Sq 1250000 (qs (rq u q.1) (rq u p.1)):=(Ev z1 x1).mono (by omega)
  have hd2:Sq 1250000 (qs (rq u q.2) (rq u p.2)):=(Ev v1 y1).mono (by omega)
  have x1:=x1.mono (n:=610000) (by omega)
  have y1:=y1.mono (n:=610000) (by omega)
  have z1:=z1.mono (n:=610000) (by omega)
  have v1:=v1.mono (n:=610000) (by omega)
  rw [zW (hR p (by simp)),zW (hR q (by simp))]
  have ep:gP (tI u p q a l)=Pq u (mG u (rq u p.1) (rq u p.2) (rq u q.1) (rq u q.2) (qo a) (qo l)) (nj u (rq u p.1) (rq u p.2) (rq u q.1) (rq u q.2) (qo a) (qo l)):=rfl;rw [ep] at w;clear ep w0 all hR su
  show zw _ _ _ [some (Pq u (rq u p.1) (rq u p.2)),some (Pq u (rq u q.1) (rq u q.2)),_,_,_,_,_,_,_] _
  generalize rq u p.1=x at*
  generalize rq u p.2=y at*
  generalize rq u q.1=z at*
  generalize rq u q.2=v at*
  have s4:∀ {t:Rat},Sz 4 t->Sq 1250000 (qo t):=λh=>C6 (h.mono (by decide)) (by decide)
  have sc:∀ {t:Rat} {X:Q},Sz 4 t->Sq 1250000 X->Sq 1250004 (qm u (qo t) X):=λ{t X} ht hX=>by
   refine⟨?_,?_⟩
   ·show Sz _ (t*X.1+0*X.2*u)
    rw [show t*X.1+0*X.2*u=t*X.1 by grind]
    exact(ht.mul hX.a).mono (by decide)
   ·show Sz _ (t*X.2+0*X.1)
    rw [show t*X.2+0*X.1=t*X.2 by grind]
    exact(ht.mul hX.b).mono (by decide)
  have m1:=sc sa hd1;have m2:=sc sl hd2;have m3:=sc sa hd2;have m4:=sc sl hd1;refine⟨u,x,y,z,v,rfl,hu,x1,y1,z1,v1,dM,dM,?_⟩;refine⟨u,_,_,_,_,congrArg (λt=>[t,_]) (du (u:=u)),hu,s4 sa,hd1,?_⟩
  refine⟨u,_,_,_,_,congrArg (λt=>[t,_]) (du (u:=u)),hu,s4 sl,hd2,?_⟩
  refine⟨u,_,_,_,_,rfl,hu,m1.sn (by decide),m2.sn (by decide),?_⟩
  refine⟨u,_,_,_,_,congrArg (λt=>[t,_]) (du (u:=u)),hu,s4 sa,hd2,?_⟩
  refine⟨u,_,_,_,_,congrArg (λt=>[t,_]) (du (u:=u)),hu,s4 sl,hd1,?_⟩
  refine⟨u,_,_,_,_,rfl,hu,m3.sn (by decide),m4.sn (by decide),?_⟩
  exact⟨u,_,_,_,_,rfl,hu,x1.sn (by decide),(Ev m1 m2).sn (by decide),u,_,_,_,_,rfl,hu,y1.sn (by decide),(FU m3 m4).sn (by decide),dM,w⟩
set_option maxHeartbeats 4000000
def jD:ca:=λds S k=>∃ (ns:List Int) (i:Int),ds=[.rl (List.map D.int ns),.int i]/\0<=i/\∀ c:Int,k (.int c) S
theorem lX:ar ["script","k"] ["script","k"] (ai fV):=eu
theorem l9 (Fn:FN K "_law_cell_at" fV f fd) (dR:mg "len"=none):
  aJ P w K mg base cJ 1 f fd ["script","k"] (cV K jD):=by
 refine Fn.okJ lX (λds S k h=>?_) (λcdv A outer s H E hr=>⟨_,(af (aA (aw mP (ag 1) (bp gS rfl dR gX (az 0 ac)) (aE _)) (ah (ak (bn fj (ag 0) (ag 1) Zf))) aF) (ah (ak am))),λds S k h=>?_⟩)
 ·obtain⟨_,_,rfl,_⟩:=h
  rfl
 ·obtain⟨ns,i,rfl,h0,q⟩:=h;refine aS (λhl=>?_) (λ_=>q 0)
  obtain⟨n,rfl⟩:=Int.eq_ofNat_of_zero_le h0;have hn:n < ns.length:=by rw [Gr] at hl; omega
  have e:L2.atI (List.map D.int ns) (n:Int)=some (.int ns[n]):=io (by rw [GP,GN hn] <;> rfl)
  exact⟨_,e,q _⟩
def ko:ca:=λds S k=>∃ ns i,ds=[.rl (List.map D.int ns),.int i]/\0<=i/\∀ (p:Hm) (n:Int) (b:Hx),S p=none->(b=false->0<=n/\n < 2147483647)->k (.ref p) (put S p (.lst [.int n,.bl b]))
theorem jS:ar ["script","k","cell"] ["script","k"] (ai iQ):=eu
theorem oy (Fn:FN K "_law_state" iQ f fd) (gh:aW P w K mg base "_law_cell_at" 1 jD):
  aJ P w K mg base cJ 2 f fd ["script","k"] (cV K ko):=by
 refine Fn.okJ jS (λds S k h=>?_) (λcdv A outer s H E hr=>⟨_,(af (aj (i:=2) jS.nd (dq gh hr (az 0 (az 1 ac)))) (af (aA (aw EF (ag 2) (aB zG am am) (aE _)) (ah (ak (dj (aa (aB m5 (ag 2) (aB zG am am)) (aa kU ac))))) aF) (ah (ak (dj (aa (aB kD (ag 2) am) (aa kU ac))))))),λds S k h=>?_⟩)
 ·obtain⟨_,_,rfl,_⟩:=h
  rfl
 ·obtain⟨ns,i,rfl,h0,q⟩:=h;have hp:BV 10 18:=⟨by decide,by decide,by decide⟩
  refine⟨ns,i,rfl,h0,λc=>⟨hp,aS (λhl=>⟨hp,dM,λp hn=>?_⟩) (λhl=>⟨(by show(2147483647:Int)≠0; decide),dM,λp hn=>?_⟩)⟩⟩
  ·exact q p _ _ hn (λz=>by cases z)
  ·exact q p _ _ hn (λ_=>⟨G8 _ (by decide),Hg _ (by decide)⟩)
def cb:ca:=λds S k=>∃ a m,ds=[.ref a,.int m]/\0 < m/\Bt 200 m/\nP S a/\∀ r S',0<=r->r < m->Dr a S S'->k (.int r) S'
theorem fO:ar ["state","many","mixed","found"] ["state","many"] (ai i9):=eu
theorem pW (Fn:FN K "_law_take" i9 f fd):
  aJ P w K mg base cJ 1 f fd ["state","many"] (cV K cb):=by
 refine Fn.okJ fO (λds S k h=>?_) (λcdv A outer s H E hr=>⟨_,(af (aA (bZ (aT 0)) (af (aj (i:=3) fO.nd (aB kD (aT 0) (ag 1))) (af (mR (aB tN (aT 0) (ag 1)) (tS (ag 0) am)) (ah (ak (ag 3))))) aF) (af (mR (aB kD (aB dh (aB dr (aT 0) am) am) am) (tS (ag 0) am)) (af (aj (i:=2) fO.nd (aB kD (aB dh (aB dh (aB dr (aT 0) (aT 0)) (aB dr am (aT 0))) am) am)) (af (aj (i:=2) fO.nd (aB kD (aB dh (aB dr (ag 2) (ag 2)) (aB dr am (ag 2))) am)) (ah (ak (aB kD (aB tN (ag 2) am) (ag 1)))))))),λds S k h=>?_⟩)
 ·obtain⟨_,_,rfl,_⟩:=h
  rfl
 ·obtain⟨a,m,rfl,hm,hb,⟨n,b,hS,hn⟩,q⟩:=h;have put_dr:∀ (n':Int) (b':Hx),(b'=false->0<=n'/\n' < 2147483647)->Dr a S (put S a (.lst [.int n',.bl b'])):=λn' b' h'=>
   ⟨⟨n',b',aq,h'⟩,λc o z e=>by rw [cj z]; exact e⟩
  refine⟨_,_,hS,AW,?_⟩;cases b with
  | true=>
   refine⟨_,_,hS,nA,(show m≠0 by omega),_,_,hS,nA,Eh (by omega) hb,_,_,hS,C7,?_⟩
   exact q _ _ (G8 _ hm) (Hg _ hm) (put_dr _ _ λz=>by cases z)
  | false=>
   obtain⟨n0,n1⟩:=hn rfl;have b31:=vh n0 (by omega)
   refine⟨_,_,hS,nA,n5 (n:=31) b31 (vh (by decide) (by decide)),(show (2147483647:Int)≠0 by decide),_,_,hS,C7,?_⟩
   have c0:0<=(n*48271+29).fmod 2147483647:=G8 _ (by decide)
   have c1:(n*48271+29).fmod 2147483647 < 2147483647:=Hg _ (by decide)
   have bx:=vh c0 (by omega)
   refine⟨_,_,aq,nA,_,_,aq,nA,n5 bx bx,_,_,aq,nA,n5 (m:=31) (vh (by decide) (by decide)) bx,(show (2147483629:Int)≠0 by decide),?_⟩
   have d0:0<=((n*48271+29).fmod 2147483647*(n*48271+29).fmod 2147483647+39373*(n*48271+29).fmod 2147483647+7).fmod 2147483629:=G8 _ (by decide)
   have d1:((n*48271+29).fmod 2147483647*(n*48271+29).fmod 2147483647+39373*(n*48271+29).fmod 2147483647+7).fmod 2147483629 < 2147483629:=Hg _ (by decide)
   have by':=vh d0 (by omega)
   refine⟨n5 by' by',n5 (m:=31) (vh (by decide) (by decide)) by',(show (2147483587:Int)≠0 by decide),⟨by decide,by decide +kernel⟩,(show m≠0 by omega),?_⟩
   exact q _ _ (G8 _ hm) (Hg _ hm) (put_dr _ _ λ_=>⟨c0,c1⟩)
theorem yM (a b:Int):Int.gcd (oo a) (oo b)=Int.gcd a b:=by
 have e:∀ x:Int,(oo x).natAbs=x.natAbs:=λx=>by unfold oo; split <;> omega
 unfold Int.gcd;rw [e,e]
def jz:ca:=λds S k=>∃ a b,ds=[.int a,.int b]/\k (.int ((Int.gcd a b:Nat):Int)) S
theorem dJ:ar ["one","other"] ["one","other"] (ai fS):=eu
theorem ma (Fn:FN K "_law_divisor" fS f fd) (jZ:mg "abs"=none):
  aJ P w K mg base cJ 1 f fd ["one","other"] (cV K jz):=by
 refine Fn.okJ dJ (λds S k h=>?_) (λcdv A outer s H E hr=>⟨_,(af (aj (i:=0) dJ.nd (bp tH rfl jZ p6 (az 0 ac))) (af (aj (i:=1) dJ.nd (bp tH rfl jZ p6 (az 1 ac))) (af (j5 PassesOwn.never (aw ES (ag 1) am (aE _)) (ah (we (i:=0) (j:=1) rfl dJ.nd (by decide) (az 1 (aa (aB kD (ag 0) (ag 1)) ac))))) (ah (ak (ag 0)))))),λds S k h=>?_⟩)
 ·obtain⟨_,_,rfl,_⟩:=h
  rfl
 ·obtain⟨a,b,rfl,q⟩:=h;refine⟨λm L S'=>S'=S/\∃ x y,L=[some (.int x),some (.int y)]/\m=y.natAbs/\0<=x/\0<=y/\Int.gcd x y=Int.gcd a b,⟨_,rfl,oo a,oo b,rfl,rfl,ui a,ui b,yM a b⟩,?_⟩
  rintro m L S' ⟨rfl,x,y,rfl,rfl,hx,hy,e⟩;refine aS (λhl=>⟨λL' S''=>∃ m',m' < y.natAbs/\S''=S'/\∃ x y,L'=[some (.int x),some (.int y)]/\m'=y.natAbs/\0<=x/\0<=y/\Int.gcd x y=Int.gcd a b,λ_ _ z=>z,by omega,?_⟩) (λhl=>?_)
  ·exact⟨_,tK x y (by omega),rfl,y,x.fmod y,rfl,rfl,hy,G8 _ hl,(qT x y).trans e⟩
  ·have z:y=0:=by omega
   subst z;have e2:=rD x;rw [e,if_neg (by omega)] at e2
   rw [e2] at q;exact q
def cZ:ca:=λds S k=>∃ t b,ds=[.int t,.int b]/\b≠0/\Bt 8000 b/\k (fr (Rat.divInt t b)) S
theorem g6:ar ["top","bottom","by"] ["top","bottom"] (ai im):=eu
theorem ou (Fn:FN K "_law_ratio" im f fd) (gm:aW P w K mg base "_law_divisor" 1 jz):
  aJ P w K mg base cJ 2 f fd ["top","bottom"] (cV K cZ):=by
 refine Fn.okJ g6 (λds S k h=>?_) (λcdv A outer s H E hr=>⟨_,(af (aj (i:=2) g6.nd (dq gm hr (az 0 (az 1 ac)))) (af (aA (aw mP (ag 1) am (aE _)) (ah (aj (i:=2) g6.nd (aB m5 am (ag 2)))) aF) (ah (ak (aD (aa (aB tN (ag 0) (ag 2)) (aa (aB tN (ag 1) (ag 2)) ac))))))),λds S k h=>?_⟩)
 ·obtain⟨_,_,rfl,_⟩:=h
  rfl
 ·obtain⟨t,b,rfl,h0,hb,q⟩:=h;have hg:=vB (t:=t) h0 hb;have hs:=vJ (t:=t) h0;have e1:=mm (t:=t) h0;have e2:=kr (t:=t) h0;have qq:k (.tup [.int (t.fdiv (vk t b)),.int (b.fdiv (vk t b))]) S:=by rw [e1,e2]; exact q
  unfold vk at qq hs
  refine⟨t,b,rfl,aS (λhl=>?_) (λhl=>?_)⟩
  ·rw [if_pos hl] at qq hs
   rw [<- Int.zero_sub] at qq hs
   have hd:∀ x:Int,tQ x (0 - ((Int.gcd t b:Nat):Int)):=λx=>Eh hs (by rw [Int.zero_sub]; exact hg.neg)
   exact⟨hd _,hd _,dM,qq⟩
  ·rw [if_neg hl] at qq hs
   exact⟨Eh hs hg,Eh hs hg,dM,qq⟩
def iz:ca:=λds S k=>∃ (a b c d:Int) (q:Rat),ds=[pr a b,pr c d]/\b*d≠0/\Bt 4000 a/\Bt 4000 b/\Bt 4000 c/\Bt 4000 d/\Rat.divInt (a*c) (b*d)=q/\k (fr q) S
theorem nR:ar ["one","other"] ["one","other"] (ai il):=eu
theorem oj (Fn:FN K "_law_times" il f fd) (ba:aW P w K mg base "_law_ratio" 2 cZ):
  aJ P w K mg base cJ 3 f fd ["one","other"] (cV K iz):=by
 refine Fn.okJ nR (λds S k h=>?_) (λcdv A outer s H E hr=>⟨_,(ah (ak (dq ba hr (aa (aB dr (aT 0) (aT 1)) (aa (aB dr (aT 0) (aT 1)) ac))))),λds S k h=>?_⟩)
 ·obtain⟨_,_,_,_,_,rfl,_⟩:=h
  rfl
 ·obtain⟨a,b,c,d,_,rfl,h0,h1,h2,h3,h4,rfl,q⟩:=h;exact⟨n5 h1 h3,n5 h2 h4,_,_,rfl,h0,(h2.mul h4).mono (by decide),q⟩
theorem vn {t b:Int} (h0:0 < b) (h6:b<=6):(Rat.divInt t b).den<=6:=by
 have h1:=kr (t:=t) (b:=b) (by omega)
 have h2:=HM.cN b (vk t b);rw [h1] at h2;omega
def fL:ca:=λds S k=>∃ a,ds=[.ref a]/\nP S a/\∀ q S',Sz 4 q/\q.den<=6->Dr a S S'->k (fr q) S'
theorem oh:ar ["state"] ["state"] (ai ip):=eu
theorem nS (Fn:FN K "_law_small" ip f fd) (ba:aW P w K mg base "_law_ratio" 2 cZ) (au:aW P w K mg base "_law_take" 1 cb):
  aJ P w K mg base cJ 3 f fd ["state"] (cV K fL):=by
 refine Fn.okJ oh (λds S k h=>?_) (λcdv A outer s H E hr=>⟨_,(ah (ak (dq ba hr (aa (aB m5 (dq au hr (az 0 (aa am ac))) am) (aa (aB dh am (bn fj (dj (aa am (aa am (aa (dq au hr (az 0 (aa am ac))) ac)))) (dq au hr (az 0 (aa am ac))) Zf)) ac))))),λds S k h=>?_⟩)
 ·obtain⟨_,rfl,_⟩:=h
  rfl
 ·obtain⟨a,rfl,hS,q⟩:=h;refine⟨a,19,rfl,by decide,by decide,hS,λr1 S1 h1 h1' d1=>⟨a,6,rfl,by decide,by decide,d1.1,λr2 S2 h2 h2' d2=>⟨dM,λp hp=>⟨a,3,rfl,by decide,by decide,d2.1.new hp,λr3 S3 h3 h3' d3=>?_⟩⟩⟩⟩
  have hp3:=d3.2 p _ (d2.1.ne hp) aq;obtain⟨c,hc,hm⟩:=mB (ds:=[.int 0,.int 0,.int r2]) h3 h3';have hc2:∃ s:Int,c=.int s/\0<=s/\s < 6:=by
   simp only [Gw,GD,or_false] at hm;rcases hm with rfl | rfl | rfl
   ·exact⟨0,rfl,by decide,by decide⟩
   ·exact⟨0,rfl,by decide,by decide⟩
   ·exact⟨r2,rfl,h2,h2'⟩
  obtain⟨s,rfl,s0,s1⟩:=hc2;have b1:Bt 4 (r1 - 9):=by unfold Bt; omega
  have b2:Bt 4 (1+s):=by unfold Bt; omega
  exact⟨_,_,hp3,hc,_,_,rfl,by omega,b2.mono (by decide),q _ _ ⟨Sz.divInt b1 b2 (by omega),vn (by omega) (by omega)⟩ (d1.trans (d2.trans ((Dr.new d2.1 hp).trans d3)))⟩
def B (x:Q):D:=.tup [fr x.1,fr x.2]
theorem uU {S:DH} {k:DK} {t b:Int} {q:Rat} (e:Rat.divInt t b=q) (h0:b≠0) (hb:Bt 8000 b) (h:k (fr q) S):cZ [.int t,.int b] S k:=by subst e; exact⟨_,_,rfl,h0,hb,h⟩
theorem uo {S:DH} {k:DK} {p q:Rat} (hp:Sz 4000 p) (hq:Sz 4000 q) (h:k (fr (p*q)) S):iz [fr p,fr q] S k:=⟨_,_,_,_,_,rfl,cf p q,hp.num,hp.den,hq.num,hq.den,rT p q,h⟩
theorem AI (u:Int):D.tup [.int u,.int 1]=fr (u:Rat):=by
 show _=D.tup [.int (u:Rat).num,.int ((u:Rat).den:Int)]
 rw [Rat.num_intCast,Rat.den_intCast]; rfl
theorem vG {n:Nat} {u:Int} (h:Bt n u) (hn:1<=n):Sz n (u:Rat):=by
 refine⟨by rw [Rat.num_intCast]; exact h,?_⟩
 rw [Rat.den_intCast];exact(show Bt 1 1 by decide).mono hn
theorem nP.set {a q:Hm} {S:DH} {o:DO} (h:nP S a) (z:q≠a):nP (put S q o) a:=by
 obtain⟨n,b,e,w⟩:=h;exact⟨n,b,by rw [cj (Ne.symm z)]; exact e,w⟩
set_option maxHeartbeats 4000000
def lR:ca:=λds S k=>∃ (a b c d:Int) (q:Rat),ds=[pr a b,pr c d]/\b*d≠0/\Bt 4000 a/\Bt 4000 b/\Bt 4000 c/\Bt 4000 d/\Rat.divInt (a*d+c*b) (b*d)=q/\k (fr q) S
theorem pQ:ar ["one","other"] ["one","other"] (ai jn):=eu
theorem pB (Fn:FN K "_law_plus" jn f fd) (ba:aW P w K mg base "_law_ratio" 2 cZ):
  aJ P w K mg base cJ 3 f fd ["one","other"] (cV K lR):=by
 refine Fn.okJ pQ (λds S k h=>?_) (λcdv A outer s H E hr=>⟨_,(ah (ak (dq ba hr (aa (aB dh (aB dr (aT 0) (aT 1)) (aB dr (aT 1) (aT 0))) (aa (aB dr (aT 0) (aT 1)) ac))))),λds S k h=>?_⟩)
 ·obtain⟨_,_,_,_,_,rfl,_⟩:=h
  rfl
 ·obtain⟨a,b,c,d,q,rfl,h0,h1,h2,h3,h4,e,w⟩:=h;exact⟨n5 h1 h4,n5 h3 h2,n5 h2 h4,uU e h0 ((h2.mul h4).mono (by decide)) w⟩
set_option maxHeartbeats 4000000
theorem tR {A B:Prop} (f:B->A) (h:B):A:=f h
theorem Dr.keep {a p:Hm} {S S':DH} {o:DO} (h:Dr a S S') (n:p≠a) (e:S p=some o):S' p=some o:=h.2 p o n e
theorem Dr.put {a q:Hm} {S S1:DH} {o:DO} (h:Dr a S S1) (hq:S q=none) (z:q≠a):Dr a S (put S1 q o):=⟨h.1.set z,λb u n e=>by rw [cj (xK e hq)]; exact h.2 b u n e⟩
theorem Dr.ext {a:Hm} {S S1:DH} (h:nP S a) (e:cK S S1):Dr a S S1:=by
 obtain⟨n,b,e1,e2⟩:=h;exact⟨⟨n,b,e _ _ e1,e2⟩,λc o _ z=>e c o z⟩
theorem ET {a b:Int} (h:0 < a) (h':0 < b):0 < Rat.divInt a b:=by
 rw [GV,Rat.div_def];exact GQ (by exact_mod_cast h) (Rat.inv_pos.mpr (by exact_mod_cast h'))
inductive aU where
 | fix (x y:Rat)
 | crank (c:Nat) (l:Rat)
 | pair (i j:Nat) (s t:Rat) (v:Int)
 | like (i j:Nat) (a l:Rat)
def aU.d:aU->D
 | .fix x y=>.tup [.str "fix",fr x,fr y]
 | .crank c l=>.tup [.str "crank",.int (c:Nat),fr l]
 | .pair i j s t v=>.tup [.str "pair",.int (i:Nat),.int (j:Nat),fr s,fr t,.int v]
 | .like i j a l=>.tup [.str "like",.int (i:Nat),.int (j:Nat),fr a,fr l]
def aU.isFix:aU->Hx
 | .fix _ _=>true
 | _=>false
abbrev MD (ms:List aU):D:=.tup (ms.map aU.d)
def ln (pre:List aU):aU->Prop
 | .fix x y=>Sz 9 x/\Sz 9 y
 | .crank c l=>(∃ x y,pre[c]?=some (.fix x y))/\Sz 4 l/\0 < l
 | .pair i j s t v=>i < pre.length/\j < pre.length/\i≠j/\Sz 8 s/\Sz 8 t/\0 < s/\0 < t/\(v=0\/v=1)
 | .like i j a l=>i < pre.length/\j < pre.length/\i≠j/\Sz 4 a/\Sz 4 l
def Wf (ms:List aU):Prop:=∀ (k:Nat) (s:aU),ms[k]?=some s->ln (ms.take k) s
theorem Wf.nil:Wf []:=λk s h=>by simp at h
theorem Wf.snoc {ms:List aU} {s:aU} (h:Wf ms) (hs:ln ms s):Wf (ms++[s]):=by
 intro k t hk
 by_cases hl:k < ms.length
 ·rw [List.getElem?_append_left hl] at hk;rw [List.take_append_of_le_length (Nat.le_of_lt hl)];exact h k t hk
 ·have hk2:=(GW.mp hk).1;have hk3:k < ms.length+1:=by simpa using hk2
  have e:k=ms.length:=by omega
  subst e;rw [List.getElem?_append_right (Gq _),Nat.sub_self] at hk;have hk:some s=some t:=hk;cases hk;rw [List.take_append_of_le_length (Gq _),List.take_length];exact hs
theorem Fl {ms:List aU} {c:Nat} {s:aU} (h:ms[c]?=some s):L2.atI (ms.map aU.d) ((c:Nat):Int)=some s.d:=L2.io (by rw [GP,h]; rfl)
def gp:Nat->List aU->List D
 | _,[]=>[]
 | j,s::r=>if s.isFix=true then .int (j:Nat)::gp (j+1) r else gp (j+1) r
theorem lx {d:D}:∀ {r:List aU} {j:Nat},d∈gp j r->∃ n x y,d=.int ((j+n:Nat):Int)/\r[n]?=some (.fix x y)
 | [],_,h=>by cases h
 | s::r,j,h=>by
  unfold gp at h
  split at h
  ·rename_i hf
   rcases Gw.mp h with rfl | h
   ·cases s with
    | fix x y=>exact⟨0,x,y,rfl,rfl⟩
    | _=>cases hf
   ·obtain⟨n,x,y,rfl,e⟩:=lx h;exact⟨n+1,x,y,by congr 2; omega,by simpa using e⟩
  ·obtain⟨n,x,y,rfl,e⟩:=lx h;exact⟨n+1,x,y,by congr 2; omega,by simpa using e⟩
theorem oA:∀ {r:List aU} {j:Nat},(gp j r).length<=r.length
 | [],_=>Gq _
 | s::r,j=>by
  unfold gp;have:=oA (r:=r) (j:=j+1)
  split
  ·show(gp (j+1) r).length+1<=r.length+1; omega
  ·show(gp (j+1) r).length<=r.length+1; omega
theorem vj {ms r:List aU} {s:aU} {j:Nat} (h:ms.drop j=s::r):ms[j]?=some s/\ms.drop (j+1)=r:=by
 have h0:(ms.drop j)[0]?=some s:=by rw [h]; rfl
 rw [List.getElem?_drop,Nat.add_zero] at h0;refine⟨h0,?_⟩;have h1:=congrArg (List.drop 1) h;rw [List.drop_drop] at h1;exact h1
theorem nY {n:Nat} (h:n < 300):n < sizeLine:=GA h (GE (rfl:Nat.ble 300 sizeLine=true))
theorem nC {bd:DB} {k:DK} {S:DH} {p:Hm} {ms:List aU} (hp:S p=none)
  (hbd:∀ (i:Nat) (s:aU) (S':DH) (k':Hn D->DH->Prop),ms[i]?=some s->k' (if s.isFix=true then some (.int (i:Nat)) else none) S'->bd [some (.int (i:Nat)),some (MD ms)] S' k'):
  ∀ (r:List aU) (j:Nat) (rr acc:List D) (l0:Hn D),rr=((List.range' j r.length).map fun(i:Nat)=>D.int (i:Nat))->ms.drop j=r->acc.length+r.length<=100->(∀ S',cK S S'->S' p=some (.lst (acc++gp j r))->k (.ref p) S')->
  dL (λ_=>True) p (nc 0) bd k rr acc [l0,some (MD ms)] (put S p (.lst acc))
 | [],j,rr,acc,l0,hr,_,_,w=>by
  subst hr;exact⟨trivial,w _ (cK.new hp) (by rw [aq]; simp [gp])⟩
 | s::r,j,rr,acc,l0,hr,hd,hl,w=>by
  have hl:acc.length+(r.length+1)<=100:=hl;obtain⟨h0,h1⟩:=vj hd;have hr:rr=D.int (j:Nat)::((List.range' (j+1) r.length).map fun(i:Nat)=>D.int (i:Nat)):=hr
  subst hr;refine⟨trivial,hbd j s _ _ h0 ?_⟩;unfold gp at w
  by_cases hf:s.isFix=true
  ·rw [if_pos hf];rw [if_pos hf] at w;refine⟨aq,nY (by omega),?_⟩
   rw [qi];exact nC hp hbd r (j+1) _ _ _ rfl h1 (by rw [GH]; show acc.length+1+r.length<=100; omega) λS' e h=>w S' e (by rw [h,List.append_assoc]; rfl)
  ·rw [if_neg hf];rw [if_neg hf] at w;exact nC hp hbd r (j+1) _ _ _ rfl h1 (by omega) w
theorem Bo (ms:List aU):((List.range ((ms.map aU.d).length:Int).toNat).map fun(i:Nat)=>D.int (i:Nat))=((List.range' 0 ms.length).map fun(i:Nat)=>D.int (i:Nat)):=by
 rw [Int.toNat_natCast,Gr,List.range_eq_range']
def ku:ca:=λds S k=>∃ a,ds=[.ref a]/\nP S a/\∀ q S',Sz 4 q/\0 < q->Dr a S S'->k (fr q) S'
theorem on:ar ["state"] ["state"] (ai iu):=eu
theorem nV (Fn:FN K "_law_above" iu f fd) (ba:aW P w K mg base "_law_ratio" 2 cZ) (au:aW P w K mg base "_law_take" 1 cb):
  aJ P w K mg base cJ 3 f fd ["state"] (cV K ku):=by
 refine Fn.okJ on (λds S k h=>?_) (λcdv A outer s H E hr=>⟨_,(ah (ak (dq ba hr (aa (aB dh am (dq au hr (az 0 (aa am ac)))) (aa (aB dh am (bn fj (dj (aa am (aa am (aa (dq au hr (az 0 (aa am ac))) ac)))) (dq au hr (az 0 (aa am ac))) Zf)) ac))))),λds S k h=>?_⟩)
 ·obtain⟨_,rfl,_⟩:=h
  rfl
 ·obtain⟨a,rfl,hS,q⟩:=h;refine⟨a,12,rfl,by decide,by decide,hS,λr1 S1 h1 h1' d1=>⟨a,6,rfl,by decide,by decide,d1.1,λr2 S2 h2 h2' d2=>⟨dM,λp hp=>⟨a,3,rfl,by decide,by decide,d2.1.new hp,λr3 S3 h3 h3' d3=>?_⟩⟩⟩⟩
  have hp3:=d3.2 p _ (d2.1.ne hp) aq;obtain⟨c,hc,hm⟩:=mB (ds:=[.int 0,.int 0,.int r2]) h3 h3';have hc2:∃ s:Int,c=.int s/\0<=s/\s < 6:=by
   simp only [Gw,GD,or_false] at hm;rcases hm with rfl | rfl | rfl
   ·exact⟨0,rfl,by decide,by decide⟩
   ·exact⟨0,rfl,by decide,by decide⟩
   ·exact⟨r2,rfl,h2,h2'⟩
  obtain⟨s,rfl,s0,s1⟩:=hc2;have b1:Bt 4 (1+r1):=by unfold Bt; omega
  have b2:Bt 4 (1+s):=by unfold Bt; omega
  exact⟨_,_,hp3,hc,_,_,rfl,by omega,b2.mono (by decide),q _ _ ⟨Sz.divInt b1 b2 (by omega),ET (by omega) (by omega)⟩ (d1.trans (d2.trans ((Dr.new d2.1 hp).trans d3)))⟩
theorem yR {x r m:Int} (h0:0<=x) (h1:x < m) (h2:0<=r) (h3:r < m - 1):0<=(x+1+r).fmod m/\(x+1+r).fmod m < m/\(x+1+r).fmod m≠x:=by
 have hm:0 < m:=by omega
 refine⟨G8 _ hm,Hg _ hm,?_⟩;rw [Int.fmod_eq_emod_of_nonneg _ (Int.le_of_lt hm)]
 by_cases h:x+1+r < m
 ·rw [Int.emod_eq_of_lt (by omega) h]; omega
 ·have e:(x+1+r) % m=(x+1+r - m) % m:=by
   have:x+1+r=(x+1+r - m)+m:=by omega
   conv=>lhs; rw [this]
   exact Int.add_emod_right _ _
  rw [e,Int.emod_eq_of_lt (by omega) (by omega)]; omega
def gB:ca:=λds S k=>∃ (a:Hm) (m:Nat),ds=[.ref a,.int (m:Nat)]/\2<=m/\m<=100/\nP S a/\∀ (i j:Nat) S',i < m->j < m->i≠j->Dr a S S'->k (.tup [.int (i:Nat),.int (j:Nat)]) S'
theorem fW:ar ["state","many","one"] ["state","many"] (ai eE):=eu
theorem ka (Fn:FN K "_law_two_joints" eE f fd) (au:aW P w K mg base "_law_take" 1 cb):
  aJ P w K mg base cJ 2 f fd ["state","many"] (cV K gB):=by
 refine Fn.okJ fW (λds S k h=>?_) (λcdv A outer s H E hr=>⟨_,(af (aj (i:=2) fW.nd (dq au hr (az 0 (az 1 ac)))) (ah (ak (aD (az 2 (aa (aB kD (aB dh (aB dh (ag 2) am) (dq au hr (az 0 (aa (aB m5 (ag 1) am) ac)))) (ag 1)) ac)))))),λds S k h=>?_⟩)
 ·obtain⟨_,_,rfl,_⟩:=h
  rfl
 ·obtain⟨a,m,rfl,h2,h100,hS,w⟩:=h;have bm:∀ z:Int,0<=z->z<=100->Bt 200 z:=λz _ _=>Bt.mono (m:=7) (by unfold Bt; omega) (by decide)
  refine⟨a,_,rfl,by omega,bm _ (by omega) (by omega),hS,λx S1 x0 x1 d1=>⟨a,_,rfl,by omega,bm _ (by omega) (by omega),d1.1,λr S2 r0 r1 d2=>⟨(show (m:Int)≠0 by omega),dM,?_⟩⟩⟩
  obtain⟨w0,w1,w2⟩:=yR x0 x1 r0 r1;obtain⟨i,rfl⟩:=Int.eq_ofNat_of_zero_le x0;obtain⟨j,hj⟩:=Int.eq_ofNat_of_zero_le w0;rw [hj] at w1 w2
  show k (.tup [.int (i:Nat),.int (((i:Int)+1+r).fmod (m:Int))]) S2
  rw [hj];exact w i j S2 (by omega) (by omega) (by omega) (d1.trans d2)
theorem yP {p:Rat} {r:Int} (hp:Sz 4 p/\0 < p) (h0:0<=r) (h1:r < 9):Sz 8 (p*((1+r:Int):Rat))/\0 < p*((1+r:Int):Rat):=
 ⟨hp.1.mul (vG (n:=4) (by unfold Bt; omega) (by decide)),GQ hp.2 (by exact_mod_cast (by omega:0 < 1+r))⟩
theorem uk {S:DH} {p a:Hm} {k:DK} {bd:DB} (hp:S p=none) (pa:p≠a)
  (hbd:∀ (l0:Hn D) (S':DH) (k':Hn D->DH->Prop),nP S' a->(∀ q S2,Sz 8 q->0 < q->Dr a S' S2->k' (some (fr q)) S2)->bd [l0,some (.ref a)] S' k'):
  ∀ (r:List D) (xs:List Rat) (S1:DH) (l0:Hn D),Dr a S S1->S1 p=some (.lst (xs.map fr))->(∀ q∈xs,Sz 8 q/\0 < q)->xs.length+r.length<=100->(∀ (ys:List Rat) S',ys.length=xs.length+r.length->(∀ q∈ys,Sz 8 q/\0 < q)->Dr a S S'->S' p=some (.lst (ys.map fr))->k (.ref p) S')->
  dL (λ_=>True) p (nc 0) bd k r (xs.map fr) [l0,some (.ref a)] S1
 | [],xs,S1,l0,d1,h1,hx,hl,w=>⟨trivial,w xs S1 rfl hx d1 h1⟩
 | d::r,xs,S1,l0,d1,h1,hx,hl,w=>by
  have hl:xs.length+(r.length+1)<=100:=hl;refine⟨trivial,hbd _ _ _ d1.1 λq S2 hq q0 d2=>⟨d2.keep pa h1,by rw [Gr]; exact nY (by omega),?_⟩⟩
  have e:xs.map fr++[fr q]=(xs++[q]).map fr:=by rw [List.map_append]; rfl
  rw [e];refine uk hp pa hbd r (xs++[q]) _ _ ((d1.trans d2).put hp pa) aq (λy hy=>?_) (by rw [GH]; show xs.length+1+r.length<=100; omega) λys S' hl'=>w ys S' (by rw [hl',GH]; show xs.length+1+r.length=xs.length+(r.length+1); omega)
  rcases List.mem_append.mp hy with h | h
  ·exact hx y h
  ·simp only [Gw,GD,or_false] at h; subst h; exact⟨hq,q0⟩
theorem sH {d:D} {ms:List aU} (h:d∈gp 0 ms):∃ n x y,d=.int ((n:Nat):Int)/\ms[n]?=some (.fix x y):=by
 obtain⟨n,x,y,e,h2⟩:=lx h;exact⟨n,x,y,by rw [e,Nat.zero_add],h2⟩
theorem vm {ms:List aU} {x y:Rat} (h:ms[0]?=some (.fix x y)):0 < (gp 0 ms).length:=by
 cases ms with
 | nil=>cases h
 | cons s r=>
  have h:some s=some (.fix x y):=h;cases h
  show 0 < (gp 1 r).length+1
  omega
theorem zI {z:Int} (h0:0<=z) (h1:z<=100):Bt 200 z:=Bt.mono (m:=7) (by unfold Bt; omega) (by decide)
theorem AZ {ys:List Rat} (h:ys.length=2):∃ s t,ys=[s,t]:=by
 match ys,h with
 | [s,t],_=>exact⟨s,t,rfl⟩
def wY (s:aU):Prop:=∀ x y,s=.fix x y->Sz 4 x/\Sz 4 y
theorem wY.no {s:aU} (h:s.isFix=false):wY s:=λx y e=>by rw [e] at h; cases h
def h_:ca:=λds S k=>∃ (a:Hm) (ms:List aU),ds=[.ref a,MD ms]/\nP S a/\ms.length<=10/\(ms=[]\/∃ x y,ms[0]?=some (.fix x y))/\∀ s S',ln ms s->(ms=[]->∃ x y,s=.fix x y)->wY s->Dr a S S'->k s.d S'
theorem bj:ar ["state","machine","many","fixes","way","one","other","squares"] ["state","machine"] (ai eV):=eu
theorem kN (Fn:FN K "_law_next_step" eV f fd) (au:aW P w K mg base "_law_take" 1 cb) (aN:aW P w K mg base "_law_small" 3 fL) (fP:aW P w K mg base "_law_above" 3 ku) (eK:aW P w K mg base "_law_two_joints" 2 gB) (iG:aW P w K mg base "_law_times" 3 iz) (dR:mg "len"=none) (fc:mg "range"=none):
  aJ P w K mg base cJ 4 f fd ["state","machine"] (cV K h_):=by
 refine Fn.okJ bj (λds S k h=>?_) (λcdv A outer s H E hr=>⟨_,(af (aj (i:=2) bj.nd (bp gS rfl dR gX (az 1 ac))) (af (n_ (iv:=3) bj.nd rfl (jq (N:=["number","machine"]) (cap:=[none,some 1]) rfl rfl rfl rfl ⟨rfl,trivial⟩ rfl rfl ⟨⟨rfl,.inl rfl,.inl rfl⟩,trivial⟩) rfl fc (az 2 ac) (λ_ _ _ _=>(aQ (i:=0) (show List.Nodup (["number","machine"]:List Str) from by decide +kernel))) (λ_ _ _ _=>(aw fy (bn di (bn di (ag 1) (ag 0) Zf) am Zf) b8 (aE _))) (λ_ _ _ _=>(ag 0))) (af (aj (i:=4) bj.nd (dq au hr (az 0 (aa am ac)))) (af (aA (WJ.pt (lr (aw fy (ag 2) am (aE _)) (lr (aw fy (ag 4) am (aE _)) (kI (WJ.pt (zo (aw mP (ag 2) am (aE _)) (xA (aw mP (ag 4) am (aE _))))))))) (ah (ak (aD (aa b8 (aa (dq aN hr (az 0 ac)) (aa (dq aN hr (az 0 ac)) ac)))))) aF) (af (aA (WJ.pt (lr (aw mP (ag 2) am (aE _)) (kI (aw mP (ag 4) am (aE _))))) (ah (ak (aD (aa b8 (aa (bn di (ag 3) (dq au hr (az 0 (aa (bp gS rfl dR gX (az 3 ac)) ac))) Zf) (aa (dq fP hr (az 0 ac)) ac)))))) aF) (af (mR (dq eK hr (az 0 (az 2 ac))) (mD (n:=2) rfl (dZ (aQ (i:=5) bj.nd) (dZ (aQ (i:=6) bj.nd) kC)))) (af (aA (aw mP (ag 4) am (aE _)) (af (rz (iv:=7) bj.nd rfl (jq (N:=["turn","state"]) (cap:=[none,some 0]) rfl rfl rfl rfl ⟨rfl,trivial⟩ rfl rfl ⟨⟨rfl,.inl rfl,.inl rfl⟩,trivial⟩) rfl fc (aa am ac) (λ_ _ _ _=>(aQ (i:=0) (show List.Nodup (["turn","state"]:List Str) from by decide +kernel))) (λ_ _ _ _=>(dq iG hr (aa (dq fP hr (az 1 ac)) (aa (aD (aa (aB dh am (dq au hr (az 1 (aa am ac)))) (aa am ac))) ac))))) (ah (ak (aD (aa b8 (az 5 (az 6 (aa (bn di (ag 7) am Zf) (aa (bn di (ag 7) am Zf) (aa (dq au hr (az 0 (aa am ac))) ac)))))))))) aF) (ah (ak (aD (aa b8 (az 5 (az 6 (aa (dq aN hr (az 0 ac)) (aa (dq aN hr (az 0 ac)) ac))))))))))))))),λds S k h=>?_⟩)
 ·obtain⟨_,_,rfl,_⟩:=h
  rfl
 ·obtain⟨a,ms,rfl,hS,hl,h0,w⟩:=h;have ll:(ms.map aU.d).length=ms.length:=Gr ..;refine⟨⟨by omega,by omega⟩,λp hp=>?_⟩
  refine nC hp ?b ms 0 _ [] none (Bo ms) rfl (by show 0+ms.length<=100; omega) ?m
  case b=>
   intro i s S' k' hs hk;refine⟨_,Fl hs,?_⟩;cases s with
   | fix x y=>exact⟨_,rfl,(hk)⟩
   | crank c l=>exact⟨_,rfl,(hk)⟩
   | pair i j s t v=>exact⟨_,rfl,(hk)⟩
   | like i j s t=>exact⟨_,rfl,(hk)⟩
  case m=>
   intro S1 e1 h1;have pa:=hS.ne hp;have d1:=Dr.ext hS e1;have h1:S1 p=some (.lst (gp 0 ms)):=h1;refine⟨a,8,rfl,by decide,by decide,d1.1,λwy S2 _ _ d2=>?_⟩
   have d12:=d1.trans d2
   by_cases hm:ms=[]
   ·subst hm;exact⟨a,rfl,d2.1,λx S3 hx d3=>⟨a,rfl,d3.1,λy S4 hy d4=>⟨dM,w (.fix x y) S4 ⟨hx.1.mono (by decide),hy.1.mono (by decide)⟩ (λ_=>⟨x,y,rfl⟩) (λ_ _ e=>by cases e; exact⟨hx.1,hy.1⟩) (d12.trans (d3.trans d4))⟩⟩⟩
   refine tR (λfixA=>tR (λcrk=>aS (λ_=>wH fixA) (λh1=>aS (λ_=>wH fixA) (λ_=>aS (λh2=>aS (λ_=>fixA) (λ_=>aS (λ_=>wH crk) (λh=>absurd h2 h))) (λh2=>vA (aS (λh=>absurd h h2) (λ_=>aS (λ_=>crk) (λ_=>?_))))))) ?_) ⟨a,rfl,d2.1,λx S3 hx d3=>⟨a,rfl,d3.1,λy S4 hy d4=>⟨dM,w (.fix x y) S4 ⟨hx.1.mono (by decide),hy.1.mono (by decide)⟩ (λh=>absurd h hm) (λ_ _ e=>by cases e; exact⟨hx.1,hy.1⟩) (d12.trans (d3.trans d4))⟩⟩⟩
   ·refine⟨a,_,rfl,by omega,by omega,d2.1,λi j S3 hi hj hij d3=>⟨([.int (i:Nat),.int (j:Nat)],none),rfl,rfl,rfl,?_⟩⟩
    refine(aS (λ_=>⟨⟨by decide,by decide⟩,λq hq=>?_⟩) (λ_=>⟨a,rfl,d3.1,λx S4 hx d4=>⟨a,rfl,d4.1,λy S5 hy d5=>⟨dM,w (.like i j x y) S5 ⟨by omega,by omega,hij,hx.1,hy.1⟩ (λh=>absurd h hm) (wY.no rfl) (d12.trans (d3.trans (d4.trans d5)))⟩⟩⟩))
    have qa:=d3.1.ne hq;refine uk (S:=S3) hq qa ?b _ [] _ none (Dr.new d3.1 hq) aq (λ_ h=>by cases h) (by decide) ?m
    case b=>
     intro l0 S' k' hs hk;refine⟨a,rfl,hs,λx S4 hx d4=>⟨a,9,rfl,by decide,by decide,d4.1,λr S5 r0 r1 d5=>⟨dM,?_⟩⟩⟩
     rw [AI];have z:=yP hx r0 r1;exact uo (k:=λv S=>k' (some v) S) (hx.1.mono (by decide)) (vG (n:=4) (u:=1+r) (by unfold Bt; omega) (by decide) |>.mono (by decide)) (hk _ _ z.1 z.2 (d4.trans d5))
    case m=>
     intro ys S6 hl6 hy6 d6 h6;obtain⟨s,t,rfl⟩:=AZ hl6;refine⟨_,_,h6,rfl,_,_,h6,rfl,a,2,rfl,by decide,by decide,d6.1,λv S7 v0 v1 d7=>⟨dM,w (.pair i j s t v) S7 ⟨by omega,by omega,hij,(hy6 s (by simp)).1,(hy6 t (by simp)).1,(hy6 s (by simp)).2,(hy6 t (by simp)).2,by omega⟩ (λh=>absurd h hm) (wY.no rfl) (d12.trans (d3.trans (d6.trans d7)))⟩⟩
   ·have hx0:∃ x y,ms[0]?=some (.fix x y):=h0.resolve_left hm;obtain⟨x0,y0,hx0⟩:=hx0;have lf:=oA (r:=ms) (j:=0);have lp:=vm hx0;have h2:=d2.keep pa h1;refine⟨_,h2,a,_,rfl,by omega,zI (by omega) (by omega),d2.1,λr S3 r0 r1 d3=>?_⟩
    obtain⟨c,hc,hmem⟩:=mB r0 r1;obtain⟨n,x,y,rfl,e⟩:=sH hmem;exact⟨_,_,d3.keep pa h2,hc,a,rfl,d3.1,λl S4 hl d4=>⟨dM,w (.crank n l) S4 ⟨⟨x,y,e⟩,hl.1,hl.2⟩ (λh=>absurd h hm) (wY.no rfl) (d12.trans (d3.trans d4))⟩⟩
set_option maxHeartbeats 4000000
theorem uZ {ms:List aU} {s:aU} (h:ms=[]\/∃ x y,ms[0]?=some (.fix x y)) (hs:ms=[]->∃ x y,s=.fix x y):∃ x y,(ms++[s])[0]?=some (.fix x y):=by
 cases ms with
 | nil=>obtain⟨x,y,rfl⟩:=hs rfl; exact⟨x,y,rfl⟩
 | cons t r=>
  rcases h with h | h
  ·cases h
  ·exact h
def ji:ca:=λds S k=>∃ a:Hm,ds=[.ref a]/\nP S a/\∀ ms S',Wf ms->(∀ s∈ms,wY s)->ms.length<=7->(∃ x y,ms[0]?=some (.fix x y))->Dr a S S'->k (MD ms) S'
theorem dF:ar ["state","machine","turn"] ["state"] (ai fY):=eu
theorem lW (Fn:FN K "_law_machine" fY f fd) (au:aW P w K mg base "_law_take" 1 cb) (e_:aW P w K mg base "_law_next_step" 4 h_) (fc:mg "range"=none):
  aJ P w K mg base cJ 5 f fd ["state"] (cV K ji):=by
 refine Fn.okJ dF (λds S k h=>?_) (λcdv A outer s H E hr=>⟨_,(af (aj (i:=1) dF.nd (aD ac)) (af (oM PassesOwn.never rfl rfl fc (aa (aB xh am (dq au hr (az 0 (aa am ac)))) ac) (aQ (i:=2) dF.nd) (ah (aj (i:=1) dF.nd (aB xh (ag 1) (aD (aa (dq e_ hr (az 0 (az 1 ac))) ac)))))) (ah (ak (ag 1))))),λds S k h=>?_⟩)
 ·obtain⟨_,rfl,_⟩:=h
  rfl
 ·obtain⟨a,rfl,hS,w⟩:=h;refine⟨dM,a,7,rfl,by decide,by decide,hS,λn S1 n0 n1 d1=>⟨⟨by omega,by omega⟩,?_⟩⟩
  refine fe (λr L S'=>∃ ms l2,L=[some (.ref a),some (MD ms),l2]/\Dr a S S'/\Wf ms/\(∀ s∈ms,wY s)/\(ms=[]\/∃ x y,ms[0]?=some (.fix x y))/\ms.length+r.length<=7/\(r=[]->ms≠[])) (λ_ _ _ _=>trivial) ?_ ?_ _ _ _ ⟨[],none,rfl,d1,Wf.nil,(λ_ h=>by cases h),.inl rfl,by simp; omega,λh=>?_⟩
  ·rintro d r L S2 N1 ⟨ms,l2,rfl,d2,hw,h4,hf,hl,_⟩ hN;have hl:ms.length+(r.length+1)<=7:=hl;refine⟨a,ms,rfl,d2.1,by omega,hf,λs S3 hs hs0 hs4 d3=>⟨dM,by rw [Gr]; exact Nat.le_of_lt (nY (by show ms.length+1 < 300; omega)),?_⟩⟩
   have em:MD (ms++[s])=.tup (ms.map aU.d++[s.d]):=by show D.tup _=_; rw [List.map_append]; rfl
   refine hN _ _ ⟨ms++[s],_,by rw [em]; rfl,d2.trans d3,hw.snoc hs,(λt ht=>by rcases List.mem_append.mp ht with h | h; exact h4 t h; simp only [Gw,GD,or_false] at h; rw [h]; exact hs4),.inr (uZ hf hs0),by rw [GH]; show ms.length+1+r.length<=7; omega,λ_=>by simp⟩
  ·rintro L S2 ⟨ms,l2,rfl,d2,hw,h4,hf,hl,hne⟩;exact w ms S2 hw h4 (by simpa using hl) (hf.resolve_left (hne rfl)) d2
  ·have:=congrArg List.length h;simp at this;omega
def aU.isCx:aU->Hx
 | .pair _ _ _ _ _=>true
 | .like _ _ _ _=>true
 | _=>false
set_option maxHeartbeats 4000000
def aU.isCr:aU->Hx
 | .crank _ _=>true
 | _=>false
def g9 (ms:List aU):Nat:=ms.countP aU.isCr
def nQ (ms:List aU):Nat:=ms.countP aU.isCx
theorem gu {ms:List aU} {s:aU}:g9 (ms++[s])=g9 ms+if s.isCr=true then 1 else 0:=by
 unfold g9;rw [List.countP_append,List.countP_singleton]
theorem jv {ms:List aU} {s:aU}:nQ (ms++[s])=nQ ms+if s.isCx=true then 1 else 0:=by
 unfold nQ;rw [List.countP_append,List.countP_singleton]
def JR (ps:List Pt) (o:Hn (Hn Rat)):aU->Pt->Prop
 | .fix x y,r=>r=((x,0),(y,0))
 | .crank i l,r=>∃ p d,ps[i]?=some p/\o=some d/\r=((p.1.1+nG d*l,0),(p.2.1+lO d*l,0))
 | .pair i j s t v,r=>∃ p q,ps[i]?=some p/\ps[j]?=some q/\Pl p/\Pl q/\aP p q≠0/\cP p q s t≠[]/\gP r=i5 (cP p q s t) v.toNat
 | .like i j a l,r=>∃ p q u,ps[i]?=some p/\ps[j]?=some q/\0 < u/\HR u [p,q]/\r=tI u p q a l
def JF (ps:List Pt):aU->Prop
 | .pair i j _ _ _=>∃ p q,ps[i]?=some p/\ps[j]?=some q/\¬ (Pl p/\Pl q)
 | .like i j _ _=>∃ p q,ps[i]?=some p/\ps[j]?=some q/\¬ uH [p,q]
 | _=>False
def JS (ps:List Pt):aU->Prop
 | .pair i j s t _=>∃ p q,ps[i]?=some p/\ps[j]?=some q/\Pl p/\Pl q/\(aP p q=0\/cP p q s t=[])
 | _=>False
inductive m7 (os:List (Hn Rat)):List aU->List Pt->Prop
 | nil:m7 os [] []
 | snoc {ms:List aU} {ps:List Pt} {s:aU} {r:Pt}:m7 os ms ps->JR ps os[g9 ms]? s r->m7 os (ms++[s]) (ps++[r])
theorem m7.len {os:List (Hn Rat)} {ms:List aU} {ps:List Pt} (h:m7 os ms ps):ps.length=ms.length:=by
 induction h with
 | nil=>rfl
 | snoc _ _ ih=>rw [GH,GH,ih]; rfl
theorem nu {p q:Pt} (h:gP p=gP q):p=q:=by
 have fi:∀ {a b:Rat},fr a=fr b->a=b:=λ{a b} e=>by
  injection e with e
  injection e with e1 e
  injection e with e2 _
  injection e1 with e1
  injection e2 with e2
  exact Rat.ext e1 (by exact_mod_cast e2)
 obtain⟨⟨a,b⟩,c,d⟩:=p;obtain⟨⟨a',b'⟩,c',d'⟩:=q;injection h with h
 injection h with h1 h
 injection h with h2 _
 injection h1 with h1
 injection h2 with h2
 injection h1 with h3 h1
 injection h1 with h4 _
 injection h2 with h5 h2
 injection h2 with h6 _
 have e3:a=a':=fi h3;have e4:b=b':=fi h4;have e5:c=c':=fi h5;have e6:d=d':=fi h6;rw [e3,e4,e5,e6]
theorem m7.at {os:List (Hn Rat)} {ms:List aU} {ps:List Pt} (h:m7 os ms ps):∀ (k:Nat) (s:aU),ms[k]?=some s->∃ r,ps[k]?=some r/\JR (ps.take k) os[g9 (ms.take k)]? s r:=by
 induction h with
 | nil=>intro k s hk; simp at hk
 | snoc hst jr ih=>
  rename_i ms ps s0 r0
  have lp:=hst.len;intro k s hk
  by_cases hl:k < ms.length
  ·rw [List.getElem?_append_left hl] at hk;obtain⟨r,h1,h2⟩:=ih k s hk;refine⟨r,by rw [List.getElem?_append_left (by omega)]; exact h1,?_⟩
   rw [List.take_append_of_le_length (by omega),List.take_append_of_le_length (by omega)]
   exact h2
  ·have hk2:=(GW.mp hk).1;have hk3:k < ms.length+1:=by simpa using hk2
   have e:k=ms.length:=by omega
   subst e;rw [List.getElem?_append_right (Gq _),Nat.sub_self] at hk;have hk:some s0=some s:=hk;cases hk;refine⟨r0,by rw [List.getElem?_append_right (by omega),lp,Nat.sub_self]; rfl,?_⟩
   rw [List.take_append_of_le_length (by omega),List.take_append_of_le_length (by omega),List.take_length,<- lp,List.take_length]
   exact jr
theorem m7.fix {os:List (Hn Rat)} {ms:List aU} {ps:List Pt} (h:m7 os ms ps) {c:Nat} {x y:Rat} (hc:ms[c]?=some (.fix x y)):ps[c]?=some ((x,0),(y,0)):=by
 obtain⟨r,h1,h2⟩:=h.at c _ hc;have h2:r=((x,0),(y,0)):=h2;rw [h1,h2]
theorem yB {c:Nat} {p q r:Pt} {s t:Rat} {v:Nat} (h4:c<=4) (hp:lH c p) (hq:lH c q) (ss':Sz 8 s) (st:Sz 8 t) (hv:v < 2) (a0:aP p q≠0) (c0:cP p q s t≠[]) (e:gP r=i5 (cP p q s t) v):
  ∃ u X Y,Jg (pN c) p.1.1 p.2.1 s q.1.1 q.2.1 t (gP r) u X Y/\r=pU u X Y/\lH (c+1) r:=by
 have hm:i5 (cP p q s t) v∈cP p q s t:=q_ c0 mT hv;obtain⟨u,X,Y,j⟩:=xm hp.cd hq.cd ss'.num ss'.den st.num st.den a0 _ hm;rw [<- e] at j;have er:r=pU u X Y:=nu j.e;exact⟨u,X,Y,j,er,by rw [er]; exact lH.pair h4 j⟩
theorem wx {c:Nat} {p q:Pt} {s t:Rat} {v:Nat} (h4:c<=4) (hp:lH c p) (hq:lH c q) (ss':Sz 8 s) (st:Sz 8 t) (hv:v < 2) (a0:aP p q≠0) (c0:cP p q s t≠[]):
  ∃ r,gP r=i5 (cP p q s t) v:=by
 have hm:i5 (cP p q s t) v∈cP p q s t:=q_ c0 mT hv;obtain⟨u,X,Y,j⟩:=xm hp.cd hq.cd ss'.num ss'.den st.num st.den a0 _ hm;exact⟨pU u X Y,j.e.symm⟩
theorem uO {n:Nat} {d:D} {r:List D}:kT n (d::r)=.tup [.int (n:Nat),d]::kT (n+1) r:=rfl
theorem yx {os:List (Hn Rat)} {c:Nat} {o:Hn Rat} (h:os[c]?=some o):L2.atI (os.map rF) ((c:Nat):Int)=some (rF o):=L2.io (by rw [GP,h]; rfl)
def pS:ca:=λds S k=>match ds with
 | [.non,.non]=>False/\k .non S
 | _=>False
theorem ck:ar ["machine","drives","points","cranks","number","step"] ["machine","drives"] (ai mq):=eu
theorem xa (Fn:FN K "stand" mq f fd) (aV:aW P w K mg base "plain_point" 1 dw) (ej:aW P w K mg base "crank_end" 37 jA) (iD:aW P w K mg base "pair_point" 3 fN) (lD:aW P w K mg base "like_at" 41 jJ) (d_:mg "enumerate"=none):
  aJ P w K mg base cJ 42 f fd ["machine","drives"] (cV K pS):=by
 refine Fn.okJ ck (λds S k h=>?_) (λcdv A outer s H E hr=>⟨_,(af (aj (i:=2) ck.nd (dj ac)) (af (aj (i:=3) ck.nd am) (af (mO PassesOwn.never rfl rfl d_ (az 0 ac) (mD (n:=2) rfl (dZ (aQ (i:=4) ck.nd) (dZ (aQ (i:=5) ck.nd) kC))) (ah (aA (aw fy (aT 5) b8 (aE _)) (ah (bo (fA (ag 2) (dq aV hr (aa (aD (aa (aT 5) (aa (aT 5) ac))) ac))))) (ah (aA (aw fy (aT 5) b8 (aE _)) (af (bo (fA (ag 2) (dq ej hr (aa (bn fj (ag 2) (aT 5) Zf) (aa (aT 5) (aa (bn fj (ag 1) (ag 3) Zf) ac)))))) (ah (aj (i:=3) ck.nd (aB dh (ag 3) am)))) (ah (aA (aw fy (aT 5) b8 (aE _)) (ah (bo (fA (ag 2) (dq iD hr (az 5 (az 4 (az 2 ac))))))) (ah (bo (fA (ag 2) (dq lD hr (aa (bn fj (ag 2) (aT 5) Zf) (aa (bn fj (ag 2) (aT 5) Zf) (aa (aT 5) (aa (aT 5) ac))))))))))))))) (ah (ak (ag 2)))))),λds S k h=>?_⟩)
 ·unfold pS at h
  split at h
  ·rfl
  ·exact h.elim
 ·unfold pS at h
  split at h
  ·exact h.1.elim
  ·exact h.elim
def re (aC aR bw:Hm):kP:=λds S k e=>∃ (ms:List aU) (os:List (Hn Rat)),ds=[MD ms,.tup (os.map rF)]/\Wf ms/\ms.length<=7/\nQ ms<=5/\os.length=g9 ms/\(∀ o∈os,ow o)/\
 (∀ pre s post ps,ms=pre++s::post->m7 os pre ps->JF ps s->∀ S',cK S S'->e aC S')/\(∀ pre s post ps,ms=pre++s::post->m7 os pre ps->JS ps s->∀ S',cK S S'->e (bw,some ((pre.length:Nat):Int)) S')/\
 ∀ ps S' q,m7 os ms ps->(∀ p∈ps,lH (nQ ms) p)->cK S S'->S' q=some (.lst (ps.map gP))->k (.ref q) S'
theorem uC {P:Hq} {w:Ht} {K:Fg} {mg:Str->Hn Hl} {base:Hu} {f:Hm} {fd:FuncData} {aC aR bw:Hm} (Fn:FN K "stand" mq f fd) (aV:aW P w K mg base "plain_point" 1 dw) (ej:aW P w K mg base "crank_end" 37 jA) (gN:l6 P w K mg base "pair_point" 41 (jT aC aR bw)) (kd:l6 P w K mg base "like_at" 41 (mX aC)) (d_:mg "enumerate"=none):
  aJ P w K mg base (fm P w) 42 f fd ["machine","drives"] (wl K (re aC aR bw)):=by
 refine Fn.okX ck (λds S k x h=>?_) (λcdv A outer s H E ex hr hE=>⟨_,(af (aj (i:=2) ck.nd (dj ac)) (af (aj (i:=3) ck.nd am) (af (mO PassesOwn.leaving rfl rfl d_ (az 0 ac) (mD (n:=2) rfl (dZ (aQ (i:=4) ck.nd) (dZ (aQ (i:=5) ck.nd) kC))) (ah (aA (aw fy (bn di (ag 5) am Zf) b8 (aE _)) (ah (bo (fA (ag 2) (dq aV hr (aa (aD (aa (bn di (ag 5) am Zf) (aa (bn di (ag 5) am Zf) ac))) ac))))) (ah (aA (aw fy (bn di (ag 5) am Zf) b8 (aE _)) (af (bo (fA (ag 2) (dq ej hr (aa (bn di (ag 2) (bn di (ag 5) am Zf) Zf) (aa (bn di (ag 5) am Zf) (aa (bn di (ag 1) (ag 3) Zf) ac)))))) (ah (aj (i:=3) ck.nd (aB dh (ag 3) am)))) (ah (aA (aw fy (bn di (ag 5) am Zf) b8 (aE _)) (ah (bo (fA (ag 2) (km hE gN (hr.mono (by decide)) rfl (az 5 (az 4 (az 2 ac))))))) (ah (bo (fA (ag 2) (km hE kd (hr.mono (by decide)) rfl (aa (bn di (ag 2) (bn di (ag 5) am Zf) Zf) (aa (bn di (ag 2) (bn di (ag 5) am Zf) Zf) (aa (bn di (ag 5) am Zf) (aa (bn di (ag 5) am Zf) ac))))))))))))))) (ah (ak (ag 2)))))),λds S k h=>?_⟩)
 ·obtain⟨_,_,rfl,_⟩:=h
  rfl
 ·obtain⟨ms,os,rfl,hw,hl,hc,ho,hd,wf,w0,w⟩:=h;refine⟨dM,λq hq=>⟨(_,none),rfl,?_⟩⟩
  refine fe (λr L S'=>∃ (pre rs:List aU) (ps:List Pt) (l4 l5:Hn D),L=[some (MD ms),some (.tup (os.map rF)),some (.ref q),some (.int (g9 pre:Nat)),l4,l5]/\cK S S'/\S' q=some (.lst (ps.map gP))/\r=kT pre.length (rs.map aU.d)/\ms=pre++rs/\m7 os pre ps/\∀ p∈ps,lH (nQ pre) p) (λ_ _ _ _=>trivial) ?_ ?_ _ _ _ ⟨[],ms,[],none,none,rfl,cK.new hq,aq,rfl,rfl,.nil,λ_ h=>by cases h⟩
  ·rintro d r L S1 N1 ⟨pre,rs,ps,l4,l5,rfl,e1,h1,er,em,hst,hok⟩ hN;cases rs with
   | nil=>cases er
   | cons s rs=>
    rw [List.map_cons,uO] at er;cases er;have so:ln pre s:=by
     have:=hw pre.length s (by rw [em]; simp)
     rwa [em,List.take_left] at this
    have lp:=hst.len;have lm:ms.length=pre.length+(rs.length+1):=by rw [em,GH]; rfl
    have em2:ms=(pre++[s])++rs:=by rw [em,List.append_assoc]; rfl
    have nxt:∀ (r:Pt) (S2:DH) (c3:Int) (l4 l5:Hn D),c3=(g9 (pre++[s]):Nat)->JR ps os[g9 pre]? s r->lH (nQ (pre++[s])) r->cK S S2->S2 q=some (.lst (ps.map gP++[gP r]))->N1 [some (MD ms),some (.tup (os.map rF)),some (.ref q),some (.int c3),l4,l5] S2:=λr S2 c3 l4 l5 ec jr jo e2 h2=>
     hN _ _ ⟨pre++[s],rs,ps++[r],l4,l5,by rw [ec],e2,by rw [h2,List.map_append]; rfl,by rw [GH]; rfl,em2,.snoc hst jr,λp hp=>by
      rcases List.mem_append.mp hp with h | h
      ·exact(hok p h).mono (by rw [jv]; omega)
      ·simp only [Gw,GD,or_false] at h; rw [h]; exact jo⟩
    have lt:(ps.map gP).length < sizeLine:=by rw [Gr]; exact nY (by omega)
    have cc:nQ (pre++[s])<=5:=by
     have:nQ ms=nQ (pre++[s])+nQ rs:=by rw [em2]; unfold nQ; rw [List.countP_append]
     omega
    refine⟨(_,none),rfl,rfl,rfl,?_⟩;cases s with
    | fix x y=>
     obtain⟨sx,sy⟩:Sz 9 x/\Sz 9 y:=so;refine⟨_,rfl,⟨_,h1⟩,_,rfl,_,rfl,dM,x,y,rfl,_,h1,lt,?_⟩;exact nxt ((x,0),(y,0)) _ _ _ _ (by rw [gu]; rfl) rfl ((lH.plain ((Cd.of sx sy).mono (by decide))).mono (Ha _)) (e1.put hq) aq
    | crank i l=>
     obtain⟨⟨x,y,hi⟩,sl,_⟩:(∃ x y,pre[i]?=some (.fix x y))/\Sz 4 l/\0 < l:=so;have hp:=hst.fix hi;have hcr:g9 pre < os.length:=by
      have:g9 ms=g9 (pre++[.crank i l])+g9 rs:=by rw [em2]; unfold g9; rw [List.countP_append]
      rw [gu] at this;have:g9 ms=g9 pre+1+g9 rs:=this;omega
     have ho2:os[g9 pre]?=some os[g9 pre]:=GN hcr;have dk:=hd _ (List.getElem_mem hcr);generalize os[g9 pre]=o at ho2 dk
     obtain⟨sx,sy⟩:Sz 9 x/\Sz 9 y:=by
      have hlt:=(GW.mp hi).1;have:=hw i _ (by rw [em,List.getElem?_append_left hlt]; exact hi)
      exact this
     refine⟨_,rfl,⟨_,rfl,⟨_,h1⟩,_,rfl,_,_,h1,wD hp,_,rfl,_,yx ho2,x,y,l,o,rfl,sx.mono (by decide),sy.mono (by decide),sl.mono (by decide),dk,_,h1,lt,?_⟩⟩
     exact nxt ((x+nG o*l,0),(y+lO o*l,0)) _ _ _ _ (by rw [gu]; rfl) ⟨_,o,hp,ho2,rfl⟩ ((lH.plain (Cd.crank sx sy sl dk)).mono (Ha _)) (e1.put hq) aq
    | pair i j s t v=>
     obtain⟨hi,hj,_,ss',st,_,_,hv⟩:i < pre.length/\j < pre.length/\i≠j/\Sz 8 s/\Sz 8 t/\0 < s/\0 < t/\(v=0\/v=1):=so;obtain⟨v,rfl⟩:=Int.eq_ofNat_of_zero_le (show 0<=v by omega)
     have c4:nQ pre<=4:=by rw [jv] at cc; have:nQ pre+1<=5:=cc; omega
     have gi:ps[i]?=some ps[i]:=GN (by omega)
     have gj:ps[j]?=some ps[j]:=GN (by omega)
     have ki:=hok _ (List.mem_of_getElem? gi);have kj:=hok _ (List.mem_of_getElem? gj);generalize ps[i]=p1 at gi ki
     generalize ps[j]=p2 at gj kj
     have v2:v < 2:=by omega
     refine⟨_,rfl,⟨_,rfl,⟨_,rfl,⟨_,h1⟩,i,j,s,t,v,pre.length,q,ps,p1,p2,rfl,h1,gi,gj,v2,λ_ _=>Bi (F5 c4) ki.cd kj.cd ss' st,λno S2 e2=>?_,λa b c S2 e2=>?_,λa b c d S2 dd e2 ed=>?_⟩⟩⟩
     ·exact wf pre _ rs ps em hst ⟨p1,p2,gi,gj,no⟩ S2 (e1.trans e2)
     ·exact w0 pre _ rs ps em hst ⟨p1,p2,gi,gj,a,b,c⟩ S2 (e1.trans e2)
     ·obtain⟨r,er⟩:=wx c4 ki kj ss' st v2 c d;obtain⟨_,_,_,_,_,jo⟩:=yB c4 ki kj ss' st v2 c d er;rw [<- er] at ed;subst ed;refine⟨_,e2 _ _ h1,lt,nxt r _ _ _ _ (by rw [gu]; rfl) ⟨p1,p2,gi,gj,a,b,c,d,er⟩ (by rw [jv]; exact jo) ((e1.trans e2).put hq) aq⟩
    | like i j a l=>
     obtain⟨hi,hj,_,sa,sl⟩:i < pre.length/\j < pre.length/\i≠j/\Sz 4 a/\Sz 4 l:=so;have c4:nQ pre<=4:=by rw [jv] at cc; have:nQ pre+1<=5:=cc; omega
     have gi:ps[i]?=some ps[i]:=GN (by omega)
     have gj:ps[j]?=some ps[j]:=GN (by omega)
     have ki:=hok _ (List.mem_of_getElem? gi);have kj:=hok _ (List.mem_of_getElem? gj);generalize ps[i]=p1 at gi ki
     generalize ps[j]=p2 at gj kj
     refine⟨_,rfl,⟨_,rfl,⟨_,rfl,⟨_,h1⟩,_,rfl,_,_,h1,wD gi,_,rfl,_,_,h1,wD gj,_,rfl,_,rfl,vN (nQ pre),p1,p2,a,l,rfl,F' c4,ki.pok,kj.pok,sa,sl,λno S2 e2=>?_,λu u0 no su hR b1 b2 b3 b4 S2 e2=>?_⟩⟩⟩
     ·exact wf pre _ rs ps em hst ⟨p1,p2,gi,gj,no⟩ S2 (e1.trans e2)
     ·exact⟨_,e2 _ _ h1,lt,nxt (tI u p1 p2 a l) _ _ _ _ (by rw [gu]; rfl) ⟨p1,p2,u,gi,gj,u0,hR,rfl⟩ (by rw [jv]; exact ki.like kj sa sl u0 no su b1 b2 b3 b4) ((e1.trans e2).put hq) aq⟩
  ·rintro L S1 ⟨pre,rs,ps,l4,l5,rfl,e1,h1,er,em,hst,hok⟩;cases rs with
   | cons s rs=>cases er
   | nil=>
    rw [GI] at em;subst em;exact w ps S1 q hst hok e1 h1
set_option maxHeartbeats 4000000
theorem yu {u v:Rat} {ps:List (Gn×Gn)} (u0:0 < u) (v0:0 < v) (hu:HR u ps) (hv:HR v ps):∃ ρ:Rat,0 < ρ/\(u=ρ*ρ*v\/∀ p∈ps,bq u p.1.2=0/\bq u p.2.2=0)/\∀ p∈ps,bq v p.1.2=ρ*bq u p.1.2/\bq v p.2.2=ρ*bq u p.2.2:=by
 cases e:cM ps with
 | nil=>
  have z:∀ p∈ps,p.1.2=0/\p.2.2=0:=λp hp=>by
   have y:∀ n:Gn,n=p.1\/n=p.2->n.2=0:=λn hn=>by
    apply Classical.byContradiction;intro h0;have:=ph hp hn h0;rw [e] at this;cases this
   exact⟨y _ (.inl rfl),y _ (.inr rfl)⟩
  refine⟨1,by decide,.inr λp hp=>?_,λp hp=>?_⟩
  ·rw [(z p hp).1,(z p hp).2,pG u0];exact⟨rfl,rfl⟩
  ·rw [(z p hp).1,(z p hp).2,pG u0,pG v0];exact⟨by grind,by grind⟩
 | cons x0 t=>
  have m0:x0∈cM ps:=by rw [e]; exact Gy
  obtain⟨n0,p,hp,hh⟩:=kK m0;have hx:je u x0.2/\je v x0.2:=by
   rcases hh with rfl | rfl
   ·exact⟨(hu p hp).1,(hv p hp).1⟩
   ·exact⟨(hu p hp).2,(hv p hp).2⟩
  obtain⟨⟨b,eb⟩,⟨d,ed⟩⟩:=hx;have b0:b≠0:=λz=>n0 (by rw [<- eb,z,bI,Rat.zero_mul])
  have hb:d / b*b=d:=Rat.div_mul_cancel b0;have pos:0<=d / b:=by
   have h1:=nh (b:=b) u0;have h2:=nh (b:=d) v0;rw [eb] at h1;rw [ed] at h2;have h3:=h1.symm.trans h2;rcases tri b with z | z | z
   ·exact jx (by grind) (by grind)
   ·have:=jx (x:=-d) (y:=-b) (by grind) (by grind)
    have y:-d / -b*-b=-d:=Rat.div_mul_cancel (by grind)
    have:-d / -b=d / b:=by
     have:(-d / -b - d / b)*b=0:=by grind
     grind
    grind
   ·exact absurd z b0
  have sρ:=ic pos;generalize d / b=ρ at*
  have ρ0:ρ≠0:=λz=>by
   rw [z] at hb;exact n0 (by rw [<- ed,<- hb,Rat.zero_mul,bI,Rat.zero_mul])
  have euv:u=ρ*ρ*v:=by
   have h:ss ρ*ss b*v=ss b*u:=by rw [<- qb,hb,ed,eb]
   rw [sρ] at h;have sb:ss b≠0:=λz=>n0 (by rw [<- eb,z,Rat.zero_mul])
   generalize ss b=s at*
   have:s*(ρ*ρ*v - u)=0:=by grind
   grind
  have sc:∀ x:Rat,je u x->bq v x=ρ*bq u x:=λx h=>td v0 (by
   rw [qb,sρ];have h1:=rB h;rw [euv] at h1 ⊢;generalize ss (bq (ρ*ρ*v) x)=s at*
   grind)
  exact⟨ρ,by grind,.inl euv,λp hp=>⟨sc _ (hu p hp).1,sc _ (hu p hp).2⟩⟩
inductive Tl where
 | pts (ps:List Pt)
 | fld
 | stk (n:Nat)
def Tl.map (f:Pt->Pt):Tl->Tl
 | .pts ps=>.pts (ps.map f)
 | .fld=>.fld
 | .stk n=>.stk n
def FK (s:aU):Nat:=if s.isCr=true then 1 else 0
inductive t7 (os:List (Hn Rat)):List Pt->Nat->Nat->List aU->Tl->Prop
 | nil {ps:List Pt} {c k:Nat}:t7 os ps c k [] (.pts ps)
 | step {ps:List Pt} {c k:Nat} {s:aU} {r:Pt} {rs:List aU} {t:Tl}:JR ps os[c]? s r->t7 os (ps++[r]) (c+FK s) (k+1) rs t->t7 os ps c k (s::rs) t
 | fld {ps:List Pt} {c k:Nat} {s:aU} {rs:List aU}:JF ps s->t7 os ps c k (s::rs) .fld
 | stk {ps:List Pt} {c k:Nat} {s:aU} {rs:List aU}:JS ps s->t7 os ps c k (s::rs) (.stk k)
theorem m7.run {os:List (Hn Rat)} {pre:List aU} {ps:List Pt} (h:m7 os pre ps):∀ {rs:List aU} {t:Tl},t7 os ps (g9 pre) pre.length rs t->t7 os [] 0 0 (pre++rs) t:=by
 induction h with
 | nil=>intro rs t h; exact h
 | snoc hst jr ih=>
  rename_i ms ps s r
  intro rs t h;rw [gu,GH] at h;rw [List.append_assoc];exact ih (.step jr h)
theorem yy {p q:Pt} {u v a l:Rat} (u0:0 < u) (v0:0 < v) (hu:HR u [p,q]) (hv:HR v [p,q]):tI u p q a l=tI v p q a l:=by
 obtain⟨ρ,ρ0,euv,sc⟩:=yu u0 v0 hu hv;obtain⟨p1,p2⟩:=sc p (by simp)
 obtain⟨q1,q2⟩:=sc q (by simp)
 have sρ:ss ρ=ρ*ρ:=ic (Rat.le_of_lt ρ0);have key:∀ t t':Rat,t'=ρ*t->(u=ρ*ρ*v\/t=0)->ss t*u=ss t'*v:=λt t' e h=>by
  subst e;rcases h with h | h
  ·rw [qb,sρ,h];generalize ss t=s;grind
  ·subst h;rw [Rat.mul_zero,bI,Rat.zero_mul,Rat.zero_mul]
 obtain⟨a1,a2,a3,a4⟩:=iy (u:=u) (p:=a) (q:=l) (x:=rq u p.1) (y:=rq u p.2) (z:=rq u q.1) (v:=rq u q.2);obtain⟨b1,b2,b3,b4⟩:=iy (u:=v) (p:=a) (q:=l) (x:=rq v p.1) (y:=rq v p.2) (z:=rq v q.1) (v:=rq v q.2);unfold tI pU;rw [a1,a2,a3,a4,b1,b2,b3,b4];have z:u=ρ*ρ*v\/(bq u p.1.2=0/\bq u p.2.2=0)/\bq u q.1.2=0/\bq u q.2.2=0:=euv.imp id λh=>⟨h p (by simp),h q (by simp)⟩
 simp only [rq];refine GG (GG rfl ?_) (GG rfl ?_)
 ·refine key _ _ ?_ (z.imp id λ⟨⟨z1,z2⟩,z3,z4⟩=>?_)
  ·rw [p1,p2,q1,q2]; grind
  ·rw [z1,z2,z3,z4]; grind
 ·refine key _ _ ?_ (z.imp id λ⟨⟨z1,z2⟩,z3,z4⟩=>?_)
  ·rw [p1,p2,q1,q2]; grind
  ·rw [z1,z2,z3,z4]; grind
theorem JR.one {ps:List Pt} {o:Hn (Hn Rat)} {s:aU} {r r':Pt} (h:JR ps o s r) (h':JR ps o s r'):r=r':=by
 cases s with
 | fix x y=>
  have h:r=_:=h;have h':r'=_:=h';rw [h,h']
 | crank i l=>
  obtain⟨p,d,e1,e2,e3⟩:=h;obtain⟨p',d',f1,f2,f3⟩:=h';rw [e1] at f1;cases f1;rw [e2] at f2;cases f2;rw [e3,f3]
 | pair i j s t v=>
  obtain⟨p,q,e1,e2,_,_,_,_,e3⟩:=h;obtain⟨p',q',f1,f2,_,_,_,_,f3⟩:=h';rw [e1] at f1;cases f1;rw [e2] at f2;cases f2;exact nu (e3.trans f3.symm)
 | like i j a l=>
  obtain⟨p,q,u,e1,e2,u0,hu,e3⟩:=h;obtain⟨p',q',u',f1,f2,v0,hv,f3⟩:=h';rw [e1] at f1;cases f1;rw [e2] at f2;cases f2;rw [e3,f3];exact yy u0 v0 hu hv
theorem JR.nf {ps:List Pt} {o:Hn (Hn Rat)} {s:aU} {r:Pt} (h:JR ps o s r) (h':JF ps s):False:=by
 cases s with
 | fix x y=>exact h'
 | crank i l=>exact h'
 | pair i j s t v=>
  obtain⟨p,q,e1,e2,p1,p2,_⟩:=h;obtain⟨p',q',f1,f2,n⟩:=h';rw [e1] at f1;cases f1;rw [e2] at f2;cases f2;exact n ⟨p1,p2⟩
 | like i j a l=>
  obtain⟨p,q,u,e1,e2,u0,hu,e3⟩:=h;obtain⟨p',q',f1,f2,n⟩:=h';rw [e1] at f1;cases f1;rw [e2] at f2;cases f2;exact n (AF u0 hu)
theorem JR.ns {ps:List Pt} {o:Hn (Hn Rat)} {s:aU} {r:Pt} (h:JR ps o s r) (h':JS ps s):False:=by
 cases s with
 | fix x y=>exact h'
 | crank i l=>exact h'
 | like i j a l=>exact h'
 | pair i j s t v=>
  obtain⟨p,q,e1,e2,p1,p2,a0,c0,_⟩:=h;obtain⟨p',q',f1,f2,_,_,n⟩:=h';rw [e1] at f1;cases f1;rw [e2] at f2;cases f2;exact n.elim a0 c0
theorem JF.ns {ps:List Pt} {s:aU} (h:JF ps s) (h':JS ps s):False:=by
 cases s with
 | fix x y=>exact h'
 | crank i l=>exact h'
 | like i j a l=>exact h'
 | pair i j s t v=>
  obtain⟨p,q,e1,e2,n⟩:=h;obtain⟨p',q',f1,f2,p1,p2,_⟩:=h';rw [e1] at f1;cases f1;rw [e2] at f2;cases f2;exact n ⟨p1,p2⟩
theorem t7.one {os:List (Hn Rat)} {ps:List Pt} {c k:Nat} {ms:List aU} {t t':Tl} (h:t7 os ps c k ms t) (h':t7 os ps c k ms t'):t=t':=by
 induction h with
 | nil=>cases h'; rfl
 | step jr _ ih=>
  cases h' with
  | step jr' h2=>
   have e:=jr.one jr';subst e;exact ih h2
  | fld jf=>exact(jr.nf jf).elim
  | stk js=>exact(jr.ns js).elim
 | fld jf=>
  cases h' with
  | step jr' h2=>exact(jr'.nf jf).elim
  | fld _=>rfl
  | stk js=>exact(jf.ns js).elim
 | stk js=>
  cases h' with
  | step jr' h2=>exact(jr'.ns js).elim
  | fld jf=>exact(jf.ns js).elim
  | stk _=>rfl
structure EC where
 f:Pt->Pt
 g:aU->aU
 d:Hn Rat->Hn Rat
 ok:aU->Prop
 jr:∀ {ps:List Pt} {o:Hn (Hn Rat)} {s:aU} {r:Pt},ok s->JR ps o s r->JR (ps.map f) (o.map d) (g s) (f r)
 jf:∀ {ps:List Pt} {s:aU},JF ps s->JF (ps.map f) (g s)
 js:∀ {ps:List Pt} {s:aU},JS ps s->JS (ps.map f) (g s)
 cr:∀ s,(g s).isCr=s.isCr
theorem t7.mot (m:EC) {os:List (Hn Rat)} {ps:List Pt} {c k:Nat} {ms:List aU} {t:Tl} (h:t7 os ps c k ms t) (hok:∀ s∈ms,m.ok s):t7 (os.map m.d) (ps.map m.f) c k (ms.map m.g) (t.map m.f):=by
 induction h with
 | nil=>exact .nil
 | step jr _ ih=>
  rename_i ps c k s r rs t _
  have ih:=ih λs hs=>hok s (Gz _ hs)
  refine .step (s:=m.g s) (r:=m.f r) ?_ ?_
  ·rw [GP];exact m.jr (hok s Gy) jr
  ·unfold FK;rw [m.cr];rw [List.map_append] at ih;exact ih
 | fld jf=>exact .fld (m.jf jf)
 | stk js=>exact .stk (m.js js)
def Dv (l:List Rat):Prop:=∀ x∈l.tail,l.headD 0=0\/x=0\/yq (l.headD 0 / x)
theorem Al {ps:List Pt}:uH ps↔Dv ((cM ps).map λn=>ab n.2):=by
 unfold uH Dv;cases cM ps with
 | nil=>exact⟨λ_ x h=>by simp at h,λ_ x h=>by simp at h⟩
 | cons m t=>
  simp only [List.tail_cons,List.headD_cons,List.map_cons];have z:∀ q:Rat,ab q=0↔q=0:=λq=>⟨λe=>Classical.byContradiction λn=>iU n e,λe=>by rw [e]; rfl⟩
  constructor
  ·intro h x hx;obtain⟨n,hn,rfl⟩:=List.mem_map.mp hx;rcases An (h n hn) with a | a | a
   ·exact .inl ((z _).mpr a)
   ·exact .inr (.inl ((z _).mpr a))
   ·exact .inr (.inr a)
  ·intro h n hn;refine xT ?_;rcases h _ (List.mem_map.mpr ⟨n,hn,rfl⟩) with a | a | a
   ·exact .inl ((z _).mp a)
   ·exact .inr (.inl ((z _).mp a))
   ·exact .inr (.inr a)
theorem wV {f:Pt->Pt} (h1:∀ p,ab (f p).1.2=ab p.1.2) (h2:∀ p,ab (f p).2.2=ab p.2.2):∀ ps:List Pt,(cM (ps.map f)).map (λn=>ab n.2)=(cM ps).map λn=>ab n.2
 | []=>rfl
 | p::ps=>by
  have ih:=wV h1 h2 ps;have z:∀ a b:Rat,ab a=ab b->(a=0↔b=0):=λa b e=>by
   have z:∀ q:Rat,ab q=0↔q=0:=λq=>⟨λe=>Classical.byContradiction λn=>iU n e,λe=>by rw [e]; rfl⟩
   rw [<- z a,<- z b,e]
  have e:∀ q:Pt,∀ l:List Pt,cM (q::l)=cM [q]++cM l:=λq l=>qh (ps:=[q]) (qs:=l)
  rw [List.map_cons,e,e p,List.map_append,List.map_append,ih]
  congr 1
  have z1:=z _ _ (h1 p);have z2:=z _ _ (h2 p)
  by_cases a:p.1.2=0
  ·by_cases b:p.2.2=0
   ·rw [pA a b,pA (z1.mpr a) (z2.mpr b)]
   ·rw [qe a b,qe (z1.mpr a) (λy=>b (z2.mp y))]
    simp [h2 p]
  ·by_cases b:p.2.2=0
   ·rw [qc a b,qc (λy=>a (z1.mp y)) (z2.mpr b)]
    simp [h1 p]
   ·rw [pd a b,pd (λy=>a (z1.mp y)) (λy=>b (z2.mp y))]
    simp [h1 p,h2 p]
theorem Ad {f:Pt->Pt} (h1:∀ p,ab (f p).1.2=ab p.1.2) (h2:∀ p,ab (f p).2.2=ab p.2.2) {p q:Pt}:uH [f p,f q]↔uH [p,q]:=by
 rw [Al,Al,<- wV h1 h2 [p,q]]
 rfl
open Classical in
noncomputable def ml (p q:Rat):Gn:=if h:∃ r,0<=r/\r*r=ab q then(p+sg h.choose q,0) else(p,q)
theorem tP {p q:Rat}:vo p q=gD (ml p q):=by
 unfold vo ml
 split <;> rfl
theorem mF {p q w:Rat}:ml (p+w) q=((ml p q).1+w,(ml p q).2):=by
 unfold ml
 split
 ·exact GG (by dsimp only; grind) rfl
 ·rfl
theorem t4 {q:Rat}:ab (-q)=ab q:=by unfold ab; split <;> split <;> grind
theorem tJ {p q:Rat}:ml (-p) (-q)=(-(ml p q).1,-(ml p q).2):=by
 unfold ml;rw [t4]
 split
 ·rename_i h
  have hh:=h.choose_spec;generalize h.choose=r at*
  refine GG ?_ (by dsimp only; grind)
  dsimp only;unfold sg
  by_cases q0:q=0
  ·subst q0;have:r=0:=by
    have e:=hh.2;rw [show ab 0=0 from rfl] at e
    rcases Rat.mul_eq_zero.mp e with y | y <;> exact y
   subst this
   split <;> split <;> grind
  ·split <;> split <;> grind
 ·rfl
noncomputable def jR (x y a b s:Rat):List Pt:=if s < 0 then [] else if s=0 then [((x,0),(y,0))] else [(ml x (ss a*s),ml y (ss b*s)),(ml x (ss (-a)*s),ml y (ss (-b)*s))]
theorem Ay {x y a b s:Rat}:hV x y a b s=(jR x y a b s).map gP:=by
 unfold hV jR
 split
 ·rfl
 ·split
  ·rfl
  ·show [MP x y a b s,MP x y (-a) (-b) s]=_
   unfold MP;rw [tP,tP,tP,tP]
   rfl
noncomputable def cG (x y s z v r:Rat):List Pt:=jR (x+(z - x)*cT x y s z v r) (y+(v - y)*cT x y s z v r) (-(v - y)) (z - x) (cE x y s z v r)
theorem Ez {x y s z v r:Rat}:cL x y s z v r=(cG x y s z v r).map gP:=Ay
theorem rf {l:List Pt} {i:Nat} {r:Pt} (h2:l.length<=2) (h0:l.map gP≠[]):gP r=i5 (l.map gP) i↔some r=if l.length=2 then l[i]? else l[0]?:=by
 match l,h0,h2 with
 | [a],_,_=>exact⟨λe=>congrArg some (nu e),λe=>by cases e; rfl⟩
 | [a,b],_,_=>
  match i with
  | 0=>exact⟨λe=>congrArg some (nu e),λe=>by cases e; rfl⟩
  | 1=>exact⟨λe=>congrArg some (nu e),λe=>by cases e; rfl⟩
  | n+2=>
   constructor
   ·intro e;have e:gP r=D.non:=e;cases e
   ·intro e;have e:some r=none:=e;cases e
theorem sk {x y s z v r:Rat}:(cG x y s z v r).length<=2:=by
 unfold cG jR
 split
 ·decide
 ·split
  ·show 1<=2; decide
  ·show 2<=2; decide
noncomputable abbrev gG (p q:Pt) (s t:Rat):List Pt:=cG p.1.1 p.2.1 s q.1.1 q.2.1 t
theorem vy {p q:Pt} {s t:Rat}:cP p q s t=(gG p q s t).map gP:=Ez
theorem mv {ps:List Pt} {o:Hn (Hn Rat)} {i j:Nat} {s t:Rat} {v:Int} {r:Pt}:JR ps o (.pair i j s t v) r↔∃ p q,ps[i]?=some p/\ps[j]?=some q/\Pl p/\Pl q/\aP p q≠0/\gG p q s t≠[]/\some r=if (gG p q s t).length=2 then(gG p q s t)[v.toNat]? else(gG p q s t)[0]?:=by
 constructor
 ·rintro⟨p,q,e1,e2,p1,p2,a0,c0,e⟩;rw [vy] at c0 e
  exact⟨p,q,e1,e2,p1,p2,a0,λz=>c0 (by rw [z]; rfl),(rf sk c0).mp e⟩
 ·rintro⟨p,q,e1,e2,p1,p2,a0,c0,e⟩;have c1:(gG p q s t).map gP≠[]:=λz=>c0 (List.map_eq_nil_iff.mp z)
  exact⟨p,q,e1,e2,p1,p2,a0,by rw [vy]; exact c1,by rw [vy]; exact(rf sk c1).mpr e⟩
theorem mo {ps:List Pt} {i j:Nat} {s t:Rat} {v:Int}:JS ps (.pair i j s t v)↔∃ p q,ps[i]?=some p/\ps[j]?=some q/\Pl p/\Pl q/\(aP p q=0\/gG p q s t=[]):=by
 constructor
 ·rintro⟨p,q,e1,e2,p1,p2,c⟩;rw [vy,List.map_eq_nil_iff] at c;exact⟨p,q,e1,e2,p1,p2,c⟩
 ·rintro⟨p,q,e1,e2,p1,p2,c⟩;exact⟨p,q,e1,e2,p1,p2,by rw [vy,List.map_eq_nil_iff]; exact c⟩
theorem fH {f:Pt->Pt} {ps:List Pt} {i:Nat} {p:Pt} (h:ps[i]?=some p):(ps.map f)[i]?=some (f p):=by rw [GP,h]; rfl
set_option maxHeartbeats 4000000
def j0 (a b:Rat) (p:Pt):Pt:=((p.1.1+a,p.1.2),(p.2.1+b,p.2.2))
def yQ (a b:Rat):aU->aU
 | .fix x y=>.fix (x+a) (y+b)
 | s=>s
theorem Ab {x y s z v r a b:Rat}:cT (x+a) (y+b) s (z+a) (v+b) r=cT x y s z v r:=by
 unfold cT;rw [show z+a - (x+a)=z - x by grind,show v+b - (y+b)=v - y by grind]
theorem De {x y s z v r a b:Rat}:cE (x+a) (y+b) s (z+a) (v+b) r=cE x y s z v r:=by
 unfold cE;rw [Ab,show z+a - (x+a)=z - x by grind,show v+b - (y+b)=v - y by grind]
theorem yn {x y c d s a b:Rat}:jR (x+a) (y+b) c d s=(jR x y c d s).map (j0 a b):=by
 unfold jR
 split
 ·rfl
 ·split
  ·rfl
  ·rw [mF,mF,mF,mF]
   rfl
theorem xz {p q:Pt} {s t a b:Rat}:gG (j0 a b p) (j0 a b q) s t=(gG p q s t).map (j0 a b):=by
 show cG (p.1.1+a) (p.2.1+b) s (q.1.1+a) (q.2.1+b) t=_
 show _=(cG p.1.1 p.2.1 s q.1.1 q.2.1 t).map (j0 a b)
 unfold cG;rw [Ab,De,<- yn,show q.1.1+a - (p.1.1+a)=q.1.1 - p.1.1 by grind,show q.2.1+b - (p.2.1+b)=q.2.1 - p.2.1 by grind]
 congr 1 <;> grind
theorem zQ {p q:Pt} {a b:Rat}:aP (j0 a b p) (j0 a b q)=aP p q:=by
 show(q.1.1+a - (p.1.1+a))*(q.1.1+a - (p.1.1+a))+(q.2.1+b - (p.2.1+b))*(q.2.1+b - (p.2.1+b))=(q.1.1 - p.1.1)*(q.1.1 - p.1.1)+(q.2.1 - p.2.1)*(q.2.1 - p.2.1)
 grind
theorem Cr {u:Rat} {p q:Pt} {c l a b:Rat}:tI u (j0 a b p) (j0 a b q) c l=j0 a b (tI u p q c l):=by
 obtain⟨a1,a2,a3,a4⟩:=iy (u:=u) (p:=c) (q:=l) (x:=rq u p.1) (y:=rq u p.2) (z:=rq u q.1) (v:=rq u q.2);obtain⟨b1,b2,b3,b4⟩:=iy (u:=u) (p:=c) (q:=l) (x:=rq u (j0 a b p).1) (y:=rq u (j0 a b p).2) (z:=rq u (j0 a b q).1) (v:=rq u (j0 a b q).2);unfold tI pU;rw [b1,b2,b3,b4,a1,a2,a3,a4];simp only [rq,j0];refine GG (GG ?_ rfl) (GG ?_ rfl) <;> dsimp only <;> grind
noncomputable def shift (a b:Rat):EC where
 f:=j0 a b
 g:=yQ a b
 d:=id
 ok:=λ_=>True
 jr:=λ{ps o s r} _ h=>by
  cases s with
  | fix x y=>
   have h:r=_:=h;rw [h]
   rfl
  | crank i l=>
   obtain⟨p,d,e1,e2,e3⟩:=h;refine⟨j0 a b p,d,fH e1,by rw [e2]; rfl,?_⟩
   rw [e3];refine GG (GG ?_ rfl) (GG ?_ rfl)
   ·show p.1.1+nG d*l+a=p.1.1+a+nG d*l
    grind
   ·show p.2.1+lO d*l+b=p.2.1+b+lO d*l
    grind
  | pair i j s t v=>
   obtain⟨p,q,e1,e2,p1,p2,a0,c0,e⟩:=mv.mp h;refine mv.mpr ⟨j0 a b p,j0 a b q,fH e1,fH e2,p1,p2,by rw [zQ]; exact a0,?_,?_⟩
   ·rw [xz];exact λz=>c0 (List.map_eq_nil_iff.mp z)
   ·rw [xz,Gr]
    split at e
    ·rename_i h2
     rw [if_pos h2,fH e.symm]
    ·rename_i h2
     rw [if_neg h2,fH e.symm]
  | like i j c l=>
   obtain⟨p,q,u,e1,e2,u0,hu,e3⟩:=h;exact⟨j0 a b p,j0 a b q,u,fH e1,fH e2,u0,λr hr=>by
    simp only [Gw,GD,or_false] at hr;rcases hr with rfl | rfl
    ·exact hu p (by simp)
    ·exact hu q (by simp),by rw [e3,Cr]⟩
 jf:=λ{ps s} h=>by
  cases s with
  | fix x y=>exact h.elim
  | crank i l=>exact h.elim
  | pair i j s t v=>
   obtain⟨p,q,e1,e2,n⟩:=h;exact⟨j0 a b p,j0 a b q,fH e1,fH e2,n⟩
  | like i j c l=>
   obtain⟨p,q,e1,e2,n⟩:=h;exact⟨j0 a b p,j0 a b q,fH e1,fH e2,λz=>n ((Ad (f:=j0 a b) (λ_=>rfl) (λ_=>rfl)).mp z)⟩
 js:=λ{ps s} h=>by
  cases s with
  | fix x y=>exact h.elim
  | crank i l=>exact h.elim
  | like i j c l=>exact h.elim
  | pair i j s t v=>
   obtain⟨p,q,e1,e2,p1,p2,n⟩:=mo.mp h;exact mo.mpr ⟨j0 a b p,j0 a b q,fH e1,fH e2,p1,p2,by rw [zQ,xz,List.map_eq_nil_iff]; exact n⟩
 cr:=λs=>by cases s <;> rfl
def iX (p:Pt):Pt:=((p.1.1,p.1.2),(-p.2.1,-p.2.2))
def ze:aU->aU
 | .fix x y=>.fix x (-y)
 | .crank i l=>.crank i l
 | .pair i j s t v=>.pair i j s t (1 - v)
 | .like i j a l=>.like i j a (-l)
def E3:aU->Prop
 | .pair _ _ _ _ v=>v=0\/v=1
 | _=>True
theorem Aa {x y s z v r:Rat}:cT x (-y) s z (-v) r=cT x y s z v r:=by
 unfold cT;rw [show (-v - -y)*(-v - -y)=(v - y)*(v - y) by grind]
theorem Dw {x y s z v r:Rat}:cE x (-y) s z (-v) r=cE x y s z v r:=by
 unfold cE;rw [Aa,show(-v - -y)*(-v - -y)=(v - y)*(v - y) by grind]
theorem zx {x y c d s:Rat}:jR x (-y) (-c) d s=((jR x y c d s).map iX).reverse:=by
 unfold jR
 split
 ·rfl
 ·split
  ·show [((x,0),(-y,0))]=[((x,(0:Rat)),(-y,-(0:Rat)))]
   rw [Rat.neg_zero]
  ·show _=[iX (ml x (ss (-c)*s),ml y (ss (-d)*s)),iX (ml x (ss c*s),ml y (ss d*s))]
   have e1:ml (-y) (ss d*s)=(-(ml y (ss (-d)*s)).1,-(ml y (ss (-d)*s)).2):=by
    rw [<- tJ,df]
    congr 1
    grind
   have e2:ml (-y) (ss (-d)*s)=(-(ml y (ss d*s)).1,-(ml y (ss d*s)).2):=by
    rw [<- tJ,df]
    congr 1
    grind
   rw [e1,e2,show - -c=c by grind]
   rfl
theorem xC {p q:Pt} {s t:Rat}:gG (iX p) (iX q) s t=((gG p q s t).map iX).reverse:=by
 show cG p.1.1 (-p.2.1) s q.1.1 (-q.2.1) t=_
 show _=((cG p.1.1 p.2.1 s q.1.1 q.2.1 t).map iX).reverse
 unfold cG;rw [Aa,Dw,<- zx]
 congr 1 <;> grind
theorem zL {p q:Pt}:aP (iX p) (iX q)=aP p q:=by
 show(q.1.1 - p.1.1)*(q.1.1 - p.1.1)+(-q.2.1 - -p.2.1)*(-q.2.1 - -p.2.1)=(q.1.1 - p.1.1)*(q.1.1 - p.1.1)+(q.2.1 - p.2.1)*(q.2.1 - p.2.1)
 grind
theorem tx {u x:Rat} (h:je u x):je u (-x):=by
 obtain⟨b,e⟩:=h;exact⟨-b,by rw [df,<- e]; grind⟩
theorem wz {u x:Rat} (u0:0 < u) (h:je u x):bq u (-x)=-bq u x:=td u0 (by rw [df,Rat.neg_mul,rB h])
theorem DJ {u:Rat} {p q:Pt} {c l:Rat} (u0:0 < u) (h:HR u [p,q]):tI u (iX p) (iX q) c (-l)=iX (tI u p q c l):=by
 obtain⟨h1,h2⟩:=h.two;obtain⟨a1,a2,a3,a4⟩:=iy (u:=u) (p:=c) (q:=l) (x:=rq u p.1) (y:=rq u p.2) (z:=rq u q.1) (v:=rq u q.2);obtain⟨b1,b2,b3,b4⟩:=iy (u:=u) (p:=c) (q:=-l) (x:=rq u (iX p).1) (y:=rq u (iX p).2) (z:=rq u (iX q).1) (v:=rq u (iX q).2);unfold tI pU;rw [b1,b2,b3,b4,a1,a2,a3,a4];simp only [rq,iX];rw [wz u0 h1.2,wz u0 h2.2];generalize bq u p.1.2=c1;generalize bq u p.2.2=c2;generalize bq u q.1.2=c3;generalize bq u q.2.2=c4;refine GG (GG ?_ ?_) (GG ?_ ?_) <;> dsimp only
 ·grind
 ·congr 2
  grind
 ·grind
 ·rw [show -c2+(c*(-c4 - -c2)+-l*(c3 - c1))=-(c2+(c*(c4 - c2)+l*(c3 - c1))) by grind,df]
  generalize ss (c2+(c*(c4 - c2)+l*(c3 - c1)))=t;grind
def Bf:Hn Rat->Hn Rat:=Option.map λt=>-t
theorem B_ (o:Hn Rat):nG (Bf o)=nG o/\lO (Bf o)=-lO o:=by
 cases o with
 | none=>exact⟨rfl,by show(0:Rat)=-0; rw [Rat.neg_zero]⟩
 | some t=>
  have h:=fR t;refine⟨?_,?_⟩
  ·show(1 - -t*-t) / (1+-t*-t)=(1 - t*t) / (1+t*t)
   rw [show -t*-t=t*t by grind]
  ·show(-t+-t) / (1+-t*-t)=-((t+t) / (1+t*t))
   rw [show -t*-t=t*t by grind,show -t+-t=-(t+t) by grind,Rat.div_def,Rat.div_def,Rat.neg_mul]
theorem BE {l:List Pt} (h:l.length=2) {v:Int} (hv:v=0\/v=1) {r:Pt} (e:some r=l[v.toNat]?):some (iX r)=((l.map iX).reverse)[(1 - v).toNat]?:=by
 match l,h with
 | [a,b],_=>
  rcases hv with rfl | rfl
  ·have e:some r=some a:=e;cases e
   rfl
  ·have e:some r=some b:=e;cases e
   rfl
noncomputable def mirror:EC where
 f:=iX
 g:=ze
 d:=Bf
 ok:=E3
 jr:=λ{ps o s r} hs h=>by
  cases s with
  | fix x y=>
   have h:r=_:=h;rw [h]
   show((x,(0:Rat)),(-y,-(0:Rat)))=((x,0),(-y,0))
   rw [Rat.neg_zero]
  | crank i l=>
   obtain⟨p,d,e1,e2,e3⟩:=h;obtain⟨d1,d2⟩:=B_ d;refine⟨iX p,Bf d,fH e1,by rw [e2]; rfl,?_⟩
   rw [e3,d1,d2];refine GG rfl (GG ?_ ?_)
   ·show -(p.2.1+lO d*l)=-p.2.1+-lO d*l
    grind
   ·show -(0:Rat)=0
    rw [Rat.neg_zero]
  | pair i j s t v=>
   obtain⟨p,q,e1,e2,p1,p2,a0,c0,e⟩:=mv.mp h;have pl:∀ {p:Pt},Pl p->Pl (iX p):=λ{p} h=>⟨h.1,by show -p.2.2=0; rw [h.2,Rat.neg_zero]⟩
   refine mv.mpr ⟨iX p,iX q,fH e1,fH e2,pl p1,pl p2,by rw [zL]; exact a0,?_,?_⟩
   ·rw [xC];exact λz=>c0 (List.map_eq_nil_iff.mp (List.reverse_eq_nil_iff.mp z))
   ·rw [xC,List.length_reverse,Gr]
    split at e
    ·rename_i h2
     rw [if_pos h2];exact BE h2 hs e
    ·rename_i h2
     rw [if_neg h2];have hl:(gG p q s t).length<=2:=sk;have h1:(gG p q s t).length=1:=by
      have:(gG p q s t).length≠0:=λz=>c0 (Hj.mp z)
      omega
     obtain⟨a,hh⟩:=List.length_eq_one_iff.mp h1;rw [hh] at e ⊢;have e:some r=some a:=e;cases e
     rfl
  | like i j c l=>
   obtain⟨p,q,u,e1,e2,u0,hu,e3⟩:=h;obtain⟨h1,h2⟩:=hu.two;exact⟨iX p,iX q,u,fH e1,fH e2,u0,λr hr=>by
    simp only [Gw,GD,or_false] at hr;rcases hr with rfl | rfl
    ·exact⟨h1.1,tx h1.2⟩
    ·exact⟨h2.1,tx h2.2⟩,by rw [e3,DJ u0 hu]⟩
 jf:=λ{ps s} h=>by
  have pl:∀ {p:Pt},Pl (iX p)->Pl p:=λ{p} h=>⟨h.1,by have h2:-p.2.2=0:=h.2; grind⟩
  cases s with
  | fix x y=>exact h.elim
  | crank i l=>exact h.elim
  | pair i j s t v=>
   obtain⟨p,q,e1,e2,n⟩:=h;exact⟨iX p,iX q,fH e1,fH e2,λz=>n ⟨pl z.1,pl z.2⟩⟩
  | like i j c l=>
   obtain⟨p,q,e1,e2,n⟩:=h;exact⟨iX p,iX q,fH e1,fH e2,λz=>n ((Ad (f:=iX) (λ_=>rfl) (λ_=>t4)).mp z)⟩
 js:=λ{ps s} h=>by
  have pl:∀ {p:Pt},Pl p->Pl (iX p):=λ{p} h=>⟨h.1,by show -p.2.2=0; rw [h.2,Rat.neg_zero]⟩
  cases s with
  | fix x y=>exact h.elim
  | crank i l=>exact h.elim
  | like i j c l=>exact h.elim
  | pair i j s t v=>
   obtain⟨p,q,e1,e2,p1,p2,n⟩:=mo.mp h;exact mo.mpr ⟨iX p,iX q,fH e1,fH e2,pl p1,pl p2,by rw [zL,xC,List.reverse_eq_nil_iff,List.map_eq_nil_iff]; exact n⟩
 cr:=λs=>by cases s <;> rfl
set_option maxHeartbeats 4000000
theorem JR.free {ps:List Pt} {o o':Hn (Hn Rat)} {s:aU} {r:Pt} (h:JR ps o s r) (e:s.isCr=true->o=o'):JR ps o' s r:=by
 cases s with
 | fix x y=>exact h
 | pair i j s t v=>exact h
 | like i j a l=>exact h
 | crank i l=>
  rw [<- e rfl];exact h
theorem m7.take_os {os:List (Hn Rat)} {ms:List aU} {ps:List Pt} (h:m7 os ms ps):∀ {m:Nat},g9 ms<=m->m7 (os.take m) ms ps:=by
 induction h with
 | nil=>intro m _; exact .nil
 | snoc _ jr ih=>
  rename_i ms ps s r _
  intro m hm;rw [gu] at hm;refine .snoc (ih (by omega)) (jr.free λe=>?_)
  rw [e] at hm;have hm:g9 ms+1<=m:=hm;rw [List.getElem?_take_of_lt (by omega)]
theorem m7.pre {os:List (Hn Rat)} {ms:List aU} {ps:List Pt} (h:m7 os ms ps):∀ {k:Nat},k<=ms.length->m7 (os.take (g9 (ms.take k))) (ms.take k) (ps.take k):=by
 induction h with
 | nil=>intro k _; rw [List.take_nil,List.take_nil]; exact .nil
 | snoc hst jr ih=>
  rename_i ms ps s r
  have lp:=hst.len;intro k hk;rw [GH] at hk;have hk:k<=ms.length+1:=hk
  by_cases hl:k<=ms.length
  ·rw [List.take_append_of_le_length hl,List.take_append_of_le_length (by omega)]
   exact ih hl
  ·have e:k=ms.length+1:=by omega
   have e1:(ms++[s]).take k=ms++[s]:=List.take_of_length_le (by rw [GH]; show ms.length+1<=k; omega)
   have e2:(ps++[r]).take k=ps++[r]:=List.take_of_length_le (by rw [GH]; show ps.length+1<=k; omega)
   rw [e1,e2];exact(m7.snoc hst jr).take_os (Gq _)
def TD (S:DH) (t:Tl) (d:D):Prop:=match t with
 | .pts ps=>∃ p,d=.ref p/\S p=some (.lst (ps.map gP))
 | .fld=>d=.str "field"
 | .stk n=>d=.int (n:Nat)
theorem TD.ext {S S':DH} {t:Tl} {d:D} (h:TD S t d) (e:cK S S'):TD S' t d:=by
 cases t with
 | pts ps=>
  obtain⟨p,rfl,h1⟩:=h;exact⟨p,rfl,e _ _ h1⟩
 | fld=>exact h
 | stk n=>exact h
theorem eq_int {n:Nat} {i j:Int}:jM n (.int i) (.int j)=some (i == j):=by cases n <;> rfl
theorem Ea {n:Nat} {p q:Rat}:jM (n+1) (fr p) (fr q)=some (decide (p=q)):=by
 show hG (jM n) [.int p.num,.int (p.den:Int)] [.int q.num,.int (q.den:Int)]=_
 show(match jM n (.int p.num) (.int q.num),(match jM n (.int (p.den:Int)) (.int (q.den:Int)),some true with | some a,some b=>some (a && b) | _,_=>none) with | some a,some b=>some (a && b) | _,_=>none)=_
 rw [eq_int,eq_int]
 show some ((p.num == q.num) && (((p.den:Int) == (q.den:Int)) && true))=_
 congr 1
 rw [Bool.and_true,Bool.eq_iff_iff];simp only [G3,beq_iff_eq,decide_eq_true_eq];exact⟨λz9=>by obtain⟨a,b⟩:=z9; exact Rat.ext a (by exact_mod_cast b),λh=>by subst h; exact⟨rfl,rfl⟩⟩
theorem rL {n:Nat} {a b c d:D} {p q:Hx} (h1:jM n a c=some p) (h2:jM n b d=some q):jM (n+1) (.tup [a,b]) (.tup [c,d])=some (p && q):=by
 show(match jM n a c,(match jM n b d,some true with | some a,some b=>some (a && b) | _,_=>none) with | some a,some b=>some (a && b) | _,_=>none)=_
 rw [h1,h2]
 show some (p && (q && true))=_
 rw [Bool.and_true]
theorem Dy {p:Pt}:jM 7 (gP p) (gP p)=some true:=by
 have e:∀ q:Rat,jM 5 (fr q) (fr q)=some true:=λq=>by rw [Ea (n:=4),decide_eq_true rfl]
 exact rL (rL (e _) (e _)) (rL (e _) (e _))
theorem wo:∀ ps:List Pt,hG (jM 7) (ps.map gP) (ps.map gP)=some true
 | []=>rfl
 | p::ps=>by
  show(match jM 7 (gP p) (gP p),hG (jM 7) (ps.map gP) (ps.map gP) with | some a,some b=>some (a && b) | _,_=>none)=some true
  rw [Dy,wo ps]
  rfl
theorem TD.ne {S:DH} {t:Tl} {d d':D} {k:DK} (h:TD S t d) (h':TD S t d') (q:k (.bl false) S):Av d d' S k:=by
 cases t with
 | pts ps=>
  obtain⟨p,rfl,h1⟩:=h;obtain⟨p',rfl,h2⟩:=h';exact⟨_,_,true,h1,h2,rfl,wo ps,q⟩
 | fld=>
  cases h;cases h';exact⟨true,rfl,q⟩
 | stk n=>
  cases h;cases h';exact⟨true,by rw [eq_int]; simp,q⟩
def kY:ca:=λds S k=>∃ q:Rat,ds=[fr q]/\k (gD (q,0)) S
theorem n6:ar ["fraction"] ["fraction"] (ai iB):=eu
theorem n9 (Fn:FN K "_law_plain" iB f fd):
  aJ P w K mg base cJ 1 f fd ["fraction"] (cV K kY):=by
 refine Fn.okJ n6 (λds S k h=>?_) (λcdv A outer s H E hr=>⟨_,(ah (ak (aD (az 0 (aa (aD (aa am (aa am ac))) ac))))),λds S k h=>?_⟩)
 ·obtain⟨_,rfl,_⟩:=h
  rfl
 ·obtain⟨q,rfl,w⟩:=h;exact⟨dM,dM,w⟩
def jc:ca:=λds S k=>∃ q:Rat,ds=[fr q]/\k (fr (-q)) S
theorem pT:ar ["one"] ["one"] (ai ja):=eu
theorem p0 (Fn:FN K "_law_less" ja f fd):
  aJ P w K mg base cJ 1 f fd ["one"] (cV K jc):=by
 refine Fn.okJ pT (λds S k h=>?_) (λcdv A outer s H E hr=>⟨_,(ah (ak (aD (aa (aB m5 am (aT 0)) (aa (aT 0) ac))))),λds S k h=>?_⟩)
 ·obtain⟨_,rfl,_⟩:=h
  rfl
 ·obtain⟨q,rfl,w⟩:=h;rw [<- wC,show -q.num=0 - q.num by omega] at w
  exact⟨dM,w⟩
theorem wI {s:aU} {rs:List aU}:g9 (s::rs)=g9 rs+if s.isCr=true then 1 else 0:=by unfold g9; rw [List.countP_cons]
def jU:ca:=λds S k=>∃ (a:Hm) (ms:List aU),ds=[.ref a,MD ms]/\nP S a/\ms.length<=7/\∀ (os:List (Hn Rat)) S',os.length=g9 ms->(∀ o∈os,ow o)->Dr a S S'->k (.tup (os.map rF)) S'
theorem fX:ar ["state","machine","found","step"] ["state","machine"] (ai gY):=eu
theorem mU (Fn:FN K "_law_drives" gY f fd) (aN:aW P w K mg base "_law_small" 3 fL) (au:aW P w K mg base "_law_take" 1 cb) (dE:mg "tuple"=none):
  aJ P w K mg base cJ 4 f fd ["state","machine"] (cV K jU):=by
 refine Fn.okJ fX (λds S k h=>?_) (λcdv A outer s H E hr=>⟨_,(af (aj (i:=2) fX.nd (dj ac)) (af (eY PassesOwn.never rfl (ag 1) (aQ (i:=3) fX.nd) (ah (aA (aw fy (bn di (ag 3) am Zf) b8 (aE _)) (ah (bo (fA (ag 2) (bn di (dj (aa eR (aa (dq aN hr (az 0 ac)) (aa (dq aN hr (az 0 ac)) (aa (dq aN hr (az 0 ac)) ac))))) (dq au hr (az 0 (aa am ac))) Zf)))) aF))) (ah (ak (kq mr rfl dE kB (az 2 ac)))))),λds S k h=>?_⟩)
 ·obtain⟨_,_,rfl,_⟩:=h
  rfl
 ·obtain⟨a,ms,rfl,hS,hl,w⟩:=h;refine⟨dM,λq hq=>⟨(ms.map aU.d,none),rfl,?_⟩⟩
  have qa:=hS.ne hq;refine fe (λr L S'=>∃ (rs:List aU) (os:List (Hn Rat)) (l3:Hn D),L=[some (.ref a),some (MD ms),some (.ref q),l3]/\Dr a S S'/\S' q=some (.lst (os.map rF))/\r=rs.map aU.d/\os.length+g9 rs=g9 ms/\os.length+rs.length<=7/\∀ o∈os,ow o) (λ_ _ _ _=>trivial) ?_ ?_ _ _ _ ⟨ms,[],none,rfl,Dr.new hS hq,aq,rfl,Nat.zero_add _,by show 0+ms.length<=7; omega,λ_ h=>by cases h⟩
  ·rintro d r L S1 N1 ⟨rs,os,l3,rfl,d1,h1,er,hc,hl1,hd⟩ hN;cases rs with
   | nil=>cases er
   | cons s rs=>
    cases er;have hl1:os.length+(rs.length+1)<=7:=hl1;rw [wI] at hc;have skip:s.isCr=false->N1 [some (.ref a),some (MD ms),some (.ref q),some s.d] S1:=λhs=>hN _ _ ⟨rs,os,_,rfl,d1,h1,rfl,by rw [hs] at hc; exact hc,by omega,hd⟩
    cases s with
    | fix x y=>exact⟨_,rfl,skip rfl⟩
    | pair i j s t v=>exact⟨_,rfl,skip rfl⟩
    | like i j x y=>exact⟨_,rfl,skip rfl⟩
    | crank i l=>
     have hc:os.length+(g9 rs+1)=g9 ms:=hc;refine⟨_,rfl,⟨_,h1⟩,a,rfl,d1.1,λx S2 hx d2=>⟨a,rfl,d2.1,λy S3 hy d3=>⟨a,rfl,d3.1,λz S4 hz d4=>⟨dM,λp hp=>⟨a,4,rfl,by decide,by decide,d4.1.new hp,λt S5 t0 t1 d5=>?_⟩⟩⟩⟩⟩
     have pa:=d4.1.ne hp;have hp5:=d5.2 p _ pa aq;obtain⟨c,hcc,hm⟩:=mB (ds:=[.non,fr x,fr y,fr z]) t0 t1;have ho:∃ o,c=rF o/\ow o:=by
      simp only [Gw,GD,or_false] at hm;rcases hm with rfl | rfl | rfl | rfl
      ·exact⟨none,rfl,λt e=>by cases e⟩
      ·exact⟨some x,rfl,λt e=>by cases e; exact hx.1⟩
      ·exact⟨some y,rfl,λt e=>by cases e; exact hy.1⟩
      ·exact⟨some z,rfl,λt e=>by cases e; exact hz.1⟩
     obtain⟨o,rfl,ok⟩:=ho;have d15:=(d2.trans (d3.trans (d4.trans ((Dr.new d4.1 hp).trans d5))));refine⟨_,_,hp5,hcc,_,d15.keep qa h1,by rw [Gr]; exact nY (by omega),hN _ _ ⟨rs,os++[o],_,rfl,(d1.trans d15).put hq qa,by rw [aq,List.map_append]; rfl,rfl,by rw [GH]; show os.length+1+g9 rs=_; omega,by rw [GH]; show os.length+1+rs.length<=7; omega,λo' ho'=>?_⟩⟩
     rcases List.mem_append.mp ho' with h | h
     ·exact hd o' h
     ·simp only [Gw,GD,or_false] at h; rw [h]; exact ok
  ·rintro L S1 ⟨rs,os,l3,rfl,d1,h1,er,hc,hl1,hd⟩;cases rs with
   | cons s rs=>cases er
   | nil=>exact⟨_,h1,w os S1 hc hd d1⟩
def jb:ca:=λds S k=>∃ (ms:List aU) (os:List (Hn Rat)),ds=[MD ms,.tup (os.map rF)]/\Wf ms/\ms.length<=7/\nQ ms<=5/\os.length=g9 ms/\(∀ o∈os,ow o)/\
 ∀ t d S',t7 os [] 0 0 ms t->(∀ ps,t=.pts ps->m7 os ms ps/\∀ p∈ps,lH 5 p)->TD S' t d->cK S S'->k d S'
theorem fM:ar ["machine","drives","found","e"] ["machine","drives"] (ai jl):=eu
theorem pZ {aC aR bw:Hm} (Fn:FN K "_law_told" jl f fd) (mS:l6 P w K mg base "stand" 42 (re aC aR bw)) (cU:mg "NoField"=some (.ref aC)) (jG:mg "Stuck"=some (.ref bw)) (f':PySem.W.exmOne K (.ref aC) (.ref aC)=some true) (jp:PySem.W.exmOne K (.ref bw) (.ref bw)=some true) (xf_NoField_Stuck:PySem.W.exmOne K (.ref bw) (.ref aC)=some false) (ss_Stuck:L2.oH K bw=true):
  aJ P w K mg base cJ 43 f fd ["machine","drives"] (cV K jb):=by
 refine Fn.okJ fM (λds S k h=>?_) (λcdv A outer s H E hr=>⟨_,(af (aj (i:=2) fM.nd eR) (af (uW (ix:=2) (i:=3) (λex=>(rE mS (hr.mono (by decide)) rfl (az 0 (az 1 ac)))) ss_Stuck (λ_=>hr.hd) rfl rfl rfl rfl cU rfl jG fM.nd rfl (.inl rfl) rfl rfl (λv=>(ah (aj (i:=2) fM.nd b8)))) (ah (ak (ag 2))))),λds S k h=>?_⟩)
 ·obtain⟨_,_,rfl,_⟩:=h
  rfl
 ·obtain⟨ms,os,rfl,hw,hl,hc,ho,hd,w⟩:=h;refine⟨ms,os,rfl,hw,hl,hc,ho,hd,λpre s post ps em hst jf S1 e1=>.inl ⟨f',?_⟩,λpre s post ps em hst js S1 e1=>.inr ⟨xf_NoField_Stuck,jp,rfl,_,rfl,?_⟩,λps S1 q hst hok e1 h1=>?_⟩
  ·exact w .fld (.str "field") S1 (by rw [em]; exact hst.run (.fld jf)) (λ_ e=>by cases e) rfl e1
  ·exact w (.stk pre.length) _ S1 (by rw [em]; exact hst.run (.stk js)) (λ_ e=>by cases e) rfl e1
  ·have r:=hst.run (.nil);rw [GI] at r;exact w (.pts ps) (.ref q) S1 r (λps' e=>by cases e; exact⟨hst,λp hp=>(hok p hp).mono hc⟩) ⟨q,rfl,h1⟩ e1
def jj:ca:=λds S k=>∃ (ms:List aU) (a b:Rat) (z:Nat),ds=[MD ms,W a b]/\z=0/\(∀ s∈ms,wY s)/\ms.length<=7/\Sz 4 a/\Sz 4 b/\∀ S',cK S S'->k (MD (ms.map (yQ a b))) S'
theorem dB:ar ["machine","way","found","step"] ["machine","way"] (ai gq):=eu
theorem l' (Fn:FN K "_law_shifted" gq f fd) (gE:aW P w K mg base "_law_plus" 3 lR) (dE:mg "tuple"=none):
  aJ P w K mg base cJ 4 f fd ["machine","way"] (cV K jj):=by
 refine Fn.okJ dB (λds S k h=>?_) (λcdv A outer s H E hr=>⟨_,(af (aj (i:=2) dB.nd (dj ac)) (af (eY PassesOwn.never rfl (ag 0) (aQ (i:=3) dB.nd) (af (aA (aw fy (aT 3) b8 (aE _)) (ah (aj (i:=3) dB.nd (aD (aa b8 (aa (dq gE hr (aa (aT 3) (aa (aT 1) ac))) (aa (dq gE hr (aa (aT 3) (aa (aT 1) ac))) ac)))))) aF) (ah (bo (fA (ag 2) (ag 3)))))) (ah (ak (kq mr rfl dE kB (az 2 ac)))))),λds S k h=>?_⟩)
 ·obtain⟨_,_,_,_,rfl,_⟩:=h
  rfl
 ·obtain⟨ms,a,b,z,rfl,_,h4,hl,sa,sb,w⟩:=h;refine⟨dM,λq hq=>⟨(ms.map aU.d,none),rfl,?_⟩⟩
  refine fe (λr L S'=>∃ (m1 m2:List aU) (l3:Hn D),L=[some (MD ms),some (W a b),some (.ref q),l3]/\cK S S'/\S' q=some (.lst ((m1.map (yQ a b)).map aU.d))/\r=m2.map aU.d/\ms=m1++m2) (λ_ _ _ _=>trivial) ?_ ?_ _ _ _ ⟨[],ms,none,rfl,cK.new hq,aq,rfl,rfl⟩
  ·rintro d r L S1 N1 ⟨m1,m2,l3,rfl,e1,h1,er,em⟩ hN;cases m2 with
   | nil=>cases er
   | cons s m2=>
    cases er;have lm:ms.length=m1.length+(m2.length+1):=by rw [em,GH]; rfl
    have lt:((m1.map (yQ a b)).map aU.d).length < sizeLine:=by rw [Gr,Gr]; exact nY (by omega)
    have f4:wY s:=h4 s (by rw [em]; simp)
    have nxt:∀ (l3:Hn D),N1 [some (MD ms),some (W a b),some (.ref q),l3] (put S1 q (.lst ((m1.map (yQ a b)).map aU.d++[(yQ a b s).d]))):=λl3=>hN _ _ ⟨m1++[s],m2,l3,rfl,e1.put hq,by rw [aq,List.map_append,List.map_append]; rfl,rfl,by rw [em,List.append_assoc]; rfl⟩
    cases s with
    | fix x y=>
     obtain⟨sx,sy⟩:=f4 x y rfl;refine⟨_,_,_,_,_,rfl,cf x a,sx.num.mono (by decide),sx.den.mono (by decide),sa.num.mono (by decide),sa.den.mono (by decide),pI x a,?_⟩
     exact⟨_,_,_,_,_,rfl,cf y b,sy.num.mono (by decide),sy.den.mono (by decide),sb.num.mono (by decide),sb.den.mono (by decide),pI y b,dM,⟨_,h1⟩,_,h1,lt,nxt _⟩
    | crank i l=>exact⟨⟨_,h1⟩,_,h1,lt,nxt _⟩
    | pair i j s t v=>exact⟨⟨_,h1⟩,_,h1,lt,nxt _⟩
    | like i j c l=>exact⟨⟨_,h1⟩,_,h1,lt,nxt _⟩
  ·rintro L S1 ⟨m1,m2,l3,rfl,e1,h1,er,em⟩;cases m2 with
   | cons s m2=>cases er
   | nil=>
    rw [GI] at em;subst em;exact⟨_,h1,w S1 e1⟩
def iW:ca:=λds S k=>∃ (ms:List aU),ds=[MD ms]/\ms.length<=7/\∀ S',cK S S'->k (MD (ms.map ze)) S'
theorem bE:ar ["machine","found","step"] ["machine"] (ai fE):=eu
theorem lh (Fn:FN K "_law_mirrored" fE f fd) (cQ:aW P w K mg base "_law_less" 1 jc) (dE:mg "tuple"=none):
  aJ P w K mg base cJ 2 f fd ["machine"] (cV K iW):=by
 refine Fn.okJ bE (λds S k h=>?_) (λcdv A outer s H E hr=>⟨_,(af (aj (i:=1) bE.nd (dj ac)) (af (eY PassesOwn.never rfl (ag 0) (aQ (i:=2) bE.nd) (af (aA (aw fy (aT 2) b8 (aE _)) (ah (aj (i:=2) bE.nd (aD (aa b8 (aa (aT 2) (aa (dq cQ hr (aa (aT 2) ac)) ac)))))) (ah (aA (aw fy (aT 2) b8 (aE _)) (ah (aj (i:=2) bE.nd (aB dh (jI (ag 2) cm (cu am)) (aD (aa (aB m5 am (aT 2)) ac))))) (ah (aA (aw fy (aT 2) b8 (aE _)) (ah (aj (i:=2) bE.nd (aB dh (jI (ag 2) cm (cu am)) (aD (aa (dq cQ hr (aa (aT 2) ac)) ac))))) aF))))) (ah (bo (fA (ag 1) (ag 2)))))) (ah (ak (kq mr rfl dE kB (az 1 ac)))))),λds S k h=>?_⟩)
 ·obtain⟨_,rfl,_⟩:=h
  rfl
 ·obtain⟨ms,rfl,hl,w⟩:=h;refine⟨dM,λq hq=>⟨(ms.map aU.d,none),rfl,?_⟩⟩
  refine fe (λr L S'=>∃ (m1 m2:List aU) (l3:Hn D),L=[some (MD ms),some (.ref q),l3]/\cK S S'/\S' q=some (.lst ((m1.map ze).map aU.d))/\r=m2.map aU.d/\ms=m1++m2) (λ_ _ _ _=>trivial) ?_ ?_ _ _ _ ⟨[],ms,none,rfl,cK.new hq,aq,rfl,rfl⟩
  ·rintro d r L S1 N1 ⟨m1,m2,l3,rfl,e1,h1,er,em⟩ hN;cases m2 with
   | nil=>cases er
   | cons s m2=>
    cases er;have lm:ms.length=m1.length+(m2.length+1):=by rw [em,GH]; rfl
    have lt:((m1.map ze).map aU.d).length < sizeLine:=by rw [Gr,Gr]; exact nY (by omega)
    have nxt:∀ (l3:Hn D),N1 [some (MD ms),some (.ref q),l3] (put S1 q (.lst ((m1.map ze).map aU.d++[(ze s).d]))):=λl3=>hN _ _ ⟨m1++[s],m2,l3,rfl,e1.put hq,by rw [aq,List.map_append,List.map_append]; rfl,rfl,by rw [em,List.append_assoc]; rfl⟩
    have le:∀ m n:Nat,m<=10->n<=10->m+n<=sizeLine:=λm n h1 h2=>Nat.le_of_lt (nY (by omega))
    cases s with
    | fix x y=>exact⟨y,rfl,dM,⟨_,h1⟩,_,h1,lt,nxt _⟩
    | crank i l=>exact⟨⟨_,h1⟩,_,h1,lt,nxt _⟩
    | pair i j s t v=>exact⟨dM,(λz=>by cases z),(λz=>by cases z),le 5 1 (by decide) (by decide),⟨_,h1⟩,_,h1,lt,nxt _⟩
    | like i j c l=>exact⟨l,rfl,dM,(λz=>by cases z),(λz=>by cases z),le 4 1 (by decide) (by decide),⟨_,h1⟩,_,h1,lt,nxt _⟩
  ·rintro L S1 ⟨m1,m2,l3,rfl,e1,h1,er,em⟩;cases m2 with
   | cons s m2=>cases er
   | nil=>
    rw [GI] at em;subst em;exact⟨_,h1,w S1 e1⟩
theorem kS {α:Type} {f g:α->D} {all:List α} {S:DH} {p:Hm} {ok:DH->Prop} {bd:DB} {k:DK} {L1:Lo} (hp:S p=none) (hok:∀ S',cK S S'->ok S')
  (hbd:∀ (x:α) (S':DH) (k':Hn D->DH->Prop),x∈all->cK S S'->k' (some (g x)) S'->bd (some (f x)::L1) S' k'):
  ∀ (r:List α) (acc:List D) (l0:Hn D),(∀ x∈r,x∈all)->acc.length+r.length<=100->(∀ S',cK S S'->S' p=some (.lst (acc++r.map g))->k (.ref p) S')->dL ok p (nc 0) bd k (r.map f) acc (l0::L1) (put S p (.lst acc))
 | [],acc,l0,_,_,w=>⟨hok _ (cK.new hp),w _ (cK.new hp) (by rw [aq]; simp)⟩
 | x::r,acc,l0,hr,hl,w=>by
  have hl:acc.length+(r.length+1)<=100:=hl;refine⟨hok _ (cK.new hp),hbd x _ _ (hr x Gy) (cK.new hp) ⟨aq,nY (by omega),?_⟩⟩
  rw [qi];exact kS hp hok hbd r _ _ (λy hy=>hr y (Gz _ hy)) (by rw [GH]; show acc.length+1+r.length<=100; omega) λS' e h=>w S' e (by rw [h,List.append_assoc]; rfl)
theorem mM {m:Nat} {n:Gn} (h:Dl m n) (hm:m<=6700000):∃ u b,Fd u/\gD n=N u n.1 b/\Sz 2 b/\ss b*u=n.2:=by
 by_cases z:n.2=0
 ·refine⟨2,0,sN,?_,Sz.zero.mono (by decide),by rw [z,bI,Rat.zero_mul]⟩
  unfold N;rw [bI,Rat.zero_mul,<- z]
 ·have fd:Fd (ab n.2):=⟨pe z,h.no.resolve_left z,h.u.ab.mono hm⟩;have one:ss 1=1:=by rw [ic (by decide)]; exact Rat.mul_one 1
  by_cases neg:n.2 < 0
  ·have e:ss (-1)*ab n.2=n.2:=by
    rw [df,one];unfold ab;rw [if_pos neg];grind
   exact⟨ab n.2,-1,fd,by unfold N; rw [e],⟨by decide,by decide⟩,e⟩
  ·have e:ss 1*ab n.2=n.2:=by
    rw [one];unfold ab;rw [if_neg neg];grind
   exact⟨ab n.2,1,fd,by unfold N; rw [e],⟨by decide,by decide⟩,e⟩
theorem Fj:vN 5<=6700000:=by decide
def FW (b:Hx) (x y:Rat):Pt->Pt:=if b=true then iX else j0 x y
def jX:ca:=λds S k=>∃ (t:Tl) (d:D) (x y:Rat) (b:Hx),ds=[d,W x y,.bl b]/\TD S t d/\(∀ ps,t=.pts ps->ps.length<=7/\∀ p∈ps,lH 5 p)/\Sz 4 x/\Sz 4 y/\∀ d' S',TD S' (t.map (FW b x y)) d'->cK S S'->k d' S'
theorem mQ:ar ["told","way","turn"] ["told","way","turn"] (ai gT):=eu
theorem nI (Fn:FN K "_law_points" gT f fd) (aX:aW P w K mg base "root_minus" 39 eA) (eH:aW P w K mg base "_law_plain" 1 kY) (aM:aW P w K mg base "root_plus" 38 fg) (db:mg "isinstance"=none) (k_:mg "list"=none):
  aJ P w K mg base cJ 40 f fd ["told","way","turn"] (cV K jX):=by
 refine Fn.okJ mQ (λds S k h=>?_) (λcdv A outer s H E hr=>⟨_,(af (aA (fK (bZ (bp xr rfl db jW (az 0 (aa (Aq (n:=.lst) rfl k_ tj) ac))))) (ah (ak (ag 0))) aF) (af (aA (bZ (ag 2)) (ah (ak (nz rfl (jq (N:=["point"]) (cap:=[none]) rfl rfl rfl rfl trivial rfl rfl trivial) (ag 0) (λ_ _ _ _=>(aQ (i:=0) (show List.Nodup (["point"]:List Str) from by decide +kernel))) (λ_ _ _ _=>(aD (aa (aT 0) (aa (dq aX hr (aa (dq eH hr (aa (aD (aa am (aa am ac))) ac)) (aa (aT 0) ac))) ac))))))) aF) (ah (ak (nz rfl (jq (N:=["point","way"]) (cap:=[none,some 1]) rfl rfl rfl rfl ⟨rfl,trivial⟩ rfl rfl ⟨⟨rfl,.inl rfl,.inl rfl⟩,trivial⟩) (ag 0) (λ_ _ _ _=>(aQ (i:=0) (show List.Nodup (["point","way"]:List Str) from by decide +kernel))) (λ_ _ _ _=>(aD (aa (dq aM hr (aa (aT 0) (aa (dq eH hr (aa (aT 1) ac)) ac))) (aa (dq aM hr (aa (aT 0) (aa (dq eH hr (aa (aT 1) ac)) ac))) ac))))))))),λds S k h=>?_⟩)
 ·obtain⟨_,_,_,_,_,rfl,_⟩:=h
  rfl
 ·obtain⟨t,d,x,y,b,rfl,ht,hj,sx,sy,w⟩:=h;cases t with
  | fld=>
   cases ht;exact⟨_,rfl,w _ S rfl (cK.refl S)⟩
  | stk n=>
   cases ht;exact⟨_,rfl,w _ S rfl (cK.refl S)⟩
  | pts ps=>
   obtain⟨p,rfl,h1⟩:=ht;obtain⟨l7,hok⟩:=hj ps rfl;have ty:C4 S (.ref p)=some .lst:=by show Eg (S p)=some Ty.lst; rw [h1]; rfl
   refine⟨_,ty,?_⟩;cases b with
   | true=>
    refine⟨(ps.map gP,some p),by simp only [aY,h1],λq hq=>?_⟩
    refine kS (f:=gP) (g:=λr=>gP (iX r)) (all:=ps) hq (λS' e=>e _ _ h1) (λr S' k' hr e z=>?_) ps [] none (λ_ h=>h) (by show 0+ps.length<=100; omega) λS' e h2=>w _ S' ⟨q,rfl,?_⟩ e
    ·obtain⟨u,b,fd,e1,sb,e2⟩:=mM (hok r hr).pok.2 Fj;refine⟨dM,0,rfl,u,0,0,r.2.1,b,by rw [<- e1]; exact congrArg (λt=>[t,_]) (du (u:=u)),fd,⟨Sz.zero.mono (by decide),Sz.zero.mono (by decide)⟩,⟨(hok r hr).cd.sy.mono (by decide),sb.mono (by decide)⟩,dM,?_⟩
     have eq:D.tup [gD r.1,N u (0 - r.2.1) (0 - b)]=gP (iX r):=by
      show D.tup [gD r.1,.tup [fr (0 - r.2.1),fr (ss (0 - b)*u)]]=D.tup [gD (r.1.1,r.1.2),.tup [fr (-r.2.1),fr (-r.2.2)]]
      rw [show (0:Rat) - b=-b by grind,df,Rat.neg_mul,e2,show(0:Rat) - r.2.1=-r.2.1 by grind]
     show k' (some (D.tup [gD r.1,N u (0 - r.2.1) (0 - b)])) S'
     rw [eq];exact z
    ·rw [h2,List.nil_append,List.map_map]
     rfl
   | false=>
    refine⟨(ps.map gP,some p),by simp only [aY,h1],λq hq=>?_⟩
    refine kS (f:=gP) (g:=λr=>gP (j0 x y r)) (all:=ps) hq (λS' e=>e _ _ h1) (λr S' k' hr e z=>?_) ps [] none (λ_ h=>h) (by show 0+ps.length<=100; omega) λS' e h2=>w _ S' ⟨q,rfl,?_⟩ e
    ·obtain⟨u,b,fd,e1,sb,e2⟩:=mM (hok r hr).pok.1 Fj;obtain⟨v,c,fd2,f1,sc,f2⟩:=mM (hok r hr).pok.2 Fj;refine⟨x,rfl,u,r.1.1,b,x,0,by rw [<- e1]; exact congrArg (λt=>[_,t]) (du (u:=u)),fd,⟨(hok r hr).cd.sx.mono (by decide),sb.mono (by decide)⟩,⟨sx.mono (by decide),Sz.zero.mono (by decide)⟩,?_⟩
     refine⟨y,rfl,v,r.2.1,c,y,0,by rw [<- f1]; exact congrArg (λt=>[_,t]) (du (u:=v)),fd2,⟨(hok r hr).cd.sy.mono (by decide),sc.mono (by decide)⟩,⟨sy.mono (by decide),Sz.zero.mono (by decide)⟩,dM,?_⟩
     have eq:D.tup [N u (r.1.1+x) (b+0),N v (r.2.1+y) (c+0)]=gP (j0 x y r):=by
      show D.tup [.tup [fr (r.1.1+x),fr (ss (b+0)*u)],.tup [fr (r.2.1+y),fr (ss (c+0)*v)]]=D.tup [.tup [fr (r.1.1+x),fr r.1.2],.tup [fr (r.2.1+y),fr r.2.2]]
      rw [Rat.add_zero,Rat.add_zero,e2,f2]
     show k' (some (D.tup [N u (r.1.1+x) (b+0),N v (r.2.1+y) (c+0)])) S'
     rw [eq];exact z
    ·rw [h2,List.nil_append,List.map_map]
     rfl
theorem ul {α:Type} {f:α->D} {l:List α} {k:Nat} (h:k<=l.length):DL.eU (l.map f) none (some ((k:Nat):Int))=(l.take k).map f:=by
 unfold DL.eU;have h1:HT.cS (l.map f).length 0 none=0:=rfl;have h2:HT.cS (l.map f).length (l.map f).length (some ((k:Nat):Int))=k:=by
  unfold HT.cS;simp only [Gr];rw [if_neg (by omega)]
  simp;omega
 rw [h1,h2];simp [List.map_take]
theorem pE {bd:DB} {k:DK} {S:DH} {p:Hm} {L1:Lo} (hp:S p=none) (hbd:∀ (s:aU) (S':DH) (k':Hn D->DH->Prop),k' (if s.isCr=true then some s.d else none) S'->bd (some s.d::L1) S' k'):
  ∀ (r acc:List aU) (l0:Hn D),acc.length+r.length<=100->(∀ S',cK S S'->S' p=some (.lst ((acc++r.filter aU.isCr).map aU.d))->k (.ref p) S')->dL (λ_=>True) p (nc 0) bd k (r.map aU.d) (acc.map aU.d) (l0::L1) (put S p (.lst (acc.map aU.d)))
 | [],acc,l0,_,w=>⟨trivial,w _ (cK.new hp) (by rw [aq]; simp)⟩
 | s::r,acc,l0,hl,w=>by
  have hl:acc.length+(r.length+1)<=100:=hl;refine⟨trivial,hbd s _ _ ?_⟩
  by_cases hf:s.isCr=true
  ·rw [if_pos hf];refine⟨aq,by rw [Gr]; exact nY (by omega),?_⟩
   rw [qi];have e:acc.map aU.d++[s.d]=(acc++[s]).map aU.d:=by rw [List.map_append]; rfl
   rw [e];refine pE hp hbd r (acc++[s]) _ (by rw [GH]; show acc.length+1+r.length<=100; omega) λS' e h=>w S' e ?_
   rw [h,List.filter_cons,if_pos hf,List.append_assoc]
   rfl
  ·rw [if_neg hf];refine pE hp hbd r acc _ (by omega) λS' e h=>w S' e ?_
   rw [h,List.filter_cons,if_neg hf]
theorem B7 (l:List aU):(l.filter aU.isCr).length=g9 l:=(List.countP_eq_length_filter ..).symm
theorem FL {ms:List aU} (hw:Wf ms) (hl:ms.length<=7) (h0:∃ x y,ms[0]?=some (.fix x y)):nQ ms<=5:=by
 obtain⟨x,y,h0⟩:=h0
 match ms,h0 with
 | [a],h0=>
  have h0:some a=_:=h0;cases h0
  show 0<=5
  decide
 | a::b::r,h0=>
  have h0:some a=_:=h0;cases h0;have hl:r.length+1+1<=7:=hl;have hb:b.isCx=false:=by
   have so:=hw 1 b rfl;cases b with
   | fix x y=>rfl
   | crank i l=>rfl
   | pair i j s t v=>
    obtain⟨h1,h2,h3,_⟩:=so;have h1:i < 1:=h1;have h2:j < 1:=h2;omega
   | like i j a l=>
    obtain⟨h1,h2,h3,_⟩:=so;have h1:i < 1:=h1;have h2:j < 1:=h2;omega
  have:=List.countP_le_length (p:=aU.isCx) (l:=r);unfold nQ;rw [List.countP_cons,List.countP_cons,hb]
  show r.countP aU.isCx+0+0<=5
  omega
theorem Wf.take {ms:List aU} (hw:Wf ms) (k:Nat):Wf (ms.take k):=λj s h=>by
 have hj:j < k:=by
  have:=(GW.mp h).1;rw [List.length_take] at this;omega
 rw [List.getElem?_take_of_lt hj] at h;rw [List.take_take,Nat.min_eq_left (by omega)]
 exact hw j s h
theorem Wf.map {ms:List aU} {g:aU->aU} (hw:Wf ms) (h:∀ (k:Nat) (s:aU),ms[k]?=some s->ln (ms.take k) s->ln ((ms.take k).map g) (g s)):Wf (ms.map g):=λk s hk=>by
 rw [GP] at hk;cases e:ms[k]? with
 | none=>rw [e] at hk; cases hk
 | some s0=>
  rw [e] at hk;cases hk;rw [<- List.map_take];exact h k s0 e (hw k s0 e)
theorem Wf.shift {ms:List aU} {a b:Rat} (hw:Wf ms) (h4:∀ s∈ms,wY s) (sa:Sz 4 a) (sb:Sz 4 b):Wf (ms.map (yQ a b)):=hw.map λk s hk so=>by
 cases s with
 | fix x y=>
  obtain⟨sx,sy⟩:=h4 _ (List.mem_of_getElem? hk) x y rfl;exact⟨sx.add sa,sy.add sb⟩
 | crank i l=>
  obtain⟨⟨x,y,h⟩,h2⟩:=so;exact⟨⟨x+a,y+b,by rw [GP,h]; rfl⟩,h2⟩
 | pair i j s t v=>
  obtain⟨h1,h2,h3⟩:=so;exact⟨by rw [Gr]; exact h1,by rw [Gr]; exact h2,h3⟩
 | like i j c l=>
  obtain⟨h1,h2,h3⟩:=so;exact⟨by rw [Gr]; exact h1,by rw [Gr]; exact h2,h3⟩
theorem Wf.mirror {ms:List aU} (hw:Wf ms):Wf (ms.map ze):=hw.map λk s hk so=>by
 cases s with
 | fix x y=>exact⟨so.1,so.2.neg⟩
 | crank i l=>
  obtain⟨⟨x,y,h⟩,h2⟩:=so;exact⟨⟨x,-y,by rw [GP,h]; rfl⟩,h2⟩
 | pair i j s t v=>
  obtain⟨h1,h2,h3,h5,h6,h7,h8,h9⟩:=so;exact⟨by rw [Gr]; exact h1,by rw [Gr]; exact h2,h3,h5,h6,h7,h8,by omega⟩
 | like i j c l=>
  obtain⟨h1,h2,h3,h5,h6⟩:=so;exact⟨by rw [Gr]; exact h1,by rw [Gr]; exact h2,h3,h5,h6.neg⟩
theorem mw {f:aU->Hx} {g:aU->aU} (h:∀ s,f (g s)=f s) (ms:List aU):(ms.map g).countP f=ms.countP f:=by
 rw [List.countP_map]
 congr 1
 funext s
 exact h s
theorem AL {ps:List Pt} {n:Int} {r:List D} (e:ps.map gP=.int n::r):False:=by
 cases ps with
 | nil=>cases e
 | cons p ps=>
  rw [List.map_cons] at e;injection e with e _
  cases e
theorem zF {i j m:Int} {S:DH} {k:DK} (e:i+j=m) (h:k (.int m) S):B5 (.int i) (.int j) S k:=by subst e; exact h
def qO:ca:=λds S k=>∃ ns:List Int,ds=[.rl (List.map D.int ns)]/\ns.length<=63/\∀ S',k (.bl true) S'
theorem gR:ar ["script","k","state","machine","drives","way","told","turned_about","at","cranks"] ["script"] (ai xx):=eu
theorem Bz (Fn:FN K "law" xx f fd) (iJ:aW P w K mg base "_law_state" 2 ko) (fT:aW P w K mg base "_law_machine" 5 ji) (gU:aW P w K mg base "_law_drives" 4 jU) (aN:aW P w K mg base "_law_small" 3 fL) (dY:aW P w K mg base "_law_told" 43 jb) (fU:aW P w K mg base "_law_shifted" 4 jj) (fb:aW P w K mg base "_law_points" 40 jX) (cQ:aW P w K mg base "_law_less" 1 jc) (fx:aW P w K mg base "_law_mirrored" 2 iW) (au:aW P w K mg base "_law_take" 1 cb) (fc:mg "range"=none) (vT:mg "max"=none) (wX:mg "min"=none) (dR:mg "len"=none) (dE:mg "tuple"=none) (db:mg "isinstance"=none) (k_:mg "list"=none):
  aJ P w K mg base cJ 44 f fd ["script"] (cV K qO):=by
 refine Fn.okJ gR (λds S k h=>?_) (λcdv A outer s H E hr=>⟨_,(af (oM PassesOwn.never rfl rfl fc (aa (bp Di rfl vT Bw (aa am (aa (bp Cy rfl wX A1 (aa (bp gS rfl dR gX (az 0 ac)) (aa am ac))) ac))) ac) (aQ (i:=1) gR.nd) (af (aj (i:=2) gR.nd (dq iJ hr (az 0 (az 1 ac)))) (af (aj (i:=3) gR.nd (dq fT hr (az 2 ac))) (af (aj (i:=4) gR.nd (dq gU hr (az 2 (az 3 ac)))) (af (aj (i:=5) gR.nd (aD (aa (dq aN hr (az 2 ac)) (aa (dq aN hr (az 2 ac)) ac)))) (af (aj (i:=6) gR.nd (dq dY hr (az 3 (az 4 ac)))) (af (aA (aw (xU hr) (dq dY hr (aa (dq fU hr (az 3 (az 5 ac))) (az 4 ac))) (dq fb hr (az 6 (az 5 (aa kU ac)))) (aE _)) (ah (ak kU)) aF) (af (aj (i:=7) gR.nd (kq mr rfl dE kB (aa (nz rfl (jq (N:=["drive"]) (cap:=[none]) rfl rfl rfl rfl trivial rfl rfl trivial) (ag 4) (λ_ _ _ _=>(aQ (i:=0) (show List.Nodup (["drive"]:List Str) from by decide +kernel))) (λ_ _ _ _=>(oG (aw uT (ag 0) eR (aE _)) eR (dq cQ hr (az 0 ac))))) ac))) (af (aA (aw (xU hr) (dq dY hr (aa (dq fx hr (az 3 ac)) (az 7 ac))) (dq fb hr (az 6 (az 5 (aa kU ac)))) (aE _)) (ah (ak kU)) aF) (ah (aA (bZ (bp xr rfl db jW (az 6 (aa (Aq (n:=.lst) rfl k_ tj) ac)))) (af (aj (i:=8) gR.nd (aB dh am (dq au hr (az 2 (aa (bp gS rfl dR gX (az 3 ac)) ac))))) (af (aj (i:=9) gR.nd (bp gS rfl dR gX (aa (ke rfl (jq (N:=["step"]) (cap:=[none]) rfl rfl rfl rfl trivial rfl rfl trivial) (EJ.or (jI (ag 3) cm (cu (ag 8))) (mj (ag 3) cm (cu (ag 8)))) (λ_ _ _ _=>(aQ (i:=0) (show List.Nodup (["step"]:List Str) from by decide +kernel))) (λ_ _ _ _=>(aw (CN hr) (aT 0) b8 (aE _))) (λ_ _ _ _=>(ag 0))) ac))) (ah (aA (aw (xU hr) (dq dY hr (aa (EJ.or (jI (ag 3) cm (cu (ag 8))) (mj (ag 3) cm (cu (ag 8)))) (aa (EJ.or (jI (ag 4) cm (cu (ag 9))) (mj (ag 4) cm (cu (ag 9)))) ac))) (EJ.or (jI (ag 6) cm (cu (ag 8))) (mj (ag 6) cm (cu (ag 8)))) (aE _)) (ah (ak kU)) aF)))) aF))))))))))) (ah (ak kU))),λds S k h=>?_⟩)
 ·obtain⟨_,rfl,_⟩:=h
  rfl
 ·obtain⟨ns,rfl,hl,w⟩:=h;have hb:∀ z:Int,0<=z->z<=63->-(2 ^ 62)<=z/\z < 2 ^ 62:=λz _ _=>by omega
  refine⟨hb _ (by split <;> (try split) <;> omega) (by rw [Gr]; split <;> (try split) <;> omega),?_⟩
  refine rA (P:=λd=>∃ i:Int,d=.int i/\0<=i) (λL S'=>∃ r1 r2 r3 r4 r5 r6 r7 r8 r9,L=[some (.rl (List.map D.int ns)),r1,r2,r3,r4,r5,r6,r7,r8,r9]) (λ_ _ _=>trivial) ?_ (λL S' _=>w S') _ ?_ _ _ ⟨_,_,_,_,_,_,_,_,_,rfl⟩
  ·rintro d L S1 Nx ⟨i,rfl,hi⟩ ⟨r1,r2,r3,r4,r5,r6,r7,r8,r9,rfl⟩ hN;refine⟨ns,i,rfl,hi,λp n0 b hp hnb=>?_⟩
   have hS:nP (put S1 p (.lst [.int n0,.bl b])) p:=⟨n0,b,aq,hnb⟩;generalize put S1 p (.lst [.int n0,.bl b])=T1 at hS ⊢;refine⟨p,rfl,hS,λms S2 hw h4 h7 h0 d2=>?_⟩
   refine⟨p,ms,rfl,d2.1,h7,λos S3 ho hd d3=>?_⟩
   refine⟨p,rfl,d3.1,λx S4 hx d4=>⟨p,rfl,d4.1,λy S5 hy d5=>⟨dM,?_⟩⟩⟩
   have c5:=FL hw h7 h0;have sok:=d5.1;refine⟨ms,os,rfl,hw,h7,c5,ho,hd,λt d S6 hr hst ht e6=>?_⟩
   have sok6:nP S6 p:=(Dr.ext sok e6).1;have done:∀ (L:Lo) (S':DH),(∃ r1 r2 r3 r4 r5 r6 r7 r8 r9,L=[some (.rl (List.map D.int ns)),r1,r2,r3,r4,r5,r6,r7,r8,r9])->Nx L S':=λL S' h=>hN L S' h
   have hpt:∀ ps,t=.pts ps->ps.length<=7/\∀ p∈ps,lH 5 p:=λps e=>⟨by rw [(hst ps e).1.len]; exact h7,(hst ps e).2⟩
   have lsh:(ms.map (yQ x y)).length<=7:=by rw [Gr]; exact h7
   have lmi:(ms.map ze).length<=7:=by rw [Gr]; exact h7
   refine⟨ms,x,y,0,rfl,rfl,h4,h7,hx.1,hy.1,λS7 e7=>?_⟩
   refine⟨ms.map (yQ x y),os,rfl,hw.shift h4 hx.1 hy.1,lsh,by unfold nQ; rw [mw (λs=>by cases s <;> rfl)]; exact c5,by unfold g9; rw [mw (λs=>by cases s <;> rfl)]; exact ho,hd,λt2 d2' S8 hr2 _ ht2 e8=>?_⟩
   refine⟨t,d,x,y,false,rfl,(ht.ext e7).ext e8,hpt,hx.1,hy.1,λd3' S9 ht3 e9=>?_⟩
   have r2:=hr.mot (shift x y) (λ_ _=>trivial)
   have eo:os.map (shift x y).d=os:=List.map_id os;rw [eo] at r2;have et2:=hr2.one r2;subst et2;refine(ht2.ext e9).ne ht3 (vA ?_);have e69:=e7.trans (e8.trans e9);have cr7:os.length<=7:=by
    have:=List.countP_le_length (p:=aU.isCr) (l:=ms);unfold g9 at ho;omega
   refine⟨(os.map rF,none),rfl,λq hq=>?_⟩
   refine kS (f:=rF) (g:=λo=>rF (Bf o)) (all:=os) hq (λ_ _=>trivial) (λo S' k' ho' e z=>?_) os [] none (λ_ h=>h) (by show 0+os.length<=100; omega) λSa ea ha=>?_
   ·cases o with
    | none=>exact z
    | some t=>exact⟨t,rfl,z⟩
   have ha:Sa q=some (.lst ((os.map Bf).map rF)):=by rw [ha,List.nil_append,List.map_map]; rfl
   refine⟨_,ha,ms,rfl,h7,λSb eb=>?_⟩
   refine⟨ms.map ze,os.map Bf,rfl,hw.mirror,lmi,by unfold nQ; rw [mw (λs=>by cases s <;> rfl)]; exact c5,by unfold g9; rw [Gr,mw (λs=>by cases s <;> rfl)]; exact ho,λo ho'=>?_,λt3 d4 Sc hr3 _ ht4 ec=>?_⟩
   ·obtain⟨o',ho2,rfl⟩:=List.mem_map.mp ho';intro t e;cases o' with
    | none=>cases e
    | some t'=>cases e; exact(hd _ ho2 t' rfl).neg
   refine⟨t,d,x,y,true,rfl,(((ht.ext e69).ext ea).ext eb).ext ec,hpt,hx.1,hy.1,λd5 Sd ht5 ed=>?_⟩
   have r3:=hr.mot mirror (λs hs=>by
    obtain⟨k,hk⟩:=List.getElem?_of_mem hs;have so:=hw k s hk;cases s with
    | pair i j s t v=>exact so.2.2.2.2.2.2.2
    | _=>trivial)
   have et3:=hr3.one r3;subst et3;refine(ht4.ext ed).ne ht5 (vA ?_);have e6d:=e69.trans (ea.trans (eb.trans (ec.trans ed)));have htd:=ht.ext e6d;have sokd:nP Sd p:=(Dr.ext sok6 e6d).1;clear ht5 ht4 ht3 ht2 hr2 hr3 r2 r3 ha;cases t with
   | fld=>
    cases ht;exact⟨_,rfl,done _ _ ⟨_,_,_,_,_,_,_,_,_,rfl⟩⟩
   | stk n=>
    cases ht;exact⟨_,rfl,done _ _ ⟨_,_,_,_,_,_,_,_,_,rfl⟩⟩
   | pts ps=>
    obtain⟨q0,rfl,hq0⟩:=htd;obtain⟨str,jok⟩:=hst ps rfl;have lps:=str.len;have ty:C4 Sd (.ref q0)=some .lst:=by show Eg (Sd q0)=some Ty.lst; rw [hq0]; rfl
    have lm:(ms.map aU.d).length=ms.length:=Gr ..;have l1:1<=ms.length:=by
     obtain⟨x,y,h0⟩:=h0;have:=(GW.mp h0).1;omega
    have pq:q0≠p:=λz=>by
     obtain⟨n,b,e,_⟩:=sokd;rw [<- z,hq0] at e;have e:=GS e;injection e with e
     exact AL e
    refine⟨_,ty,p,_,rfl,by omega,zI (by omega) (by omega),sokd,λr Se r0 r1 de=>?_⟩
    obtain⟨r,rfl⟩:=Int.eq_ofNat_of_zero_le r0;have hle:1+r<=ms.length:=by omega
    have hqe:=de.keep pq hq0;refine zF (m:=((1+r:Nat):Int)) (by omega) ?_
    generalize 1+r=at' at hle;refine .inl ⟨(DL.eU (ms.map aU.d) none (some ((at':Nat):Int)),none),rfl,λq1 hq1=>?_⟩
    show dL _ _ _ _ _ (DL.eU (ms.map aU.d) none (some ((at':Nat):Int))) [] _ _
    rw [ul hle];refine pE hq1 (λs S' k' z=>?_) (ms.take at') [] none (by show 0+(ms.take at').length<=100; rw [List.length_take]; omega) λSf ef hf=>?_
    ·cases s with
     | fix x y=>exact⟨_,rfl,z⟩
     | crank i l=>exact⟨_,rfl,z⟩
     | pair i j s t v=>exact⟨_,rfl,z⟩
     | like i j c l=>exact⟨_,rfl,z⟩
    have hf:Sf q1=some (.lst (((ms.take at').filter aU.isCr).map aU.d)):=hf;have lc:(((ms.take at').filter aU.isCr).map aU.d).length=g9 (ms.take at'):=by rw [Gr,B7]
    refine⟨_,hf,?_⟩;rw [lc];have hco:g9 (ms.take at')<=os.length:=by
     rw [ho];exact(List.take_sublist at' ms).countP_le
    refine .inl (.inl ?_)
    show jb [.tup (DL.eU (ms.map aU.d) none (some ((at':Nat):Int))),.tup (DL.eU (os.map rF) none (some ((g9 (ms.take at'):Nat):Int)))] _ _
    rw [ul hle,ul hco];refine⟨ms.take at',os.take (g9 (ms.take at')),rfl,hw.take at',by rw [List.length_take]; omega,GZ (List.take_sublist at' ms).countP_le c5,by rw [List.length_take]; omega,λo ho'=>hd o (List.mem_of_mem_take ho'),λt6 d6 Sg hr6 _ ht6 eg=>?_⟩
    have r6:=(str.pre hle).run .nil;rw [GI] at r6;have et6:=hr6.one r6;subst et6;have hqg:=eg _ _ (ef _ _ hqe);refine .inr ⟨_,hqg,λq2 hq2=>?_⟩
    rw [ul (show at'<=ps.length by omega)]
    refine(ht6.ext (cK.new hq2)).ne ⟨q2,rfl,aq⟩ (vA ?_);exact done _ _ ⟨_,_,_,_,_,_,_,_,_,rfl⟩
  ·intro d hd;obtain⟨z,_,rfl⟩:=List.mem_map.mp hd;exact⟨_,rfl,by omega⟩
theorem zp (ns:List Int) (h:ns.length<=63):qO [.rl (List.map D.int ns)] (λ_=>none) (λd _=>d=.bl true):=⟨ns,rfl,h,λ_=>rfl⟩
end My
def PySem.W.Fast.tw6861612534672344725:Unit:=()
def PySem.W.Fast.tw7199277557184780776:Unit:=()
def PySem.W.Fast.tw4665150893786944836:Unit:=()
def PySem.W.Fast.tw14221914490811882037:Unit:=()
def PySem.W.Fast.tw10694512248803070266:Unit:=()
def PySem.W.Fast.tw7631585607340359657:Unit:=()
def PySem.W.Fast.tw4474845958005113387:Unit:=()
def PySem.W.Fast.tw12465473712420656630:Unit:=()
def PySem.W.Fast.tw17359937870752878662:Unit:=()
def PySem.W.Fast.tw8729408093167989720:Unit:=()
def PySem.W.Fast.tw17690545492915404864:Unit:=()
def PySem.W.Fast.tw9530879475177718535:Unit:=()
def PySem.W.Fast.tw16622616607057073585:Unit:=()
def PySem.W.Fast.tw9286470586060228405:Unit:=()
def PySem.W.Fast.tw8571069824061530818:Unit:=()
def PySem.W.Fast.tw7631117289461176784:Unit:=()
def PySem.W.Fast.tw12158950881986208644:Unit:=()
def PySem.W.Fast.tw18268749708748666014:Unit:=()
def PySem.W.Fast.tw5388292206299813621:Unit:=()
def PySem.W.Fast.tw5846091775566820857:Unit:=()
def PySem.W.Fast.tw535831089331557708:Unit:=()
def PySem.W.Fast.tw6843840114393585948:Unit:=()
def PySem.W.Fast.tw12245575539683970225:Unit:=()
def PySem.W.Fast.tw872172335965602793:Unit:=()
def PySem.W.Fast.tw12565068244991363672:Unit:=()
def PySem.W.Fast.tw7218990268402109251:Unit:=()
def PySem.W.Fast.tw14480684839369174728:Unit:=()
def PySem.W.Fast.tw12292388163144113727:Unit:=()
def PySem.W.Fast.tw2082869368450848153:Unit:=()
def PySem.W.Fast.tw8793352327585735652:Unit:=()
def PySem.W.Fast.tw9081709985003793460:Unit:=()
def PySem.W.Fast.tw13909961348513005425:Unit:=()
def PySem.W.Fast.tw3608665617956057489:Unit:=()
def PySem.W.Fast.tw9072569184445077445:Unit:=()
def PySem.W.Fast.tw8361819006922120950:Unit:=()
def PySem.W.Fast.tw7529295360425771140:Unit:=()
def PySem.W.Fast.tw6172166226213205418:Unit:=()
def PySem.W.Fast.tw9150059345473129200:Unit:=()
def PySem.W.Fast.tw7419282726095491675:Unit:=()
def PySem.W.Fast.tw10070859590760067744:Unit:=()
def PySem.W.Fast.tw1139647474172665934:Unit:=()
def PySem.W.Fast.tw17837252663097193796:Unit:=()
def PySem.W.Fast.tw15913291973086064825:Unit:=()
def PySem.W.Fast.tw5407118433065926184:Unit:=()
def PySem.W.Fast.tw17156215301353352879:Unit:=()
def PySem.W.Fast.tw18349035048762427895:Unit:=()
def PySem.W.Fast.tw5954014062657345621:Unit:=()
def PySem.W.Fast.tw16384655212590515162:Unit:=()
def PySem.W.Fast.tw3132171262674333561:Unit:=()
def PySem.W.Fast.tw6863430177941641936:Unit:=()
def PySem.W.Fast.tw7106671341121909345:Unit:=()
def PySem.W.Fast.tw11104561043903831014:Unit:=()
def PySem.W.Fast.tw18341551085778542482:Unit:=()
def PySem.W.Fast.tw16253876636639095072:Unit:=()
def PySem.W.Fast.tw15855221009616840458:Unit:=()
def PySem.W.Fast.tw13358842221520643375:Unit:=()
def PySem.W.Fast.tw10375352090255812683:Unit:=()
def PySem.W.Fast.tw2598337813287272219:Unit:=()
def PySem.W.Fast.tw13619500881852717897:Unit:=()
def PySem.W.Fast.tw8473319014158768667:Unit:=()
def PySem.W.Fast.tw13847755819729367767:Unit:=()
def PySem.W.Fast.tw14412360815012104965:Unit:=()
def PySem.W.Fast.tw16217921845702724564:Unit:=()
def PySem.W.Fast.tw10614232375355446529:Unit:=()
def PySem.W.Fast.tw6345669972680526149:Unit:=()
def PySem.W.Fast.tw15604705578134762911:Unit:=()
def PySem.W.Fast.tw5785113559784466809:Unit:=()
def PySem.W.Fast.tw15652685474969128476:Unit:=()
def PySem.W.Fast.tw7196582655734195262:Unit:=()
def PySem.W.Fast.tw1033456966727571603:Unit:=()
def PySem.W.Fast.tw5157196077077366047:Unit:=()
def PySem.W.Fast.tw15684516573496697676:Unit:=()
def PySem.W.Fast.tw5021026442756444469:Unit:=()
def PySem.W.Fast.tw16057166115192593199:Unit:=()
def PySem.W.Fast.tw10935064018828717330:Unit:=()
def PySem.W.Fast.tw154052595029452283:Unit:=()
def PySem.W.Fast.tw4088804855279150880:Unit:=()
def PySem.W.Fast.tw7419162991868976440:Unit:=()
def PySem.W.Fast.tw15100341313867841987:Unit:=()
def PySem.W.Fast.tw17093904625256227871:Unit:=()
def PySem.W.Fast.tw9929800678675615066:Unit:=()
def PySem.W.Fast.tw4532916798521754128:Unit:=()
def PySem.W.Fast.tw3599808435163680054:Unit:=()
def PySem.W.Fast.tw17656320123411556280:Unit:=()
def PySem.W.Fast.tw7316888581285855577:Unit:=()
def PySem.W.Fast.tw15476593557956145348:Unit:=()
def PySem.W.Fast.tw10313910662851992467:Unit:=()
def PySem.W.Fast.tw5827275305063875963:Unit:=()
def PySem.W.Fast.tw17147929403183466688:Unit:=()
def PySem.W.Fast.tw16435421082709112176:Unit:=()
namespace My
open PySem PySem.Spec PyProof.Rows L2 DL HM
set_option maxHeartbeats 4000000
theorem Az {l:PySem.W.OpenLaw} {w:Ht} {K:Fg} {h:Hu} {mg:Str->Hn Hl} {fa:Hm} (X:K.In h) (G:h.Ns mainGlobals mg) (hfa:mg "law"=some (.ref fa))
  {f1 f2 f3 f4 f5 f6 f7 f8 f9 f10 f11 f12 f13 f14 f15 f16 f17 f18 f19 f20 f21 f22 f23 f24 f25 f26 f27 f28 f29 f30 f31 f32 f33 f34 f35 f36 f37 f38 f39 f40 f41 f42 f43 f44 f45 f46 f47 f48 f49 f50 f51 f52 f53 f54 f55 f56 f57 f58 f59:Hm} {cd1 cd2 cd3 cd4 cd5 cd6 cd7 cd8 cd9 cd10 cd11 cd12 cd13 cd14 cd15 cd16 cd17 cd18 cd19 cd20 cd21 cd22 cd23 cd24 cd25 cd26 cd27 cd28 cd29 cd30 cd31 cd32 cd33 cd34 cd35 cd36 cd37 cd38 cd39 cd40 cd41 cd42 cd43 cd44 cd45 cd46 cd47 cd48 cd49 cd50 cd51 cd52 cd53 cd54 cd55 cd56 cd57 cd58 cd59:Hl}
  {nM:Hm} {ve:Hn Hm} {u9:Hw (Hn Hl)} {wA:Nat} {uX uF:Tok}
  {xH:Hm} {AQ:Hn Hm} {A3:Hw (Hn Hl)} {Dk:Nat} {Bq BQ:Tok}
  {aC:Hm}
  {bw:Hm}
  {aR:Hm}
  {fi_Stuck:Hm} {cdi_Stuck:Hl}
  (d1:DI K "common_divisor" eS f1 cd1)
  (d2:DI K "ratio" pX f2 cd2)
  (d3:DI K "plus" rV f3 cd3)
  (d4:DI K "minus" qt f4 cd4)
  (d5:DI K "times" pL f5 cd5)
  (d6:DI K "over" sC f6 cd6)
  (d7:DI K "negative" j' f7 cd7)
  (d8:DI K "without_sign" gf f8 cd8)
  (d9:DI K "whole_root" iA f9 cd9)
  (d10:DI K "square_root_or_none" cF f10 cd10)
  (d11:DI K "root_in" lF f11 cd11)
  (d12:DI K "is_plain" j8 f12 cd12)
  (d13:DI K "with_sign_of" f_ f13 cd13)
  (d14:DI K "made" rZ f14 cd14)
  (d15:DI K "field_base" iH f15 cd15)
  (d16:DI K "share" p5 f16 cd16)
  (d17:DI K "joined" nF f17 cd17)
  (d18:DI K "root_negative" ft f18 cd18)
  (d19:DI K "root_plus" jg f19 cd19)
  (d20:DI K "root_minus" iS f20 cd20)
  (d21:DI K "root_times" ij f21 cd21)
  (d22:DI K "way_between" gO f22 cd22)
  (d23:DI K "plain_point" gZ f23 cd23)
  (d24:DI K "place_of" j7 f24 cd24)
  (d25:DI K "plain_way" jh f25 cd25)
  (d26:DI K "product_of_ways" eB f26 cd26)
  (d27:DI K "moved" p_ f27 cd27)
  (d28:DI K "moved_by_root" fu f28 cd28)
  (d29:DI K "both_moved" iE f29 cd29)
  (d30:DI K "square_of_unlike" cg f30 cd30)
  (d31:DI K "one_field" jd f31 cd31)
  (d32:DI K "ask_one_field" dI f32 cd32)
  (d33:DI K "circles_meet" eJ f33 cd33)
  (d34:DI K "direction_of" gs f34 cd34)
  (d35:DI K "crank_end" ju f35 cd35)
  (d36:DI K "is_plain_point" eQ f36 cd36)
  (d37:DI K "pair_point" fG f37 cd37)
  (d38:DI K "like_at" jH f38 cd38)
  (d39:DI K "_law_cell_at" fV f39 cd39)
  (d40:DI K "_law_state" iQ f40 cd40)
  (d41:DI K "_law_take" i9 f41 cd41)
  (d42:DI K "_law_divisor" fS f42 cd42)
  (d43:DI K "_law_ratio" im f43 cd43)
  (d44:DI K "_law_times" il f44 cd44)
  (d45:DI K "_law_small" ip f45 cd45)
  (d46:DI K "_law_plus" jn f46 cd46)
  (d47:DI K "_law_above" iu f47 cd47)
  (d48:DI K "_law_two_joints" eE f48 cd48)
  (d49:DI K "_law_next_step" eV f49 cd49)
  (d50:DI K "_law_machine" fY f50 cd50)
  (d51:DI K "stand" mq f51 cd51)
  (d52:DI K "_law_plain" iB f52 cd52)
  (d53:DI K "_law_less" ja f53 cd53)
  (d54:DI K "_law_drives" gY f54 cd54)
  (d55:DI K "_law_told" jl f55 cd55)
  (d56:DI K "_law_shifted" gq f56 cd56)
  (d57:DI K "_law_mirrored" fE f57 cd57)
  (d58:DI K "_law_points" gT f58 cd58)
  (d59:DI K "law" xx f59 cd59)
  (lL:PySem.W.nsIn K mainGlobals "NOUGHT"=some (some (.ref nM))) (lJ:K.lookup nM=some ⟨.type "tuple",ve,.seq #[.int 0 uX,.int 1 uF] wA,u9⟩)
  (sw:PySem.W.nsIn K mainGlobals "ONE"=some (some (.ref xH))) (rK:K.lookup xH=some ⟨.type "tuple",AQ,.seq #[.int 1 Bq,.int 1 BQ] Dk,A3⟩)
  (j4:PySem.W.nsIn K mainGlobals "NoField"=some (some (.ref aC)))
  (nk:PySem.W.nsIn K mainGlobals "Stuck"=some (some (.ref bw)))
  (lu:PySem.W.nsIn K mainGlobals "NoMeet"=some (some (.ref aR)))
  (iO:PySem.W.excIn K aC [.type "ValueError",.type "Exception",.type "BaseException",.type "object"] "ValueError.__new__"=true)
  (jE:PySem.W.excIn K aR [.type "ValueError",.type "Exception",.type "BaseException",.type "object"] "ValueError.__new__"=true)
  (ei_Stuck:EI K [.type "ValueError",.type "Exception",.type "BaseException",.type "object"] "Stuck.__init__" "step" t5 bw fi_Stuck cdi_Stuck)
  (f':PySem.W.exmOne K (.ref aC) (.ref aC)=some true)
  (jp:PySem.W.exmOne K (.ref bw) (.ref bw)=some true)
  (xf_NoField_Stuck:PySem.W.exmOne K (.ref bw) (.ref aC)=some false)
  (ss_Stuck:L2.oH K bw=true)
  (ia:PySem.W.exmOne K (.ref aR) (.ref aR)=some true)
  (hTr:l.prog.given.tree=none)
  (vV:PySem.W.nsIn K mainGlobals "abs"=some none) (vM:PySem.W.nsIn K mainGlobals "zip"=some none) (wQ:PySem.W.nsIn K mainGlobals "len"=some none) (pY:PySem.W.nsIn K mainGlobals "range"=some none) (jC:PySem.W.nsIn K mainGlobals "enumerate"=some none) (p7:PySem.W.nsIn K mainGlobals "tuple"=some none) (iF:PySem.W.nsIn K mainGlobals "isinstance"=some none) (sQ:PySem.W.nsIn K mainGlobals "list"=some none) (xE:PySem.W.nsIn K mainGlobals "max"=some none) (vX:PySem.W.nsIn K mainGlobals "min"=some none):
  ∃ fd:FuncData,(∀ (s:Hk) (v:Hl),BindsTo s fd ⟨[v],[]⟩ [("script",v)])/\∀ base:Hu,K.In base->base.Ns mainGlobals mg->nO mg base->PySem.W.CodeAll [] base->aJ l.prog w K mg base cJ 44 fa fd ["script"] (cV K qO):=by
 have e:=hfa.symm.trans (PySem.W.mg_of X G d59.a);cases e;have jZ:=G6 X G vV;have vK:=G6 X G vM;have dR:=G6 X G wQ;have fc:=G6 X G pY;have d_:=G6 X G jC;have dE:=G6 X G p7;have db:=G6 X G iF;have k_:=G6 X G sQ;have vT:=G6 X G xE;have wX:=G6 X G vX;have cU:=PySem.W.mg_of X G j4;have jG:=PySem.W.mg_of X G nk;have ib:=PySem.W.mg_of X G lu;have qi_Stuck:xP K mg "Stuck" bw:=ei_Stuck.err jG PySem.F.excBase_ValueError PySem.F.store_ValueError vU ⟨_,_,_,_,rfl⟩ (by rw [typeLookup_type,builtinLookup_eq_fast]; kernel_rfl)
 have a9:oi K mg "NOUGHT" [0,1]:=⟨nM,_,_,_,PySem.W.mg_of X G lL,lJ,rfl,rfl,GE rfl,.cons ⟨_,rfl⟩ (.cons ⟨_,rfl⟩ (.nil))⟩
 have qE:oi K mg "ONE" [1,1]:=⟨xH,_,_,_,PySem.W.mg_of X G sw,rK,rfl,rfl,GE rfl,.cons ⟨_,rfl⟩ (.cons ⟨_,rfl⟩ (.nil))⟩
 obtain⟨fd,Fn,hc,hb⟩:=d59.fn;refine⟨fd,hb,λbase _ _ hBl hCA=>?_⟩
 have zb:Bs l.prog w base:=.mk;have eX:=d1.own zb X G λ_ F _=>kO F jZ
 have dG:=d2.own zb X G λ_ F _=>xi F eX hBl hTr
 have bg:=d3.own zb X G λ_ F _=>zv F dG
 have ci:=d4.own zb X G λ_ F _=>wE F dG
 have aL:=d5.own zb X G λ_ F _=>wZ F dG
 have cA:=d6.own zb X G λ_ F _=>yh F dG
 have aI:=d7.own zb X G λ_ F _=>rj F
 have aK:=d8.own zb X G λ_ F _=>l_ F jZ
 have iR:=d9.own zb X G λ_ F _=>nX F hBl hTr
 have bL:=d10.own zb X G λ_ F _=>ik F iR
 have cX:=d11.own zb X G λ_ F _=>sj F bL
 have aH:=d12.own zb X G λ_ F _=>qP F
 have aO:=d13.own zb X G λ_ F _=>lY F aI
 have sm:=d14.own zb X G λ_ F _=>zr F cX aK bg aO a9
 have cY:=d15.own zb X G λ_ F _=>og F aK aH
 have gI:=d16.own zb X G λ_ F _=>x6 F aH cX cA aK aO a9
 have ii:=d17.own zb X G λ_ F _=>uA F aL aO
 have fq:=d18.own zb X G λ_ F _=>lA F aI
 have aM:=d19.own zb X G λ_ F _=>qv F cY bg gI ii
 have aX:=d20.own zb X G λ_ F _=>om F aM fq
 have a_:=d21.own zb X G λ_ F _=>nZ F cY gI bg aL ii
 have cy:=d22.own zb X G λ_ F _=>nH F aX
 have aV:=d23.own zb X G λ_ F _=>mV F a9
 have bJ:=d24.own zb X G λ_ F _=>qC F
 have dU:=d25.own zb X G λ_ F _=>pJ F ci
 have bv:=d26.own zb X G λ_ F _=>j_ F bg aL
 have fQ:=d27.own zb X G λ_ F _=>wa F bg aL
 have dA:=d28.own zb X G λ_ F _=>lK F aL sm aO vK
 have c_:=d29.own zb X G λ_ F _=>oq F aV aI dA
 have dP:=d30.own zb X G λ_ F _=>jO F bv
 have dn:=d30.ownX zb X G λ_ F=>i_ F bv ib jE
 have dX:=d31.own zb X G λ_ F _=>pC F aH cX cA aK
 have fv:=d32.own zb X G λ_ F _=>lB F aH dX
 have eZ:=d32.ownX zb X G λ_ F=>ky F dX aH cU iO
 have vq:=d33.own zb X G λ_ F _=>md F bJ dU dP cA bg ci aL c_ aI fQ
 have fw:=d33.ownX zb X G λ_ F=>lg F c_ aI fQ ci aL cA bg dU bJ dn
 have fZ:=d34.own zb X G λ_ F _=>mf F aI aL bg cA ci a9 qE
 have ej:=d35.own zb X G λ_ F _=>ql F aV fQ fZ bJ
 have bf:=d36.own zb X G λ_ F _=>kA F aH
 have iD:=d37.own zb X G λ_ F _=>nU F bf dR
 have gN:=d37.ownX zb X G λ_ F=>ny F bf fw dR jG qi_Stuck ib jE cU iO ia
 have lD:=d38.own zb X G λ_ F _=>r_ F fv cy aX a_ aM a9
 have kd:=d38.ownX zb X G λ_ F=>rm F aM a_ aX cy eZ a9
 have gh:=d39.own zb X G λ_ F _=>l9 F dR
 have iJ:=d40.own zb X G λ_ F _=>oy F gh
 have au:=d41.own zb X G λ_ F _=>pW F
 have gm:=d42.own zb X G λ_ F _=>ma F jZ
 have ba:=d43.own zb X G λ_ F _=>ou F gm
 have iG:=d44.own zb X G λ_ F _=>oj F ba
 have aN:=d45.own zb X G λ_ F _=>nS F ba au
 have gE:=d46.own zb X G λ_ F _=>pB F ba
 have fP:=d47.own zb X G λ_ F _=>nV F ba au
 have eK:=d48.own zb X G λ_ F _=>ka F au
 have e_:=d49.own zb X G λ_ F _=>kN F au aN fP eK iG dR fc
 have fT:=d50.own zb X G λ_ F _=>lW F au e_ fc
 have Ed:=d51.own zb X G λ_ F _=>xa F aV ej iD lD d_
 have mS:=d51.ownX zb X G λ_ F=>uC F aV ej gN kd d_
 have eH:=d52.own zb X G λ_ F _=>n9 F
 have cQ:=d53.own zb X G λ_ F _=>p0 F
 have gU:=d54.own zb X G λ_ F _=>mU F aN au dE
 have dY:=d55.own zb X G λ_ F _=>pZ F mS cU jG f' jp xf_NoField_Stuck ss_Stuck
 have fU:=d56.own zb X G λ_ F _=>l' F gE dE
 have fx:=d57.own zb X G λ_ F _=>lh F cQ dE
 have fb:=d58.own zb X G λ_ F _=>nI F aX eH aM db k_
 exact Bz Fn iJ fT gU aN dY fU fb cQ fx au fc vT wX dR dE db k_
theorem walk {l:PySem.W.OpenLaw} {q:Hq} {loose:List Str} {XP:(Str->Hn Hl)->Hu->Prop} {YP:Ht->Hu->Prop} {d:DefRec} {K:Params->Fg} (himp:importsNone q=true) (hn:l.most=some 63) (hdf:d.params.defaults=[])
  (hY:∀ (w:Ht) (h:Hu),YP w h->(K w.params).In h)
  (hnK:∀ w:Ht,PySem.W.noTabs (K w.params)=true) (hT:∀ (w:Ht) (h:Hu),YP w h->PySem.W.TabsAt [] h)
  (F:∀ (w:Ht) (mg:Str->Hn Hl) (fa:Hm) (h:Hu),(K w.params).In h->h.Ns mainGlobals mg->mg d.name=some (.ref fa)->
   ∃ fd:FuncData,(∀ (s:Hk) (u:Hl),BindsTo s fd ⟨[u],[]⟩ [("script",u)])/\∀ base:Hu,(K w.params).In base->base.Ns mainGlobals mg->nO mg base->PySem.W.CodeAll [] base->aJ l.prog w (K w.params) mg base cJ 44 fa fd ["script"] (cV (K w.params) qO)):
  PySem.W.WalkO q loose XP YP l.row.toRowW d [] (λf vs=>PySem.call f vs):=
 L2.xl (n:=63) (k:=44) (x:="script") (CX:=λ_=>cJ) (sp:=λw=>cV (K w.params) qO) himp hn (by decide) hdf ⟨rfl,by decide,by decide⟩ hY hnK hT F
  (λw H a ns hl ho hS=>DL.zB (tq:=[]) ho hS (by simp) (zp ns hl)) λ_ _ _ _ _ z=>z
end My
open PySem PySem.W PyProof.Rows
set_option maxRecDepth 100000 in
set_option maxHeartbeats 0 in
theorem PySem.Challenge.cw_hingedraw_k45_whole_machines_shifted_and_holds : PySem.Challenge.rw_hingedraw_k45_whole_machines_shifted_and.Holds := by
 w_on; o_law; k_head; (case hw=>w_witness2)
 k_fill
 refine My.walk (l := PySem.Challenge.rw_hingedraw_k45_whole_machines_shifted_and) ?imp rfl rfl (λw h Y => PySem.W.kIn_of Y) ?nK ?xs ?F
 case imp=>kernel_rfl
 case nK=>intro w; kernel_rfl
 case xs=>intro w h Y; exact λ_ h=>nomatch h
 case F=>
  intro w mg fa h KX G hmg;refine' My.Az KX G hmg ?d1 ?d2 ?d3 ?d4 ?d5 ?d6 ?d7 ?d8 ?d9 ?d10 ?d11 ?d12 ?d13 ?d14 ?d15 ?d16 ?d17 ?d18 ?d19 ?d20 ?d21 ?d22 ?d23 ?d24 ?d25 ?d26 ?d27 ?d28 ?d29 ?d30 ?d31 ?d32 ?d33 ?d34 ?d35 ?d36 ?d37 ?d38 ?d39 ?d40 ?d41 ?d42 ?d43 ?d44 ?d45 ?d46 ?d47 ?d48 ?d49 ?d50 ?d51 ?d52 ?d53 ?d54 ?d55 ?d56 ?d57 ?d58 ?d59 ?lL ?lJ ?sw ?rK ?j4 ?nk ?lu ?iO ?jE ?ei_Stuck ?f' ?jp ?xf_NoField_Stuck ?ss_Stuck ?ia ?hTr ?vV ?vM ?wQ ?pY ?jC ?p7 ?iF ?sQ ?xE ?vX
  case d1 | d2 | d3 | d4 | d5 | d6 | d7 | d8 | d9 | d10 | d11 | d12 | d13 | d14 | d15 | d16 | d17 | d18 | d19 | d20 | d21 | d22 | d23 | d24 | d25 | d26 | d27 | d28 | d29 | d30 | d31 | d32 | d33 | d34 | d35 | d36 | d37 | d38 | d39 | d40 | d41 | d42 | d43 | d44 | d45 | d46 | d47 | d48 | d49 | d50 | d51 | d52 | d53 | d54 | d55 | d56 | d57 | d58 | d59=>refine' ⟨?a,.mk ?l,?e,?k⟩; (case a=>k_is); (case l=>k_is); (case e=>k_is); (case k=>k_is)
  (case lL=>k_is)
  (case lJ=>k_is)
  (case sw=>k_is)
  (case rK=>k_is)
  (case j4=>k_is)
  (case nk=>k_is)
  (case lu=>k_is)
  (case iO=>kernel_rfl)
  (case jE=>kernel_rfl)
  (case ei_Stuck=>refine' ⟨?b,.mk ?l,?e,?k,?i⟩; (case b=>k_is); (case l=>k_is); (case e=>k_is); (case k=>k_is); (case i=>kernel_rfl))
  (case f'=>kernel_rfl)
  (case jp=>kernel_rfl)
  (case xf_NoField_Stuck=>kernel_rfl)
  (case ss_Stuck=>kernel_rfl)
  (case ia=>kernel_rfl)
  (case hTr=>exact rfl)
  (case vV=>k_is)
  (case vM=>k_is)
  (case wQ=>k_is)
  (case pY=>k_is)
  (case jC=>k_is)
  (case p7=>k_is)
  (case iF=>k_is)
  (case sQ=>k_is)
  (case xE=>k_is)
  (case vX=>k_is)
