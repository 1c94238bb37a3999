import PyProof.Rows.All
import Wide.All
import OpenK.AllK
import Wide.FinOn
import Lean
import PyProof.EqAt
import PyProof.EqKinds
import PyProof.TupleCall
import PySem.Challenge.RW_hingedraw_k91_texts_written_and_read
set_option compiler.extract_closed false
set_option genSizeOfSpec false
set_option Elab.async false
set_option linter.all false
set_option maxRecDepth 100000
set_option Elab.async false
set_option linter.all false
set_option maxRecDepth 100000
abbrev Zr:=List (List Int×Rat)
theorem Zf {α β γ:Sort _} {f:α->β->γ}:∀ a b,f a b=f a b:=λ_ _=>rfl
section
open PySem PySem.Spec PyProof.Rows
abbrev gt:=@wpAny_bind
abbrev pp:=@Heap.get?_push_of_some
abbrev JB:=@wpAny_pure
abbrev JC:=@Heap.get?_push_size
abbrev JD:=@Heap.lt_size
abbrev JE:=@Nat.le_refl
abbrev JF:=@List.mem_map
abbrev JG:=@List.length_map
abbrev JH:=@Bool.false_ne_true
abbrev JI:=@List.size_toArray
abbrev JJ:=@List.mem_cons
abbrev JK:=@Nat.ne_of_lt
abbrev JL:=@List.mem_cons_self
abbrev JM:=@List.mem_cons_of_mem
abbrev JN:=@Nat.lt_of_lt_of_le
abbrev JO:=@List.mem_append_right
abbrev JP:=@List.map_cons
abbrev JQ:=@List.length_cons
abbrev JR:=@List.find?_cons
abbrev JS:=@List.not_mem_nil
abbrev JT:=@Nat.le_of_ble_eq_true
abbrev JU:=@List.length_append
abbrev JV:=@Around.under_plainId
abbrev JW:=@List.append_nil
abbrev JX:=@wpAny_holding
abbrev JY:=@List.getElem?_eq_getElem
abbrev JZ:=@wpAny_newObj_type
abbrev J0:=@List.getElem?_map
abbrev J1:=@Option.some.inj
abbrev J2:=@codeAny_builtin
abbrev J3:=@List.getElem?_eq_some_iff
abbrev J4:=@wpAny_mono
abbrev J5:=@Nat.le_trans
abbrev J6:=@Bool.and_eq_true
abbrev J7:=@List.map_map
abbrev J8:=@PySem.mem_of_lookup
abbrev J9:=@List.nodup_cons
abbrev J_:=@PySem.W.mg_none_of
abbrev Ka:=@Int.fmod_nonneg_of_pos
abbrev Kb:=@List.drop_eq_getElem_cons
abbrev Kc:=@decide_eq_false
abbrev Kd:=@Nat.zero_le
abbrev Ke:=@Nat.lt_irrefl
abbrev Kf:=@Heap.size_push
abbrev Kg:=@List.all_eq_true
abbrev Kh:=@wpAny_callSpecial?_slot
abbrev Ki:=@Int.toNat_natCast
abbrev Kj:=@decide_eq_true_eq
abbrev Kk:=@Array.length_toList
abbrev Kl:=@Int.fmod_lt_of_pos
abbrev Km:=@Option.isSome_iff_exists
abbrev Kn:=@List.length_eq_zero_iff
end
section
open PySem PySem.Spec
abbrev Ko:=Shared
abbrev Kq:=Value
abbrev Kr:=Addr
abbrev Ks:=Option
abbrev Kt:=Expr
abbrev Ku:=Program
abbrev Kv:=Around
abbrev Kw:=World
abbrev Kx:=Heap
abbrev Ky:=Stmt
abbrev Kz:=Array
abbrev KA:=Bool
abbrev KB:=String
abbrev KC:=DictEntry
abbrev KD:=Obj
end
namespace L2
open PySem PySem.Spec PyProof.Rows
abbrev so:=Sum Int Str
def CP:so->Kq->KA
 | .inl k,v=>Value.isInt k v
 | .inr x,v=>Value.isStrOf x v
def HS (w:Kw):so->Int
 | .inl k=>hashInt k
 | .inr x=>hashStr w x
theorem bU:∀ {k:so} {v:Kq},CP k v=true->(∃ i t,k=Sum.inl i/\v=Value.int i t)\/(∃ x t,k=Sum.inr x/\v=Value.str x t)
 | .inl i,v,h=>by
  obtain⟨t,e⟩:=Value.isInt_shape (k:=i) (v:=v) h;exact .inl ⟨i,t,rfl,e⟩
 | .inr x,v,h=>by
  obtain⟨t,e⟩:=Value.isStrOf_shape (x:=x) (v:=v) h;exact .inr ⟨x,t,rfl,e⟩
theorem En (a b:Int):decide ((Sum.inl a:so)=Sum.inl b)=(a == b):=by
 by_cases e:a=b
 ·subst e; simp
 ·have h:¬ (Sum.inl a:so)=Sum.inl b:=λq=>e (Sum.inl.inj q)
  rw [Kc h];exact(beq_eq_false_iff_ne.mpr e).symm
theorem Dd (a b:Str):decide ((Sum.inr a:so)=Sum.inr b)=decide (a=b):=by
 by_cases e:a=b
 ·subst e; simp
 ·have h:¬ (Sum.inr a:so)=Sum.inr b:=λq=>e (Sum.inr.inj q)
  rw [Kc h,Kc e]
theorem Dp (a:Int) (b:Str):decide ((Sum.inl a:so)=Sum.inr b)=false:=Kc (λq=>nomatch q)
theorem DQ (a:Str) (b:Int):decide ((Sum.inr a:so)=Sum.inl b)=false:=Kc (λq=>nomatch q)
def wa (prog:Ku) (w:Kw):PySem.KeyKind prog w so where
 is:=CP
 hash:=HS w
 inj:=λv a b ha hb=>by
  rcases bU ha with ⟨i,t,rfl,rfl⟩ | ⟨x,t,rfl,rfl⟩
  ·rcases bU hb with ⟨j,u,rfl,e⟩ | ⟨y,u,rfl,e⟩
   ·injection e with e1 _; rw [e1]
   ·exact nomatch e
  ·rcases bU hb with ⟨j,u,rfl,e⟩ | ⟨y,u,rfl,e⟩
   ·exact nomatch e
   ·injection e with e1 _; rw [e1]
 byValue:=λk v h=>by
  rcases bU h with ⟨i,t,rfl,rfl⟩ | ⟨x,t,rfl,rfl⟩ <;> rfl
 pyHash:=λhv h=>by
  rcases bU hv with ⟨i,t,rfl,rfl⟩ | ⟨x,t,rfl,rfl⟩
  ·exact wpAny_pyHash_int h
  ·exact wpAny_pyHash_str h
 eqBool:=λhu hv h=>by
  rcases bU hu with ⟨i,t,rfl,rfl⟩ | ⟨x,t,rfl,rfl⟩
  ·rcases bU hv with ⟨j,u,rfl,rfl⟩ | ⟨y,u,rfl,rfl⟩
   ·rw [En] at h; exact wpAny_eqBool_int h
   ·rw [Dp] at h; exact SeqAt.EqAt.int_str i t y u _ _ _ _ h
  ·rcases bU hv with ⟨j,u,rfl,rfl⟩ | ⟨y,u,rfl,rfl⟩
   ·rw [DQ] at h; exact SeqAt.EqAt.str_int x t j u _ _ _ _ h
   ·rw [Dd] at h; exact wpAny_eqBool_str h
 «strs»:=λk x t v h=>by
  rcases bU h with ⟨i,u,rfl,e⟩ | ⟨y,u,rfl,e⟩
  ·exact nomatch e
  ·injection e with e1 _
   subst e1;cases v <;> rfl
inductive V where
 | non | bl (b:KA) | int (i:Int) | str (x:Str) | byt (b:Kz UInt8) | flt (b:UInt64) | ref (a:Kr) | ty (n:KB)
 deriving DecidableEq
def aV:V->Kq->Prop
 | .non,u=>u=Value.none
 | .bl b,u=>u=Value.bool b
 | .int i,u=>∃ t,u=Value.int i t
 | .str x,u=>∃ t,u=Value.str x t
 | .byt b,u=>∃ t,u=Value.bytes b t
 | .flt b,u=>∃ t,u=Value.float b t
 | .ref a,u=>u=Value.ref a
 | .ty n,u=>u=Value.type n
abbrev aW:List V->List Kq->Prop:=Paired aV
theorem aW.length {xs:List V} {us:List Kq} (r:aW xs us):xs.length=us.length:=Paired.length r
theorem aW.get:∀ {xs:List V} {us:List Kq} {i:Nat} {x:V},aW xs us->xs[i]?=some x->∃ u,us[i]?=some u/\aV x u
 | _,_,_,_,.nil,e=>by simp at e
 | _,_,0,_,.cons r _,e=>by simp at e; subst e; exact⟨_,rfl,r⟩
 | _,_,i+1,x,.cons _ t,e=>by
  obtain⟨u,h1,h2⟩:=aW.get (i:=i) (x:=x) t (by simpa using e)
  exact⟨u,by simpa using h1,h2⟩
theorem aW.set {x:V} {u:Kq} (r:aV x u):∀ {xs:List V} {us:List Kq} (i:Nat),aW xs us->aW (xs.set i x) (us.set i u)
 | _,_,_,.nil=>.nil
 | _,_,0,.cons _ t=>.cons r t
 | _,_,i+1,.cons q t=>.cons q (aW.set r i t)
theorem aW.append:∀ {xs ys:List V} {us ws:List Kq},aW xs us->aW ys ws->aW (xs++ys) (us++ws)
 | _,_,_,_,.nil,s=>s
 | _,_,_,_,.cons r t,s=>.cons r (aW.append t s)
theorem aW.take:∀ {xs:List V} {us:List Kq} (n:Nat),aW xs us->aW (xs.take n) (us.take n)
 | _,_,0,_=>.nil
 | _,_,_+1,.nil=>.nil
 | _,_,n+1,.cons r t=>.cons r (aW.take n t)
theorem aW.drop:∀ {xs:List V} {us:List Kq} (n:Nat),aW xs us->aW (xs.drop n) (us.drop n)
 | _,_,0,r=>r
 | _,_,_+1,.nil=>.nil
 | _,_,n+1,.cons _ t=>aW.drop n t
def GN:Ks V->Ks Kq->Prop
 | some v,some u=>aV v u
 | none,none=>True
 | _,_=>False
def KV {κ:Type}:List (κ×V)->List (κ×Kq)->Prop:=Paired fun(p:κ×V) (q:κ×Kq)=>p.1=q.1/\aV p.2 q.2
def kV:so->V
 | .inl i=>.int i
 | .inr x=>.str x
inductive HO where
 | lst (xs:List V)
 | tup (xs:List V)
 | dK (kvs:List (so×V)) | dT (kvs:List (List so×V))
 | set (S:Int->KA) (n:Nat)
 | ins (C dx:Kr) (fs:List (Str×V))
 | own (x:Kr)
 | xd (fs:List (Str×V))
 | met (f x:Kr)
 | rng (lo hi:Int)
 | frz (o:KD) (u:HO)
 | tbl (ps:Kz Kq)
 | ext (φ:Kx->Prop)
abbrev Hp:=Kr->Ks HO
def br (H:Hp) (a:Kr) (o:HO):Hp:=λb=>if b=a then some o else H b
theorem bo {H:Hp} {a:Kr} {o:HO}:br H a o a=some o:=by unfold br; rw [if_pos rfl]
theorem aO {H:Hp} {a b:Kr} {o:HO} (h:b≠a):br H a o b=H b:=by unfold br; rw [if_neg h]
theorem bN {H:Hp} {a b:Kr} {o:HO} (h:H a=some o) (h':H b=none):a≠b:=by
 intro e; subst e; rw [h] at h'; cases h'
section
variable (P:Ku) (w:Kw)
def dy (H:Hp) (h:Kx) (a:Kr):HO->Prop
 | .lst xs=>xs.length<=sizeLine/\∃ (its:List Kq) (n:Nat),aW xs its/\h.get? a=some {cls:=.type "list",data:=.seq its.toArray n}
 | .tup xs=>xs.length<=sizeLine/\∃ its:List Kq,aW xs its/\IsTup h a its.toArray
 | .dK kvs=>kvs.length<=sizeLine/\(a == sysModules)=false/\∃ vs,KV kvs vs/\h.DictOf (wa P w) a vs
 | .dT kvs=>kvs.length<=sizeLine/\(a == sysModules)=false/\∃ xs:List (List so×Kr×Kq),
   Paired (λ(p:List so×V) (q:List so×Kr×Kq)=>p.1=q.1/\H q.2.1=some (.tup (p.1.map kV))/\aV p.2 q.2.2) kvs xs/\
   ∃ o es ep,h.get? a=some o/\o.ExactDict/\o.data=.dict es ep/\es.toList=xs.map (entryOfKey (tupleKind (wa P w)))/\(xs.map (·.1)).Nodup
 | .set S n=>h.SetOf (intKind P w) a S n
 | .ins C dx fs=>H dx=some (.own a)/\fs.length<=1000/\dx≠a/\h.get? a=some (PySem.W.instObj C dx)/\
   ∃ mA,h.Ns1 dx mA/\(∀ f,GN (fs.lookup f) (mA f))/\PySem.Within mA (fs.map (·.1))
 | .own _=>∃ o,h.get? a=some o
 | .xd fs=>∃ mA,h.Ns1 a mA/\∀ f,GN (fs.lookup f) (mA f)
 | .rng lo hi=>∃ t u v,h.get? a=some {cls:=.type "range",data:=.fields #[.int lo t,.int hi u,.int 1 v]}
 | .frz o u=>h.get? a=some o/\dy H h a u
 | .tbl ps=>h.get? a=some {cls:=.none,data:=.fields ps}
 | .met f x=>h.get? a=some (PySem.W.methodObj (.ref f) (.ref x))
 | .ext φ=>φ h/\(∃ o,h.get? a=some o)/\∀ h1 h2:Kx,φ h1->(∀ o,h1.get? a=some o->h2.get? a=some o)->φ h2
def n5 (H:Hp) (h:Kx):Prop:=∀ a o,H a=some o->dy P w H h a o
end
section
variable {P:Ku} {w:Kw} {H H':Hp} {h h':Kx} {a:Kr} {o:HO}
theorem dy.lt (x:dy P w H h a o):a < h.objs.size:=by
 cases o with
 | lst xs=>obtain⟨_,_,_,_,e⟩:=x; exact JD e
 | tup xs=>obtain⟨_,_,_,p⟩:=x; exact p.lt
 | dK kvs=>obtain⟨_,_,_,_,o,_,_,e,_⟩:=x; exact JD e
 | dT kvs=>obtain⟨_,_,_,_,o,_,_,e,_⟩:=x; exact JD e
 | set S n=>obtain⟨o,_,_,_,e,_⟩:=x; exact JD e
 | ins C dx fs=>obtain⟨_,_,_,e,_⟩:=x; exact JD e
 | own y=>obtain⟨_,e⟩:=x; exact JD e
 | xd fs=>obtain⟨_,⟨_,_,_,e,_⟩,_⟩:=x; exact JD e
 | rng lo hi=>obtain⟨_,_,_,e⟩:=x; exact JD e
 | frz ob u=>obtain⟨e,_⟩:=x; exact JD e
 | tbl ps=>exact JD (show h.get? a=some _ from x)
 | met f y=>exact JD (show h.get? a=some _ from x)
 | ext φ=>obtain⟨_,⟨_,e⟩,_⟩:=x; exact JD e
theorem Paired.mapP {α β:Type} {F G:α->β->Prop}:∀ {l₁:List α} {l₂:List β},Paired F l₁ l₂->(∀ a b,F a b->G a b)->Paired G l₁ l₂
 | _,_,.nil,_=>.nil
 | _,_,.cons r t,f=>.cons (f _ _ r) (Paired.mapP t f)
theorem dy.stay (x:dy P w H h a o) (k:∀ b u,(b=a\/H b=some (.own a))->h.get? b=some u->h'.get? b=some u)
  (ho:∀ b,H b=some (.own a)->H' b=some (.own a)) (ht:∀ b xs,H b=some (.tup xs)->H' b=some (.tup xs)):dy P w H' h' a o:=by
 induction o with
 | lst xs=>obtain⟨z,its,n,r,e⟩:=x; exact⟨z,its,n,r,k _ _ (.inl rfl) e⟩
 | tup xs=>obtain⟨z,its,r,ob,e,c⟩:=x; exact⟨z,its,r,ob,k _ _ (.inl rfl) e,c⟩
 | dK kvs=>obtain⟨z,y,vs,r,ob,es,ep,e,c⟩:=x; exact⟨z,y,vs,r,ob,es,ep,k _ _ (.inl rfl) e,c⟩
 | dT kvs=>
  obtain⟨z,y,xs,r,ob,es,ep,e,c⟩:=x;exact⟨z,y,xs,Paired.mapP r λp q z=>⟨z.1,ht _ _ z.2.1,z.2.2⟩,ob,es,ep,k _ _ (.inl rfl) e,c⟩
 | set S n=>obtain⟨ob,es,ep,t,e,c⟩:=x; exact⟨ob,es,ep,t,k _ _ (.inl rfl) e,c⟩
 | ins C dx fs=>
  obtain⟨d,z,ne,e,mA,⟨od,es,ep,e2,c⟩,r⟩:=x;exact⟨ho _ d,z,ne,k _ _ (.inl rfl) e,mA,⟨od,es,ep,k _ _ (.inr d) e2,c⟩,r⟩
 | own y=>obtain⟨ob,e⟩:=x; exact⟨ob,k _ _ (.inl rfl) e⟩
 | xd fs=>obtain⟨mA,⟨od,es,ep,e,c⟩,r⟩:=x; exact⟨mA,⟨od,es,ep,k _ _ (.inl rfl) e,c⟩,r⟩
 | rng lo hi=>obtain⟨t,u,v,e⟩:=x; exact⟨t,u,v,k _ _ (.inl rfl) e⟩
 | frz ob u ih=>obtain⟨e,q⟩:=x; exact⟨k _ _ (.inl rfl) e,ih q⟩
 | tbl ps=>
  have e:h.get? a=some {cls:=.none,data:=.fields ps}:=x
  show h'.get? a=some {cls:=.none,data:=.fields ps}
  exact k a _ (.inl rfl) e
 | met f y=>
  have e:h.get? a=some (PySem.W.methodObj (.ref f) (.ref y)):=x
  show h'.get? a=some (PySem.W.methodObj (.ref f) (.ref y))
  exact k a _ (.inl rfl) e
 | ext φ=>obtain⟨p,⟨o,e⟩,st⟩:=x; exact⟨st _ _ p λo q=>k _ _ (.inl rfl) q,⟨o,k _ _ (.inl rfl) e⟩,st⟩
theorem n5.lt (x:n5 P w H h) (e:H a=some o):a < h.objs.size:=(x a o e).lt
theorem n5.fresh (x:n5 P w H h) (e:h.objs.size<=a):H a=none:=by
 cases q:H a with
 | none=>rfl
 | some u=>exact absurd (JN (x.lt q) e) (Ke _)
theorem n5.kept (x:n5 P w H h) (k:∀ b u,h.get? b=some u->h'.get? b=some u):n5 P w H h':=λa o e=>
 (x a o e).stay (λb u _ q=>k b u q) (λ_ q=>q) λ_ _ q=>q
theorem n5.laid (x:n5 P w H h) (k:∀ b u,h.get? b=some u->h'.get? b=some u) (hp:h.objs.size<=a) (new:dy P w (br H a o) h' a o):n5 P w (br H a o) h':=λb u e=>by
 have hn:=x.fresh hp
 by_cases hb:b=a
 ·subst hb; rw [bo] at e; cases e; exact new
 ·rw [aO hb] at e;exact(x b u e).stay (λc v _ q=>k c v q) (λc q=>by rw [aO (bN q hn)]; exact q) λc xs q=>by rw [aO (bN q hn)]; exact q
end
def Rd (H:Hp) (a:Kr) (u:HO):Prop:=H a=some u\/∃ o,H a=some (.frz o u)
theorem Rd.ok {P:Ku} {w:Kw} {H:Hp} {h:Kx} {a:Kr} {u:HO} (r:Rd H a u) (x:n5 P w H h):dy P w H h a u:=by
 rcases r with r | ⟨o,r⟩
 ·exact x a u r
 ·obtain⟨_,q⟩:=x a _ r;exact q
def Gq:Ks HO->Prop
 | some (.lst _)=>True
 | some (.dK _)=>True
 | some (.dT _)=>True
 | some (.set _ _)=>True
 | some (.ins _ _ _)=>True
 | some (.ext _)=>True
 | _=>False
section
variable {P:Ku} {w:Kw} {H:Hp} {h h':Kx} {x e:Kr} {o':HO}
theorem n5.write (ok:n5 P w H h) (mu:Gq (H x)) (he:e=x\/H e=some (.own x)) (k:∀ b u,b≠e->h.get? b=some u->h'.get? b=some u) (heo:∃ u,h'.get? e=some u)
  (new:dy P w (br H x o') h' x o'):n5 P w (br H x o') h':=λb u q=>by
 have nown:∀ c y,H c=some (.own y)->c≠x:=λc y r z=>by subst z; rw [r] at mu; exact mu
 have ntup:∀ c xs,H c=some (.tup xs)->c≠x:=λc xs r z=>by subst z; rw [r] at mu; exact mu
 by_cases hb:b=x
 ·subst hb; rw [bo] at q; cases q; exact new
 ·rw [aO hb] at q
  by_cases hbe:b=e
  ·have q':H b=some (.own x):=by
    rcases he with z | z
    ·exact absurd (hbe.trans z) hb
    ·rw [hbe]; exact z
   rw [q] at q'; cases q'
   obtain⟨v,hv⟩:=heo;exact⟨v,by rw [hbe]; exact hv⟩
  ·refine(ok b u q).stay (λc v hc r=>k c v ?_ r) (λc r=>by rw [aO (nown c b r)]; exact r) λc xs r=>by rw [aO (ntup c xs r)]; exact r
   rcases hc with rfl | hc
   ·exact hbe
   ·rintro rfl;rcases he with z | z
    ·exact nown c b hc z
    ·rw [hc] at z; cases z; exact hb rfl
end
structure Un (fs ex:List Kr) (H H':Hp) (h h':Kx):Prop where
 keep:∀ b o,h.get? b=some o->H b=none->b∉fs->b∉ex->h'.get? b=some o
 slot:∀ b o,h.get? b=some o->H b=none->b∈fs->b∉ex->∃ sl,h'.get? b=some {o with slots:=sl}
 free:∀ b o,h.get? b=some o->H b=none->b∉ex->H' b=none
 there:∀ b o,h.get? b=some o->b∉ex->∃ o',h'.get? b=some o'
 tups:∀ b xs,H b=some (.tup xs)->H' b=some (.tup xs)
 frzs:∀ b o u,H b=some (.frz o u)->H' b=some (.frz o u)
 tbls:∀ b ps,H b=some (.tbl ps)->∃ more,H' b=some (.tbl (ps++more))
section
variable {fs fs' ex ex':List Kr} {H H1 H2:Hp} {h h1 h2 h':Kx} {a x e:Kr} {o:HO}
theorem Un.any (u:Un fs ex H H1 h h1) {b:Kr} {ob:KD} (q:h.get? b=some ob) (n:H b=none) (hx:b∉ex):∃ sl,h1.get? b=some {ob with slots:=sl}:=by
 by_cases hb:b∈fs
 ·exact u.slot b ob q n hb hx
 ·exact⟨ob.slots,u.keep b ob q n hb hx⟩
theorem Un.trans (a:Un fs ex H H1 h h1) (b:Un fs ex H1 H2 h1 h2):Un fs ex H H2 h h2 where
 keep:=λc ob q n hc hx=>b.keep c ob (a.keep c ob q n hc hx) (a.free c ob q n hx) hc hx
 slot:=λc ob q n hc hx=>by
  obtain⟨sl,e1⟩:=a.slot c ob q n hc hx;obtain⟨sl',e2⟩:=b.slot c _ e1 (a.free c ob q n hx) hc hx;exact⟨sl',e2⟩
 free:=λc ob q n hx=>by
  obtain⟨o',e1⟩:=a.there c ob q hx;exact b.free c o' e1 (a.free c ob q n hx) hx
 there:=λc ob q hx=>by
  obtain⟨o',e1⟩:=a.there c ob q hx;exact b.there c o' e1 hx
 tups:=λc xs q=>b.tups c xs (a.tups c xs q)
 frzs:=λc ob xs q=>b.frzs c ob xs (a.frzs c ob xs q)
 tbls:=λc ps q=>by
  obtain⟨m1,e1⟩:=a.tbls c ps q;obtain⟨m2,e2⟩:=b.tbls c _ e1;exact⟨m1++m2,by rw [e2,Array.append_assoc]⟩
theorem Un.kept (k:∀ b u,h.get? b=some u->h'.get? b=some u):Un fs ex H H h h':=
 ⟨λb ob q _ _ _=>k b ob q,λb ob q _ _ _=>⟨ob.slots,k b ob q⟩,λ_ _ _ n _=>n,λb ob q _=>⟨ob,k b ob q⟩,λ_ _ q=>q,λ_ _ _ q=>q,λ_ ps q=>⟨#[],by rw [q]; simp⟩⟩
theorem Un.refl:Un fs ex H H h h:=Un.kept λ_ _ q=>q
theorem Un.laid (k:∀ b u,h.get? b=some u->h'.get? b=some u) (hp:h.objs.size<=a) (hn:H a=none):Un fs ex H (br H a o) h h' where
 keep:=λb u q _ _ _=>k b u q
 slot:=λb u q _ _ _=>⟨u.slots,k b u q⟩
 free:=λb u q n _=>by rw [aO (JK (JN (JD q) hp))]; exact n
 there:=λb u q _=>⟨u,k b u q⟩
 tups:=λb xs q=>by rw [aO (bN q hn)]; exact q
 frzs:=λb u xs q=>by rw [aO (bN q hn)]; exact q
 tbls:=λb ps q=>⟨#[],by rw [aO (bN q hn),q]; simp⟩
theorem Un.write (mu:Gq (H x)) (he:e=x\/H e=some (.own x)) (k:∀ b u,b≠e->h.get? b=some u->h'.get? b=some u) (heo:∃ u,h'.get? e=some u):Un fs ex H (br H x o) h h':=by
 have hx:∀ b,H b=none->b≠x:=λb n z=>by subst z; rw [n] at mu; exact mu
 have hb:∀ b,H b=none->b≠e:=λb n z=>by
  subst z;rcases he with r | r
  ·exact hx b n r
  ·rw [n] at r; cases r
 have hm:∀ b u,H b=some u->¬ Gq (some u)->b≠x:=λb u q nm z=>by subst z; rw [q] at mu; exact nm mu
 refine⟨λb u q n _ _=>k b u (hb b n) q,λb u q n _ _=>⟨u.slots,k b u (hb b n) q⟩,λb u q n _=>by rw [aO (hx b n)]; exact n,λb u q _=>?_,
  λb xs q=>by rw [aO (hm b _ q λz=>z)]; exact q,λb u xs q=>by rw [aO (hm b _ q λz=>z)]; exact q,λb ps q=>⟨#[],by rw [aO (hm b _ q λz=>z),q]; simp⟩⟩
 by_cases hbe:b=e
 ·subst hbe; exact heo
 ·exact⟨u,k b u hbe q⟩
end
def Ht (h:Kx) (H:Hp):List Kr:=(List.range h.objs.size).filter λa=>(H a).isSome
def rC (h:Kx) (H:Hp):Kx:=PySem.W.hideAll h (Ht h H)
theorem xW (h:Kx) (H:Hp):(rC h H).objs.size=h.objs.size:=PySem.W.hideAll_size _ _
theorem zM {h:Kx} {H:Hp} {b:Kr} {o:KD} (e:h.get? b=some o) (n:H b=none):(rC h H).get? b=some o:=
 PySem.W.hideAll_get _ e λhm=>by
  have q:(H b).isSome=true:=(List.mem_filter.mp hm).2;rw [n] at q; simp at q
theorem B7 {h:Kx} {H:Hp} {b:Kr} {o:KD} (e:(rC h H).get? b=some o):h.get? b=some o/\H b=none:=by
 have e':h.get? b=some o:=PySem.W.of_hideAll (Ht h H) e;refine⟨e',?_⟩;cases q:H b with
 | none=>rfl
 | some x=>
  have hm:b∈Ht h H:=List.mem_filter.mpr ⟨List.mem_range.mpr (JD e'),by simp [q]⟩
  have z:(rC h H).get? b=none:=PySem.W.hideAll_none (Ht h H) hm;rw [z] at e; cases e
def B2 (g h:Kx) (L:Kr):List (Kr×KD):=(List.range h.objs.size).filterMap λa=>if a=L\/(g.get? a).isSome=true then none else(h.get? a).map λo=>(a,o)
def bh (g h:Kx) (L d:Kr):List (Kr×KD):=(B2 g h L).filter λp=>decide (p.1≠d)
structure Mod (K:PySem.W.Frag) (mg:Str->Ks Kq) (base:Kx):Prop where
 kin:K.In base
 glob:base.Ns mainGlobals mg
 blt:∃ mb,base.Ns builtinsNs mb/\∀ x:Str,x≠"__name__"->mb x=bootBuiltins x
 nolimit:base.NoLimit
structure Cx where
 prog:Ku
 w:Kw
 K:PySem.W.Frag
 mg:Str->Ks Kq
 base:Kx
 A:Kv
 N:List Str
 s₀:Ko
 H₀:Hp
 env:Env
 outer:List Env
 stack:List Env
 ex:List Kr
 fn:Str->KA
 calm:KA
 pn:List (Kr×KD)
 xe:Kq->Ko->Prop
def sU (l:List Env):List Kr:=l.filterMap (·.frame)
abbrev Cx.fs (X:Cx):List Kr:=sU X.outer
def Ge (sc:Scope) (x:Str):Prop:=sc.names.lookup x=some .local\/sc.names.lookup x=some .cell\/sc.names.lookup x=some .free
def FB (sc:Scope) (x:Str):Prop:=sc.names.lookup x=some .local\/sc.names.lookup x=some .cell
def HA (env:Env) (h:Kx) (m:Str->Ks Kq) (x:Str) (u:Kq):Prop:=
 (env.kindOf x=some .local/\m x=some u)\/((env.kindOf x=some .cell\/env.kindOf x=some .free)/\∃ c,env.cells.lookup x=some c/\h.IsCell c (some u))
structure Cx.Ok (X:Cx):Prop where
 mod:Mod X.K X.mg X.base
 kind:X.env.scope.kind=.function
 glob:X.env.globals=mainGlobals
 blt:X.env.builtins=builtinsNs
 above:X.s₀.heap.objs.size<=X.env.locals
 inj:∀ x y c,X.env.cells.lookup x=some c->X.env.cells.lookup y=some c->x=y
 has:∀ x,(X.env.kindOf x=some .cell\/X.env.kindOf x=some .free)->∃ c,X.env.cells.lookup x=some c
 cab:∀ x c,X.fn x=true->X.env.cells.lookup x=some c->X.s₀.heap.objs.size<=c
 hd:X.calm=true->X.A.handled=none
 frames:X.A.frames=some X.stack
 stk:X.stack=X.outer\/(X.stack=X.env::X.outer/\X.env.frame=some X.env.locals)
 exf:∀ b∈X.ex,b≠X.env.locals/\∀ x c,X.env.cells.lookup x=some c->c≠b
 bs:∀ b o,X.base.get? b=some o->X.s₀.heap.get? b=some o/\X.H₀ b=none
 bsz:X.base.objs.size<=X.s₀.heap.objs.size
 noex:∀ b o,X.base.get? b=some o->b∉X.ex
 exfs:∀ b∈X.ex,b∉X.fs
 funs:X.s₀.heap.FunFrames X.base X.outer
 frf:∀ b∈X.fs,X.H₀ b=none
structure aE (X:Cx) (KE:List (Kr×KD)) (σ:List (Ks V)) (H:Hp) (s:Ko):Prop where
 ok:X.Ok
 os:s.os=X.s₀.os
 bare:AllBare s.gens
 base:Un X.fs X.ex X.H₀ H X.s₀.heap s.heap
 loc:∃ m,s.heap.Ns X.env.locals m/\∀ (i:Nat) (x:Str) (v:V),X.N[i]?=some x->σ[i]?=some (some v)->Ge X.env.scope x->∃ u,aV v u/\HA X.env s.heap m x u
 cell:∀ x c,X.env.cells.lookup x=some c->∃ v,s.heap.IsCell c v
 free:H X.env.locals=none
 freeC:∀ x c,X.env.cells.lookup x=some c->H c=none
 pin:∀ p∈X.pn++KE,s.heap.get? p.1=some p.2/\H p.1=none/\p.1≠X.env.locals/\p.1∉X.fs/\∀ v,p.2.data≠.cell v
 hok:n5 X.prog X.w H s.heap
 len:σ.length=X.N.length
section
variable {X:Cx} {KE:List (Kr×KD)} {σ:List (Ks V)} {H H':Hp} {s:Ko} {h':Kx}
theorem Cx.Ok.nofr (ok:X.Ok) {b:Kr} {o:KD} (e:X.base.get? b=some o):b∉X.fs:=λhb=>by
 have:=(ok.funs.mem hb).1;rw [e] at this; cases this
theorem aE.bs (I:aE X KE σ H s):∀ b o,X.base.get? b=some o->s.heap.get? b=some o/\H b=none:=λb o e=>
 ⟨I.base.keep b o (I.ok.bs b o e).1 (I.ok.bs b o e).2 (I.ok.nofr e) (I.ok.noex b o e),I.base.free b o (I.ok.bs b o e).1 (I.ok.bs b o e).2 (I.ok.noex b o e)⟩
theorem aE.bk (I:aE X KE σ H s):∀ b o,X.base.get? b=some o->s.heap.get? b=some o:=λb o e=>(I.bs b o e).1
theorem aE.mod (I:aE X KE σ H s):Mod X.K X.mg X.base:=I.ok.mod
theorem aE.kIn (I:aE X KE σ H s):X.K.In s.heap:=I.ok.mod.kin.keeps I.bk
theorem aE.lt (I:aE X KE σ H s):X.env.locals < s.heap.objs.size:=let ⟨_,hn,_⟩:=I.loc; hn.lt
theorem aE.sz (I:aE X KE σ H s):X.s₀.heap.objs.size<=s.heap.objs.size:=J5 I.ok.above (Nat.le_of_lt I.lt)
theorem aE.nofs (I:aE X KE σ H s) {a:Kr} (h:s.heap.objs.size<=a):a∉X.fs:=λhb=>by
 obtain⟨_,o,ho,_⟩:=I.ok.funs.mem hb;exact absurd (JN (JD ho) (J5 I.sz h)) (Ke _)
theorem aE.cne (I:aE X KE σ H s):∀ x c,X.env.cells.lookup x=some c->c≠X.env.locals:=λx c e z=>by
 obtain⟨v,o,ho,hd⟩:=I.cell x c e;obtain⟨m,⟨o',es,ep,ho',hd',_⟩,_⟩:=I.loc;rw [z,ho'] at ho; cases ho; rw [hd'] at hd; cases hd
theorem aE.funs (I:aE X KE σ H s):s.heap.FunFrames X.base X.outer:=by
 have all:∀ (l:List Env),(∀ b∈sU l,b∈X.fs)->X.s₀.heap.FunFrames X.base l->s.heap.FunFrames X.base l:=by
  intro l
  induction l with
  | nil=>intro _ _; trivial
  | cons env r ih=>
   intro hs hl;obtain⟨hk,⟨L,o,hf,hn,ho,hd⟩,hr⟩:=hl;have hL:L∈X.fs:=hs L (by unfold sU; rw [List.filterMap_cons,hf]; exact JL)
   obtain⟨sl,e⟩:=I.base.slot L o ho (I.ok.frf L hL) hL λz=>I.ok.exfs L z hL
   exact⟨hk,⟨L,_,hf,hn,e,hd⟩,ih (λb hb=>hs b (by unfold sU; rw [List.filterMap_cons,hf]; exact JM _ hb)) hr⟩
 exact all X.outer (λ_ hb=>hb) I.ok.funs
theorem aE.stack (I:aE X KE σ H s):s.heap.FunFrames X.base X.stack:=by
 rcases I.ok.stk with e | ⟨e,hf⟩
 ·rw [e]; exact I.funs
 ·rw [e];obtain⟨m,hn,_⟩:=I.loc;refine .cons (by rw [I.ok.kind]; decide) hf hn ?_ I.funs
  exact Heap.get?_none_of_le (J5 I.ok.bsz I.ok.above)
theorem aE.stkSub (I:aE X KE σ H s):∀ b∈sU X.stack,b∈X.env.locals::X.fs:=λb hb=>by
 rcases I.ok.stk with e | ⟨e,hf⟩
 ·rw [e] at hb; exact JM _ hb
 ·rw [e] at hb;unfold sU at hb;rw [List.filterMap_cons,hf] at hb;exact hb
theorem aE.stkFree (I:aE X KE σ H s):∀ b∈sU X.stack,H b=none:=λb hb=>by
 rcases JJ.mp (I.stkSub b hb) with e | hb
 ·rw [e]; exact I.free
 ·obtain⟨_,o,ho,_⟩:=I.ok.funs.mem hb;exact I.base.free b o ho (I.ok.frf b hb) λz=>I.ok.exfs b z hb
theorem aE.step {g':Kz GenState} {t':Nat} {d':Drawn} {ch:List Kr} (I:aE X KE σ H s)
  (hch:∀ b∈ch,(b∈X.ex\/X.s₀.heap.objs.size<=b)/\b≠X.env.locals/\(∀ x c,X.env.cells.lookup x=some c->c≠b)/\∀ p∈X.pn++KE,p.1≠b)
  (keep:∀ b o,b≠X.env.locals->b∉X.fs->b∉ch->s.heap.get? b=some o->H b=none->h'.get? b=some o)
  (slot:∀ b o,b≠X.env.locals->b∈X.fs->b∉ch->s.heap.get? b=some o->H b=none->∃ sl,h'.get? b=some {o with slots:=sl}) (free:∀ b o,b∉ch->s.heap.get? b=some o->H b=none->H' b=none)
  (there:∀ b o,b∉ch->s.heap.get? b=some o->∃ o',h'.get? b=some o')
  (tups:∀ b xs,H b=some (.tup xs)->H' b=some (.tup xs)) (frzs:∀ b o u,H b=some (.frz o u)->H' b=some (.frz o u)) (tbls:∀ b ps,H b=some (.tbl ps)->∃ more,H' b=some (.tbl (ps++more)))
  (ns:∀ m,s.heap.Ns X.env.locals m->h'.Ns X.env.locals m) (hok:n5 X.prog X.w H' h') (hg:AllBare g'):
  aE X KE σ H' {s with heap:=h',gens:=g',drawn:=d',toks:=t'}:=by
 have neL:∀ b o,X.s₀.heap.get? b=some o->b≠X.env.locals:=λb o e=>JK (JN (JD e) I.ok.above)
 have neC:∀ b o,X.s₀.heap.get? b=some o->b∉X.ex->b∉ch:=λb o e hx hb=>by
  rcases(hch b hb).1 with z | z
  ·exact hx z
  ·exact absurd (JN (JD e) z) (Ke _)
 have cellK:∀ x c,X.env.cells.lookup x=some c->∀ v,s.heap.IsCell c v->h'.IsCell c v:=λx c e v ⟨o,ho,hd⟩=>by
  have nch:c∉ch:=λz=>(hch c z).2.2.1 x c e rfl
  by_cases hc:c∈X.fs
  ·obtain⟨sl,q⟩:=slot c o (I.cne x c e) hc nch ho (I.freeC x c e);exact⟨_,q,hd⟩
  ·exact⟨o,keep c o (I.cne x c e) hc nch ho (I.freeC x c e),hd⟩
 refine⟨I.ok,I.os,hg,⟨λb o e n hb hx=>?_,λb o e n hb hx=>?_,λb o e n hx=>?_,λb o e hx=>?_,λb xs e=>tups b xs (I.base.tups b xs e),λb o xs e=>frzs b o xs (I.base.frzs b o xs e),λb ps e=>?_⟩,?_,λx c e=>?_,?_,λx c e=>?_,λp hp=>?_,hok,I.len⟩
 ·exact keep b o (neL b o e) hb (neC b o e hx) (I.base.keep b o e n hb hx) (I.base.free b o e n hx)
 ·obtain⟨sl,e1⟩:=I.base.slot b o e n hb hx;obtain⟨sl',e2⟩:=slot b _ (neL b o e) hb (neC b o e hx) e1 (I.base.free b o e n hx);exact⟨sl',e2⟩
 ·obtain⟨o',e1⟩:=I.base.there b o e hx;exact free b o' (neC b o e hx) e1 (I.base.free b o e n hx)
 ·obtain⟨o',e1⟩:=I.base.there b o e hx;exact there b o' (neC b o e hx) e1
 ·obtain⟨m1,e1⟩:=I.base.tbls b ps e;obtain⟨m2,e2⟩:=tbls b _ e1;exact⟨m1++m2,by rw [e2,Array.append_assoc]⟩
 ·obtain⟨m,hn,hl⟩:=I.loc;refine⟨m,ns m hn,λi x v e1 e2 e3=>?_⟩
  obtain⟨u,r,l⟩:=hl i x v e1 e2 e3;refine⟨u,r,?_⟩;rcases l with l | ⟨k,c,e,z⟩
  ·exact .inl l
  ·exact .inr ⟨k,c,e,cellK x c e _ z⟩
 ·obtain⟨v,z⟩:=I.cell x c e;exact⟨v,cellK x c e v z⟩
 ·obtain⟨m,⟨o,_,_,ho,_⟩,_⟩:=I.loc;exact free _ o (λz=>(hch _ z).2.1 rfl) ho I.free
 ·obtain⟨v,o,ho,hd⟩:=I.cell x c e;exact free c o (λz=>(hch c z).2.2.1 x c e rfl) ho (I.freeC x c e)
 ·obtain⟨e,n,ne,nf,d⟩:=I.pin p hp;have nch:p.1∉ch:=λz=>(hch p.1 z).2.2.2 p hp rfl
  exact⟨keep p.1 p.2 ne nf nch e n,free p.1 p.2 nch e n,ne,nf,d⟩
theorem aE.un {t':Nat} (I:aE X KE σ H s) (u:Un X.fs [] H H' s.heap h') (hok:n5 X.prog X.w H' h'):aE X KE σ H' {s with heap:=h',toks:=t'}:=by
 obtain⟨m,⟨o,es,ep,ho,r⟩,_⟩:=id I.loc;obtain⟨sl,hL⟩:=u.any ho I.free (by simp)
 exact I.step (g':=s.gens) (d':=s.drawn) (ch:=[]) (λ_ z=>nomatch z) (λb o _ hb _ e n=>u.keep b o e n hb (by simp)) (λb o _ hb _ e n=>u.slot b o e n hb (by simp)) (λb o _ e n=>u.free b o e n (by simp)) (λb o _ e=>u.there b o e (by simp)) u.tups u.frzs u.tbls (λm' hm=>by
  obtain⟨o',es',ep',ho',r'⟩:=hm;rw [ho] at ho'; cases ho'
  exact⟨_,es',ep',hL,r'⟩) hok I.bare
theorem aE.call {g':Kz GenState} {t':Nat} {d':Drawn} {ch:List Kr} (I:aE X KE σ H s) (u:Un (sU X.stack) ch H H' s.heap h') (hok:n5 X.prog X.w H' h') (hg:AllBare g')
  (hch:∀ b∈ch,(b∈X.ex\/X.s₀.heap.objs.size<=b)/\b≠X.env.locals/\(∀ x c,X.env.cells.lookup x=some c->c≠b)/\∀ p∈X.pn++KE,p.1≠b):
  aE X KE σ H' {s with heap:=h',gens:=g',drawn:=d',toks:=t'}:=by
 obtain⟨m,⟨o,es,ep,ho,r⟩,_⟩:=id I.loc;obtain⟨sl,hL⟩:=u.any ho I.free λz=>(hch _ z).2.1 rfl
 exact I.step (ch:=ch) hch (λb o hL hb hc e n=>u.keep b o e n (λz=>(JJ.mp (I.stkSub b z)).elim hL hb) hc) (λb o _ _ hc e n=>u.any e n hc) (λb o hc e n=>u.free b o e n hc) (λb o hc e=>u.there b o e hc) u.tups u.frzs u.tbls (λm' hm=>by
  obtain⟨o',es',ep',ho',r'⟩:=hm;rw [ho] at ho'; cases ho'
  exact⟨_,es',ep',hL,r'⟩) hok hg
theorem aE.turned {t':Nat} {it:Kr} (I:aE X KE σ H s) (k:∀ b o,b≠it->s.heap.get? b=some o->h'.get? b=some o) (hn:H it=none) (hL:it≠X.env.locals)
  (h1:it∈X.ex\/X.s₀.heap.objs.size<=it) (h2:∀ x c,X.env.cells.lookup x=some c->c≠it) (h3:∀ p∈X.pn++KE,p.1≠it):aE X KE σ H {s with heap:=h',toks:=t'}:=by
 have nit:∀ b u,H b=some u->b≠it:=λb u e z=>by rw [z,hn] at e; cases e
 refine I.step (g':=s.gens) (d':=s.drawn) (ch:=[it]) (λb hb=>?_) (λb o _ _ hc e _=>k b o (λz=>hc (by simp [z])) e) (λb o _ _ hc e _=>⟨o.slots,k b o (λz=>hc (by simp [z])) e⟩) (λ_ _ _ _ n=>n)
  (λb o hc e=>⟨o,k b o (λz=>hc (by simp [z])) e⟩) (λ_ _ e=>e) (λ_ _ _ e=>e) (λb ps e=>⟨#[],by rw [e]; simp⟩) (λm hm=>?_) (λb u e=>?_) I.bare
 ·have e:b=it:=by simpa using hb
  subst e;exact⟨h1,hL,h2,h3⟩
 ·obtain⟨o,es,ep,ho,r⟩:=hm;exact⟨o,es,ep,k _ o (Ne.symm hL) ho,r⟩
 ·refine(I.hok b u e).stay (λc v hc q=>k c v ?_ q) (λ_ q=>q) λ_ _ q=>q
  rcases hc with z | z
  ·rw [z]; exact nit b u e
  ·exact nit c _ z
theorem aE.tok (I:aE X KE σ H s) (t:Nat):aE X KE σ H {s with toks:=t}:=I.un (h':=s.heap) (t':=t) Un.refl I.hok
theorem aE.kept {t':Nat} (I:aE X KE σ H s) (k:∀ b u,s.heap.get? b=some u->h'.get? b=some u):aE X KE σ H {s with heap:=h',toks:=t'}:=I.un (Un.kept k) (I.hok.kept k)
theorem aE.laid {a:Kr} {o:HO} {t':Nat} (I:aE X KE σ H s) (k:∀ b u,s.heap.get? b=some u->h'.get? b=some u) (hp:s.heap.objs.size<=a) (new:dy X.prog X.w (br H a o) h' a o):
  aE X KE σ (br H a o) {s with heap:=h',toks:=t'}:=I.un (Un.laid k hp (I.hok.fresh hp)) (I.hok.laid k hp new)
theorem aE.write {x e:Kr} {o:HO} {t':Nat} (I:aE X KE σ H s) (mu:Gq (H x)) (he:e=x\/H e=some (.own x)) (k:∀ b u,b≠e->s.heap.get? b=some u->h'.get? b=some u) (heo:∃ u,h'.get? e=some u)
  (new:dy X.prog X.w (br H x o) h' x o):aE X KE σ (br H x o) {s with heap:=h',toks:=t'}:=I.un (Un.write mu he k heo) (I.hok.write mu he k heo new)
theorem aE.pins_of {pins':List (Kr×KD)} (I:aE X KE σ H s) (h:∀ p∈pins',s.heap.get? p.1=some p.2/\H p.1=none/\p.1≠X.env.locals/\p.1∉X.fs/\∀ v,p.2.data≠.cell v):aE X pins' σ H s:=
 ⟨I.ok,I.os,I.bare,I.base,I.loc,I.cell,I.free,I.freeC,λp hp=>(List.mem_append.mp hp).elim (λz=>I.pin p (List.mem_append_left _ z)) (h p),I.hok,I.len⟩
theorem tV {N:List Str} (hN:N.Nodup) {i j:Nat} {x:Str} (a:N[i]?=some x) (b:N[j]?=some x):i=j:=by
 obtain⟨h1,e1⟩:=J3.mp a;obtain⟨h2,e2⟩:=J3.mp b;exact(List.getElem_inj hN).mp (e1.trans e2.symm)
theorem xE {M:Model} {A:Kv} {E:Kq->Ko->Prop} {i:Nat} {x:Str} {v:V} {u:Kq} {Q:Unit->Ko->Prop} (I:aE X KE σ H s) (hN:X.N.Nodup) (hi:X.N[i]?=some x) (hx:FB X.env.scope x) (r:aV v u)
  (h:∀ s',aE X KE (σ.set i (some v)) H s'->(∃ a,Heap.SameBut a s.heap s'.heap/\(a=X.env.locals\/X.env.cells.lookup x=some a))->Q () s') (hf:X.fn x=true\/X.env.scope.names.lookup x=some .local:=by first | exact .inl rfl | exact .inr rfl | assumption):wpAny M A (storeName X.env x u) Q E s:=by
 obtain⟨m,hn,hl⟩:=id I.loc;have hcls:(X.env.scope.kind == .class || (X.env.scope.kind == .module && X.env.locals != X.env.globals))=false:=by rw [I.ok.kind]; rfl
 have hiσ:i < σ.length:=by rw [I.len]; exact(J3.mp hi).1
 have cne:=I.cne;have tracked:∀ {a:Kr} {h':Kx},(∃ o,s.heap.get? a=some o/\H a=none)->Heap.SameBut a s.heap h'->n5 X.prog X.w H h':=λ{a h'} ha hs b ob e=>by
  obtain⟨_,_,hfree⟩:=ha;refine(I.hok b ob e).stay (λc w' hc q=>(hs.2 c ?_).trans q) (λ_ q=>q) λ_ _ q=>q
  rintro rfl;rcases hc with rfl | hc
  ·rw [hfree] at e; cases e
  ·rw [hfree] at hc; cases hc
 rcases hx with hk | hk
 ·refine wpAny_storeName_local hk hn (λh' hn' hs=>?_) hcls
  obtain⟨oL,_,_,hoL,_⟩:=id hn;refine h _ ⟨I.ok,I.os,I.bare,⟨λb o e n hb hx=>?_,λb o e n hb hx=>?_,I.base.free,λb o e hx=>?_,I.base.tups,I.base.frzs,I.base.tbls⟩,⟨_,hn',λj y v' e1 e2 e3=>?_⟩,λy c e=>?_,I.free,I.freeC,λp hp=>?_,tracked ⟨oL,hoL,I.free⟩ hs,by simpa using I.len⟩ ⟨_,hs,.inl rfl⟩
  ·exact(hs.2 b (JK (JN (JD e) I.ok.above))).trans (I.base.keep b o e n hb hx)
  ·obtain⟨sl,e1⟩:=I.base.slot b o e n hb hx;exact⟨sl,(hs.2 b (JK (JN (JD e) I.ok.above))).trans e1⟩
  ·obtain⟨o',e1⟩:=I.base.there b o e hx;exact⟨o',(hs.2 b (JK (JN (JD e) I.ok.above))).trans e1⟩
  ·by_cases hj:j=i
   ·subst hj;rw [hi] at e1; cases e1
    rw [List.getElem?_set_self hiσ] at e2;cases e2;exact⟨u,r,.inl ⟨hk,by simp⟩⟩
   ·rw [List.getElem?_set_ne (Ne.symm hj)] at e2;obtain⟨u',r',q⟩:=hl j y v' e1 e2 e3;refine⟨u',r',?_⟩;rcases q with ⟨k,e⟩ | ⟨k,c,e,z⟩
    ·refine .inl ⟨k,?_⟩;have:y≠x:=λe=>hj (tV hN e1 (e▸hi))
     simp [this,e]
    ·exact .inr ⟨k,c,e,z.sameBut hs (cne y c e)⟩
  ·obtain⟨w',z⟩:=I.cell y c e;exact⟨w',z.sameBut hs (cne y c e)⟩
  ·obtain⟨e,n,ne,nf,d⟩:=I.pin p hp;exact⟨(hs.2 p.1 ne).trans e,n,ne,nf,d⟩
 ·have hfn:X.fn x=true:=by
   rcases hf with z | z
   ·exact z
   ·rw [z] at hk; cases hk
  obtain⟨c,hc⟩:=I.ok.has x (.inl hk);obtain⟨w',z⟩:=I.cell x c hc;refine wpAny_storeName_cell I.ok.kind hk hc z (λh' hc' hs=>?_)
  obtain⟨oc,hoc,hocd⟩:=id z;refine h {s with heap:=h'} ⟨I.ok,I.os,I.bare,⟨λb o e n hb hx=>?_,λb o e n hb hx=>?_,I.base.free,λb o e hx=>?_,I.base.tups,I.base.frzs,I.base.tbls⟩,⟨m,hn.sameBut hs (Ne.symm (cne x c hc)),λj y v' e1 e2 e3=>?_⟩,λy c' e=>?_,I.free,I.freeC,λp hp=>?_,tracked ⟨oc,hoc,I.freeC x c hc⟩ hs,by simpa using I.len⟩ ⟨c,hs,.inr hc⟩
  ·exact(hs.2 b (JK (JN (JD e) (I.ok.cab x c hfn hc)))).trans (I.base.keep b o e n hb hx)
  ·obtain⟨sl,e1⟩:=I.base.slot b o e n hb hx;exact⟨sl,(hs.2 b (JK (JN (JD e) (I.ok.cab x c hfn hc)))).trans e1⟩
  ·obtain⟨o',e1⟩:=I.base.there b o e hx;exact⟨o',(hs.2 b (JK (JN (JD e) (I.ok.cab x c hfn hc)))).trans e1⟩
  ·by_cases hj:j=i
   ·subst hj;rw [hi] at e1; cases e1
    rw [List.getElem?_set_self hiσ] at e2;cases e2;exact⟨u,r,.inr ⟨.inl hk,c,hc,hc'⟩⟩
   ·rw [List.getElem?_set_ne (Ne.symm hj)] at e2;obtain⟨u',r',q⟩:=hl j y v' e1 e2 e3;refine⟨u',r',?_⟩;rcases q with q | ⟨k,c',e,z'⟩
    ·exact .inl q
    ·refine .inr ⟨k,c',e,z'.sameBut hs ?_⟩;rintro rfl;exact hj (tV hN e1 (I.ok.inj _ _ _ e hc▸hi))
  ·by_cases hcc:c'=c
   ·subst hcc; exact⟨_,hc'⟩
   ·obtain⟨w2,z2⟩:=I.cell y c' e;exact⟨w2,z2.sameBut hs hcc⟩
  ·obtain⟨e,n,ne,nf,d⟩:=I.pin p hp;refine⟨(hs.2 p.1 ?_).trans e,n,ne,nf,d⟩;intro q;rw [q,hoc] at e;have q':oc=p.2:=J1 e;exact d w' (by rw [<- q']; exact hocd)
theorem mh {M:Model} {A:Kv} {E:Kq->Ko->Prop} {i:Nat} {x:Str} {v:V} {u:Kq} {Q:Unit->Ko->Prop} (I:aE X KE σ H s) (hN:X.N.Nodup) (hi:X.N[i]?=some x) (hx:FB X.env.scope x) (r:aV v u)
  (h:∀ s',aE X KE (σ.set i (some v)) H s'->Q () s') (hf:X.fn x=true\/X.env.scope.names.lookup x=some .local:=by first | exact .inl rfl | exact .inr rfl | assumption):wpAny M A (storeName X.env x u) Q E s:=
 xE I hN hi hx r (λs' I' _=>h s' I') hf
theorem aE.call' {s':Ko} {ch:List Kr} (I:aE X KE σ H s) (ho:s'.os=s.os) (u:Un (sU X.stack) ch H H' s.heap s'.heap) (hok:n5 X.prog X.w H' s'.heap) (hg:AllBare s'.gens)
  (hch:∀ b∈ch,(b∈X.ex\/X.s₀.heap.objs.size<=b)/\b≠X.env.locals/\(∀ x c,X.env.cells.lookup x=some c->c≠b)/\∀ p∈X.pn++KE,p.1≠b):aE X KE σ H' s':=by
 obtain⟨h',g',d',t',o'⟩:=s';have e:o'=s.os:=ho;subst e;exact I.call (g':=g') (t':=t') (d':=d') u hok hg hch
end
abbrev XK:=Kq->Ks Kr->Hp->Prop
abbrev St:=List (Ks V)
abbrev VK:=V->Hp->Prop
abbrev TE:=St->Hp->VK->Prop
abbrev TT:=St->Hp->(KA->Hp->Prop)->Prop
abbrev TA:=St->Hp->(List V->Hp->Prop)->Prop
structure ql where
 nx:St->Hp->Prop
 rt:VK
 bk:St->Hp->Prop:=λ_ _=>False
 ct:St->Hp->Prop:=λ_ _=>False
abbrev TS:=ql->St->Hp->Prop
def EP (X:Cx) (KE:List (Kr×KD)) (σ:St) (Q:VK) (u:Kq) (s':Ko):Prop:=∃ v H',aE X KE σ H' s'/\aV v u/\Q v H'
def TP (X:Cx) (KE:List (Kr×KD)) (σ:St) (Q:KA->Hp->Prop) (b:KA) (s':Ko):Prop:=∃ H',aE X KE σ H' s'/\Q b H'
def AP (X:Cx) (KE:List (Kr×KD)) (σ:St) (Q:List V->Hp->Prop) (us:List Kq) (s':Ko):Prop:=∃ vs H',aE X KE σ H' s'/\aW vs us/\Q vs H'
def SP (X:Cx) (KE:List (Kr×KD)) (D:ql) (f:Flow) (s':Ko):Prop:=
 match f with
 | .next=>∃ σ' H',aE X KE σ' H' s'/\D.nx σ' H'
 | .brk=>∃ σ' H',aE X KE σ' H' s'/\D.bk σ' H'
 | .cont=>∃ σ' H',aE X KE σ' H' s'/\D.ct σ' H'
 | .ret u=>∃ v σ' H',aE X KE σ' H' s'/\aV v u/\D.rt v H'
def PE (X:Cx) (e:Kt) (t:TE):Prop:=
 ∀ (KE:List (Kr×KD)) (s:Ko) (σ:St) (H:Hp) (Q:VK),aE X KE σ H s->t σ H Q->wpAny (model X.prog X.w) X.A (eval e X.env) (EP X KE σ Q) X.xe s
def PT (X:Cx) (e:Kt) (t:TT):Prop:=
 ∀ (KE:List (Kr×KD)) (s:Ko) (σ:St) (H:Hp) (Q:KA->Hp->Prop),aE X KE σ H s->t σ H Q->wpAny (model X.prog X.w) X.A (isTrue e X.env (eval e X.env)) (TP X KE σ Q) X.xe s
def PW (X:Cx) (e:Kt) (t:TT):Prop:=
 ∀ (whole:Sem Kq) (KE:List (Kr×KD)) (s:Ko) (σ:St) (H:Hp) (Q:KA->Hp->Prop),aE X KE σ H s->t σ H Q->wpAny (model X.prog X.w) X.A (isTrue e X.env whole) (TP X KE σ Q) X.xe s
theorem PW.pt {X:Cx} {e:Kt} {t:TT} (h:PW X e t):PT X e t:=h _
def PA (X:Cx) (es:List Kt) (t:TA):Prop:=
 ∀ (pos:Pos) (KE:List (Kr×KD)) (s:Ko) (σ:St) (H:Hp) (Q:List V->Hp->Prop),aE X KE σ H s->t σ H Q->wpAny (model X.prog X.w) X.A (spliced (backTo pos (starEach es X.env))) (AP X KE σ Q) X.xe s
def PS (X:Cx) (st:Ky) (t:TS):Prop:=
 ∀ (KE:List (Kr×KD)) (s:Ko) (σ:St) (H:Hp) (D:ql),aE X KE σ H s->t D σ H->wpAny (model X.prog X.w) X.A (exec st X.env) (SP X KE D) X.xe s
def qH (X:Cx) (st:List Ky) (t:TS):Prop:=
 ∀ (KE:List (Kr×KD)) (s:Ko) (σ:St) (H:Hp) (D:ql),aE X KE σ H s->t D σ H->wpAny (model X.prog X.w) X.A (execs st X.env) (SP X KE D) X.xe s
theorem be {α:Type} {t:Sem α} {Q Q':α->Ko->Prop} {M:Model} {A:Kv} {E:Kq->Ko->Prop} {s:Ko} (h:wpAny M A t Q E s) (hQ:∀ a s,Q a s->Q' a s):wpAny M A t Q' E s:=J4 h hQ λ_ _ x=>x
section
variable {X:Cx}
def Ig (i:Nat):TE:=fun σ H Q=>∃ v,σ[i]?=some (some v)/\Q v H
def tC (v:V):TE:=λ_ H Q=>Q v H
theorem Dw {i:Nat} {x:Str} {pos:Pos} (hN:X.N[i]?=some x) (hv:Ge X.env.scope x) (hd:(x == ("__debug__":Str))=false:=by decide) (hcd:(x == ("__classdict__":Str))=false:=by decide):PE X (.Name x pos) (Ig i):=by
 intro KE s σ H Q I h;obtain⟨v,e,h⟩:=h;obtain⟨m,hn,hl⟩:=I.loc;obtain⟨u,r,l⟩:=hl i x v hN e hv;have fin:EP X KE σ Q u s:=⟨v,H,I,r,h⟩;rcases l with ⟨hk,hm⟩ | ⟨hk,c,hc,hcell⟩
 ·exact wpAny_Name (wpAny_loadName_local I.ok.kind hk hn hm fin) hd
 ·rcases hk with hk | hk
  ·exact wpAny_Name (wpAny_loadName_cell I.ok.kind hk hc hcell fin) hd
  ·exact wpAny_Name (wpAny_loadName_free I.ok.kind hk hc hcell fin hcd) hd
theorem Dg {i j pos}:PE X (.Constant (.int i) j pos) (tC (.int i)):=λ_ _ _ H _ I h=>wpAny_Constant_int ⟨.int i,H,I.tok _,⟨_,rfl⟩,h⟩
theorem GP {b j pos}:PE X (.Constant (.bool b) j pos) (tC (.bl b)):=λ_ _ _ H _ I h=>Constant_bool ⟨.bl b,H,I,rfl,h⟩
theorem EY {j pos}:PE X (.Constant .none j pos) (tC .non):=λ_ _ _ H _ I h=>Constant_none ⟨.non,H,I,rfl,h⟩
theorem DX {x j pos}:PE X (.Constant (.str x) j pos) (tC (.str x)):=λ_ _ _ H _ I h=>Calls.Constant_str ⟨.str x,H,I.tok _,⟨_,rfl⟩,h⟩
def Gl (X:Cx) (x:Str):Prop:=X.env.kindOf x=some .globalImplicit
theorem wH {E:Kq->Ko->Prop} {KE:List (Kr×KD)} {s:Ko} {σ:St} {H:Hp} {x:Str} {u:Kq} {pos:Pos} {Q:Kq->Ko->Prop} (I:aE X KE σ H s) (hg:Gl X x) (hm:X.mg x=some u) (h:Q u s)
  (hd:(x == ("__debug__":Str))=false:=by decide):wpAny (model X.prog X.w) X.A (eval (.Name x pos) X.env) Q E s:=
 Calls.Name_function_global I.ok.kind hg (Calls.loadGlobal_global (by rw [I.ok.glob]; exact I.mod.glob.keeps I.bk) hm h) hd
theorem j4 {E:Kq->Ko->Prop} {KE:List (Kr×KD)} {s:Ko} {σ:St} {H:Hp} {x:Str} {u:Kq} {pos:Pos} {Q:Kq->Ko->Prop} (I:aE X KE σ H s) (hg:Gl X x) (hm:X.mg x=none) (hv:bootBuiltins x=some u) (h:Q u s)
  (hn:x≠"__name__":=by decide) (hd:(x == ("__debug__":Str))=false:=by decide):wpAny (model X.prog X.w) X.A (eval (.Name x pos) X.env) Q E s:=by
 obtain⟨mb,h1,h2⟩:=I.mod.blt;exact Calls.Name_function_global I.ok.kind hg (Calls.loadGlobal_builtin (by rw [I.ok.glob]; exact I.mod.glob.keeps I.bk) hm (by rw [I.ok.blt]; exact h1.keeps I.bk) ((h2 x hn).trans hv) h) hd
theorem oC {x:Str} {v:V} {u:Kq} {pos:Pos} (hg:Gl X x) (hm:X.mg x=some u) (r:aV v u) (hd:(x == ("__debug__":Str))=false:=by decide):PE X (.Name x pos) (tC v):=
 λ_ _ _ H _ I h=>wH I hg hm ⟨v,H,I,r,h⟩ hd
theorem Cc {x:Str} {v:V} {u:Kq} {pos:Pos} (hg:Gl X x) (hm:X.mg x=none) (hv:bootBuiltins x=some u) (r:aV v u) (hn:x≠"__name__":=by decide) (hd:(x == ("__debug__":Str))=false:=by decide):PE X (.Name x pos) (tC v):=
 λ_ _ _ H _ I h=>j4 I hg hm hv ⟨v,H,I,r,h⟩ hn hd
variable {a b:Kt} {ta tb:TE} {pos:Pos}
def tB (t:TE):TT:=fun σ H Q=>t σ H λx H1=>∃ c,x=.bl c/\Q c H1
theorem C2 {e:Kt} {t:TE} (h:PE X e t) (he:∀ whole,isTrue e X.env whole=(do let v <- whole; standAt e.pos; holding [v] (truthy v)):=by intro _; rfl):PT X e (tB t):=by
 intro KE s σ H Q I hw;refine isTrue_plain (be (h KE s σ H _ I hw) λv s1 ⟨x,H1,I1,r1,q1⟩=>?_) (he _)
 obtain⟨d,rfl,q⟩:=q1;cases r1;exact wpAny_truthy_bool ⟨H1,I1,q⟩
variable {tA tB':TT} {bh:List Kt}
def HD (t u:TT):TT:=fun σ H Q=>t σ H λc H1=>if c=true then u σ H1 Q else Q false H1
def Ju (t u:TT):TT:=fun σ H Q=>t σ H λc H1=>if c=true then Q true H1 else u σ H1 Q
def Ix (t:TT):TT:=fun σ H Q=>t σ H λc H1=>Q (!c) H1
theorem BR (ha:PT X a tA):PW X (.BoolOp .And [a] pos) tA:=by
 intro wh KE s σ H Q I h;refine isTrue_and (be (ha KE s σ H Q I h) λc s1 e=>?_)
 cases c with
 | true=>exact isTrue_and_nil e
 | false=>exact e
theorem Do (ha:PT X a tA):PW X (.BoolOp .Or [a] pos) tA:=by
 intro wh KE s σ H Q I h;refine isTrue_or (be (ha KE s σ H Q I h) λc s1 e=>?_)
 cases c with
 | false=>exact isTrue_or_nil e
 | true=>exact e
theorem C8 (ha:PT X a tA) (hb:PW X (.BoolOp .And (b::bh) pos) tB'):PW X (.BoolOp .And (a::b::bh) pos) (HD tA tB'):=by
 intro wh KE s σ H Q I h;refine isTrue_and (be (ha KE s σ H _ I h) λc s1 z9=>?_)
 obtain⟨H1,I1,q1⟩:=z9;cases c with
 | true=>exact hb wh KE s1 σ H1 Q I1 q1
 | false=>exact⟨H1,I1,q1⟩
theorem GW (ha:PT X a tA) (hb:PW X (.BoolOp .Or (b::bh) pos) tB'):PW X (.BoolOp .Or (a::b::bh) pos) (Ju tA tB'):=by
 intro wh KE s σ H Q I h;refine isTrue_or (be (ha KE s σ H _ I h) λc s1 z9=>?_)
 obtain⟨H1,I1,q1⟩:=z9;cases c with
 | true=>exact⟨H1,I1,q1⟩
 | false=>exact hb wh KE s1 σ H1 Q I1 q1
theorem EX (ha:PT X a tA):PT X (.UnaryOp .Not a pos) (Ix tA):=by
 intro KE s σ H Q I h;exact isTrue_not (ha KE s σ H (λc H1=>Q (!c) H1) I h)
def Gk (ta tb:TE):TE:=fun σ H Q=>ta σ H λx H1=>∃ c,x=.bl c/\if c=true then tb σ H1 Q else Q (.bl false) H1
def Hz (ta tb:TE):TE:=fun σ H Q=>ta σ H λx H1=>∃ c,x=.bl c/\if c=true then Q (.bl true) H1 else tb σ H1 Q
def GY (ta:TE):TE:=fun σ H Q=>ta σ H λx H1=>∃ c,x=.bl c/\Q (.bl (!c)) H1
theorem DJ {op} {t:TE} (h:PE X a t):PE X (.BoolOp op [a] pos) t:=λKE s σ H Q I hw=>BoolOp_one (h KE s σ H Q I hw)
theorem Ep (ha:PE X a ta) (hb:PE X (.BoolOp .And (b::bh) pos) tb):PE X (.BoolOp .And (a::b::bh) pos) (Gk ta tb):=by
 intro KE s σ H Q I h;refine BoolOp_and (be (ha KE s σ H _ I h) λv s1 z9=>?_)
 obtain⟨x,H1,I1,r1,q1⟩:=z9;obtain⟨c,rfl,q1⟩:=q1;cases r1;refine wpAny_truthy_bool ?_;cases c with
 | true=>exact hb KE s1 σ H1 Q I1 q1
 | false=>exact⟨.bl false,H1,I1,rfl,q1⟩
theorem GK (ha:PE X a ta) (hb:PE X (.BoolOp .Or (b::bh) pos) tb):PE X (.BoolOp .Or (a::b::bh) pos) (Hz ta tb):=by
 intro KE s σ H Q I h;refine BoolOp_or (be (ha KE s σ H _ I h) λv s1 z9=>?_)
 obtain⟨x,H1,I1,r1,q1⟩:=z9;obtain⟨c,rfl,q1⟩:=q1;cases r1;refine wpAny_truthy_bool ?_;cases c with
 | false=>exact hb KE s1 σ H1 Q I1 q1
 | true=>exact⟨.bl true,H1,I1,rfl,q1⟩
theorem Ek (ha:PE X a ta):PE X (.UnaryOp .Not a pos) (GY ta):=by
 intro KE s σ H Q I h;refine UnaryOp_ (be (ha KE s σ H _ I h) λv s1 z9=>?_)
 obtain⟨x,H1,I1,r1,q1⟩:=z9;obtain⟨c,rfl,q1⟩:=q1;cases r1;exact not_of (wpAny_truthy_bool ⟨.bl (!c),H1,I1,rfl,q1⟩)
def IV (t:TT) (ta tb:TE):TE:=fun σ H Q=>t σ H λc H1=>if c=true then ta σ H1 Q else tb σ H1 Q
theorem AT {c:Kt} (hc:PT X c tA) (ha:PE X a ta) (hb:PE X b tb):PE X (.IfExp c a b pos) (IV tA ta tb):=by
 intro KE s σ H Q I h;refine wpAny_IfExp (be (hc KE s σ H _ I h) λd s1 z9=>?_)
 obtain⟨H1,I1,q1⟩:=z9;cases d with
 | true=>exact ha KE s1 σ H1 Q I1 q1
 | false=>exact hb KE s1 σ H1 Q I1 q1
end
def eQ (K:PySem.W.Frag) (H:Hp) (a:Kr) (xs:List V):Prop:=
 Rd H a (.lst xs)\/
  ∃ (o:KD) (its:Kz Kq) (n:Nat),K.lookup a=some o/\o.cls=.type "list"/\o.dict=none/\o.data=.seq its n/\its.size<=sizeLine/\aW xs its.toList
def gZ (K:PySem.W.Frag) (H:Hp) (a:Kr) (xs:List V):Prop:=
 Rd H a (.tup xs)\/
  ∃ (o:KD) (its:Kz Kq) (n:Nat),K.lookup a=some o/\o.cls=.type "tuple"/\o.data=.seq its n/\its.size<=sizeLine/\aW xs its.toList
def HH:Kq->Ks V
 | .none=>some .non
 | .bool b=>some (.bl b)
 | .int i _=>some (.int i)
 | .str x _=>some (.str x)
 | .bytes b _=>some (.byt b)
 | .float b _=>some (.flt b)
 | .ref a=>some (.ref a)
 | .type n=>some (.ty n)
 | _=>none
theorem aV.abs {x:V} {u:Kq} (r:aV x u):HH u=some x:=by
 cases x with
 | non=>cases r; rfl
 | bl _=>cases r; rfl
 | int _=>obtain⟨t,rfl⟩:=r; rfl
 | str _=>obtain⟨t,rfl⟩:=r; rfl
 | byt _=>obtain⟨t,rfl⟩:=r; rfl
 | flt _=>obtain⟨t,rfl⟩:=r; rfl
 | ref _=>cases r; rfl
 | ty _=>cases r; rfl
theorem aV.inj {x y:V} {u:Kq} (r:aV x u) (q:aV y u):x=y:=J1 (r.abs.symm.trans q.abs)
theorem aW.inj:∀ {xs ys:List V} {us:List Kq},aW xs us->aW ys us->xs=ys
 | _,_,_,.nil,.nil=>rfl
 | _,_,_,.cons r t,.cons r' t'=>by rw [r.inj r',aW.inj t t']
section
variable {X:Cx} {KE:List (Kr×KD)} {σ:St} {H:Hp} {s:Ko} {a:Kr} {xs ys:List V}
theorem eQ.of {K:PySem.W.Frag} (h:H a=some (.lst xs)):eQ K H a xs:=.inl (.inl h)
theorem gZ.of {K:PySem.W.Frag} (h:H a=some (.tup xs)):gZ K H a xs:=.inl (.inl h)
theorem aE.list (I:aE X KE σ H s) (h:eQ X.K H a xs):∃ its:List Kq,aW xs its/\PlainL s.heap a its.toArray/\xs.length<=sizeLine:=by
 rcases h with h | ⟨o,its,n,hk,hc,hd,hs,hz,r⟩
 ·obtain⟨z,its,n,r,e⟩:=h.ok I.hok;exact⟨its,r,⟨_,n,e,rfl,rfl,rfl⟩,z⟩
 ·refine⟨its.toList,r,⟨o,n,I.kIn a o hk,hc,hd,by simpa using hs⟩,?_⟩
  have e:=r.length;simp only [Kk] at e;omega
theorem aE.tuple (I:aE X KE σ H s) (h:gZ X.K H a xs):∃ its:List Kq,aW xs its/\IsTup s.heap a its.toArray/\xs.length<=sizeLine:=by
 rcases h with h | ⟨o,its,n,hk,hc,hs,hz,r⟩
 ·obtain⟨z,its,r,p⟩:=h.ok I.hok;exact⟨its,r,p,z⟩
 ·refine⟨its.toList,r,⟨o,I.kIn a o hk,hc,n,by simpa using hs⟩,?_⟩
  have e:=r.length;simp only [Kk] at e;omega
theorem aE.list_inj (I:aE X KE σ H s) (h:eQ X.K H a xs) (h':eQ X.K H a ys):xs=ys:=by
 obtain⟨its,r,⟨o,n,e,_,_,d⟩,_⟩:=I.list h;obtain⟨its',r',⟨o',n',e',_,_,d'⟩,_⟩:=I.list h';rw [e] at e'; cases e'
 rw [d] at d';injection d' with d1 _
 have:its=its':=by simpa using congrArg Array.toList d1
 subst this;exact r.inj r'
theorem aE.tuple_inj (I:aE X KE σ H s) (h:gZ X.K H a xs) (h':gZ X.K H a ys):xs=ys:=by
 obtain⟨its,r,⟨o,e,_,n,d⟩,_⟩:=I.tuple h;obtain⟨its',r',⟨o',e',_,n',d'⟩,_⟩:=I.tuple h';rw [e] at e'; cases e'
 rw [d] at d';injection d' with d1 _
 have:its=its':=by simpa using congrArg Array.toList d1
 subst this;exact r.inj r'
end
abbrev Cx.wish (X:Cx) (E:Kq->Ko->Prop):Cx:={X with xe:=E}
abbrev Cx.nox (X:Cx):Cx:=X.wish λ_ _=>False
theorem Cx.Ok.wish {X:Cx} (ok:X.Ok) (E:Kq->Ko->Prop):(X.wish E).Ok:=
 ⟨ok.mod,ok.kind,ok.glob,ok.blt,ok.above,ok.inj,ok.has,ok.cab,ok.hd,ok.frames,ok.stk,ok.exf,ok.bs,ok.bsz,ok.noex,ok.exfs,ok.funs,ok.frf⟩
theorem Cx.Ok.unwish {X:Cx} {E:Kq->Ko->Prop} (ok:(X.wish E).Ok):X.Ok:=
 ⟨ok.mod,ok.kind,ok.glob,ok.blt,ok.above,ok.inj,ok.has,ok.cab,ok.hd,ok.frames,ok.stk,ok.exf,ok.bs,ok.bsz,ok.noex,ok.exfs,ok.funs,ok.frf⟩
section
variable {X:Cx} {KE:List (Kr×KD)} {σ:St} {H:Hp} {s:Ko} {E:Kq->Ko->Prop}
theorem aE.wish (I:aE X KE σ H s) (E:Kq->Ko->Prop):aE (X.wish E) KE σ H s:=⟨I.ok.wish E,I.os,I.bare,I.base,I.loc,I.cell,I.free,I.freeC,I.pin,I.hok,I.len⟩
theorem aE.unwish (I:aE (X.wish E) KE σ H s):aE X KE σ H s:=⟨I.ok.unwish,I.os,I.bare,I.base,I.loc,I.cell,I.free,I.freeC,I.pin,I.hok,I.len⟩
theorem SP.unwish {D:ql} {f:Flow} {s':Ko} (h:SP (X.wish E) KE D f s'):SP X KE D f s':=by
 cases f with
 | next=>obtain⟨σ',H',I,q⟩:=h; exact⟨σ',H',I.unwish,q⟩
 | brk=>obtain⟨σ',H',I,q⟩:=h; exact⟨σ',H',I.unwish,q⟩
 | cont=>obtain⟨σ',H',I,q⟩:=h; exact⟨σ',H',I.unwish,q⟩
 | ret u=>obtain⟨v,σ',H',I,r,q⟩:=h; exact⟨v,σ',H',I.unwish,r,q⟩
theorem qH.nox {st:List Ky} {t:TS} (h:qH X.nox st t):qH X st t:=λKE s σ H D I hw=>
 J4 (h KE s σ H D (I.wish _) hw) (λ_ _ q=>q.unwish) λ_ _ z=>False.elim z
end
section
variable {X:Cx} {st:Ky} {bh:List Ky} {t u:TS} {e:Kt} {te:TE} {pos:Pos}
def Gx:TS:=λD σ H=>D.nx σ H
def FW (t u:TS):TS:=λD σ H=>t {D with nx:=u D} σ H
theorem BQ:qH X [] Gx:=λ_ _ σ H _ I h=>wpAny_execs_nil ⟨σ,H,I,h⟩
theorem Af (h1:PS X st t) (h2:qH X bh u):qH X (st::bh) (FW t u):=by
 intro KE s σ H D I h;refine wpAny_execs_cons (be (h1 KE s σ H {D with nx:=u D} I h) λf s1 q=>?_)
 cases f with
 | next=>
  obtain⟨σ',H',I',q⟩:=q;exact h2 KE s1 σ' H' D I' q
 | ret v=>exact q
 | brk=>exact q
 | cont=>exact q
theorem BE (h1:PS X st t):qH X [st] t:=by
 intro KE s σ H D I h;refine wpAny_execs_cons (be (h1 KE s σ H D I h) λf s1 q=>?_)
 cases f with
 | next=>exact wpAny_execs_nil q
 | ret v=>exact q
 | brk=>exact q
 | cont=>exact q
theorem aE.quiet {KE:List (Kr×KD)} {σ:St} {H:Hp} {s:Ko} (I:aE X KE σ H s):interactive X.env=false:=by simp [interactive,I.ok.kind]
def Hk (te:TE):TS:=λD σ H=>te σ H λ_ H1=>D.nx σ H1
theorem Be (he:PE X e te) (hs:swapsWith e none pos.line X.env=pure false:=by rfl):PS X (.Expr e pos) (Hk te):=by
 intro KE s σ H D I h;exact wpAny_Expr_any (be (he KE s σ H _ I h) λv s1 z9=>by obtain⟨x,H1,I1,r1,q1⟩:=z9; exact⟨σ,H1,I1,q1⟩) I.quiet hs
def IF (te:TE):TS:=λD σ H=>te σ H D.rt
theorem Di (he:PE X e te):PS X (.Return (some e) pos) (IF te):=by
 intro KE s σ H D I h;exact wpAny_Return_some (be (he KE s σ H _ I h) λv s1 z9=>by obtain⟨x,H1,I1,r1,q1⟩:=z9; exact⟨x,σ,H1,I1,r1,q1⟩)
def HV (c:TT) (t u:TS):TS:=λD σ H=>c σ H λb H1=>if b=true then t D σ H1 else u D σ H1
theorem GR {c:Kt} {a b:List Ky} {tc:TT} (hc:PT X c tc) (ha:qH X a t) (hb:qH X b u):PS X (.If c a b pos) (HV tc t u):=by
 intro KE s σ H D I h;refine wpAny_If (be (hc KE s σ H _ I h) λd s1 z9=>?_)
 obtain⟨H1,I1,q1⟩:=z9;cases d with
 | true=>exact ha KE s1 σ H1 D I1 q1
 | false=>exact hb KE s1 σ H1 D I1 q1
def Dq:TS:=λ_ _ _=>False
theorem yv:PS X st Dq:=λ_ _ _ _ _ _ h=>h.elim
end
abbrev TG:=V->St->Hp->(St->Hp->Prop)->Prop
abbrev y6:=List V->St->Hp->(St->Hp->Prop)->Prop
def PG (X:Cx) (target:Kt) (t:TG):Prop:=
 ∀ (KE:List (Kr×KD)) (s:Ko) (σ:St) (H:Hp) (v:V) (u:Kq) (Q:St->Hp->Prop),aE X KE σ H s->aV v u->t v σ H Q->
  wpAny (model X.prog X.w) X.A (assign target X.env u) (λ_ s'=>∃ σ' H',aE X KE σ' H' s'/\Q σ' H') X.xe s
def yt (X:Cx) (ts:List Kt) (t:y6):Prop:=
 ∀ (KE:List (Kr×KD)) (s:Ko) (σ:St) (H:Hp) (vs:List V) (us:List Kq) (Q:St->Hp->Prop),aE X KE σ H s->aW vs us->t vs σ H Q->
  wpAny (model X.prog X.w) X.A (assignInOrder ((assignEach ts X.env).map (·.2)) us) (λ_ s'=>∃ σ' H',aE X KE σ' H' s'/\Q σ' H') X.xe s
abbrev Cd:=V->V->V->Hp->(Hp->Prop)->Prop
def Df (X:Cx) (t:Cd):Prop:=
 ∀ (KE:List (Kr×KD)) (s:Ko) (σ:St) (H:Hp) (o i v:V) (ov iv u:Kq) (Q:Hp->Prop),aE X KE σ H s->aV o ov->aV i iv->aV v u->t o i v H Q->
  wpAny (model X.prog X.w) X.A (setItem ov iv u) (λ_ s'=>∃ H',aE X KE σ H' s'/\Q H') X.xe s
section
variable {X:Cx} {pos:Pos}
def nH (i:Nat):TG:=λv σ H Q=>Q (σ.set i (some v)) H
theorem se {i:Nat} {x:Str} (hN:X.N.Nodup) (hi:X.N[i]?=some x) (hx:FB X.env.scope x) (hf:X.fn x=true\/X.env.scope.names.lookup x=some .local:=by first | exact .inl rfl | exact .inr rfl | assumption):PG X (.Name x pos) (nH i):=by
 intro KE s σ H v u Q I r h;exact wpAny_assign_Name (mh I hN hi hx r (λs' I'=>⟨_,H,I',h⟩) hf)
def HG:y6:=λvs σ H Q=>vs=[]/\Q σ H
def G3 (t:TG) (u:y6):y6:=λvs σ H Q=>∃ v r,vs=v::r/\t v σ H fun σ' H'=>u r σ' H' Q
theorem BS:yt X [] HG:=by
 intro KE s σ H vs us Q I r h;obtain⟨e,h⟩:=h;subst e;cases r;exact assignInOrder_nil ⟨σ,H,I,h⟩
theorem yz {e:Kt} {es:List Kt} {t:TG} {u:y6} (h1:PG X e t) (h2:yt X es u)
  (hs:(assignEach (e::es) X.env).map (·.2)=assign e X.env::(assignEach es X.env).map (·.2):=by rfl):yt X (e::es) (G3 t u):=by
 intro KE s σ H vs us Q I r h;obtain⟨v,vr,e1,h⟩:=h;subst e1;cases r with
 | cons r rr=>
  rw [hs];refine assignInOrder_cons (be (h1 KE s σ H _ _ _ I r h) λ_ s1 z9=>?_)
  obtain⟨σ1,H1,I1,q1⟩:=z9;exact h2 KE s1 σ1 H1 _ _ Q I1 rr q1
def H9 (K:PySem.W.Frag) (n:Nat) (t:y6):TG:=λv σ H Q=>∃ a xs,v=.ref a/\gZ K H a xs/\xs.length=n/\t xs σ H Q
theorem Et {es:List Kt} {k:Nat} {t:y6} {n:Nat} (hc:X.calm=true) (h:yt X es t)
  (hn:(assignEach es X.env).length=n:=by rfl) (hst:(assignEach es X.env).findIdx? (·.1)=none:=by rfl):PG X (.Tuple es k pos) (H9 X.K n t):=by
 intro KE s σ H v u Q I r hw;obtain⟨a,xs,e1,hq,hl,hw⟩:=hw;subst e1;cases r;obtain⟨its,rv,ht,hz⟩:=I.tuple hq;refine assign_Tuple_tuple (I.ok.hd hc) ht (by simp [hn,<- hl,rv.length]) hst λh' hx=>?_
 have I1:aE X KE σ H {s with heap:=h'}:=I.kept (t':=s.toks) λb o e=>hx b o (JK (JD e)) e
 exact h KE _ σ H xs _ Q I1 (by simpa using rv) hw
def Il (to ti:TE) (t:Cd):TG:=λv σ H Q=>to σ H λo H1=>ti σ H1 λi H2=>t o i v H2 λH3=>Q σ H3
theorem zP {o i:Kt} {to ti:TE} {t:Cd} (ho:PE X o to) (hi:PE X i ti) (hs:Df X t)
  (ha:∀ v,assign (.Subscript o i pos) X.env v=(do
   let ov <- holding [v] (eval o X.env)
   let iv <- holding [v,ov] (eval i X.env)
   standAt pos
   holding [v,ov,iv] (setItem ov iv v)
   release [v,ov,iv] []):=by intro _; rfl):PG X (.Subscript o i pos) (Il to ti t):=by
 intro KE s σ H v u Q I r h;rw [ha];refine gt (JX (be (ho KE s σ H _ I h) λov s1 z9=>?_))
 obtain⟨x,H1,I1,r1,q1⟩:=z9;refine gt (JX (be (hi KE s1 σ H1 _ I1 q1) λiv s2 z9=>?_))
 obtain⟨y,H2,I2,r2,q2⟩:=z9;refine gt (wpAny_standAt (gt (JX (be (hs KE s2 σ H2 x y v ov iv u _ I2 r1 r2 r q2) λ_ s3 z9=>?_))))
 obtain⟨H3,I3,q3⟩:=z9;exact wpAny_release ⟨σ,H3,I3,q3⟩
def yX (te:TE) (g:TG):TS:=λD σ H=>te σ H λx H1=>g x σ H1 D.nx
theorem C6 {tg e:Kt} {te:TE} {g:TG} (he:PE X e te) (hg:PG X tg g) (hs:swapsWithSole [tg] e pos.line X.env=pure false:=by rfl) (hw:swappedStores [tg] e X.env=pure none:=by rfl)
  (h1:(assignEach [tg] X.env).map (·.2)=[assign tg X.env]:=by rfl):PS X (.Assign [tg] e pos) (yX te g):=by
 intro KE s σ H D I h;refine wpAny_Assign_stores (be (he KE s σ H _ I h) λv s1 ⟨x,H1,I1,r1,q1⟩=>?_) hs hw
 rw [h1];exact be (hg KE s1 σ H1 x v _ I1 r1 q1) λ_ s2 q=>q
theorem Dt {i:Nat} {x:Str} {e:Kt} {te:TE} {pos':Pos} (hN:X.N.Nodup) (hi:X.N[i]?=some x) (hx:FB X.env.scope x) (he:PE X e te) (hs:swapsWith e (some (.Name x pos')) pos.line X.env=pure false:=by rfl) (hf:X.fn x=true\/X.env.scope.names.lookup x=some .local:=by first | exact .inl rfl | exact .inr rfl | assumption):
  PS X (.Assign [.Name x pos'] e pos) (yX te (nH i)):=by
 intro KE s σ H D I h;refine wpAny_Assign_Name (be (he KE s σ H _ I h) λv s1 ⟨y,H1,I1,r1,q1⟩=>?_) hs
 exact mh I1 hN hi hx r1 (λs2 I2=>⟨_,H1,I2,q1⟩) hf
def HI (i j:Nat) (ta:TA):TS:=λD σ H=>ta σ H λvs H1=>∃ v w,vs=[v,w]/\D.nx ((σ.set i (some v)).set j (some w)) H1
theorem Dl {i j:Nat} {x y:Str} {a b:Kt} {ta:TA} {px py pt:Pos} {kt k2 pt2} (hc:X.calm=true) (hN:X.N.Nodup) (hi:X.N[i]?=some x) (hj:X.N[j]?=some y) (hij:i≠j)
  (hx:X.env.scope.names.lookup x=some .local) (hy:X.env.scope.names.lookup y=some .local) (ha:PA X [a,b] ta)
  (hw:swappedStores [.Tuple [.Name x px,.Name y py] kt pt] (.Tuple [a,b] k2 pt2) X.env=pure (some [x,y]))
  (hs:swapsWithSole [.Tuple [.Name x px,.Name y py] kt pt] (.Tuple [a,b] k2 pt2) pos.line X.env=pure false:=by rfl):
  PS X (.Assign [.Tuple [.Name x px,.Name y py] kt pt] (.Tuple [a,b] k2 pt2) pos) (HI i j ta):=by
 intro KE s σ H D I h;rw [exec_Assign_arm];refine gt (wpAny_standAt ?_);rw [hs];refine gt (JB ?_);rw [if_neg (by decide)]
 refine gt (Tuple_ (be (ha _ KE s σ H _ I h) λus s1 z9=>?_))
 obtain⟨vs,H1,I1,r1,q1⟩:=z9;obtain⟨v,w,e1,q1⟩:=q1;subst e1;obtain⟨u1,u2,rfl,rv,rw'⟩:∃ u1 u2,us=[u1,u2]/\aV v u1/\aV w u2:=by
  cases r1 with
  | cons p q=>
   cases q with
   | cons p' q'=>
    cases q';exact⟨_,_,rfl,p,p'⟩
 refine JZ ?_ (by show 2<=sizeLine; decide)
 have I2:aE X KE σ H1 {s1 with heap:=s1.heap.push {cls:=.type "tuple",data:=.seq [u1,u2].toArray}}:=I1.kept (t':=s1.toks) λb o e=>pp _ e
 rw [hw];refine gt (JB ?_)
 show wpAny (model X.prog X.w) X.A (do rule "assign.swapped-stores"; let items <- unpackItems (.ref s1.heap.objs.size) 2 none; assignInOrder [λv=>bindName X.env y v,λv=>bindName X.env x v] items.reverse; pure Flow.next) _ _ _
 refine gt (wpAny_rule (gt (unpackItems_tuple (items:=#[u1,u2]) (I.ok.hd hc) (IsTup.new s1.heap _) λh' hx'=>?_)))
 have I3:=I2.kept (h':=h') (t':=s1.toks) λb o e=>hx' b o (JK (JD e)) e
 show wpAny _ _ (assignInOrder [λv=>bindName X.env y v,λv=>bindName X.env x v] [u2,u1] >>= λ_=>pure Flow.next) _ _ _
 refine gt (assignInOrder_cons (wpAny_bindName (mh I3 hN hj (.inl hy) rw' (λs2 I4=>?_) (.inr hy))))
 refine assignInOrder_cons (wpAny_bindName (mh I4 hN hi (.inl hx) rv (λs3 I5=>assignInOrder_nil (JB ?_)) (.inr hx)))
 rw [List.set_comm _ _ (Ne.symm hij)] at I5;exact⟨_,H1,I5,q1⟩
def Ey (c:TT) (tb:TS):TS:=λD σ H=>∃ W:Nat->St->Hp->Prop,(∃ m,W m σ H)/\∀ m σ H,W m σ H->
 c σ H λb H1=>if b=true then ∃ N:St->Hp->Prop,(∀ σ' H',N σ' H'->∃ m',m' < m/\W m' σ' H')/\tb {D with nx:=N,ct:=N,bk:=D.nx} σ H1 else D.nx σ H1
theorem Al {c:Kt} {body:List Ky} {tc:TT} {tb:TS} (hp:PassesOwn (model X.prog X.w) X.A X.env X.xe) (hc:PT X c tc) (hb:qH X body tb):PS X (.While c body [] pos) (Ey tc tb):=by
 intro KE s σ H D I h;obtain⟨W,⟨m0,w0⟩,turn⟩:=h;refine wpAny_While (codeAny_whileLoop (λn s'=>∃ σ' H',aE X KE σ' H' s'/\W n σ' H') ?_ m0 ⟨σ,H,I,w0⟩)
 rintro n s1 ⟨σ1,H1,I1,w1⟩;refine wpAny_passesOwn hp (be (hc KE s1 σ1 H1 _ I1 (turn n σ1 H1 w1)) λb s2 z9=>?_)
 obtain⟨H2,I2,q2⟩:=z9;cases b with
 | true=>
  obtain⟨N,hN,q2⟩:=q2;rw [if_pos rfl];refine wpAny_passesOwn hp (be (hb KE s2 σ1 H2 _ I2 q2) λf s3 q3=>?_)
  cases f with
  | next=>
   obtain⟨σ3,H3,I3,n3⟩:=q3;obtain⟨m',hm,w3⟩:=hN σ3 H3 n3;exact⟨m',hm,σ3,H3,I3,w3⟩
  | cont=>
   obtain⟨σ3,H3,I3,n3⟩:=q3;obtain⟨m',hm,w3⟩:=hN σ3 H3 n3;exact⟨m',hm,σ3,H3,I3,w3⟩
  | brk=>exact q3
  | ret v=>exact q3
 | false=>
  rw [if_neg JH];exact wpAny_execs_nil ⟨σ1,H2,I2,q2⟩
end
structure It where
 go:Nat->Hp->Prop
 yld:Nat->Hp->V->Hp->Prop
 stop:Nat->Hp->Prop
def ni (X:Cx) (KE:List (Kr×KD)) (H:Hp) (b:Kr):Prop:=
 H b=none/\b≠X.env.locals/\b∉X.fs/\(b∈X.ex\/X.s₀.heap.objs.size<=b)/\(∀ x c,X.env.cells.lookup x=some c->c≠b)/\∀ p∈X.pn++KE,p.1≠b
theorem aE.fpOk {X:Cx} {KE:List (Kr×KD)} {σ:St} {H H':Hp} {s:Ko} {b:Kr} (I:aE X KE σ H s) (hb:s.heap.objs.size<=b) (hn:H' b=none):ni X KE H' b:=by
 refine⟨hn,Nat.ne_of_gt (JN I.lt hb),I.nofs hb,.inr (J5 I.sz hb),λx c e z=>?_,λp hp z=>?_⟩
 ·obtain⟨v,q⟩:=I.cell x c e;exact absurd (JN q.lt (by rw [z]; exact hb)) (Ke _)
 ·exact absurd (JN (JD (I.pin p hp).1) (by rw [z]; exact hb)) (Ke _)
structure qe (P:Ku) (w:Kw) (K:PySem.W.Frag) (tg:Kt) (J:It) (fp:List Kr) (it:Kr) (tn:Nat->Kx->Prop):Prop where
 mem:it∈fp
 obj:∀ i h,tn i h->∀ b∈fp,∃ o,h.get? b=some o/\∀ v,o.data≠.cell v
 keep:∀ i h h',tn i h->(∀ b∈fp,∀ o,h.get? b=some o->h'.get? b=some o)->tn i h'
 item:∀ (X:Cx),X.prog=P->X.w=w->X.K=K->X.calm=true->∀ (i:Nat) (KE:List (Kr×KD)) (s:Ko) (σ:St) (H:Hp) (E:Kq->Ko->Prop),aE X KE σ H s->(∀ b∈fp,ni X KE H b)->tn i s.heap->J.go i H->
  wpAny (model P w) X.A (pyNext (.ref it)) (λr s1=>∃ u,r=some u/\
   wpAny (model P w) X.A (letOwnedTupleGo tg (.ref it) u) (λ_ s2=>∃ x H',aE X KE σ H' s2/\aV x u/\J.yld i H x H'/\tn (i+1) s2.heap/\∀ b∈fp,H' b=none) E s1) E s
 done:∀ (X:Cx),X.prog=P->X.w=w->X.K=K->X.calm=true->∀ (i:Nat) (KE:List (Kr×KD)) (s:Ko) (σ:St) (H:Hp) (E:Kq->Ko->Prop),aE X KE σ H s->(∀ b∈fp,ni X KE H b)->tn i s.heap->J.stop i H->
  wpAny (model P w) X.A (pyNext (.ref it)) (λr s1=>r=none/\aE X KE σ H s1) E s
 self:∀ (A:Kv) (i:Nat) (s:Ko) (Q:Kq->Ko->Prop) (E:Kq->Ko->Prop),tn i s.heap->Q (.ref it) s->wpAny (model P w) A (pyIter (.ref it)) Q E s
abbrev TI:=St->Hp->(It->Hp->Prop)->Prop
def Ij (X:Cx) (KE:List (Kr×KD)) (σ:St) (tg:Kt) (R:It->Hp->Prop) (itv:Kq) (s2:Ko):Prop:=
 ∃ (it:Kr) (fp:List Kr) (tn:Nat->Kx->Prop) (J:It) (H':Hp),itv=.ref it/\aE X KE σ H' s2/\qe X.prog X.w X.K tg J fp it tn/\tn 0 s2.heap/\(∀ b∈fp,ni X KE H' b)/\R J H'
def PI (X:Cx) (tg iter:Kt) (wi:TI):Prop:=
 ∀ (KE:List (Kr×KD)) (s:Ko) (σ:St) (H:Hp) (R:It->Hp->Prop),aE X KE σ H s->wi σ H R->
  wpAny (model X.prog X.w) X.A (eval iter X.env) (λv s1=>wpAny (model X.prog X.w) X.A (pyIter v) (Ij X KE σ tg R) X.xe s1) X.xe s
theorem pC {M:Model} {A:Kv} {E:Kq->Ko->Prop} {s:Ko} {tg:Kt} {it:Kr} {u:Kq} {o:KD} {n:KB} {vs:Kz Kq} {Q:Unit->Ko->Prop} (ho:s.heap.get? it=some o) (hc:o.cls=.type n) (hd:o.data=.fields vs)
  (hn:["enumerate","zip","dict_itemiterator","dict_reverseitemiterator","odict_iterator","itertools.zip_longest","itertools.pairwise"].contains n=false) (hQ:Q () s):wpAny M A (letOwnedTupleGo tg (.ref it) u) Q E s:=by
 unfold letOwnedTupleGo;cases tg <;> first
  | exact JB hQ
  | (cases u <;> first
    | exact JB hQ
    | (refine gt (wpAny_load ho ?_)
       rw [hc,hd]
       show wpAny M A (if (["enumerate","zip","dict_itemiterator","dict_reverseitemiterator","odict_iterator","itertools.zip_longest","itertools.pairwise"].contains n && vs[0]? == some (rawInt _))=true then _ else _) Q E s
       rw [if_neg (by intro h; rw [hn,Bool.false_and] at h; cases h)]
       exact JB hQ))
def F0 (K:PySem.W.Frag) (a:Kr):It:=
 ⟨λi H=>∃ xs x,eQ K H a xs/\xs[i]?=some x,λi H x H'=>H'=H/\∀ xs,eQ K H a xs->xs[i]?=some x,λi H=>∃ xs,eQ K H a xs/\xs.length<=i⟩
def F3 (K:PySem.W.Frag) (a:Kr):It:=
 ⟨λi H=>∃ xs x,gZ K H a xs/\xs[i]?=some x,λi H x H'=>H'=H/\∀ xs,gZ K H a xs->xs[i]?=some x,λi H=>∃ xs,gZ K H a xs/\xs.length<=i⟩
def Ga (lo:Int) (n:Nat):It:=⟨λi _=>i < n,λi H x H'=>H'=H/\x=.int (lo+i),λi _=>n<=i⟩
theorem xo {P:Ku} {w:Kw} {K:PySem.W.Frag} {tg:Kt} (a it:Kr):qe P w K tg (F0 K a) [it] it (λi h=>h.IsListIter it a i) where
 mem:=by simp
 obj:=λi h st b hb=>by
  have e:b=it:=by simpa using hb
  subst e;obtain⟨o,e,c,d⟩:=st;exact⟨o,e,λv z=>by rw [d] at z; cases z⟩
 keep:=λi h h' st k=>st.at λo e=>k it (by simp) o e
 item:=by
  intro X hP hw hK hc i KE s σ H E I hf st hg;subst hP hw hK;obtain⟨xs,x,hq,hx⟩:=hg;obtain⟨its,rv,p,hz⟩:=I.list hq;obtain⟨u,hu,ru⟩:=rv.get hx;obtain⟨f0,f1,f2,f3,f4,f5⟩:=hf it (by simp)
  refine wpAny_pyNext_list_item st p.isList (x:=u) (by simpa using hu) λh' st' sb=>?_
  have I1:aE X KE σ H {s with heap:=h'}:=I.turned (t':=s.toks) (λb o hb e=>(sb.2 b hb).trans e) f0 f1 f3 f4 f5
  obtain⟨o,e,c,d⟩:=id st';exact⟨u,rfl,pC (s:={s with heap:=h'}) e c d (by decide) ⟨x,H,I1,ru,⟨rfl,λys hy=>by rw [I.list_inj hy hq]; exact hx⟩,st',λb hb=>(hf b hb).1⟩⟩
 done:=by
  intro X hP hw hK hc i KE s σ H E I hf st hg;subst hP hw hK;obtain⟨xs,hq,hx⟩:=hg;obtain⟨its,rv,p,hz⟩:=I.list hq;obtain⟨f0,f1,f2,f3,f4,f5⟩:=hf it (by simp)
  have hl:=rv.length;exact wpAny_pyNext_list_end (I.ok.hd hc) st p.isList (by simp; omega) λh' eb=>⟨rfl,I.turned (t':=s.toks) (λb o hb e=>eb b o hb e) f0 f1 f3 f4 f5⟩
 self:=λ_ _ _ _ _ st h=>wpAny_pyIter_listiter st h
theorem vU {P:Ku} {w:Kw} {K:PySem.W.Frag} {tg:Kt} (a it:Kr):qe P w K tg (F3 K a) [it] it (λi h=>h.IsTupleIter it a i) where
 mem:=by simp
 obj:=λi h st b hb=>by
  have e:b=it:=by simpa using hb
  subst e;obtain⟨o,e,c,d⟩:=st;exact⟨o,e,λv z=>by rw [d] at z; cases z⟩
 keep:=λi h h' st k=>st.at λo e=>k it (by simp) o e
 item:=by
  intro X hP hw hK hc i KE s σ H E I hf st hg;subst hP hw hK;obtain⟨xs,x,hq,hx⟩:=hg;obtain⟨its,rv,p,hz⟩:=I.tuple hq;obtain⟨u,hu,ru⟩:=rv.get hx;obtain⟨f0,f1,f2,f3,f4,f5⟩:=hf it (by simp)
  refine wpAny_pyNext_tuple_item st (show s.heap.IsTuple a its.toArray from p) (x:=u) (by simpa using hu) λh' st' sb=>?_
  have I1:aE X KE σ H {s with heap:=h'}:=I.turned (t':=s.toks) (λb o hb e=>(sb.2 b hb).trans e) f0 f1 f3 f4 f5
  obtain⟨o,e,c,d⟩:=id st';exact⟨u,rfl,pC (s:={s with heap:=h'}) e c d (by decide) ⟨x,H,I1,ru,⟨rfl,λys hy=>by rw [I.tuple_inj hy hq]; exact hx⟩,st',λb hb=>(hf b hb).1⟩⟩
 done:=by
  intro X hP hw hK hc i KE s σ H E I hf st hg;subst hP hw hK;obtain⟨xs,hq,hx⟩:=hg;obtain⟨its,rv,p,hz⟩:=I.tuple hq;obtain⟨f0,f1,f2,f3,f4,f5⟩:=hf it (by simp)
  have hl:=rv.length;exact wpAny_pyNext_tuple_end (I.ok.hd hc) st (show s.heap.IsTuple a its.toArray from p) (by simp; omega) λh' eb=>⟨rfl,I.turned (t':=s.toks) (λb o hb e=>eb b o hb e) f0 f1 f3 f4 f5⟩
 self:=λ_ _ _ _ _ st h=>wpAny_pyIter_tupleiter st h
theorem vV {P:Ku} {w:Kw} {K:PySem.W.Frag} {tg:Kt} (it:Kr) (lo:Int) (n:Nat):qe P w K tg (Ga lo n) [it] it (λi h=>IsRangeIter h it (lo+(i:Nat)*1) ((n:Int) - (i:Nat)) 1) where
 mem:=by simp
 obj:=λi h st b hb=>by
  have e:b=it:=by simpa using hb
  subst e;exact⟨_,st,λv z=>by
   have z':Data.fields _=Data.cell v:=z;cases z'⟩
 keep:=λi h h' st k=>k it (by simp) _ st
 item:=by
  intro X hP hw hK hc i KE s σ H E I hf st hg;subst hP hw hK;obtain⟨f0,f1,f2,f3,f4,f5⟩:=hf it (by simp)
  have W:=Walks.range (prog:=X.prog) (w:=X.w) (I.ok.hd hc) it lo 1 n;refine W.item i s _ _ hg st λv h' tk hv st' kk=>?_
  obtain⟨t,rfl⟩:=hv;have I1:aE X KE σ H {s with heap:=h',toks:=tk}:=I.turned (λb o hb e=>kk b o (by simpa using hb) e) f0 f1 f3 f4 f5
  refine⟨_,rfl,pC (s:={s with heap:=h',toks:=tk}) (n:="range_iterator") st' rfl rfl (by decide) ⟨.int (lo+i),H,I1,⟨t,?_⟩,⟨rfl,rfl⟩,st',λb hb=>(hf b hb).1⟩⟩
  rw [Int.mul_one]
 done:=by
  intro X hP hw hK hc i KE s σ H E I hf st hg;subst hP hw hK;obtain⟨f0,f1,f2,f3,f4,f5⟩:=hf it (by simp)
  exact wpAny_pyNext_range_end (I.ok.hd hc) st (by have:n<=i:=hg; omega) λh' eb=>⟨rfl,I.turned (t':=s.toks) (λb o hb e=>eb b o hb e) f0 f1 f3 f4 f5⟩
 self:=λ_ _ _ _ _ st h=>wpAny_pyIter_rangeiter st h
section
variable {X:Cx} {tg:Kt}
theorem zY {KE:List (Kr×KD)} {σ:St} {H:Hp} {s:Ko} {R:It->Hp->Prop} {E:Kq->Ko->Prop} {lo hi:Int} {t u v:Tok} {tk:Nat} (I:aE X KE σ H s) (h1:-(2 ^ 62)<=lo) (h2:lo < 2 ^ 62) (h3:-(2 ^ 62)<=hi) (h4:hi < 2 ^ 62)
  (q:R (Ga lo (hi - lo).toNat) H):wpAny (model X.prog X.w) X.A (pyIter (.ref s.heap.objs.size)) (Ij X KE σ tg R) E {s with heap:=s.heap.push {cls:=.type "range",data:=.fields #[.int lo t,.int hi u,.int 1 v]},toks:=tk}:=by
 refine wpAny_pyIter_range (IsRange.new ..) (small_one h1 h2 h3 h4) ?_;have I1:aE X KE σ H {s with heap:=s.heap.push {cls:=.type "range",data:=.fields #[.int lo t,.int hi u,.int 1 v]},toks:=tk}:=I.kept λb o e=>pp _ e
 refine⟨(s.heap.push {cls:=.type "range",data:=.fields #[.int lo t,.int hi u,.int 1 v]}).objs.size,[(s.heap.push {cls:=.type "range",data:=.fields #[.int lo t,.int hi u,.int 1 v]}).objs.size],_,_,H,rfl,
  I1.kept (t':=tk) λb o e=>pp _ e,vV _ lo (hi - lo).toNat,?_,λb hb=>?_,q⟩
 ·have e1:lo+((0:Nat):Int)*1=lo:=by simp
  have e2:(((hi - lo).toNat:Nat):Int) - ((0:Nat):Int)=Builtin.Range.rangeSize lo hi 1:=by rw [rangeSize_one]; split <;> omega
  show IsRangeIter _ _ (lo+((0:Nat):Int)*1) ((((hi - lo).toNat:Nat):Int) - ((0:Nat):Int)) 1
  rw [e1,e2];exact JC _ rfl
 ·have e:b=(s.heap.push {cls:=.type "range",data:=.fields #[.int lo t,.int hi u,.int 1 v]}).objs.size:=by simpa using hb
  subst e;exact I1.fpOk (JE _) (I1.hok.fresh (JE _))
def Gf (ta:TA):TI:=fun σ H R=>ta σ H λvs H1=>∃ j:Int,vs=[.int j]/\-(2 ^ 62)<=j/\j < 2 ^ 62/\R (Ga 0 j.toNat) H1
theorem rq {a:Kt} {ta:TA} {p pos:Pos} (hg:Gl X "range") (hm:X.mg "range"=none) (ha:PA X [a] ta) (hs:starEach [a] X.env=[(false,eval a X.env)]:=by rfl):PI X tg (.Call (.Name "range" p) [a] [] pos) (Gf ta):=by
 intro KE s σ H R I h;refine Call_ (j4 I hg hm boot_range (PyProof.Rows.callWith_type1 (be (ha pos KE s σ H _ I h) λus s1 ⟨vs,H1,I1,r1,q1⟩=>?_) hs rfl))
 obtain⟨j,e,q1,q2,q⟩:=q1;subst e;cases r1 with
 | cons r rr=>
  cases rr;obtain⟨t,rfl⟩:=r;exact call_range_1 (zY I1 (by omega) (by omega) q1 q2 (by simpa using q))
def HB (wi:TI) (g:TG) (tb:TS):TS:=λD σ H=>wi σ H λJ H1=>∃ W:Nat->Nat->St->Hp->Prop,(∃ m,W 0 m σ H1)/\∀ i m σ H,W i m σ H->
 (J.stop i H/\D.nx σ H)\/(J.go i H/\∃ N:St->Hp->Prop,(∀ σ' H',N σ' H'->∃ m',m' < m/\W (i+1) m' σ' H')/\∀ x H',J.yld i H x H'->g x σ H' fun σ2 H2=>tb {D with nx:=N,ct:=N,bk:=D.nx} σ2 H2)
def na (fp:List Kr) (h:Kx):List (Kr×KD):=fp.filterMap λb=>(h.get? b).map λo=>(b,o)
theorem b5 {fp:List Kr} {h:Kx} {b:Kr} {o:KD} (hb:b∈fp) (e:h.get? b=some o):(b,o)∈na fp h:=List.mem_filterMap.mpr ⟨b,hb,by rw [e]; rfl⟩
theorem xF {fp:List Kr} {h:Kx} {p:Kr×KD} (hp:p∈na fp h):p.1∈fp/\h.get? p.1=some p.2:=by
 obtain⟨b,hb,e⟩:=List.mem_filterMap.mp hp;cases q:h.get? b with
 | none=>rw [q] at e; cases e
 | some o=>
  rw [q] at e;have e':(b,o)=p:=J1 e;subst e';exact⟨hb,q⟩
theorem aE.pinned {KE:List (Kr×KD)} {σ:St} {H:Hp} {s:Ko} {fp:List Kr} (I:aE X KE σ H s) (hf:∀ b∈fp,ni X KE H b) (ho:∀ b∈fp,∃ o,s.heap.get? b=some o/\∀ v,o.data≠.cell v):aE X (KE++na fp s.heap) σ H s:=
 I.pins_of λp hp=>(List.mem_append.mp hp).elim (λz=>I.pin p (JO _ z)) λz=>by
  obtain⟨hb,e⟩:=xF z;obtain⟨f0,f1,f2,_⟩:=hf p.1 hb;obtain⟨o,e',d⟩:=ho p.1 hb;rw [e] at e'; cases e'
  exact⟨e,f0,f1,f2,d⟩
theorem aE.unpinned {KE pl:List (Kr×KD)} {σ:St} {H:Hp} {s:Ko} (I:aE X (KE++pl) σ H s):aE X KE σ H s:=I.pins_of λp hp=>I.pin p (JO _ (List.mem_append_left _ hp))
theorem pN {iter:Kt} {body:List Ky} {wi:TI} {g:TG} {tb:TS} {pos:Pos} (hp:PassesOwn (model X.prog X.w) X.A X.env X.xe) (hc:X.calm=true) (hi:PI X tg iter wi) (hg:PG X tg g) (hb:qH X body tb)
  (hs:∀ x,foldedSetIterable iter X.env x=pure x:=by intro _; rfl):PS X (.For tg iter body [] pos) (HB wi g tb):=by
 intro KE s σ H D I h;refine wpAny_For (be (hi KE s σ H _ I h) λv s1 h1=>be h1 λitv s2 h2=>?_) hs
 obtain⟨it,fp,tn,J,H2,e,I2,T,st2,f2,W,⟨m0,w0⟩,turn⟩:=h2;subst e;have stat:∀ {H':Hp},(∀ b∈fp,H' b=none)->∀ b∈fp,ni X KE H' b:=λhn b hb=>⟨hn b hb,(f2 b hb).2⟩
 refine codeAny_forLoop_any (λn s'=>∃ i σ' H',aE X KE σ' H' s'/\tn i s'.heap/\(∀ b∈fp,H' b=none)/\W i n σ' H') ?_ m0 ⟨0,σ,H2,I2,st2,λb hb=>(f2 b hb).1,w0⟩
 rintro n s3 ⟨i,σ3,H3,I3,st3,fr3,w3⟩;rcases turn i n σ3 H3 w3 with ⟨stop,qn⟩ | ⟨go,N,hN,step⟩
 ·refine wpAny_passesOwn hp (be (T.done X rfl rfl rfl hc i KE s3 σ3 H3 X.xe I3 (stat fr3) st3 stop) λr s4 z9=>?_)
  obtain⟨hr,I4⟩:=z9;subst hr;exact wpAny_execs_nil ⟨σ3,H3,I4,qn⟩
 ·refine wpAny_passesOwn hp (be (T.item X rfl rfl rfl hc i KE s3 σ3 H3 X.xe I3 (stat fr3) st3 go) λr s4 z9=>?_)
  obtain⟨u,hr,h4⟩:=z9;subst hr;refine wpAny_passesOwn hp (be h4 λ_ s5 z9=>?_)
  obtain⟨x,H5,I5,r5,y5,st5,fr5⟩:=z9;have I5':=I5.pinned (stat fr5) (T.obj _ _ st5);refine wpAny_passesOwn hp (be (hg _ s5 σ3 H5 x u _ I5' r5 (step x H5 y5)) λ_ s6 z9=>?_)
  obtain⟨σ6,H6,I6,q6⟩:=z9;refine wpAny_passesOwn hp (be (hb _ s6 σ6 H6 _ I6 q6) λf s7 q7=>?_)
  have again:∀ {σ7:St} {H7:Hp},aE X (KE++na fp s5.heap) σ7 H7 s7->N σ7 H7->∃ m,m < n/\∃ i σ' H',aE X KE σ' H' s7/\tn i s7.heap/\(∀ b∈fp,H' b=none)/\W i m σ' H':=λ{σ7 H7} I7 n7=>by
   obtain⟨m',hm,w7⟩:=hN σ7 H7 n7;refine⟨m',hm,i+1,σ7,H7,I7.unpinned,T.keep _ _ _ st5 λb hb o e=>(I7.pin (b,o) (JO _ (JO _ (b5 hb e)))).1,λb hb=>?_,w7⟩
   obtain⟨o,e,d⟩:=T.obj _ _ st5 b hb;exact(I7.pin (b,o) (JO _ (JO _ (b5 hb e)))).2.1
  cases f with
  | next=>obtain⟨σ7,H7,I7,n7⟩:=q7; exact again I7 n7
  | cont=>obtain⟨σ7,H7,I7,n7⟩:=q7; exact again I7 n7
  | brk=>obtain⟨σ7,H7,I7,q7⟩:=q7; exact⟨σ7,H7,I7.unpinned,q7⟩
  | ret v=>obtain⟨x7,σ7,H7,I7,r7,q7⟩:=q7; exact⟨x7,σ7,H7,I7.unpinned,r7,q7⟩
end
abbrev R2:=V->V->Hp->VK->Prop
def cS (X:Cx) (f:Kq->Kq->Sem Kq) (r:R2):Prop:=
 ∀ (KE:List (Kr×KD)) (s:Ko) (σ:St) (H:Hp) (x y:V) (v u:Kq) (Q:VK),aE X KE σ H s->aV x v->aV y u->r x y H Q->
  wpAny (model X.prog X.w) X.A (f v u) (EP X KE σ Q) X.xe s
def Gj (X:Cx) (f:Kq->Sem Kq) (r:V->Hp->VK->Prop):Prop:=
 ∀ (KE:List (Kr×KD)) (s:Ko) (σ:St) (H:Hp) (x:V) (v:Kq) (Q:VK),aE X KE σ H s->aV x v->r x H Q->
  wpAny (model X.prog X.w) X.A (f v) (EP X KE σ Q) X.xe s
def bW (X:Cx) (f:Kq) (r:List V->Hp->VK->Prop):Prop:=
 ∀ (KE:List (Kr×KD)) (s:Ko) (σ:St) (H:Hp) (xs:List V) (us:List Kq) (Q:VK),aE X KE σ H s->aW xs us->r xs H Q->
  wpAny (model X.prog X.w) X.A (call f us) (EP X KE σ Q) X.xe s
def Gm (r:R2) (ta tb:TE):TE:=fun σ H Q=>ta σ H λx H1=>tb σ H1 λy H2=>r x y H2 Q
def Jz (r:V->Hp->VK->Prop) (ta:TE):TE:=fun σ H Q=>ta σ H λx H1=>r x H1 Q
def rI (C:Int->Int->Prop) (g:Int->Int->V):R2:=λx y H Q=>∃ i j,x=.int i/\y=.int j/\C i j/\Q (g i j) H
def Ba (g:Int->Int->V):R2:=λx y H Q=>∃ i j,x=.int i/\y=.int j/\Q (g i j) H
def rU (g:Int->V):V->Hp->VK->Prop:=λx H Q=>∃ i,x=.int i/\Q (g i) H
section
variable {X:Cx} {a b c:Kt} {ta tb tc:TE} {pos:Pos}
theorem Dy (ha:PE X a ta) (hb:PE X b tb) {KE:List (Kr×KD)} {s:Ko} {σ:St} {H:Hp} {R:V->V->Hp->Prop} (I:aE X KE σ H s)
  (h:ta σ H λx H1=>tb σ H1 λy H2=>R x y H2) {Q:Kq->Ko->Prop} {f:Kq->Kq->Sem Kq}
  (hf:∀ v u s2 x y H2,aE X KE σ H2 s2->aV x v->aV y u->R x y H2->wpAny (model X.prog X.w) X.A (f v u) Q X.xe s2):
  wpAny (model X.prog X.w) X.A (eval a X.env) (λv s₁=>wpAny (model X.prog X.w) X.A (eval b X.env) (λu s₂=>wpAny (model X.prog X.w) X.A (f v u) Q X.xe s₂) X.xe s₁) X.xe s:=by
 refine be (ha KE s σ H _ I h) λv s1 z9=>?_
 obtain⟨x,H1,I1,r1,q1⟩:=z9;refine be (hb KE s1 σ H1 _ I1 q1) λu s2 z9=>?_
 obtain⟨y,H2,I2,r2,q2⟩:=z9;exact hf v u s2 x y H2 I2 r1 r2 q2
theorem GQ {op:Operator} {r:R2} (ho:cS X (binaryOp op) r) (ha:PE X a ta) (hb:PE X b tb):PE X (.BinOp a op b pos) (Gm r ta tb):=by
 intro KE s σ H Q I h;exact wpAny_BinOp (Dy ha hb I h λv u s2 x y H2 I2 rx ry q=>ho KE s2 σ H2 x y v u Q I2 rx ry q)
theorem Hm {op:UnaryOp} {r:V->Hp->VK->Prop} (ho:Gj X (unaryOp op) r) (ha:PE X a ta):PE X (.UnaryOp op a pos) (Jz r ta):=by
 intro KE s σ H Q I h;exact UnaryOp_ (be (ha KE s σ H _ I h) λv s1 z9=>by obtain⟨x,H1,I1,r1,q1⟩:=z9; exact ho KE s1 σ H1 x v Q I1 r1 q1)
theorem Hj {f:Kq->Kq->Sem Kq} {C:Int->Int->Prop} {g:Int->Int->Int}
  (rule:∀ (i j:Int) (t u:Tok) (s:Ko) (Q:Kq->Ko->Prop) (E:Kq->Ko->Prop),C i j->Q (.int (g i j) s.toks) {s with toks:=s.toks+1}->wpAny (model X.prog X.w) X.A (f (.int i t) (.int j u)) Q E s):
  cS X f (rI C λi j=>.int (g i j)):=by
 intro KE s σ H x y v u Q I rx ry h;obtain⟨i,j,rfl,rfl,hc,q⟩:=h;obtain⟨t,rfl⟩:=rx;obtain⟨t',rfl⟩:=ry;exact rule i j t t' s _ _ hc ⟨.int (g i j),H,I.tok _,⟨_,rfl⟩,q⟩
theorem F7 {f:Kq->Kq->Sem Kq} {g:Int->Int->Int}
  (rule:∀ (i j:Int) (t u:Tok) (s:Ko) (Q:Kq->Ko->Prop) (E:Kq->Ko->Prop),Q (.int (g i j) s.toks) {s with toks:=s.toks+1}->wpAny (model X.prog X.w) X.A (f (.int i t) (.int j u)) Q E s):
  cS X f (Ba λi j=>.int (g i j)):=by
 intro KE s σ H x y v u Q I rx ry h;obtain⟨i,j,rfl,rfl,q⟩:=h;obtain⟨t,rfl⟩:=rx;obtain⟨t',rfl⟩:=ry;exact rule i j t t' s _ _ ⟨.int (g i j),H,I.tok _,⟨_,rfl⟩,q⟩
theorem Bh {f:Kq->Kq->Sem Kq} {g:Int->Int->KA}
  (rule:∀ (i j:Int) (t u:Tok) (s:Ko) (Q:Kq->Ko->Prop) (E:Kq->Ko->Prop),Q (.bool (g i j)) s->wpAny (model X.prog X.w) X.A (f (.int i t) (.int j u)) Q E s):
  cS X f (Ba λi j=>.bl (g i j)):=by
 intro KE s σ H x y v u Q I rx ry h;obtain⟨i,j,rfl,rfl,q⟩:=h;obtain⟨t,rfl⟩:=rx;obtain⟨t',rfl⟩:=ry;exact rule i j t t' s _ _ ⟨.bl (g i j),H,I,rfl,q⟩
def xq (i j:Int):Prop:=0<=j/\j<=1000000/\i.natAbs < 2 ^ 64
theorem DY:cS X (binaryOp .Add) (Ba λi j=>.int (i+j)):=F7 λ_ _ _ _ _ _ _ q=>add_int q
theorem Ez:cS X (binaryOp .Sub) (Ba λi j=>.int (i - j)):=F7 λ_ _ _ _ _ _ _ q=>sub_int q
theorem BD:cS X (binaryOp .Mod) (rI (λ_ j=>j≠0) λi j=>.int (i.fmod j)):=Hj λ_ _ _ _ _ _ _ hc q=>mod_int' hc q
theorem E4:cS X (binaryOp .Pow) (rI xq λi j=>.int (i ^ j.toNat)):=Hj λ_ _ _ _ _ _ _ hc q=>pow_int_small hc.1 hc.2.1 hc.2.2 q
theorem E8:cS X (binaryOp .LShift) (rI xq λi j=>.int (i*2 ^ j.toNat)):=Hj λ_ _ _ _ _ _ _ hc q=>lshift_int_small hc.1 hc.2.1 hc.2.2 q
theorem IT {f:Kq->Sem Kq} {g:Int->Int}
  (rule:∀ (i:Int) (t:Tok) (s:Ko) (Q:Kq->Ko->Prop) (E:Kq->Ko->Prop),Q (.int (g i) s.toks) {s with toks:=s.toks+1}->wpAny (model X.prog X.w) X.A (f (.int i t)) Q E s):
  Gj X f (rU λi=>.int (g i)):=by
 intro KE s σ H x v Q I rx h;obtain⟨i,rfl,q⟩:=h;obtain⟨t,rfl⟩:=rx;exact rule i t s _ _ ⟨.int (g i),H,I.tok _,⟨_,rfl⟩,q⟩
theorem DF:Gj X (unaryOp .USub) (rU λi=>.int (-i)):=IT λ_ _ _ _ _ q=>neg_int q
end
def D7:V->V->KA
 | .non,.non=>true | .non,.int _=>true | .int _,.non=>true | .non,.bl _=>true | .bl _,.non=>true | .non,.str _=>true | .str _,.non=>true
 | .int _,.int _=>true | .bl _,.bl _=>true | .str _,.str _=>true | .byt _,.byt _=>true
 | .int _,.str _=>true | .str _,.int _=>true | .bl _,.str _=>true | .str _,.bl _=>true
 | _,_=>false
def I0:R2:=λx y H Q=>D7 x y=true/\Q (.bl (decide (x=y))) H
def Jm:R2:=λx y H Q=>D7 x y=true/\Q (.bl (!decide (x=y))) H
theorem wL {i j:Int}:decide (V.int i=V.int j)=(i == j):=by
 rw [Bool.eq_iff_iff];simp
theorem AX {i j:KA}:decide (V.bl i=V.bl j)=(i == j):=by
 rw [Bool.eq_iff_iff];simp
theorem wN {i j:Str}:decide (V.str i=V.str j)=(i == j):=by
 rw [Bool.eq_iff_iff];simp
theorem wj {i j:Kz UInt8}:decide (V.byt i=V.byt j)=(i.toList == j.toList):=by
 rw [Bool.eq_iff_iff];cases i;cases j;simp
section
variable {X:Cx} {a b c:Kt} {ta tb tc:TE} {pos:Pos}
theorem a8 {KE:List (Kr×KD)} {σ:St} {H:Hp} {s:Ko} {Q:VK} {k k':KA} (I:aE X KE σ H s) (q:Q (.bl k) H) (e:k=k'):EP X KE σ Q (.bool k') s:=by
 subst e;exact⟨.bl k,H,I,rfl,q⟩
theorem He:cS X (compareOp .Eq) I0:=by
 intro KE s σ H x y v u Q I rx ry h;obtain⟨hs,q⟩:=h;cases x with
 | non=>
  cases rx;cases y with
  | non=>cases ry; exact PySem.EqNone.eq_none_none (a8 I q (by simp))
  | bl j=>cases ry; exact PySem.EqNone.eq_none_bool (a8 I q (by simp))
  | int j=>obtain⟨t',rfl⟩:=ry; exact PySem.EqNone.eq_none_int (a8 I q (by simp))
  | str j=>obtain⟨t',rfl⟩:=ry; exact PySem.EqNone.eq_none_str (a8 I q (by simp))
  | _=>exact absurd (show false=true from hs) JH
 | bl i=>
  cases rx;cases y with
  | non=>cases ry; exact PySem.EqNone.eq_bool_none (a8 I q (by simp))
  | bl j=>cases ry; exact eq_bool (a8 I q AX)
  | str j=>obtain⟨t',rfl⟩:=ry; exact PySem.EqMixed.eq_bool_str (a8 I q (by simp))
  | _=>exact absurd (show false=true from hs) JH
 | int i=>
  obtain⟨t,rfl⟩:=rx;cases y with
  | non=>cases ry; exact PySem.EqNone.eq_int_none (a8 I q (by simp))
  | int j=>obtain⟨t',rfl⟩:=ry; exact eq_int (a8 I q wL)
  | str j=>obtain⟨t',rfl⟩:=ry; exact PySem.EqMixed.eq_int_str (a8 I q (by simp))
  | _=>exact absurd (show false=true from hs) JH
 | str i=>
  obtain⟨t,rfl⟩:=rx;cases y with
  | non=>cases ry; exact PySem.EqNone.eq_str_none (a8 I q (by simp))
  | bl j=>cases ry; exact PySem.EqMixed.eq_str_bool (a8 I q (by simp))
  | int j=>obtain⟨t',rfl⟩:=ry; exact PySem.EqMixed.eq_str_int (a8 I q (by simp))
  | str j=>obtain⟨t',rfl⟩:=ry; exact eq_str (a8 I q wN)
  | _=>exact absurd (show false=true from hs) JH
 | byt i=>
  obtain⟨t,rfl⟩:=rx;cases y with
  | byt j=>obtain⟨t',rfl⟩:=ry; exact PySem.W.eq_bytes (a8 I q wj)
  | _=>exact absurd (show false=true from hs) JH
 | _=>cases y <;> exact absurd (show false=true from hs) JH
theorem G8:cS X (compareOp .NotEq) Jm:=by
 intro KE s σ H x y v u Q I rx ry h;obtain⟨hs,q⟩:=h;cases x with
 | non=>
  cases rx;cases y with
  | non=>cases ry; exact PySem.EqNone.ne_none_none (a8 I q (by simp))
  | bl j=>cases ry; exact PySem.EqNone.ne_none_bool (a8 I q (by simp))
  | int j=>obtain⟨t',rfl⟩:=ry; exact PySem.EqNone.ne_none_int (a8 I q (by simp))
  | str j=>obtain⟨t',rfl⟩:=ry; exact PySem.EqNone.ne_none_str (a8 I q (by simp))
  | _=>exact absurd (show false=true from hs) JH
 | bl i=>
  cases rx;cases y with
  | non=>cases ry; exact PySem.EqNone.ne_bool_none (a8 I q (by simp))
  | bl j=>cases ry; exact ne_bool (a8 I q (congrArg not AX))
  | str j=>obtain⟨t',rfl⟩:=ry; exact PySem.EqMixed.ne_bool_str (a8 I q (by simp))
  | _=>exact absurd (show false=true from hs) JH
 | int i=>
  obtain⟨t,rfl⟩:=rx;cases y with
  | non=>cases ry; exact PySem.EqNone.ne_int_none (a8 I q (by simp))
  | int j=>obtain⟨t',rfl⟩:=ry; exact ne_int (a8 I q (congrArg not wL))
  | str j=>obtain⟨t',rfl⟩:=ry; exact PySem.EqMixed.ne_int_str (a8 I q (by simp))
  | _=>exact absurd (show false=true from hs) JH
 | str i=>
  obtain⟨t,rfl⟩:=rx;cases y with
  | non=>cases ry; exact PySem.EqNone.ne_str_none (a8 I q (by simp))
  | bl j=>cases ry; exact PySem.EqMixed.ne_str_bool (a8 I q (by simp))
  | int j=>obtain⟨t',rfl⟩:=ry; exact PySem.EqMixed.ne_str_int (a8 I q (by simp))
  | str j=>obtain⟨t',rfl⟩:=ry; exact ne_str (a8 I q (congrArg not wN))
  | _=>exact absurd (show false=true from hs) JH
 | byt i=>
  obtain⟨t,rfl⟩:=rx;cases y with
  | byt j=>obtain⟨t',rfl⟩:=ry; exact PySem.W.ne_bytes (a8 I q (congrArg not wj))
  | _=>exact absurd (show false=true from hs) JH
 | _=>cases y <;> exact absurd (show false=true from hs) JH
theorem Gv:cS X (compareOp .Lt) (Ba λi j=>.bl (decide (i < j))):=Bh λ_ _ _ _ _ _ _ q=>lt_int q
theorem Go:cS X (compareOp .LtE) (Ba λi j=>.bl (decide (i<=j))):=Bh λ_ _ _ _ _ _ _ q=>le_int q
theorem Hf:cS X (compareOp .Gt) (Ba λi j=>.bl (decide (j < i))):=Bh λ_ _ _ _ _ _ _ q=>gt_int q
theorem Gh:cS X (compareOp .GtE) (Ba λi j=>.bl (decide (j<=i))):=Bh λ_ _ _ _ _ _ _ q=>ge_int q
theorem Fo:cS X (compareOp .Is) (λx y H Q=>y=.non/\Q (.bl (decide (x=.non))) H):=by
 intro KE s σ H x y v u Q I rx ry h;obtain⟨rfl,q⟩:=h;cases ry;refine is_none_gen (a8 I q ?_);cases x <;> first
  | (cases rx; rfl)
  | (obtain ⟨t,rfl⟩:=rx; rfl)
theorem Ci:cS X (compareOp .IsNot) (λx y H Q=>y=.non/\Q (.bl (!decide (x=.non))) H):=by
 intro KE s σ H x y v u Q I rx ry h;obtain⟨rfl,q⟩:=h;cases ry;refine isnot_none_gen (a8 I q ?_);cases x <;> first
  | (cases rx; rfl)
  | (obtain ⟨t,rfl⟩:=rx; rfl)
theorem ar (b:Kt) {op:CmpOp} (h:op≠.In:=by decide) (h2:op≠.NotIn:=by decide):behindInMarks op b=false:=by
 have e1:(op == CmpOp.In)=false:=by cases op <;> first | rfl | exact absurd rfl h
 have e2:(op == CmpOp.NotIn)=false:=by cases op <;> first | rfl | exact absurd rfl h2
 cases b <;> simp [behindInMarks,e1,e2]
theorem BV {op:CmpOp} {r:R2} (ho:cS X (compareOp op) r) (ha:PE X a ta) (hb:PE X b tb) (hm:behindInMarks op b=false):PE X (.Compare a [op] [b] pos) (Gm r ta tb):=by
 intro KE s σ H Q I h;exact wpAny_Compare1 (Dy ha hb I h λv u s2 x y H2 I2 rx ry q=>ho KE s2 σ H2 x y v u Q I2 rx ry q) hm
def AZ (t:TE):TT:=fun σ H Q=>t σ H λx H'=>∃ k,x=.bl k/\Q k H'
theorem BF {op:CmpOp} {r:R2} (ho:cS X (compareOp op) r) (ha:PE X a ta) (hb:PE X b tb) (hm:behindInMarks op b=false):PT X (.Compare a [op] [b] pos) (AZ (Gm r ta tb)):=by
 intro KE s σ H Q I h;refine wpAny_isTrue_Compare1 (be (ha KE s σ H _ I h) λv s1 ⟨x,H1,I1,r1,q1⟩=>be (hb KE s1 σ H1 _ I1 q1) λu s2 ⟨y,H2,I2,r2,q2⟩=>
  be (ho KE s2 σ H2 x y v u _ I2 r1 r2 q2) λc s3 ⟨z,H3,I3,r3,k,e,q3⟩=>?_) hm
 subst e;cases r3;exact wpAny_truthy_bool ⟨H3,I3,q3⟩
def uU (r r':R2) (ta tb tc:TE):TE:=fun σ H Q=>ta σ H λx H1=>tb σ H1 λy H2=>r x y H2 λz H3=>∃ k,z=.bl k/\
 (if k=true then tc σ H3 λw' H4=>r' y w' H4 Q else Q (.bl false) H3)
theorem zc {op op':CmpOp} {r r':R2} (ho:cS X (compareOp op) r) (ho':cS X (compareOp op') r') (ha:PE X a ta) (hb:PE X b tb) (hc:PE X c tc)
  (hm:lastMarks [op,op'] [b,c]=false:=by with_unfolding_all rfl):PE X (.Compare a [op,op'] [b,c] pos) (uU r r' ta tb tc):=by
 intro KE s σ H Q I h;refine Compare_chain (be (ha KE s σ H _ I h) λv s1 ⟨x,H1,I1,r1,q1⟩=>chain_link (be (hb KE s1 σ H1 _ I1 q1) λu s2 ⟨y,H2,I2,r2,q2⟩=>
  be (ho KE s2 σ H2 x y v u _ I2 r1 r2 q2) λd s3 ⟨z,H3,I3,r3,k,e,q3⟩=>?_)) hm
 subst e;cases r3;refine wpAny_truthy_bool ?_;cases k with
 | false=>exact ite_ff ⟨.bl false,H3,I3,rfl,q3⟩
 | true=>exact ite_tt (chain_last (be (hc KE s3 σ H3 _ I3 q3) λw' s4 ⟨z',H4,I4,r4,q4⟩=>ho' KE s4 σ H4 y z' u w' Q I4 r2 r4 q4))
theorem Ag {op op':CmpOp} {r r':R2} (ho:cS X (compareOp op) r) (ho':cS X (compareOp op') r') (ha:PE X a ta) (hb:PE X b tb) (hc:PE X c tc)
  (hm:lastMarks [op,op'] [b,c]=false:=by with_unfolding_all rfl):PT X (.Compare a [op,op'] [b,c] pos) (AZ (uU r r' ta tb tc)):=by
 intro KE s σ H Q I h;refine isTrue_chain (be (ha KE s σ H _ I h) λv s1 ⟨x,H1,I1,r1,q1⟩=>test_link (be (hb KE s1 σ H1 _ I1 q1) λu s2 ⟨y,H2,I2,r2,q2⟩=>
  be (ho KE s2 σ H2 x y v u _ I2 r1 r2 q2) λd s3 ⟨z,H3,I3,r3,k,e,q3⟩=>?_)) hm
 subst e;cases r3;refine wpAny_truthy_bool ?_;cases k with
 | false=>
  obtain⟨k',e',q'⟩:=q3;cases e';exact ite_ff ⟨H3,I3,q'⟩
 | true=>
  refine ite_tt (test_last (be (hc KE s3 σ H3 _ I3 q3) λw' s4 ⟨z',H4,I4,r4,q4⟩=>be (ho' KE s4 σ H4 y z' u w' _ I4 r2 r4 q4) λd' s5 ⟨z2,H5,I5,r5,k2,e2,q5⟩=>?_))
  subst e2;cases r5;exact wpAny_truthy_bool ⟨H5,I5,q5⟩
theorem oO:(sizeLine:Nat) < 2 ^ 63:=by rw [sizeLine_eq]; decide
theorem vY:cS X (binaryOp .Add) (λx y H Q=>∃ i j,x=.str i/\y=.str j/\i.length+j.length<=sizeLine/\Q (.str (i++j)) H):=by
 intro KE s σ H x y v u Q I rx ry h;obtain⟨i,j,rfl,rfl,hz,q⟩:=h;obtain⟨t,rfl⟩:=rx;obtain⟨t',rfl⟩:=ry;exact add_str (λt' tk=>⟨.str (i++j),H,I.tok _,⟨_,rfl⟩,q⟩) hz
theorem qQ {x:V} {us:List Kq} (r:aW [x] us):∃ u,us=[u]/\aV x u:=by
 cases r with
 | cons r1 r2=>cases r2; exact⟨_,rfl,r1⟩
theorem o9 {x y:V} {us:List Kq} (r:aW [x,y] us):∃ u w',us=[u,w']/\aV x u/\aV y w':=by
 cases r with
 | cons r1 r2=>
  cases r2 with
  | cons r3 r4=>cases r4; exact⟨_,_,rfl,r1,r3⟩
theorem zR:bW X (.builtin "abs") (λxs H Q=>∃ i,xs=[.int i]/\Q (.int (if i < 0 then -i else i)) H):=by
 intro KE s σ H xs us Q I r h;obtain⟨i,rfl,q⟩:=h;obtain⟨u,rfl,t,rfl⟩:=qQ r;exact call_abs_int λu tk=>⟨.int (if i < 0 then -i else i),H,I.tok _,⟨_,rfl⟩,q⟩
theorem xl (hc:X.calm=true):bW X (.builtin "max") (λxs H Q=>∃ i j,xs=[.int i,.int j]/\Q (.int (if j > i then j else i)) H):=by
 intro KE s σ H xs us Q I r h;obtain⟨i,j,rfl,q⟩:=h;obtain⟨u,w',rfl,⟨t,rfl⟩,⟨t',rfl⟩⟩:=o9 r;refine max_two_ints (I.ok.hd hc) λh' tk k=>⟨_,H,I.kept k,?_,q⟩
 by_cases hj:j > i
 ·rw [if_pos hj,if_pos hj]; exact⟨_,rfl⟩
 ·rw [if_neg hj,if_neg hj]; exact⟨_,rfl⟩
theorem xG (hc:X.calm=true):bW X (.builtin "min") (λxs H Q=>∃ i j,xs=[.int i,.int j]/\Q (.int (if j < i then j else i)) H):=by
 intro KE s σ H xs us Q I r h;obtain⟨i,j,rfl,q⟩:=h;obtain⟨u,w',rfl,⟨t,rfl⟩,⟨t',rfl⟩⟩:=o9 r;refine min_two_ints (I.ok.hd hc) λh' tk k=>⟨_,H,I.kept k,?_,q⟩
 by_cases hj:j < i
 ·rw [if_pos hj,if_pos hj]; exact⟨_,rfl⟩
 ·rw [if_neg hj,if_neg hj]; exact⟨_,rfl⟩
theorem qG:bW X (.type "int") (λxs H Q=>(∃ i,xs=[.int i]/\Q (.int i) H)\/∃ k,xs=[.bl k]/\Q (.int (if k then 1 else 0)) H):=by
 intro KE s σ H xs us Q I r h;rcases h with ⟨i,rfl,q⟩ | ⟨k,rfl,q⟩
 ·obtain⟨u,rfl,t,rfl⟩:=qQ r;exact call_int_int ⟨.int i,H,I,⟨_,rfl⟩,q⟩
 ·obtain⟨u,rfl,r1⟩:=qQ r;cases r1;exact call_int_bool ⟨.int (if k then 1 else 0),H,I.tok _,⟨_,rfl⟩,q⟩
end
structure cA (k:Nat) (A:Kv):Prop where
 hd:A.handled=none
 dp:A.depth+3*k+5 < recursionLimit
 un:A.units+16*k+200 < cLine
theorem cA.mono {j k:Nat} {A:Kv} (r:cA k A) (h:j<=k):cA j A:=⟨r.hd,by have:=r.dp; omega,by have:=r.un; omega⟩
theorem cA.deeper {k:Nat} {A:Kv} (r:cA (k+1) A) (env:Env):cA k (A.deeper env):=
 ⟨r.hd,by have:=r.dp; show A.depth+1+3*k+5 < _; omega,by have:=r.un; show A.units+3+16*k+200 < _; omega⟩
theorem cA.depth {k:Nat} {A:Kv} (r:cA k A):A.depth < recursionLimit:=by have:=r.dp; omega
theorem cA.units {k:Nat} {A:Kv} (r:cA k A):A.units+64 < cLine:=by have:=r.un; omega
def HQ:TA:=λ_ H Q=>Q [] H
def FJ (ta:TE) (tr:TA):TA:=fun σ H Q=>ta σ H λx H1=>tr σ H1 λxs H2=>Q (x::xs) H2
section
variable {X:Cx} {e:Kt} {es:List Kt} {te:TE} {t:TA} {pos:Pos}
theorem zJ:PA X [] HQ:=λ_ _ _ _ H Q I h=>Calls.spliced_nil ⟨[],H,I,.nil,h⟩
theorem xf (ha:PE X e te) (hr:PA X es t) (hs:starEach (e::es) X.env=(false,eval e X.env)::starEach es X.env:=by rfl):PA X (e::es) (FJ te t):=by
 intro pos KE s σ H Q I h;rw [hs]
 show wpAny _ _ (spliced ((false,eval e X.env)::backTo pos (starEach es X.env))) _ _ s
 refine Calls.spliced_cons (be (ha KE s σ H _ I h) λu s1 z9=>?_)
 obtain⟨x,H1,I1,r1,q1⟩:=z9;exact be (hr pos KE s1 σ H1 _ I1 q1) λus s2 z9=>by obtain⟨xs,H2,I2,r2,q2⟩:=z9; exact⟨x::xs,H2,I2,.cons r1 r2,q2⟩
def Ik (t:TA):TE:=fun σ H Q=>t σ H λxs H1=>xs.length<=sizeLine/\∀ p,H1 p=none->Q (.ref p) (br H1 p (.tup xs))
def Hw (t:TA):TE:=fun σ H Q=>t σ H λxs H1=>xs.length<=sizeLine/\∀ p,H1 p=none->Q (.ref p) (br H1 p (.lst xs))
theorem Eu {x1} (h:PA X es t):PE X (.Tuple es x1 pos) (Ik t):=by
 intro KE s σ H Q I hq;refine wpAny_Tuple_spliced (be (h pos KE s σ H _ I hq) λus s1 ⟨xs,H1,I1,r,z,q⟩=>⟨by rw [<- r.length]; exact z,?_⟩)
 have hf:H1 s1.heap.objs.size=none:=I1.hok.fresh (JE _);refine⟨.ref s1.heap.objs.size,br H1 s1.heap.objs.size (.tup xs),I1.laid (t':=s1.toks) (λb u e=>pp _ e) (JE _) ?_,rfl,q _ hf⟩
 exact⟨z,us,r,⟨_,JC _ rfl,rfl,_,rfl⟩⟩
theorem DZ (h:PA X es t):PE X (.List es pos) (Hw t):=by
 intro KE s σ H Q I hq;refine wpAny_List_spliced (be (h pos KE s σ H _ I hq) λus s1 ⟨xs,H1,I1,r,z,q⟩=>⟨by rw [<- r.length]; exact z,?_⟩)
 have hf:H1 s1.heap.objs.size=none:=I1.hok.fresh (JE _);refine⟨.ref s1.heap.objs.size,br H1 s1.heap.objs.size (.lst xs),I1.laid (t':=s1.toks) (λb u e=>pp _ e) (JE _) ?_,rfl,q _ hf⟩
 exact⟨z,us,0,r,JC _ rfl⟩
end
abbrev Sp:=List V->Hp->VK->XK->Prop
abbrev A5:=List Env->Hp->Ko->XK->Kq->Ko->Prop
structure A_ (P:Ku) (w:Kw) (K:PySem.W.Frag) (mg:Str->Ks Kq) (base:Kx) (A:Kv) (outer:List Env) (s:Ko) (H:Hp):Prop where
 frames:A.frames=some outer
 mod:Mod K mg base
 bs:∀ b o,base.get? b=some o->s.heap.get? b=some o/\H b=none
 bsz:base.objs.size<=s.heap.objs.size
 funs:s.heap.FunFrames base outer
 frf:∀ b∈sU outer,H b=none
 hok:n5 P w H s.heap
 bare:AllBare s.gens
def CE (outer:List Env) (P:Ku) (w:Kw) (H:Hp) (s:Ko) (Q:VK) (u:Kq) (s':Ko):Prop:=
 ∃ v H',s'.os=s.os/\AllBare s'.gens/\Un (sU outer) [] H H' s.heap s'.heap/\n5 P w H' s'.heap/\aV v u/\Q v H'
def CR (CX:A5) (outer:List Env) (P:Ku) (w:Kw) (H:Hp) (s:Ko) (Q:VK) (E:XK) (r:Result) (s':Ko):Prop:=
 match r with
 | .ok (.ret u)=>CE outer P w H s Q u s'
 | .ok _=>False
 | .error e=>CX outer H s E e s'
structure aQ (P:Ku) (w:Kw) (K:PySem.W.Frag) (mg:Str->Ks Kq) (base:Kx) (CX:A5) (k:Nat) (f:Kr) (fd:FuncData) (ps:List Str) (sp:Sp):Prop where
 len:∀ vs H Q E,sp vs H Q E->vs.length=ps.length
 run:∀ (A:Kv) (outer:List Env) (s:Ko) (H:Hp) (args:Args) (us:List Kq) (vs:List V) (Q:VK) (E:XK),cA k A->A_ P w K mg base A outer s H->BindsTo s fd args (ps.zip us)->aW vs us->sp vs H Q E->
  codeAny (model P w) A (.call (.ref f) args) (CR CX outer P w H s Q E) s
section
variable {X:Cx} {KE:List (Kr×KD)} {σ:St} {H:Hp} {s s':Ko}
theorem aE.env0 (I:aE X KE σ H s):A_ X.prog X.w X.K X.mg X.base X.A X.stack s H:=
 ⟨I.ok.frames,I.ok.mod,I.bs,J5 I.ok.bsz I.sz,I.stack,I.stkFree,I.hok,I.bare⟩
theorem aE.after {Q:VK} {u:Kq} (I:aE X KE σ H s) (h:CE X.stack X.prog X.w H s Q u s'):EP X KE σ Q u s':=by
 obtain⟨v,H',os,bare,un,hok,r,q⟩:=h;obtain⟨hh,g,d,t,os'⟩:=s';obtain rfl:os'=s.os:=os;exact⟨v,H',I.call (h':=hh) (g':=g) (d':=d) (t':=t) (ch:=[]) un hok bare (λb z=>absurd z (by simp)),r,q⟩
end
def Gb (sp:Sp) (dvs:List V) (E:XK) (t:TA):TE:=fun σ H Q=>t σ H λvs H1=>sp (vs++dvs) H1 Q E
def o_ (K:PySem.W.Frag) (fd:FuncData) (ps:List Str) (ds:List Kq):Prop:=
 ∀ (s:Ko) (us:List Kq),K.In s.heap->(us++ds).length=ps.length->BindsTo s fd ⟨us,[]⟩ (ps.zip (us++ds))
theorem o_.all {K:PySem.W.Frag} {fd:FuncData} {ps:List Str} (h:∀ us:List Kq,us.length=ps.length->bindArgs fd ⟨us,[]⟩=pure (ps.zip us)):o_ K fd ps []:=λs us _ hl=>by
 rw [JW] at hl ⊢;exact .of_eq (h us hl)
def vm (CX:A5) (X:Cx) (E:XK):Prop:=∀ (KE:List (Kr×KD)) (σ:St) (H:Hp) (s:Ko) (e:Kq) (s':Ko),aE X KE σ H s->CX X.stack H s E e s'->X.xe e s'
section
variable {X:Cx} {CX:A5} {k:Nat} {f C:Kr} {fd:FuncData} {ps:List Str} {sp:Sp} {dvs:List V} {ds:List Kq} {E:XK} {x m:Str} {p pos apos:Pos} {e o:Kt} {es:List Kt} {ta:TE} {t:TA}
theorem Ef {KE:List (Kr×KD)} {σ:St} {H:Hp} {s:Ko} {Q:VK} {us:List Kq} {vs:List V} (F:aQ X.prog X.w X.K X.mg X.base CX k f fd ps sp) (hr:cA k X.A) (hb:o_ X.K fd ps ds) (hd:aW dvs ds) (hx:vm CX X E)
  (I:aE X KE σ H s) (r:aW vs us) (h:sp (vs++dvs) H Q E):wpAny (model X.prog X.w) X.A (call (.ref f) us) (EP X KE σ Q) X.xe s:=by
 have r2:aW (vs++dvs) (us++ds):=r.append hd;have hl:(us++ds).length=ps.length:=by rw [<- r2.length]; exact F.len _ _ _ _ h
 refine wpAny_call (codeAny_mono (F.run X.A X.stack s H ⟨us,[]⟩ (us++ds) (vs++dvs) Q E hr I.env0 (hb s us I.kIn hl) r2 h) λr s' hq=>?_)
 cases r with
 | error e=>exact hx KE σ H s e s' I hq
 | ok fl=>
  cases fl with
  | ret u=>exact I.after hq
  | next=>exact False.elim hq
  | brk=>exact False.elim hq
  | cont=>exact False.elim hq
theorem BJ (F:aQ X.prog X.w X.K X.mg X.base CX k f fd ps sp) (hr:cA k X.A) (hg:Gl X x) (hm:X.mg x=some (.ref f)) (hk:PySem.W.keepIn X.K (.ref f)=true) (hb:o_ X.K fd ps ds) (hd:aW dvs ds) (hx:vm CX X E)
  (ha:PA X (e::es) t) (hdb:(x == ("__debug__":Str))=false:=by decide) (he:starEach (e::es) X.env=(false,eval e X.env)::starEach es X.env:=by rfl) (hpl:(backTo pos (starEach es X.env)).any (·.1)=false:=by rfl):
  PE X (.Call (.Name x p) (e::es) [] pos) (Gb sp dvs E t):=by
 intro KE s σ H Q I h;refine wpAny_Call_Name_kw (wH I hg hm ?_ hdb);refine PySem.W.callWith_K (h₀:=X.base) I.ok.mod.kin hk (be (ha pos KE s σ H _ I h) λus s1 ⟨vs,H1,I1,r,q⟩=>⟨I1.kIn,?_⟩) he hpl
 exact Ef F hr hb hd hx I1 r q
end
structure ao (N P:List Str) (sc:Scope):Prop where
 kind:sc.kind=.function
 co:sc.isCoroutine=false
 gen:sc.isGenerator=false
 nd:N.Nodup
 pre:N.take P.length=P
 par:∀ x∈P,sc.names.lookup x=some .local\/sc.names.lookup x=some .cell
 nofree:∀ y∈sc.names,y.2≠.free
theorem cG {N P:List Str} {sc:Scope} (a:sc.kind=.function:=by rfl) (b:sc.isCoroutine=false:=by rfl) (c:sc.isGenerator=false:=by rfl) (d:N.Nodup:=by decide +kernel) (e:N.take P.length=P:=by rfl) (f:∀ x∈P,sc.names.lookup x=some .local\/sc.names.lookup x=some .cell:=by decide +kernel) (g:∀ y∈sc.names,y.2≠.free:=by decide +kernel):ao N P sc:=⟨a,b,c,d,e,f,g⟩
theorem qv {kindOf:Str->Ks NameKind} {x:Str}:∀ {binds:List (Str×Kq)} {m:Str->Ks Kq},(∀ v,(x,v)∉binds)->bindL kindOf binds m x=m x
 | [],_,_=>rfl
 | (n,v)::r,m,h=>by
  unfold bindL;rw [qv λw hw=>h w (JM _ hw)]
  split
  ·have:x≠n:=by rintro rfl; exact h v JL
   simp [this]
  ·rfl
theorem qX {kindOf:Str->Ks NameKind} {x:Str}:∀ {binds:List (Str×Kq)} {m:Str->Ks Kq},(∀ v,(x,v)∉binds)->bindC kindOf binds m x=m x
 | [],_,_=>rfl
 | (n,v)::r,m,h=>by
  unfold bindC;rw [qX λw hw=>h w (JM _ hw)]
  split
  ·rfl
  ·have:x≠n:=by rintro rfl; exact h v JL
   simp [this]
theorem qY {kindOf:Str->Ks NameKind} {x:Str} {v:Kq}:∀ {P:List Str} {vs:List Kq} {i:Nat} {m:Str->Ks Kq},P.Nodup->P[i]?=some x->vs[i]?=some v->kindOf x=some .local->
  bindL kindOf (P.zip vs) m x=some v
 | [],_,_,_,_,h,_,_=>by simp at h
 | _::_,[],_,_,_,_,h,_=>by simp at h
 | p::P,w::vs,0,m,nd,h1,h2,hk=>by
  simp at h1 h2; subst h1; subst h2
  show bindL kindOf ((p,w)::P.zip vs) m p=_
  unfold bindL;rw [qv λv hv=>(J9.mp nd).1 (List.of_mem_zip hv).1,if_pos hk]
  simp
 | p::P,w::vs,i+1,m,nd,h1,h2,hk=>by
  show bindL kindOf ((p,w)::P.zip vs) m x=_
  unfold bindL;exact qY (i:=i) (J9.mp nd).2 (by simpa using h1) (by simpa using h2) hk
theorem rA {kindOf:Str->Ks NameKind} {x:Str} {v:Kq}:∀ {P:List Str} {vs:List Kq} {i:Nat} {m:Str->Ks Kq},P.Nodup->P[i]?=some x->vs[i]?=some v->kindOf x≠some .local->
  bindC kindOf (P.zip vs) m x=some v
 | [],_,_,_,_,h,_,_=>by simp at h
 | _::_,[],_,_,_,_,h,_=>by simp at h
 | p::P,w::vs,0,m,nd,h1,h2,hk=>by
  simp at h1 h2; subst h1; subst h2
  show bindC kindOf ((p,w)::P.zip vs) m p=_
  unfold bindC;rw [qX λv hv=>(J9.mp nd).1 (List.of_mem_zip hv).1,if_neg hk]
  simp
 | p::P,w::vs,i+1,m,nd,h1,h2,hk=>by
  show bindC kindOf ((p,w)::P.zip vs) m x=_
  unfold bindC;exact rA (i:=i) (J9.mp nd).2 (by simpa using h1) (by simpa using h2) hk
def start (N:List Str) (vs:List V):St:=vs.map some++List.replicate (N.length - vs.length) none
def tL (CX:A5) (P:Ku) (w:Kw) (K:PySem.W.Frag) (mg:Str->Ks Kq) (base:Kx) (N:List Str) (KF:Str) (scope:Scope) (f:Kr) (cd:Kq) (A:Kv) (outer:List Env) (s:Ko) (H:Hp) (E:XK):Cx where
 prog:=P
 w:=w
 K:=K
 mg:=mg
 base:=base
 A:=A.deeper (envOfC KF scope s.heap.objs.size f cd)
 N:=N
 s₀:=s
 H₀:=H
 env:=envOfC KF scope s.heap.objs.size f cd
 outer:=outer
 stack:=envOfC KF scope s.heap.objs.size f cd::outer
 ex:=[]
 calm:=true
 fn:=λ_=>true
 pn:=[]
 xe:=λe s'=>wpAny (model P w) (A.deeper (envOfC KF scope s.heap.objs.size f cd)) (leaving (envOfC KF scope s.heap.objs.size f cd) e) (λ_ s''=>CX outer H s E e s'') (λe' s''=>CX outer H s E e' s'') s'
theorem uq {sc:Scope} {n:Nat} {x:Str} (h:sc.names.lookup x=some .cell):∃ c,(cellsFrom n sc.names []).lookup x=some c:=by
 have q:=PySem.W.cellsFrom_some sc.names n [] (.inl h);exact Km.mp q
theorem xD {CX:A5} {P:Ku} {w:Kw} {K:PySem.W.Frag} {mg:Str->Ks Kq} {base:Kx} {N ps:List Str} {KF:Str} {scope:Scope} {f:Kr} {cd:Kq} {A:Kv} {outer:List Env} {s s1:Ko} {H:Hp} {E:XK} {us:List Kq} {vs:List V}
  (S:ao N ps scope) (hd:A.handled=none) (e0:A_ P w K mg base A outer s H) (hl:vs.length=ps.length) (r:aW vs us)
  (x:InCallC s s.heap.objs.size (bindL (envOfC KF scope s.heap.objs.size f cd).kindOf (ps.zip us) λ_=>none) (cellsFrom (s.heap.objs.size+1) scope.names []) (bindC (envOfC KF scope s.heap.objs.size f cd).kindOf (ps.zip us) λ_=>none) s1):
  aE (tL CX P w K mg base N KF scope f cd A outer s H E) [] (start N vs) H s1:=by
 have hpl:ps.length<=N.length:=by have:=congrArg List.length S.pre; rw [List.length_take] at this; omega
 obtain⟨h1,tk,rfl,hk⟩:=x.done;have noA:∀ b:Kr,b∉(tL CX P w K mg base N KF scope f cd A outer s H E).ex:=λb z=>absurd (show b∈([]:List Kr) from z) (by simp)
 refine⟨⟨e0.mod,S.kind,rfl,rfl,JE _,λy z c h1 h2=>?_,λy hy=>?_,λy c _ h=>?_,λ_=>hd,Around.frames_deeper e0.frames,.inr ⟨rfl,rfl⟩,λb z=>absurd z (noA b),e0.bs,e0.bsz,λb _ _=>noA b,λb z=>absurd z (noA b),e0.funs,e0.frf⟩,
  rfl,e0.bare,Un.kept hk,⟨_,x.toInCall.ns,λi y v h1 h2 h3=>?_⟩,λy c h=>⟨_,x.cell y c h⟩,e0.hok.fresh (JE _),λy c h=>?_,λp hp=>absurd (show p∈([]:List (Kr×KD)) from hp) (by simp),e0.hok.kept hk,?_⟩
 ·exact name_of_addr x.apart (J8 h1) (J8 h2)
 ·have hy:scope.names.lookup y=some .cell\/scope.names.lookup y=some .free:=hy;rcases hy with hy | hy
  ·exact uq hy
  ·exact absurd rfl (S.nofree _ (J8 hy))
 ·exact Nat.le_of_lt (x.above y c (J8 h))
 ·have hi:i < vs.length:=by
   unfold start at h2
   by_cases hi:i < vs.length
   ·exact hi
   ·rw [List.getElem?_append_right (by simpa using hi)] at h2
    rw [List.getElem?_replicate] at h2
    split at h2 <;> cases h2
  have ha:vs[i]?=some v:=by
   unfold start at h2;rw [List.getElem?_append_left (by simpa using hi),J0] at h2
   cases e:vs[i]? with
   | none=>rw [e] at h2; cases h2
   | some a=>rw [e] at h2; cases h2; rfl
  obtain⟨u,hu,rv⟩:=r.get ha;have hp:ps[i]?=some y:=by
   rw [<- S.pre,List.getElem?_take_of_lt (by omega)]; exact h1
  have ndP:ps.Nodup:=by rw [<- S.pre]; exact S.nd.sublist (List.take_sublist _ _)
  refine⟨u,rv,?_⟩;rcases S.par y (List.mem_of_getElem? hp) with k | k
  ·exact .inl ⟨k,qY ndP hp hu k⟩
  ·obtain⟨c,e⟩:=uq (n:=s.heap.objs.size+1) k;refine .inr ⟨.inl k,c,e,?_⟩;have q:=x.cell y c e;rw [rA ndP hp hu (by show scope.names.lookup y≠_; rw [k]; decide)] at q
   exact q
 ·exact e0.hok.fresh (Nat.le_of_lt (x.above y c (J8 h)))
 ·unfold start
  show _=N.length
  rw [JU,JG,List.length_replicate];omega
theorem Gw {CX:A5} {P:Ku} {w:Kw} {K:PySem.W.Frag} {mg:Str->Ks Kq} {base:Kx} {k:Nat} {f:Kr} {name KF:Str} {params:Arguments} {body:List Ky} {scope:Scope} {dV kV doc pm cdv ct oc:Kq} {an od:Ks Kr}
  {osl:Kz (Ks Kq)} {N ps:List Str} {sp:Sp} (lk:K.lookup f=some ⟨oc,od,.func (PySem.W.fnOf name KF params body scope dV kV doc pm an cdv ct),osl⟩) (hcd:PySem.W.codeIn K cdv KF=true) (S:ao N ps scope)
  (len:∀ vs H Q E,sp vs H Q E->vs.length=ps.length)
  (hbody:∀ (A:Kv) (outer:List Env) (s:Ko) (H:Hp) (vs:List V) (Q:VK) (E:XK),cA k (A.deeper (envOfC KF scope s.heap.objs.size f cdv))->sp vs H Q E->
   ∃ t,qH (tL CX P w K mg base N KF scope f cdv A outer s H E) body t/\t {nx:=λ_ H'=>Q .non H',rt:=Q} (start N vs) H):
  aQ P w K mg base CX (k+1) f (PySem.W.fnOf name KF params body scope dV kV doc pm an cdv ct) ps sp:=by
 refine⟨len,λA outer s H args us vs Q E hr e0 hb r hsp=>?_⟩
 have hl:=len _ _ _ _ hsp;have KX:K.In s.heap:=e0.mod.kin.keeps λb o e=>(e0.bs b o e).1
 have lim:s.heap.NoLimit:=e0.mod.nolimit.keeps λb o e=>(e0.bs b o e).1
 have hkind:∀ y∈ps.zip us,scope.names.lookup y.1=some .local\/(scope.names.lookup y.1=some .cell/\((cellsFrom (s.heap.objs.size+1) scope.names []).lookup y.1).isSome=true):=λ⟨n,v⟩ hy=>by
  rcases S.par n (List.of_mem_zip hy).1 with q | q
  ·exact .inl q
  ·exact .inr ⟨q,PySem.W.cellsFrom_some _ _ _ (.inl q)⟩
 refine codeAny_call_function hr.depth (KX _ _ lk) rfl S.co S.gen rfl (PySem.W.codeRec_of KX hcd) (hb _ _ _ _ ?_);refine wpAny_newFunctionEnv_cells S.kind hkind λenv he s1 x=>?_
 subst he;refine⟨lim.keeps x.toInCall.keep,codeAny_func ?_⟩;obtain⟨t,ht,hq⟩:=hbody A outer s H vs Q E (hr.deeper _) hsp;have I:aE (tL CX P w K mg base N KF scope f cdv A outer s H E) [] (start N vs) H s1:=xD S hr.hd e0 hl r x;refine J4 (ht [] s1 (start N vs) H _ I hq) (λfl s' hs=>?_) λe s' hs=>hs
 have fin:∀ {σ':St} {H':Hp} {v:V} {u:Kq},aE (tL CX P w K mg base N KF scope f cdv A outer s H E) [] σ' H' s'->aV v u->Q v H'->CE outer P w H s Q u s':=
  λ{σ' H' v u} J rv q=>⟨v,H',J.os,J.bare,J.base,J.hok,rv,q⟩
 cases fl with
 | ret u=>
  obtain⟨v,σ',H',J,rv,q⟩:=hs;exact fin J rv q
 | next=>
  obtain⟨σ',H',J,q⟩:=hs;exact fin (v:=V.non) (u:=Value.none) J rfl q
 | brk=>
  obtain⟨_,_,_,q⟩:=hs;exact False.elim q
 | cont=>
  obtain⟨_,_,_,q⟩:=hs;exact False.elim q
section
variable {X:Cx} {x:Str} {p pos:Pos} {e:Kt} {es:List Kt} {t:TA} {id T:KB} {r:List V->Hp->VK->Prop}
def HZ (r:List V->Hp->VK->Prop) (t:TA):TE:=fun σ H Q=>t σ H λvs H1=>r vs H1 Q
theorem y9 (hc:bW X (.builtin id) r) (hg:Gl X x) (hm:X.mg x=none) (hv:bootBuiltins x=some (.builtin id)) (ha:PA X (e::es) t) (hn:x≠"__name__":=by decide) (hdb:(x == ("__debug__":Str))=false:=by decide)
  (he:starEach (e::es) X.env=(false,eval e X.env)::starEach es X.env:=by rfl) (hpl:(backTo pos (starEach es X.env)).any (·.1)=false:=by rfl):PE X (.Call (.Name x p) (e::es) [] pos) (HZ r t):=by
 intro KE s σ H Q I h;refine wpAny_Call_Name_kw (j4 I hg hm hv ?_ hn hdb);exact PyProof.Rows.callWith_builtin1 (be (ha pos KE s σ H _ I h) λus s1 z9=>by obtain⟨vs,H1,I1,r1,q1⟩:=z9; exact hc KE s1 σ H1 vs us Q I1 r1 q1) he hpl
theorem xP (hc:bW X (.type T) r) (hg:Gl X x) (hm:X.mg x=none) (hv:bootBuiltins x=some (.type T)) (ha:PA X (e::es) t) (hn:x≠"__name__":=by decide) (hdb:(x == ("__debug__":Str))=false:=by decide)
  (he:starEach (e::es) X.env=(false,eval e X.env)::starEach es X.env:=by rfl) (hpl:(backTo pos (starEach es X.env)).any (·.1)=false:=by rfl):PE X (.Call (.Name x p) (e::es) [] pos) (HZ r t):=by
 intro KE s σ H Q I h;refine wpAny_Call_Name_kw (j4 I hg hm hv ?_ hn hdb);exact PyProof.Rows.callWith_type1 (be (ha pos KE s σ H _ I h) λus s1 z9=>by obtain⟨vs,H1,I1,r1,q1⟩:=z9; exact hc KE s1 σ H1 vs us Q I1 r1 q1) he hpl
end
end L2
namespace HT
open PySem PyProof.Rows
section
variable {prog:Ku} {w:Kw} {A:Kv} {E:Kq->Ko->Prop} {s:Ko}
theorem BU {t b:Kr} {vs ws:List Kq} {Q:Kq->Ko->Prop} (ht:IsTup s.heap t vs.toArray) (hb:IsTup s.heap b ws.toArray) (hv:vs≠[])
  (h1:ws=[]->Q (.ref t) s) (h2:ws≠[]->Q (.ref s.heap.objs.size) {s with heap:=s.heap.push {cls:=.type "tuple",data:=.seq (vs++ws).toArray}})
  (hsz:vs.length+ws.length<=sizeLine):wpAny (model prog w) A (binaryOp .Add (.ref t) (.ref b)) Q E s:=by
 obtain⟨⟨cls,dd,data,sl⟩,ho,hc,n,hd⟩:=id ht;obtain⟨⟨cls2,dd2,data2,sl2⟩,ho2,hc2,n2,hd2⟩:=id hb;simp only at hc hd hc2 hd2
 subst hc hd hc2 hd2;have e:vs.toArray++ws.toArray=(vs++ws).toArray:=by simp
 by_cases hw:ws=[]
 ·exact concat_meets ⟨_,ho,rfl⟩ ⟨_,ho2,rfl⟩ noFill_tuple_add seq_tuple_add PySem.F.slot_tuple_add PySem.F.entry_tuple_add (PySem.F.args_tuple_add_2 _ _)
   (tuple_addW1 t b vs.toArray ws.toArray n n2 dd dd2 sl sl2 (by simpa using hv) (by simp [hw])) ⟨ho,ho2,h1 hw⟩
 ·refine concat_meets ⟨_,ho,rfl⟩ ⟨_,ho2,rfl⟩ noFill_tuple_add seq_tuple_add PySem.F.slot_tuple_add PySem.F.entry_tuple_add (PySem.F.args_tuple_add_2 _ _)
   (tuple_addW2 t b vs.toArray ws.toArray n n2 dd dd2 sl sl2 (by simpa using hv) (by simpa using hw) (by rw [JI,JI]; exact hsz)) ⟨ho,ho2,?_⟩
  rw [e];exact h2 hw
def cI (n d:Nat):Ks Int->Nat
 | none=>d
 | some v=>if v < 0 then(v+(n:Int)).toNat else min v.toNat n
theorem E5 (n d:Nat) (hd:d<=n) (o:Ks Int):cI n d o<=n:=by
 cases o with
 | none=>exact hd
 | some v=>
  show(if v < 0 then(v+(n:Int)).toNat else min v.toNat n)<=n
  by_cases hv:v < 0
  ·rw [if_pos hv]; omega
  ·rw [if_neg hv]; exact Nat.min_le_right _ _
theorem wk (v:Int) (n d:Nat):(if v < 0 then max (v+(n:Int)) 0 else min v (n:Int))=((cI n d (some v):Nat):Int):=by
 show(if v < 0 then max (v+(n:Int)) 0 else min v (n:Int))=(((if v < 0 then(v+(n:Int)).toNat else min v.toNat n):Nat):Int)
 by_cases hv:v < 0
 ·simp only [if_pos hv]; omega
 ·simp only [if_neg hv]; omega
theorem uR (lo hi:Ks Int) (n:Nat):Builtin.Slice.sliceAdjust lo hi 1 (n:Int)=(((cI n 0 lo:Nat):Int),((cI n n hi:Nat):Int)):=by
 have h1:¬ ((1:Int) < 0):=by omega
 unfold Builtin.Slice.sliceAdjust;simp only [h1,if_false];refine Prod.ext ?_ ?_
 ·cases lo with
  | none=>rfl
  | some v=>exact wk v n 0
 ·cases hi with
  | none=>rfl
  | some v=>exact wk v n n
theorem vh (i j:Nat):Builtin.Slice.slicePlaces (i:Int) (j:Int) 1=j - i:=by
 unfold Builtin.Slice.slicePlaces;have h1:(1:Int) > 0:=by omega
 simp only [h1,if_true,Int.ediv_one]
 split <;> omega
theorem oK {v:Kq} {o:Ks Int} {Q:Ks Int->Ko->Prop} (p:IsPart v o) (h:Q o s):wpAny (model prog w) A (Builtin.Slice.slicePartIndex v) Q E s:=by
 cases p with
 | none=>exact slicePart_none h
 | int i t=>exact slicePart_int h
theorem g9 {sl:Kr} {vl vu:Kq} {lo hi:Ks Int} {n:Nat} {Q:Int×Int×Nat->Ko->Prop} (hs:s.heap.IsSliceOf sl vl vu .none) (pl:IsPart vl lo) (pu:IsPart vu hi)
  (h:Q (((cI n 0 lo:Nat):Int),1,cI n n hi - cI n 0 lo) s):wpAny (model prog w) A (Builtin.Slice.sliceApplied (.ref sl) (pure (n:Int))) Q E s:=by
 obtain⟨os,hos,hcs,hds⟩:=id hs;unfold Builtin.Slice.sliceApplied Builtin.Slice.sliceFields;refine gt (gt (wpAny_field hos hds (x:=vl) rfl (gt (wpAny_field hos hds (x:=vu) rfl (gt (wpAny_field hos hds (x:=.none) rfl (JB ?_)))))));refine gt (slicePart_none ?_)
 show wpAny _ _ (if ((1:Int) == 0)=true then _ else _) _ _ s
 rw [if_neg (by decide)]
 refine gt (oK pl (gt (oK pu (gt (JB ?_)))))
 show wpAny _ _ (match Builtin.Slice.sliceAdjust lo hi 1 (n:Int) with | (lo,hi)=>pure (lo,(1:Int),Builtin.Slice.slicePlaces lo hi 1)) _ _ s
 rw [uR lo hi n]
 show wpAny _ _ (pure (((cI n 0 lo:Nat):Int),(1:Int),Builtin.Slice.slicePlaces ((cI n 0 lo:Nat):Int) ((cI n n hi:Nat):Int) 1)) _ _ s
 rw [vh];exact JB h
theorem z_ (xs:Kz Kq) (i k:Nat):((List.range k).filterMap fun(m:Nat)=>xs[((i:Int)+(m:Int)*1).toNat]?).toArray=((xs.toList.drop i).take k).toArray:=by
 have e:(λ(m:Nat)=>xs[((i:Int)+(m:Int)*1).toNat]?)=λm=>xs[i+m]?:=by
  funext m
  have:((i:Int)+(m:Int)*1).toNat=i+m:=by omega
  rw [this]
 rw [e];have:=pick_run xs i k;rw [List.filterMap_map] at this;have e2:((λx=>xs[x]?) ∘ λx=>i+x)=λm=>xs[i+m]?:=rfl
 rw [e2] at this;rw [this]
theorem md {t sl:Kr} {items:Kz Kq} {vl vu:Kq} {lo hi:Ks Int} {Q:Kq->Ko->Prop} (ht:IsTup s.heap t items) (hs:s.heap.IsSliceOf sl vl vu .none) (pl:IsPart vl lo) (pu:IsPart vu hi)
  (hw:¬ (cI items.size 0 lo=0/\cI items.size items.size hi=items.size))
  (h:Q (.ref s.heap.objs.size) {s with heap:=s.heap.push {cls:=.type "tuple",data:=.seq ((items.toList.drop (cI items.size 0 lo)).take (cI items.size items.size hi - cI items.size 0 lo)).toArray}})
  (hsz:items.size<=sizeLine):wpAny (model prog w) A (getItem (.ref t) (.ref sl)) Q E s:=by
 have htake:sizeOk (.seq ((items.toList.drop (cI items.size 0 lo)).take (cI items.size items.size hi - cI items.size 0 lo)).toArray):=by
  show((items.toList.drop (cI items.size 0 lo)).take (cI items.size items.size hi - cI items.size 0 lo)).toArray.size<=sizeLine
  rw [JI,List.length_take,List.length_drop,Kk];omega
 have hj:cI items.size items.size hi<=items.size:=E5 _ _ (JE _) hi;obtain⟨os,hos,hcs,hds⟩:=id hs;have hTs:s.TypeIs (.ref sl) "slice":=⟨os,hos,hcs⟩
 unfold getItem
 try with_reducible refine JX ?_
 first | refine gt (JB ?_) | skip
 refine gt (wpAny_sequenceKey ht.typeIs (by decide) ?_)
 refine gt (Kh (name:=Str.ofString "__getitem__") ht.typeIs PyProof.Rows.slot_tuple_getitem
  (wpAny_call_entry PyProof.Rows.slot_tuple_getitem ht.typeIs entry_tuple_getitem ?_ (args_tuple_getitem _ _)))
 show wpAny _ _ (Builtin.Tuple.tupleItemsOf (.ref t) >>= _) _ _ s
 refine gt (tupleItemsOf_ ht ?_);refine gt (wpAny_typeOf hTs ?_);rw [if_pos (by decide)]
 refine gt (g9 hs pl pu ?_);have hno:¬ ((((cI items.size 0 lo:Nat):Int) == 0 && (1:Int) == 1 && (cI items.size items.size hi - cI items.size 0 lo) == items.size)=true):=by
  intro q;rw [J6,J6] at q;have q1:((cI items.size 0 lo:Nat):Int)=0:=eq_of_beq q.1.1;have q2:cI items.size items.size hi - cI items.size 0 lo=items.size:=eq_of_beq q.2;exact hw ⟨by omega,by omega⟩
 show wpAny _ _ (if (((cI items.size 0 lo:Nat):Int) == 0 && (1:Int) == 1 && (cI items.size items.size hi - cI items.size 0 lo) == items.size)=true then _ else _) _ _ s
 rw [if_neg hno,z_]
 first
  | exact gt (m:=Builtin.Tuple.tupleExact _) (JZ (JB ⟨_,rfl,JB h⟩) htake)
  | exact gt (m:=Builtin.Tuple.tupleExact _) (JZ (gt (JB (JB ⟨_,rfl,JB h⟩))) htake)
  | exact gt (gt (m:=Builtin.Tuple.tupleExact _) (JZ (JB (JB ⟨_,rfl,JB h⟩)) htake))
  | exact gt (gt (m:=Builtin.Tuple.tupleExact _) (JZ (JB ⟨_,rfl,JB h⟩) htake))
end
end HT
namespace L2
open PySem PySem.Spec PyProof.Rows
abbrev TO:=St->Hp->(Ks Int->Hp->Prop)->Prop
def PO (X:Cx) (e:Ks Kt) (t:TO):Prop:=
 ∀ (KE:List (Kr×KD)) (s:Ko) (σ:St) (H:Hp) (Q:Ks Int->Hp->Prop),aE X KE σ H s->t σ H Q->
  wpAny (model X.prog X.w) X.A (evalPart e X.env) (λu s'=>∃ o H',aE X KE σ H' s'/\IsPart u o/\Q o H') X.xe s
def Cr:TO:=λ_ H Q=>Q none H
def F8 (t:TE):TO:=fun σ H Q=>t σ H λx H1=>∃ i,x=.int i/\Q (some i) H1
section
variable {X:Cx} {e:Kt} {te:TE} {lo hi:Ks Kt} {tl th:TO} {pos p2:Pos}
theorem Cf:PO X none Cr:=by
 intro KE s σ H Q I h;rw [evalPart_none];exact JB ⟨none,H,I,.none,h⟩
theorem Ck (h:PE X e te):PO X (some e) (F8 te):=by
 intro KE s σ H Q I hw;rw [evalPart_some];refine be (h KE s σ H _ I hw) λu s1 z9=>?_
 obtain⟨x,H1,I1,r1,q1⟩:=z9;obtain⟨i,rfl,q⟩:=q1;obtain⟨t,rfl⟩:=r1;exact⟨some i,H1,I1,.int i t,q⟩
def zd (X:Cx) (r:V->Ks Int->Ks Int->Hp->VK->Prop):Prop:=
 ∀ (KE:List (Kr×KD)) (s:Ko) (σ:St) (H:Hp) (x:V) (v vl vu:Kq) (lo hi:Ks Int) (sl:Kr) (Q:VK),aE X KE σ H s->aV x v->s.heap.IsSliceOf sl vl vu .none->IsPart vl lo->IsPart vu hi->r x lo hi H Q->
  ∃ T id,typeLookup (.type T) "__getitem__"=pure (some (.builtin id))/\s.TypeIs v T/\wpAny (model X.prog X.w) X.A (getItem v (.ref sl)) (EP X KE σ Q) X.xe s
theorem zd.or {r r':V->Ks Int->Ks Int->Hp->VK->Prop} (h:zd X r) (h':zd X r'):zd X (λx lo hi H Q=>r x lo hi H Q\/r' x lo hi H Q):=by
 intro KE s σ H x v vl vu lo hi sl Q I rx hs pl pu q;rcases q with q | q
 ·exact h KE s σ H x v vl vu lo hi sl Q I rx hs pl pu q
 ·exact h' KE s σ H x v vl vu lo hi sl Q I rx hs pl pu q
def I9 (r:V->Ks Int->Ks Int->Hp->VK->Prop) (te:TE) (tl th:TO):TE:=fun σ H Q=>te σ H λx H1=>tl σ H1 λl H2=>th σ H2 λu H3=>r x l u H3 Q
theorem pG {r:V->Ks Int->Ks Int->Hp->VK->Prop} (hr:zd X r) (he:PE X e te) (hl:PO X lo tl) (hu:PO X hi th):PE X (.Subscript e (.Slice lo hi none p2) pos) (I9 r te tl th):=by
 intro KE s σ H Q I h;refine Subscript_ (be (he KE s σ H _ I h) λv s1 z9=>?_)
 obtain⟨x,H1,I1,r1,q1⟩:=z9;refine wpAny_Slice (be (hl KE s1 σ H1 _ I1 q1) λvl s2 ⟨l,H2,I2,pl,q2⟩=>be (hu KE s2 σ H2 _ I2 q2) λvu s3 z9=>?_)
 obtain⟨u,H3,I3,pu,q3⟩:=z9;rw [evalPart_none];refine JB ?_;have I4:aE X KE σ H3 {s3 with heap:=s3.heap.push {cls:=.type "slice",data:=.fields #[vl,vu,.none]}}:=I3.kept (t':=s3.toks) λb ob q=>pp _ q
 obtain⟨T,id,hT,ht,hg⟩:=hr KE {s3 with heap:=s3.heap.push {cls:=.type "slice",data:=.fields #[vl,vu,.none]}} σ H3 x v vl vu l u s3.heap.objs.size Q I4 r1 (Heap.IsSliceOf.new ..) pl pu q3
 show wpAny (model X.prog X.w) X.A (subscriptTail e (.Slice lo hi none p2) v (.ref s3.heap.objs.size)) (EP X KE σ Q) X.xe {s3 with heap:=s3.heap.push {cls:=.type "slice",data:=.fields #[vl,vu,.none]}}
 exact tail_any (ops:=[.ref s3.heap.objs.size,v]) ht hT hg (by with_unfolding_all rfl)
def nW (xs:List V) (lo hi:Ks Int):List V:=(xs.drop (HT.cI xs.length 0 lo)).take (HT.cI xs.length xs.length hi - HT.cI xs.length 0 lo)
theorem nF (xs:List V) (lo hi:Ks Int):(nW xs lo hi).length<=xs.length:=by
 unfold nW;rw [List.length_take,List.length_drop];omega
def IG (K:PySem.W.Frag):V->Ks Int->Ks Int->Hp->VK->Prop:=λx lo hi H Q=>∃ a xs,x=.ref a/\gZ K H a xs/\
 ¬ (HT.cI xs.length 0 lo=0/\HT.cI xs.length xs.length hi=xs.length)/\∀ p,H p=none->Q (.ref p) (br H p (.tup (nW xs lo hi)))
theorem AS:zd X (IG X.K):=by
 intro KE s σ H x v vl vu lo hi sl Q I rx hs pl pu h;obtain⟨a,xs,rfl,hx,hw,q⟩:=h;cases rx;obtain⟨its,r,ht,hz⟩:=I.tuple hx;have hlen:its.toArray.size=xs.length:=by rw [JI]; exact r.length.symm
 refine⟨"tuple",_,PyProof.Rows.slot_tuple_getitem.lookup,ht.typeIs,?_⟩
 refine HT.md ht hs pl pu (by rw [hlen]; exact hw) ?_ (by rw [hlen]; exact hz)
 rw [hlen];refine⟨.ref s.heap.objs.size,_,I.laid (t':=s.toks) (o:=.tup (nW xs lo hi)) (λb ob q=>pp _ q) (JE _) ?_,rfl,q _ (I.hok.fresh (JE _))⟩
 exact⟨J5 (nF xs lo hi) hz,_,(r.drop (HT.cI xs.length 0 lo)).take (HT.cI xs.length xs.length hi - HT.cI xs.length 0 lo),IsTup.new _ _⟩
def FQ (K:PySem.W.Frag):R2:=λx y H Q=>∃ a b xs ys,x=.ref a/\y=.ref b/\gZ K H a xs/\gZ K H b ys/\xs≠[]/\xs.length+ys.length<=sizeLine/\
 (ys=[]->Q (.ref a) H)/\(ys≠[]->∀ p,H p=none->Q (.ref p) (br H p (.tup (xs++ys))))
theorem aW.nil_iff {xs:List V} {us:List Kq} (r:aW xs us):us=[]↔xs=[]:=by
 cases r with
 | nil=>simp
 | cons _ _=>simp
theorem BM:cS X (binaryOp .Add) (FQ X.K):=by
 intro KE s σ H x y v u Q I rx ry h;obtain⟨a,b,xs,ys,rfl,rfl,ha,hb,hx,hz,q1,q2⟩:=h;cases rx;cases ry;obtain⟨its,r1,p1,_⟩:=I.tuple ha;obtain⟨its2,r2,p2,_⟩:=I.tuple hb;refine HT.BU p1 p2 (λz=>hx (r1.nil_iff.mp z)) (λz=>⟨.ref a,H,I,rfl,q1 (r2.nil_iff.mp z)⟩) (λz=>?_) (by rw [<- r1.length,<- r2.length]; exact hz)
 refine⟨.ref s.heap.objs.size,_,I.laid (t':=s.toks) (o:=.tup (xs++ys)) (λb ob q=>pp _ q) (JE _) ?_,rfl,q2 (λw=>z (r2.nil_iff.mpr w)) _ (I.hok.fresh (JE _))⟩
 exact⟨by rw [JU]; exact hz,_,r1.append r2,IsTup.new _ _⟩
end
def yl (n:Nat) (i:Int):Ks Nat:=if 0<=i then(if i < n then some i.toNat else none) else if -(n:Int)<=i then some (i+n).toNat else none
def atI {α:Type} (xs:List α) (i:Int):Ks α:=(yl xs.length i).bind λj=>xs[j]?
theorem wu {n:Nat} {i:Int} {j:Nat} (h:yl n i=some j):seqIndex? i n=some j/\j < n/\-(n:Int)<=i/\i < n:=by
 unfold yl at h
 by_cases h0:0<=i
 ·rw [if_pos h0] at h
  by_cases h1:i < n
  ·rw [if_pos h1] at h;have e:i.toNat=j:=J1 h;exact⟨by rw [seqIndex_of h0 h1,e],by omega,by omega,h1⟩
  ·rw [if_neg h1] at h; cases h
 ·rw [if_neg h0] at h
  by_cases h1:-(n:Int)<=i
  ·rw [if_pos h1] at h;have e:(i+n).toNat=j:=J1 h;exact⟨by rw [seqIndex_neg (by omega) h1,e],by omega,h1,by omega⟩
  ·rw [if_neg h1] at h; cases h
theorem wl {α:Type} {xs:List α} {i:Int} {v:α} (h:atI xs i=some v):∃ j,seqIndex? i xs.length=some j/\xs[j]?=some v/\j < xs.length/\-(xs.length:Int)<=i/\i < xs.length:=by
 unfold atI at h;cases e:yl xs.length i with
 | none=>rw [e] at h; cases h
 | some j=>
  rw [e] at h;obtain⟨h1,h2,h3,h4⟩:=wu e;exact⟨j,h1,h,h2,h3,h4⟩
theorem e_ {α:Type} {xs:List α} {j:Nat} {v:α} (h:xs[j]?=some v):atI xs (j:Int)=some v:=by
 have hj:j < xs.length:=(J3.mp h).1;have e:yl xs.length (j:Int)=some j:=by
  unfold yl;rw [if_pos (by omega),if_pos (by omega)]; simp
 unfold atI; rw [e]; exact h
def wx (b:Kt):Prop:=∀ o i,subscripted b false o i=operate [o,i] (getItem o i)
def xR (X:Cx) (r:R2):Prop:=
 ∀ (value slice:Kt) (KE:List (Kr×KD)) (s:Ko) (σ:St) (H:Hp) (x y:V) (v u:Kq) (Q:VK),aE X KE σ H s->aV x v->aV y u->r x y H Q->
  subscripted slice false v u=operate [v,u] (getItem v u)->wpAny (model X.prog X.w) X.A (subscriptTail value slice v u) (EP X KE σ Q) X.xe s
def Cn (X:Cx) (id:KB) (r:V->List V->Hp->VK->Prop):Prop:=
 ∀ (KE:List (Kr×KD)) (s:Ko) (σ:St) (H:Hp) (x:V) (xs:List V) (v:Kq) (us:List Kq) (Q:VK),aE X KE σ H s->aV x v->aW xs us->r x xs H Q->
  wpAny (model X.prog X.w) X.A (call (.builtin id) (v::us)) (EP X KE σ Q) X.xe s
section
variable {X:Cx} {a b:Kt} {ta tb:TE} {pos:Pos}
theorem GA {r:R2} (hr:xR X r) (ha:PE X a ta) (hb:PE X b tb) (hs:wx b):PE X (.Subscript a b pos) (Gm r ta tb):=by
 intro KE s σ H Q I h;exact Subscript_ (Dy ha hb I h λv u s2 x y H2 I2 rx ry q=>hr a b KE s2 σ H2 x y v u Q I2 rx ry q (hs _ _))
def HJ (K:PySem.W.Frag):R2:=λx y H Q=>∃ p xs i v,x=.ref p/\y=.int i/\eQ K H p xs/\atI xs i=some v/\Q v H
def IA (K:PySem.W.Frag):R2:=λx y H Q=>∃ p xs i v,x=.ref p/\y=.int i/\gZ K H p xs/\atI xs i=some v/\Q v H
theorem wS:xR X (HJ X.K):=by
 intro value slice KE s σ H x y v u Q I rx ry h hs;obtain⟨p,xs,i,z,rfl,rfl,hq,he,q⟩:=h;cases rx;obtain⟨t,rfl⟩:=ry;obtain⟨its,r,pl,hz⟩:=I.list hq;obtain⟨j,h1,h2,h3,h4,h5⟩:=wl he;obtain⟨w,ew,rw'⟩:=r.get h2;have hl:=r.length;have hn:=oO;have fin:EP X KE σ Q w s:=⟨z,H,I,rw',q⟩
 by_cases h0:0<=i
 ·have hj:i.toNat=j:=by
   rw [seqIndex_of h0 h5] at h1;exact J1 h1
  exact item_listR pl.isList h0 (by omega) (by rw [hj]; simpa using ew) fin hs
 ·have hj:(i+(its.toArray.size:Int)).toNat=j:=by
   rw [seqIndex_neg (by omega) h4] at h1
   rw [JI,<- hl];exact J1 h1
  exact subscriptTail_builtinR (x:=w) pl.isList.typeIs slot_list_getitem.lookup
   (wpAny_getItem_list_neg (Q:=λr s'=>r=w/\EP X KE σ Q r s') pl.isList (by omega) (by rw [JI] <;> omega) (by omega) (by rw [hj]; simpa using ew) ⟨rfl,fin⟩) hs
theorem Fm:xR X (IA X.K):=by
 intro value slice KE s σ H x y v u Q I rx ry h hs;obtain⟨p,xs,i,z,rfl,rfl,hq,he,q⟩:=h;cases rx;obtain⟨t,rfl⟩:=ry;obtain⟨its,r,pl,hz⟩:=I.tuple hq;obtain⟨j,h1,h2,h3,h4,h5⟩:=wl he;obtain⟨w,ew,rw'⟩:=r.get h2;have hl:=r.length;have hn:=oO;have fin:EP X KE σ Q w s:=⟨z,H,I,rw',q⟩;exact subscriptTail_builtinR (x:=w) pl.typeIs slot_tuple_getitem.lookup
  (getItem_tuple (j:=j) (Q:=λr s'=>r=w/\EP X KE σ Q r s') pl (by omega) (by omega) (by rw [JI,<- hl]; exact h1) (by simpa using ew) ⟨rfl,fin⟩) hs
theorem vJ (its:List Kq) (n j:Nat) (u:Kq):Obj.mapSeq (·.setIfInBounds j u) {cls:=.type "list",data:=.seq its.toArray n}={cls:=.type "list",data:=.seq (its.set j u).toArray n}:=by
 simp [Obj.mapSeq]
theorem aE.lst {KE:List (Kr×KD)} {σ:St} {H:Hp} {s:Ko} {p:Kr} {xs:List V} (I:aE X KE σ H s) (h:H p=some (.lst xs)):
  ∃ (its:List Kq) (n:Nat),aW xs its/\s.heap.get? p=some {cls:=.type "list",data:=.seq its.toArray n}/\xs.length<=sizeLine:=by
 obtain⟨z,its,n,r,e⟩:=I.hok p _ h;exact⟨its,n,r,e,z⟩
theorem aE.lstUpd {KE:List (Kr×KD)} {σ:St} {H:Hp} {s:Ko} {p:Kr} {xs ys:List V} {its its':List Kq} {n n':Nat} {f:KD->KD} (I:aE X KE σ H s) (h:H p=some (.lst xs))
  (ho:s.heap.get? p=some {cls:=.type "list",data:=.seq its.toArray n}) (hf:f {cls:=.type "list",data:=.seq its.toArray n}={cls:=.type "list",data:=.seq its'.toArray n'}) (r:aW ys its') (hz:ys.length<=sizeLine) (t:Nat):
  aE X KE σ (br H p (.lst ys)) {s with heap:=s.heap.update p f,toks:=t}:=by
 have e:(s.heap.update p f).get? p=some {cls:=.type "list",data:=.seq its'.toArray n'}:=by
  rw [Heap.get?_update_self f ho (by rw [hf] <;> rfl),hf]
 refine I.write (x:=p) (e:=p) (by rw [h]; trivial) (.inl rfl) (λb u hb q=>(Heap.get?_update_other _ _ (Ne.symm hb)).trans q) ⟨_,e⟩ ?_
 exact⟨hz,its',n',r,e⟩
def Gn:V->V->V->Hp->(Hp->Prop)->Prop:=λo i v H Q=>∃ p xs k j,o=.ref p/\i=.int k/\H p=some (.lst xs)/\yl xs.length k=some j/\Q (br H p (.lst (xs.set j v)))
theorem yH:Df X Gn:=by
 intro KE s σ H o i v ov iv u Q I ro ri rv h;obtain⟨p,xs,k,j,rfl,rfl,hp,hj,q⟩:=h;cases ro;obtain⟨t,rfl⟩:=ri;obtain⟨its,n,r,ho,hz⟩:=I.lst hp;obtain⟨h1,h2,h3,h4⟩:=wu hj;have hl:=r.length;have hn:=oO;have I':aE X KE σ (br H p (.lst (xs.set j v))) {s with heap:=s.heap.update p (Obj.mapSeq (·.setIfInBounds j u))}:=
  I.lstUpd hp ho (vJ its n j u) (r.set rv j) (by rw [List.length_set]; exact hz) s.toks
 by_cases h0:0<=k
 ·have hk:k.toNat=j:=by
   rw [seqIndex_of h0 h4] at h1;exact J1 h1
  exact PySem.W.ki_setAt ho h0 (by omega) (by rw [JI,<- hl]; exact h4) (by rw [hk]; exact⟨_,I',q⟩)
 ·have hk:(k+(its.toArray.size:Int)).toNat=j:=by
   rw [seqIndex_neg (by omega) h3] at h1
   rw [JI,<- hl];exact J1 h1
  exact PySem.W.ki_setBack ho (by omega) (by rw [JI,<- hl]; exact h3) (by omega) (by rw [hk]; exact⟨_,I',q⟩)
theorem sk (lo hi:Ks Int) (n:Nat):(sliceBounds lo hi none n).1=((HT.cI n 0 lo:Nat):Int)/\(sliceBounds lo hi none n).2.1=((HT.cI n n hi:Nat):Int)/\(sliceBounds lo hi none n).2.2=1:=by
 refine⟨?_,?_,rfl⟩
 ·cases lo with
  | none=>simp [sliceBounds,HT.cI]
  | some i=>
   simp only [sliceBounds,HT.cI,Option.getD_none,show(1:Int) > 0 by decide,if_true]
   by_cases h:i < 0
   ·simp only [h,if_true] <;> omega
   ·simp only [h,if_false] <;> omega
 ·cases hi with
  | none=>simp [sliceBounds,HT.cI]
  | some i=>
   simp only [sliceBounds,HT.cI,Option.getD_none,show(1:Int) > 0 by decide,if_true]
   by_cases h:i < 0
   ·simp only [h,if_true] <;> omega
   ·simp only [h,if_false] <;> omega
theorem pV (its:List Kq) (lo hi:Ks Int):slicePick its.toArray lo hi none=((its.drop (HT.cI its.length 0 lo)).take (HT.cI its.length its.length hi - HT.cI its.length 0 lo)).toArray:=by
 obtain⟨h1,h2,h3⟩:=sk lo hi its.toArray.size;unfold slicePick;rw [h1,h2,h3];simp only [sliceRange_one,pick_run,JI] <;> rfl
def Im (K:PySem.W.Frag):V->Ks Int->Ks Int->Hp->VK->Prop:=λx lo hi H Q=>∃ a xs,x=.ref a/\eQ K H a xs/\∀ p,H p=none->Q (.ref p) (br H p (.lst (nW xs lo hi)))
theorem BN:zd X (Im X.K):=by
 intro KE s σ H x v vl vu lo hi sl Q I rx hs pl pu h;obtain⟨a,xs,rfl,hx,q⟩:=h;cases rx;obtain⟨its,r,ht,hz⟩:=I.list hx;have hlen:=r.length;refine⟨"list",_,slot_list_getitem.lookup,ht.isList.typeIs,?_⟩
 refine wpAny_getItem_list_slice ht.isList hs pl pu .none (by simp) ?_ (by rw [JI] <;> omega)
 rw [pV,<- hlen];refine⟨.ref s.heap.objs.size,_,I.laid (t':=s.toks) (o:=.lst (nW xs lo hi)) (λb ob q=>pp _ q) (JE _) ?_,rfl,q _ (I.hok.fresh (JE _))⟩
 exact⟨J5 (nF xs lo hi) hz,_,0,(r.drop (HT.cI xs.length 0 lo)).take (HT.cI xs.length xs.length hi - HT.cI xs.length 0 lo),JC _ rfl⟩
def ko:V->KA
 | .non=>true
 | .bl _=>true
 | .int _=>true
 | .str _=>true
 | _=>false
def CB:V->V->KA
 | .non,.non=>true
 | .bl a,.bl b=>a == b
 | .bl a,.int b=>(if a then 1 else 0) == b
 | .int a,.bl b=>a == (if b then 1 else 0)
 | .int a,.int b=>a == b
 | .str a,.str b=>a == b
 | _,_=>false
theorem Fa {A:Kv} {s:Ko} {y x:V} {u v:Kq} (ry:aV y u) (rx:aV x v) (fy:ko y=true) (fx:ko x=true):SeqAt.EqAt A s u v (CB y x):=by
 cases y with
 | non=>
  cases ry;cases x with
  | non=>cases rx; exact SeqAt.EqAt.same _
  | bl b=>cases rx; exact SeqAt.EqAt.none_bool b
  | int b=>obtain⟨t,rfl⟩:=rx; exact SeqAt.EqAt.none_int b t
  | str b=>obtain⟨t,rfl⟩:=rx; exact SeqAt.EqAt.none_str b t
  | _=>exact absurd (show false=true from fx) JH
 | bl a=>
  cases ry;cases x with
  | non=>cases rx; exact SeqAt.EqAt.bool_none a
  | bl b=>cases rx; exact SeqAt.EqAt.bool_bool a b
  | int b=>obtain⟨t,rfl⟩:=rx; exact SeqAt.EqAt.bool_int a b t
  | str b=>obtain⟨t,rfl⟩:=rx; exact SeqAt.EqAt.bool_str a b t
  | _=>exact absurd (show false=true from fx) JH
 | int a=>
  obtain⟨t',rfl⟩:=ry;cases x with
  | non=>cases rx; exact SeqAt.EqAt.int_none a t'
  | bl b=>cases rx; exact SeqAt.EqAt.int_bool a t' b
  | int b=>obtain⟨t,rfl⟩:=rx; exact SeqAt.EqAt.int_int a t' b t
  | str b=>obtain⟨t,rfl⟩:=rx; exact SeqAt.EqAt.int_str a t' b t
  | _=>exact absurd (show false=true from fx) JH
 | str a=>
  obtain⟨t',rfl⟩:=ry;cases x with
  | non=>cases rx; exact SeqAt.EqAt.str_none a t'
  | bl b=>cases rx; exact SeqAt.EqAt.str_bool a t' b
  | int b=>obtain⟨t,rfl⟩:=rx; exact SeqAt.EqAt.str_int a t' b t
  | str b=>obtain⟨t,rfl⟩:=rx; exact SeqAt.EqAt.str_str a t' b t
  | _=>exact absurd (show false=true from fx) JH
 | _=>exact absurd (show false=true from fy) JH
def B9 (x:V) (u:Kq):KA:=match u with
 | .none=>CB .non x
 | .bool b=>CB (.bl b) x
 | .int i _=>CB (.int i) x
 | .str z _=>CB (.str z) x
 | _=>false
theorem zF {x y:V} {u:Kq} (r:aV y u) (f:ko y=true):B9 x u=CB y x:=by
 cases y with
 | non=>cases r; rfl
 | bl b=>cases r; rfl
 | int i=>obtain⟨t,rfl⟩:=r; rfl
 | str z=>obtain⟨t,rfl⟩:=r; rfl
 | _=>exact absurd (show false=true from f) JH
theorem sf {x:V}:∀ {xs:List V} {us:List Kq},aW xs us->xs.all ko=true->us.any (B9 x)=xs.any λy=>CB y x
 | _,_,.nil,_=>rfl
 | y::xs,u::us,.cons r t,f=>by
  rw [List.all_cons,J6] at f;rw [List.any_cons,List.any_cons,zF r f.1,sf t f.2]
theorem ph {A:Kv} {s:Ko} {x:V} {v:Kq} (rx:aV x v) (fx:ko x=true):∀ {xs:List V} {us:List Kq},aW xs us->xs.all ko=true->∀ u∈us,SeqAt.EqAt A s u v (B9 x u)
 | _,_,.nil,_=>λu hu=>by cases hu
 | y::xs,u::us,.cons r t,f=>λu' hu=>by
  rw [List.all_cons,J6] at f;rcases JJ.mp hu with rfl | hu
  ·rw [zF r f.1]; exact Fa r rx f.1 fx
  ·exact ph rx fx t f.2 u' hu
def Cz (x:V) (xs:List V):KA:=xs.any λy=>CB y x
def IM (K:PySem.W.Frag) (neg:KA):R2:=λx y H Q=>∃ p xs,y=.ref p/\(eQ K H p xs\/gZ K H p xs)/\ko x=true/\xs.all ko=true/\Q (.bl (if neg then !Cz x xs else Cz x xs)) H
theorem ya:cS X (compareOp .In) (IM X.K false):=by
 intro KE s σ H x y v u Q I rx ry h;obtain⟨p,xs,rfl,hq,fx,fs,q⟩:=h;cases ry;rcases hq with hq | hq
 ·obtain⟨its,r,pl,hz⟩:=I.list hq;refine SeqAt.in_listAt (B9 x) pl.isList (λw hw=>ph rx fx r fs w (by simpa using hw)) ⟨.bl _,H,I,rfl,?_⟩
  rw [show its.toArray.any (B9 x)=its.any (B9 x) by simp,sf r fs]
  exact q
 ·obtain⟨its,r,pl,hz⟩:=I.tuple hq;refine SeqAt.in_tupleAt (B9 x) pl (λw hw=>ph rx fx r fs w (by simpa using hw)) ⟨.bl _,H,I,rfl,?_⟩
  rw [show its.toArray.any (B9 x)=its.any (B9 x) by simp,sf r fs]
  exact q
theorem jd:bW X (.builtin "len") (λxs H Q=>∃ p ys,xs=[.ref p]/\(eQ X.K H p ys\/gZ X.K H p ys)/\Q (.int ys.length) H):=by
 intro KE s σ H xs us Q I r h;obtain⟨p,ys,rfl,hq,q⟩:=h;obtain⟨u,rfl,rx⟩:=qQ r;cases rx;have hn:=oO;rcases hq with hq | hq
 ·obtain⟨its,r',pl,hz⟩:=I.list hq;have hlen:=r'.length;exact Calls.call_len_list pl.isList (by simp only [JI] <;> omega) ⟨.int ys.length,H,I.tok _,⟨s.toks+1,by rw [JI,hlen]⟩,q⟩
 ·obtain⟨its,r',pl,hz⟩:=I.tuple hq;have hlen:=r'.length;exact len_tuple pl (by simp only [JI] <;> omega) ⟨.int ys.length,H,I.tok _,⟨s.toks+1,by rw [JI,hlen]⟩,q⟩
theorem kB:bW X (.type "tuple") (λxs H Q=>∃ p ys,xs=[.ref p]/\((eQ X.K H p ys/\∀ l,H l=none->Q (.ref l) (br H l (.tup ys)))\/(gZ X.K H p ys/\Q (.ref p) H))):=by
 intro KE s σ H xs us Q I r h;obtain⟨p,ys,rfl,h⟩:=h;obtain⟨u,rfl,rx⟩:=qQ r;cases rx;rcases h with ⟨hq,q⟩ | ⟨hq,q⟩
 ·obtain⟨its,r',pl,hz⟩:=I.list hq;have hlen:=r'.length;refine call_tuple_list pl.isList (λh' kp=>?_) (by simp only [JI] <;> omega)
  have I1:aE X KE σ H {s with heap:=h'}:=I.kept (t':=s.toks) kp
  have I2:aE X KE σ (br H h'.objs.size (.tup ys)) {s with heap:=h'.push {cls:=.type "tuple",data:=.seq its.toArray}}:=
   I1.laid (t':=s.toks) (λb o e=>pp _ e) (JE _) (show dy X.prog X.w _ _ _ (.tup ys) from⟨hz,its,r',IsTup.new _ _⟩)
  exact⟨.ref h'.objs.size,_,I2,rfl,q _ (I1.hok.fresh (JE _))⟩
 ·obtain⟨its,r',pl,hz⟩:=I.tuple hq;exact call_tuple_same pl ⟨.ref p,H,I,rfl,q⟩
def IE (K:PySem.W.Frag) (T:KB) (x:V) (H:Hp):Prop:=match x with
 | .str _=>T="str"
 | .int _=>T="int"
 | .ref p=>(T="list"/\∃ xs,eQ K H p xs)\/(T="tuple"/\∃ o,K.lookup p=some o/\o.cls=.type "tuple"/\o.dict=none)\/
   (T="dict"/\((∃ kvs,H p=some (.dK kvs))\/∃ kvs,H p=some (.dT kvs)))\/(T="set"/\∃ S n,H p=some (.set S n))
 | _=>False
theorem yJ {KE:List (Kr×KD)} {σ:St} {H:Hp} {s:Ko} {T:KB} {x:V} {v:Kq} (I:aE X KE σ H s) (r:aV x v) (ty:IE X.K T x H):
  s.TypeIs v T/\∀ a,v=.ref a->∃ ob,s.heap.get? a=some ob/\ob.dict=none:=by
 cases x with
 | str z=>
  obtain⟨t,rfl⟩:=r;cases (show T="str" from ty)
  exact⟨typeIs_str s z t,λ_ e=>nomatch e⟩
 | int i=>
  obtain⟨t,rfl⟩:=r;cases (show T="int" from ty)
  exact⟨typeIs_int s i t,λ_ e=>nomatch e⟩
 | ref p=>
  cases r;rcases ty with ⟨rfl,xs,hq⟩ | ⟨rfl,o,hk,hc,hd⟩ | ⟨rfl,hk⟩ | ⟨rfl,S,n,hk⟩
  ·obtain⟨its,_,pl,_⟩:=I.list hq;refine⟨pl.isList.typeIs,λa e=>?_⟩
   cases e;obtain⟨o,n,e,c,hd,_⟩:=pl;exact⟨o,e,hd⟩
  ·refine⟨⟨o,I.kIn p o hk,hc⟩,λa e=>?_⟩
   cases e;exact⟨o,I.kIn _ o hk,hd⟩
  ·have z:∃ o,s.heap.get? p=some o/\o.ExactDict:=by
    rcases hk with ⟨kvs,hk⟩ | ⟨kvs,hk⟩
    ·obtain⟨_,_,_,_,o,_,_,e,ex,_⟩:=I.hok p _ hk;exact⟨o,e,ex⟩
    ·obtain⟨_,_,_,_,o,_,_,e,ex,_⟩:=I.hok p _ hk;exact⟨o,e,ex⟩
   obtain⟨o,e,ex⟩:=z;refine⟨⟨o,e,ex.1⟩,λa e2=>?_⟩
   cases e2;exact⟨o,e,ex.2.1⟩
  ·obtain⟨o,_,_,_,e,ex,_⟩:=I.hok p _ hk;refine⟨⟨o,e,ex.1⟩,λa e2=>?_⟩
   cases e2;exact⟨o,e,ex.2.1⟩
 | _=>exact False.elim ty
def HK (K:PySem.W.Frag) (T:KB) (r:V->List V->Hp->VK->Prop) (to:TE):TE:=fun σ H Q=>to σ H λx H1=>IE K T x H1/\r x [] H1 Q
def Jw (K:PySem.W.Frag) (T:KB) (r:V->List V->Hp->VK->Prop) (to:TE) (t:TA):TE:=fun σ H Q=>to σ H λx H1=>IE K T x H1/\t σ H1 λxs H2=>r x xs H2 Q
variable {o e:Kt} {es:List Kt} {to:TE} {t:TA} {name:Str} {apos cpos:Pos} {T id:KB} {r:V->List V->Hp->VK->Prop}
theorem Ej (pa:PlainAttrs T) (slot:Slot T name id) (hty:typeOf (.builtin id)=pure (.type "method_descriptor")) (hm:Cn X id r) (ho:PE X o to)
  (hbase:attributeBase o name X.env (eval o X.env)=eval o X.env:=by rfl) (hline:(apos.endLine == cpos.line)=true:=by rfl):PE X (.Call (.Attribute o name apos) [] [] cpos) (HK X.K T r to):=by
 intro KE s σ H Q I h;refine wpAny_Call_method0_late hbase hline (be (ho KE s σ H _ I h) λv s1 z9=>?_)
 obtain⟨x,H1,I1,r1,ty,q1⟩:=z9;obtain⟨h1,h2⟩:=yJ I1 r1 ty;exact⟨T,id,pa,slot,hty,h1,h2,Calls.callWith_builtin rfl (PySem.evalArgs_none (hm KE s1 σ H1 x [] v [] Q I1 r1 .nil q1))⟩
theorem CL (pa:PlainAttrs T) (slot:Slot T name id) (hty:typeOf (.builtin id)=pure (.type "method_descriptor")) (hm:Cn X id r) (ho:PE X o to) (ha:PA X (e::es) t)
  (hbase:attributeBase o name X.env (eval o X.env)=eval o X.env:=by rfl)
  (hfew:((backTo cpos (starEach (e::es) X.env)).all (λx=>!x.1) && (backToKw cpos (keywordEach [] X.env)).all (λx=>x.1.isSome)
   && decide ((e::es).length+([]:List Keyword).length+(if ([]:List Keyword).isEmpty then 0 else 1) < 30))=true:=by rfl)
  (hline:(apos.endLine == cpos.line)=true:=by rfl) (hs:starEach (e::es) X.env=(false,eval e X.env)::starEach es X.env:=by rfl) (hplain:(backTo cpos (starEach es X.env)).any (·.1)=false:=by rfl):
  PE X (.Call (.Attribute o name apos) (e::es) [] cpos) (Jw X.K T r to t):=by
 intro KE s σ H Q I h;refine wpAny_Call_method_late hbase hfew hline rfl (be (ho KE s σ H _ I h) λv s1 z9=>?_)
 obtain⟨x,H1,I1,r1,ty,q1⟩:=z9;obtain⟨h1,h2⟩:=yJ I1 r1 ty;refine⟨T,id,pa,slot,hty,h1,h2,?_⟩;have hA:=ha cpos KE s1 σ H1 _ I1 q1;rw [hs] at hA ⊢;refine Calls.callWith_builtin (by show(false || (backTo cpos (starEach es X.env)).any (·.1))=false; rw [hplain] <;> rfl) (Calls.evalArgs_plain ?_)
 exact be hA λus s2 z9=>by obtain⟨vs,H2,I2,r2,q2⟩:=z9; exact hm KE s2 σ H2 x vs v us Q I2 r1 r2 q2
end
def Jr (X:Cx) (id:KB) (r:V->List V->Hp->VK->Prop):Prop:=
 ∀ (KE:List (Kr×KD)) (s:Ko) (σ:St) (H:Hp) (x:V) (xs:List V) (v:Kq) (us:List Kq) (Q:VK),aE X KE σ H s->aV x v->aW xs us->r x xs H Q->
  wpAny (model X.prog X.w) X.A (call (.builtin id) (v::us)) (EP X KE σ Q) X.xe s
theorem aW.one:∀ {x:V} {us:List Kq},aW [x] us->∃ u,us=[u]/\aV x u
 | _,_,.cons r .nil=>⟨_,rfl,r⟩
section
variable {X:Cx} {KE:List (Kr×KD)} {σ:St} {H:Hp} {s:Ko} {l b:Kr} {xs ys zs:List V}
theorem aE.lset {its its':List Kq} {n:Nat} {f:Kz Kq->Kz Kq} {t':Nat} (I:aE X KE σ H s) (hH:H l=some (.lst xs))
  (e:s.heap.get? l=some {cls:=.type "list",data:=.seq its.toArray n}) (hf:f its.toArray=its'.toArray) (hv:aW ys its') (hz:ys.length<=sizeLine):
  aE X KE σ (br H l (.lst ys)) {s with heap:=s.heap.update l (Obj.mapSeq f),toks:=t'}:=by
 have q:=PySem.IsL.update e f;rw [hf] at q;refine I.write (x:=l) (e:=l) (by rw [hH]; exact trivial) (.inl rfl) (λb' u hb hu=>(Heap.get?_update_other s.heap (Obj.mapSeq f) (Ne.symm hb)).trans hu) ⟨_,q⟩ ?_
 exact⟨hz,its',_,hv,q⟩
theorem aE.lnew {its:List Kq} {t':Nat} (I:aE X KE σ H s) (hv:aW ys its) (hz:ys.length<=sizeLine):
  aE X KE σ (br H s.heap.objs.size (.lst ys)) {s with heap:=s.heap.push {cls:=.type "list",data:=.seq its.toArray},toks:=t'}:=
 I.laid (λ_ _ q=>pp _ q) (JE _) ⟨hz,its,0,hv,JC _ rfl⟩
theorem aE.fresh (I:aE X KE σ H s):H s.heap.objs.size=none:=I.hok.fresh (JE _)
theorem aE.lstM (I:aE X KE σ H s) (hH:H l=some (.lst xs)):xs.length<=sizeLine/\∃ (its:List Kq) (n:Nat),aW xs its/\xs.length=its.length/\s.heap.get? l=some {cls:=.type "list",data:=.seq its.toArray n}:=by
 obtain⟨z,its,n,r,e⟩:=I.hok l _ hH;exact⟨z,its,n,r,r.length,e⟩
end
section
variable {X:Cx}
def BH:V->List V->Hp->VK->Prop:=λx vs H Q=>∃ l xs y,x=.ref l/\vs=[y]/\H l=some (.lst xs)/\xs.length < sizeLine/\Q .non (br H l (.lst (xs++[y])))
theorem hX:Jr X "list.append" BH:=by
 intro KE s σ H x vs v us Q I rx rv h;obtain⟨l,xs,y,rfl,rfl,hH,hz,q⟩:=h;cases rx;obtain⟨u,rfl,ru⟩:=rv.one;obtain⟨z,its,n,r,hl,e⟩:=I.lstM hH;refine call_meets F.slot_list_append ⟨_,e,rfl⟩ F.entry_list_append (F.args_list_append_2 _ _) (PySem.list_append l its.toArray n u (by rw [JI]; omega)) ⟨e,?_⟩
 refine⟨.non,_,I.lset (its':=its++[u]) hH e (by simp) (r.append (.cons ru .nil)) ?_,rfl,q⟩
 rw [JU,List.length_singleton];omega
def Ip:R2:=λx y H Q=>∃ l b xs zs,x=.ref l/\y=.ref b/\H l=some (.lst xs)/\H b=some (.lst zs)/\xs.length+zs.length<=sizeLine/\∀ p,H p=none->Q (.ref p) (br H p (.lst (xs++zs)))
theorem Ed:cS X (binaryOp .Add) Ip:=by
 intro KE s σ H x y v u Q I rx ry h;obtain⟨l,b,xs,zs,rfl,rfl,hH,hB,hz,q⟩:=h;cases rx;cases ry;obtain⟨z,its,n,r,hl,e⟩:=I.lstM hH;obtain⟨z2,its2,n2,r2,hl2,e2⟩:=I.lstM hB;refine PySem.P.add_list e e2 ?_ (by rw [JI,JI]; omega)
 have ea:its.toArray++its2.toArray=(its++its2).toArray:=by simp
 rw [ea];exact⟨.ref _,_,I.lnew (t':=s.toks) (r.append r2) (by rw [JU]; omega),rfl,q _ I.fresh⟩
end
section
variable {X:Cx} {KE:List (Kr×KD)} {σ:St} {H:Hp} {s:Ko} {a:Kr} {y v:V} {u r:Kq} {o:Ks V} {A:Kv} {E:Kq->Ko->Prop}
theorem aE.big (I:aE X KE σ H s):sysModules < s.heap.objs.size:=by
 have h:mainGlobals < s.heap.objs.size:=(I.mod.glob.keeps I.bk).lt;exact Nat.lt_trans (by decide) h
theorem wR {h':Kx} {t':Nat} {ob:HO} (I:aE X KE σ H s) (mu:Gq (H a)) (hs:Heap.SameBut a s.heap h') (he:∃ q,h'.get? a=some q) (new:dy X.prog X.w (br H a ob) h' a ob):
  aE X KE σ (br H a ob) {s with heap:=h',toks:=t'}:=
 I.write (x:=a) (e:=a) mu (.inl rfl) (λb q hb z=>(hs.2 b hb).trans z) he new
end
def EF (i:Kt):Prop:=∀ ov iv,subscripted i false ov iv=operate [ov,iv] (getItem ov iv)
theorem A7 {prog:Ku} {w:Kw} {A:Kv} {E:Kq->Ko->Prop} {s:Ko} {env:Env} {value slice:Kt} {pos:Pos} {T id:KB} {Q:Kq->Ko->Prop}
  (hl:typeLookup (.type T) "__getitem__"=pure (some (.builtin id))) (hs:EF slice)
  (h:wpAny (model prog w) A (eval value env) (λo s₁=>wpAny (model prog w) A (eval slice env) (λi s₂=>s₂.TypeIs o T/\wpAny (model prog w) A (getItem o i) Q E s₂) E s₁) E s):
  wpAny (model prog w) A (eval (.Subscript value slice pos) env) Q E s:=by
 refine Subscript_ (J4 h (λo s₁ h₁=>J4 h₁ (λi s₂ h₂=>?_) λ_ _ x=>x) λ_ _ x=>x)
 obtain⟨hT,h₂⟩:=h₂;unfold subscriptTail;refine gt ?_;rw [getitemInPython_of_ne hT.not_modules];refine gt (wpAny_specialOf hT hl ?_);have fin:wpAny (model prog w) A (subscripted slice false o i) (λr s₃=>wpAny (model prog w) A (letTemporaryGo value o r >>= λ_=>pure r) Q E s₃) E s₂:=by
  rw [hs o i];exact wpAny_operating (J4 h₂ (λr s₃ h₃=>gt (wpAny_letTemporaryGo (JB h₃))) λ_ _ x=>x)
 first
  | exact JB (gt fin)
  | exact gt (JB (gt fin))
  | exact gt fin
abbrev VV:List (V×V)->List (Kq×Kq)->Prop:=Paired λp q=>aV p.1 q.1/\aV p.2 q.2
def bB (H:Hp) (a:Kr):Prop:=(∃ kvs,Rd H a (.dK kvs))\/∃ kvs,Rd H a (.dT kvs)
end L2
namespace Att
open PySem PySem.W PySem.Calls PyProof.Rows
theorem oe {P:Params} {h:Kx}:∀ (ns:List Int) (vs:List Kq),WellAll P h vs (ns.map WData.int)->IntsAre vs ns:=by
 intro ns
 induction ns with
 | nil=>
  intro vs w;rw [List.map_nil] at w;cases w;exact .nil
 | cons n ns ih=>
  intro vs w;rw [JP] at w;cases w with
  | cons a b=>
   cases a;exact .cons _ _ (ih _ b)
theorem xp {l:OpenLaw} {n:Nat} (hn:l.most=some n) {P:Params} {h:Kx} {args:List WData} {vals:List Kq}
  (hpre:l.row.toRowW.claim.pre args=true) (hwl:WellAll P h vals args):
  ∃ a vs ns,vals=[Value.ref a]/\args=[WData.list (ns.map WData.int)]/\h.get? a=some {cls:=.type "list",data:=.seq vs.toArray}/\IntsAre vs ns/\ns.length<=n:=by
 have hsh:WShape.hasAll [] args [.list .int]=true:=(pre_splitW hpre).1;have hc:l.pre.holds [] {args:=args}=true:=(pre_splitW hpre).2;obtain⟨d,r,rfl,h1,h2⟩:=hasAllW_cons hsh;obtain rfl:=hasAllW_nil h2;obtain⟨xs,rfl,h3⟩:=hasW_list h1;obtain⟨ns,rfl⟩:=items_int h3;have hlen:ns.length<=n:=by
  unfold OpenLaw.pre at hc;have h4:(WTm.not (.lt (.lit (.int (n:Int))) (.len (.arg 0)))).holds [] {args:=[.list (ns.map .int)]}=true:=by
   have h4:=(holds_andW hc).1;rw [hn] at h4;exact h4
  have h5:=condW_of h4 (w_not (w_lt w_lit (w_len_list (w_arg rfl))));rw [JG] at h5;refine Nat.le_of_not_lt λq=>?_
  have q':(n:Int) < ((ns.length:Nat):Int):=by omega
  first
   | (rw [decide_eq_true q'] at h5; exact absurd h5 (by decide))
   | (simp at h5; omega)
 cases hwl with
 | cons w1 w2=>
  cases w2;cases w1 with
  | list ho hall=>exact⟨_,_,ns,rfl,rfl,ho,oe ns _ hall,hlen⟩
theorem xZ (l:OpenLaw) (args:List WData):l.row.toRowW.claim.post args (.bool true) args=true:=
 postW_of (r:=l.row.toRowW) (X:=(true == true))
  (show WShape.has [] (.bool true) .bool=true by first | rfl | decide | simp [WShape.has,WShape.arms,WShape.armsAll])
  (show (WTm.eq .res (.lit (.bool true))).value [] {args:=args,res:=some (.bool true),after:=args}=some (.bool (true == true)) from w_eq_bool (w_res rfl) w_lit) rfl
theorem attach_call {l:OpenLaw} {n:Nat} {q:Ku} {loose:List Str} {XP:(Str->Ks Kq)->Kx->Prop} {YP:Kw->Kx->Prop} {d:DefRec}
  (hn:l.most=some n) (hdf:d.params.defaults=[])
  (call:∀ (w:Kw) (s₀ s₁:Ko) (mg mb:Str->Ks Kq) (fa:Kr) (o:KD) (pm cd doc:Kq) (a:Kr) (vs:List Kq) (ns:List Int),
   Ground q loose [] XP w s₀ mg mb s₁.heap->YP w s₁.heap->
   s₁.heap.get? fa=some o->o.data=.func (docDef d.name d.params d.body d.scope pm cd doc)->s₁.heap.CodeRec cd d.name->mg d.name=some (.ref fa)->
   s₁.heap.get? a=some {cls:=.type "list",data:=.seq vs.toArray}->IntsAre vs ns->ns.length<=n->s₁.gens=#[]->
   codeAny (model l.prog w) callerA (.call (.ref fa) ⟨[.ref a],[]⟩) (λr s'=>r=.ok (.ret (.bool true))/\OldK s₁.heap s'.heap/\s'.os=s₁.os/\AllBare s'.gens) s₁):
  WalkO q loose XP YP l.row.toRowW d [] (λf vs=>PySem.call f vs):=by
 intro w s₀ s₁ mg mb G Y fa o pm cd doc dV kV ho hd hcd hD hmg hg args vals as hpre hlay hrd hwl hlo;obtain rfl:dV=.none:=Dflts.none hD hdf;obtain rfl:kV=.none:=Dflts.noKw hD;obtain⟨a,vs,ns,rfl,rfl,hobj,hints,hlen⟩:=xp hn hpre hwl;refine enter_call (codeAny_mono (call w s₀ s₁ mg mb fa o pm cd doc a vs ns G Y ho (fd_plain hd) hcd hmg hobj hints hlen hg) λr s' hq=>?_)
 obtain⟨rfl,h2,h3,h4⟩:=hq;exact⟨.inl ⟨.bool true,.bool true,[],rfl,λ_=>rfl,.bool true,xZ l _,λ_=>⟨List.Pairwise.nil,λ_ hm=>(nomatch hm)⟩⟩,h2,h3,h4⟩
section
variable {prog:Ku} {w:Kw} {A:Kv} {E:Kq->Ko->Prop} {s:Ko} {K:Frag}
def HL (h:Kx) (L d:Kr):List (Kr×KD):=(List.range h.objs.size).filterMap λa=>if a=L\/a=d then none else(h.get? a).map λo=>(a,o)
end
end Att
namespace L2
open PySem PySem.Spec PyProof.Rows
theorem qL:∀ {vs:List Kq} {ns:List Int},IntsAre vs ns->aW (ns.map V.int) vs
 | _,_,.nil=>.nil
 | _,_,.cons n t h=>.cons ⟨t,rfl⟩ (qL h)
def Bj (H:Hp):Prop:=∀ b,H b=none\/∃ o xs,H b=some (.frz o (.lst xs))
theorem AR {P:Ku} {w:Kw} {K:PySem.W.Frag} {mg mb:Str->Ks Kq} {CX:A5} {k:Nat} {fa a:Kr} {fd:FuncData} {x:Str} {sp:Sp} {s₁:Ko} {vs:List Kq} {ns:List Int}
  (KX:K.In s₁.heap) (hns:s₁.heap.Ns mainGlobals mg) (hb:s₁.heap.Ns builtinsNs mb) (hbb:∀ x:Str,x≠"__name__"->mb x=bootBuiltins x) (hlim:s₁.heap.NoLimit) (hg:s₁.gens=#[])
  (ha:s₁.heap.get? a=some {cls:=.type "list",data:=.seq vs.toArray}) (hi:IntsAre vs ns) (hl:ns.length<=sizeLine) (hr:cA k callerA)
  (F:∀ base:Kx,K.In base->base.Ns mainGlobals mg->aQ P w K mg base CX k fa fd [x] sp) (hbind:∀ (s:Ko) (u:Kq),BindsTo s fd ⟨[u],[]⟩ [(x,u)])
  (hsp:∀ H:Hp,Bj H->eQ K H a (ns.map V.int)->sp [.ref a] H (λv _=>v=.bl true) λ_ _ _=>False)
  (hCX:∀ H e s',CX [] H s₁ (λ_ _ _=>False) e s'->False):
  codeAny (model P w) callerA (.call (.ref fa) ⟨[.ref a],[]⟩) (λr s'=>r=.ok (.ret (.bool true))/\OldK s₁.heap s'.heap/\s'.os=s₁.os/\AllBare s'.gens) s₁:=by
 have rv:=qL hi;have lenV:=hi.length;have core:∀ H:Hp,Bj H->eQ K H a (ns.map V.int)->n5 P w H s₁.heap->(∀ b,H b≠none->b=a)->(H a≠none->K.lookup a=none)->
   codeAny (model P w) callerA (.call (.ref fa) ⟨[.ref a],[]⟩) (λr s'=>r=.ok (.ret (.bool true))/\OldK s₁.heap s'.heap/\s'.os=s₁.os/\AllBare s'.gens) s₁:=by
  intro H hO hS hok hA hK;have base_of:∀ {b:Kr} {o:KD},s₁.heap.get? b=some o->H b=none->(rC s₁.heap H).get? b=some o:=λe n=>zM e n
  have noA:∀ {b:Kr} {o:KD} {es:Kz KC} {ep:Nat},s₁.heap.get? b=some o->o.data=.dict es ep->H b=none:=λ{b o es ep} e d=>by
   cases q:H b with
   | none=>rfl
   | some u=>
    have e':b=a:=hA b (by rw [q]; simp)
    subst e';rw [ha] at e; cases e
    have d':Data.seq vs.toArray _=Data.dict es ep:=d;cases d'
  have nsK:∀ {b:Kr} {m:Str->Ks Kq},s₁.heap.Ns b m->(rC s₁.heap H).Ns b m:=λ{b m} ⟨o,es,ep,e,d,r⟩=>⟨o,es,ep,base_of e (noA e d),d,r⟩
  have hKb:K.In (rC s₁.heap H):=λb o e=>base_of (KX b o e) (by
   cases q:H b with
   | none=>rfl
   | some u=>
    have e':b=a:=hA b (by rw [q]; simp)
    subst e';rw [hK (by rw [q]; simp)] at e; cases e)
  have hM:Mod K mg (rC s₁.heap H):=⟨hKb,nsK hns,⟨mb,nsK hb,hbb⟩,let ⟨mc,h1,h2⟩:=hlim; ⟨mc,nsK h1,h2⟩⟩
  have e0:A_ P w K mg (rC s₁.heap H) callerA [] s₁ H:=⟨rfl,hM,λb o e=>B7 e,Nat.le_of_eq (xW _ _),trivial,λb hb=>absurd (show b∈([]:List Kr) from hb) (by simp),hok,.of_eq hg⟩
  refine codeAny_mono ((F _ hKb (nsK hns)).run callerA [] s₁ H ⟨[.ref a],[]⟩ [.ref a] [.ref a] _ _ hr e0 (hbind s₁ (.ref a)) (.cons rfl .nil) (hsp H hO hS)) λr s' h=>?_
  cases r with
  | error e=>exact(hCX H e s' h).elim
  | ok fl=>
   cases fl with
   | next=>exact False.elim h
   | brk=>exact False.elim h
   | cont=>exact False.elim h
   | ret u=>
    obtain⟨v,H',os,bare,un,hok',r',q⟩:=h;have q':v=.bl true:=q;subst q';obtain rfl:u=Value.bool true:=r';refine⟨rfl,OldK.of_keep λb o e=>?_,os,bare⟩
    cases q:H b with
    | none=>exact un.keep b o e q (by intro z; exact absurd (show b∈([]:List Kr) from z) (by simp)) (by simp)
    | some u=>
     rcases hO b with z | ⟨ob,xs,z⟩
     ·rw [q] at z; cases z
     ·have z2:=un.frzs b ob _ z;obtain⟨e1,_⟩:=hok b _ z;obtain⟨e2,_⟩:=hok' b _ z2;rw [e] at e1; cases e1
      exact e2
 cases hk:K.lookup a with
 | some o=>
  have e:=KX a o hk;rw [ha] at e;cases e;refine core (λ_=>none) (λ_=>.inl rfl) (.inr ⟨_,vs.toArray,_,hk,rfl,rfl,rfl,by rw [JI,lenV]; exact hl,by simpa using rv⟩) (λb u z=>by have z':(none:Ks HO)=some u:=z; cases z') (λb z=>absurd rfl z) λz=>absurd rfl z
 | none=>
  refine core (λb=>if b=a then some (.frz {cls:=.type "list",data:=.seq vs.toArray} (.lst (ns.map V.int))) else none) (λb=>?_) (.inl (.inr ⟨{cls:=.type "list",data:=.seq vs.toArray},if_pos rfl⟩)) (λb u z=>?_) (λb z=>?_) λ_=>hk
  ·by_cases hb:b=a
   ·exact .inr ⟨_,_,if_pos hb⟩
   ·exact .inl (if_neg hb)
  ·by_cases hb:b=a
   ·have z':=(if_pos hb).symm.trans z;cases z';subst hb;exact⟨ha,by rw [JG]; exact hl,vs,_,rv,ha⟩
   ·have z':=(if_neg hb).symm.trans z;cases z'
  ·by_cases hb:b=a
   ·exact hb
   ·exact absurd (if_neg hb) z
abbrev JA {K:PySem.W.Frag} {h:Kx} (_:K.In h):PySem.W.Frag:=K
theorem B1 {l:PySem.W.OpenLaw} {n k:Nat} {q:Ku} {loose:List Str} {XP:(Str->Ks Kq)->Kx->Prop} {YP:Kw->Kx->Prop} {d:DefRec} {K:Params->PySem.W.Frag} {CX:Kw->A5} {sp:Kw->Sp} {x:Str}
  (hn:l.most=some n) (hn2:n<=sizeLine) (hdf:d.params.defaults=[]) (hr:cA k callerA)
  (hY:∀ (w:Kw) (h:Kx),YP w h->(K w.params).In h)
  (F:∀ (w:Kw) (mg:Str->Ks Kq) (fa:Kr) (h:Kx),(K w.params).In h->h.Ns mainGlobals mg->mg d.name=some (.ref fa)->
   ∃ fd:FuncData,(∀ (s:Ko) (u:Kq),BindsTo s fd ⟨[u],[]⟩ [(x,u)])/\
    ∀ base:Kx,(K w.params).In base->base.Ns mainGlobals mg->aQ l.prog w (K w.params) mg base (CX w) k fa fd [x] (sp w))
  (hsp:∀ (w:Kw) (H:Hp) (a:Kr) (ns:List Int),ns.length<=n->Bj H->eQ (K w.params) H a (ns.map V.int)->sp w [.ref a] H (λv _=>v=.bl true) λ_ _ _=>False)
  (hCX:∀ (w:Kw) (H:Hp) (s:Ko) (e:Kq) (s':Ko),CX w [] H s (λ_ _ _=>False) e s'->False):
  PySem.W.WalkO q loose XP YP l.row.toRowW d [] (λf vs=>PySem.call f vs):=by
 refine Att.attach_call hn hdf λw s₀ s₁ mg mb fa o pm cd doc a vs ns G Y ho hd hcd hmg hobj hints hlen hg=>?_
 have KX:=hY w _ Y;obtain⟨fd,hb,hF⟩:=F w mg fa _ KX G.T.g hmg;exact AR KX G.T.g G.T.b G.T.builtins G.T.nolimit hg hobj hints (J5 hlen hn2) hr hF hb (λH hO hS=>hsp w H a ns hlen hO hS) λH e s'=>hCX w H s₁ e s'
def eC (s:Ky):Arguments:=match s with
 | .FunctionDef _ a _ _ _ _ _ _ _ _=>a
 | _=>{posonlyargs:=[],args:=[],vararg:=none,kwonlyargs:=[],kw_defaults:=[],kwarg:=none,defaults:=[]}
def cP (s:Ky):List Ky:=match s with
 | .FunctionDef _ _ b _ _ _ _ _ _ _=>b
 | _=>[]
def aj (s:Ky):Scope:=match s with
 | .FunctionDef _ _ _ _ _ _ sc _ _ _=>sc
 | _=>{kind:=.function,names:=[],isGenerator:=false,isCoroutine:=false}
abbrev b8:A5:=λ_ _ _ _ _ _=>False
abbrev E0:XK:=λ_ _ _=>False
theorem FF {X:Cx}:vm b8 X E0:=λ_ _ _ _ _ _ _ h=>h.elim
structure xJ (K:PySem.W.Frag) (x KF:Str) (st:Ky) (f:Kr) (fd:FuncData):Prop where
 ex:∃ (oc:Kq) (od:Ks Kr) (kV doc pm:Kq) (an:Ks Kr) (cdv ct:Kq) (osl:Kz (Ks Kq)),
  fd=PySem.W.fnOf x KF (eC st) (cP st) (aj st) .none kV doc pm an cdv ct/\K.lookup f=some ⟨oc,od,.func fd,osl⟩/\PySem.W.codeIn K cdv KF=true
 kp:PySem.W.keepIn K (.ref f)=true
section
variable {P:Ku} {w:Kw} {K:PySem.W.Frag} {mg:Str->Ks Kq} {base:Kx}
theorem xJ.ok {x KF:Str} {st:Ky} {f:Kr} {fd:FuncData} {N ps:List Str} {k:Nat} {sp:Sp} (F:xJ K x KF st f fd) (S:ao N ps (aj st)) (len:∀ vs H Q E,sp vs H Q E->vs.length=ps.length)
  (hbody:∀ (cdv:Kq) (A:Kv) (outer:List Env) (s:Ko) (H:Hp) (vs:List V) (Q:VK) (E:XK),cA k (A.deeper (envOfC KF (aj st) s.heap.objs.size f cdv))->sp vs H Q E->
   ∃ t,qH (tL b8 P w K mg base N KF (aj st) f cdv A outer s H E).nox (cP st) t/\t {nx:=λ_ H'=>Q .non H',rt:=Q} (start N vs) H):aQ P w K mg base b8 (k+1) f fd ps sp:=by
 obtain⟨oc,od,kV,doc,pm,an,cdv,ct,osl,rfl,lk,hcd⟩:=F.ex;refine Gw lk hcd S len λA outer s H vs Q E hr hsp=>?_
 obtain⟨t,h,q⟩:=hbody cdv A outer s H vs Q E hr hsp;exact⟨t,h.nox,q⟩
theorem xJ.binds {x KF:Str} {st:Ky} {f:Kr} {fd:FuncData} {ps:List Str} (F:xJ K x KF st f fd)
  (h:∀ (kV doc pm:Kq) (an:Ks Kr) (cdv ct:Kq) (us:List Kq),us.length=ps.length->bindArgs (PySem.W.fnOf x KF (eC st) (cP st) (aj st) .none kV doc pm an cdv ct) ⟨us,[]⟩=pure (ps.zip us)):o_ K fd ps []:=by
 obtain⟨oc,od,kV,doc,pm,an,cdv,ct,osl,rfl,lk,hcd⟩:=F.ex;exact .all (h kV doc pm an cdv ct)
theorem A0 {x KF:Str} {st:Ky} {f:Kr} {oc:Kq} {od an:Ks Kr} {osl:Kz (Ks Kq)} {kV doc pm cdv ct:Kq} (l:K.lookup f=some ⟨oc,od,.func (PySem.W.fnOf x KF (eC st) (cP st) (aj st) .none kV doc pm an cdv ct),osl⟩)
  (c:PySem.W.codeIn K cdv KF=true) (k:PySem.W.keepIn K (.ref f)=true):xJ K x KF st f (PySem.W.fnOf x KF (eC st) (cP st) (aj st) .none kV doc pm an cdv ct):=⟨⟨oc,od,kV,doc,pm,an,cdv,ct,osl,rfl,l,c⟩,k⟩
end
theorem BI {A B:Prop} (h:B):if false=true then A else B:=by
 rw [if_neg JH];exact h
theorem vS {A B:Prop} (h:A):if true=true then A else B:=by
 rw [if_pos rfl];exact h
end L2
set_option linter.all false
namespace HM
theorem tD (a b:Int):Int.gcd b (a.fmod b)=Int.gcd a b:=by
 have h:=Int.gcd_sub_mul_right_right b a (a.fdiv b);rw [Int.fmod_def,Int.mul_comm b,h,Int.gcd_comm]
theorem wg (a b:Int) (h:b≠0):(a.fmod b).natAbs < b.natAbs:=by
 rcases Int.lt_or_gt_of_ne h with hb | hb
 ·have e:a.fmod b=-((-a).fmod (-b)):=by rw [Int.neg_fmod_neg,Int.neg_neg]
  have h1:=Ka (-a) (show 0 < -b by omega)
  have h2:=Kl (-a) (show 0 < -b by omega)
  omega
 ·have h1:=Ka a hb;have h2:=Kl a hb;omega
theorem uw (a:Int):((Int.gcd a 0:Nat):Int)=if a < 0 then -a else a:=by
 rw [Int.gcd_zero_right]
 split <;> omega
def yf (t b:Int):Int:=if b < 0 then -((Int.gcd t b:Nat):Int) else((Int.gcd t b:Nat):Int)
theorem zO {t b:Int} (h:b≠0):yf t b≠0:=by
 have h1:Int.gcd t b≠0:=λe=>h (Int.gcd_eq_zero_iff.mp e).2
 unfold yf
 split <;> omega
theorem sI {t b:Int} (h:b≠0):t.fdiv (yf t b)=(Rat.divInt t b).num:=by
 have hg:((Int.gcd t b:Nat):Int) ∣ t:=Int.gcd_dvd_left t b;rw [Rat.num_divInt,Int.gcd_comm b t];unfold yf;rcases Int.lt_or_gt_of_ne h with hb | hb
 ·rw [if_pos hb,Int.sign_eq_neg_one_of_neg hb,Int.fdiv_eq_ediv_of_dvd (Int.neg_dvd.mpr hg),Int.ediv_neg,Int.neg_mul,Int.one_mul,Int.neg_ediv_of_dvd hg]
 ·rw [if_neg (by omega),Int.sign_eq_one_of_pos hb,Int.fdiv_eq_ediv_of_dvd hg,Int.one_mul]
theorem rX {t b:Int} (h:b≠0):b.fdiv (yf t b)=((Rat.divInt t b).den:Int):=by
 have hg:((Int.gcd t b:Nat):Int) ∣ b:=Int.gcd_dvd_right t b;rw [Rat.den_divInt,Int.gcd_comm b t,if_neg h];unfold yf;rcases Int.lt_or_gt_of_ne h with hb | hb
 ·rw [if_pos hb,Int.fdiv_eq_ediv_of_dvd (Int.neg_dvd.mpr hg),Int.ediv_neg,Int.natCast_ediv];rw [show ((b.natAbs:Nat):Int)=-b by omega,Int.neg_ediv_of_dvd hg]
 ·rw [if_neg (by omega),Int.fdiv_eq_ediv_of_dvd hg,Int.natCast_ediv]
  rw [show ((b.natAbs:Nat):Int)=b by omega]
theorem ET (a b:Rat):Rat.divInt (a.num*b.den+b.num*a.den) (a.den*b.den)=a+b:=by
 rw [Rat.add_def',Rat.mkRat_eq_div,Rat.divInt_eq_div]; simp [Rat.intCast_natCast]
theorem vO (a b:Rat):Rat.divInt (a.num*b.num) (a.den*b.den)=a*b:=by
 rw [Rat.mul_def',Rat.mkRat_eq_div,Rat.divInt_eq_div]; simp [Rat.intCast_natCast]
theorem AK (a b:Rat):Rat.divInt (a.num*b.den) (a.den*b.num)=a / b:=by
 rw [Rat.div_def,<- Rat.num_divInt_den b,Rat.inv_divInt]
 conv=>rhs; rw [<- Rat.num_divInt_den a]
 rw [Rat.divInt_mul_divInt,Rat.num_divInt_den]
def iI:Nat->Nat
 | 0=>0
 | n+1=>if (iI n+1)*(iI n+1)<=n+1 then iI n+1 else iI n
theorem qJ:∀ n,iI n*iI n<=n/\n < (iI n+1)*(iI n+1)
 | 0=>by decide
 | n+1=>by
  obtain⟨h1,h2⟩:=qJ n;unfold iI
  split
  ·rename_i h
   refine⟨h,?_⟩;have:(iI n+1+1)*(iI n+1+1)=(iI n+1)*(iI n+1)+2*(iI n+1)+1:=by grind
   omega
  ·rename_i h
   exact⟨Nat.le_succ_of_le h1,Nat.lt_of_not_le h⟩
def jo (n:Int):Int:=(iI n.toNat:Nat)
structure Rt (n r:Int):Prop where
 nn:0<=r
 le:r*r<=n
 lt:n < (r+1)*(r+1)
theorem j7 {n:Int} (h:0<=n):Rt n (jo n):=by
 obtain⟨h1,h2⟩:=qJ n.toNat;refine⟨by unfold jo; omega,?_,?_⟩
 ·unfold jo;have:((iI n.toNat*iI n.toNat:Nat):Int)<=(n.toNat:Int):=Int.ofNat_le.mpr h1;rw [Int.natCast_mul] at this;omega
 ·unfold jo;have:((n.toNat:Nat):Int) < (((iI n.toNat+1)*(iI n.toNat+1):Nat):Int):=Int.ofNat_lt.mpr h2;rw [Int.natCast_mul,Int.natCast_add] at this;rw [show ((n.toNat:Nat):Int)=n by omega] at this
  exact this
theorem lA {a b:Int} (ha:0<=a) (h:a<=b):a*a<=b*b:=Int.mul_le_mul h h ha (by omega)
theorem Rt.le_of {n r x:Int} (h:Rt n r) (hx:x*x<=n):x<=r:=by
 apply Int.not_lt.mp;intro hl;have:=lA (a:=r+1) (b:=x) (by have:=h.nn; omega) (by omega)
 have:=h.lt;omega
theorem Rt.uniq {n r q:Int} (h:Rt n r) (h':Rt n q):r=q:=Int.le_antisymm (h'.le_of h.le) (h.le_of h'.le)
theorem yu {n r:Int} (h:Rt n r):jo n=r:=(j7 (Int.le_trans (by have:=lA (Int.le_refl 0) h.nn; omega) h.le)).uniq h
theorem Ad {n x:Int} (e:x*x=n):jo n*jo n=n:=by
 have h:Rt n x.natAbs:=by
  refine⟨by omega,?_,?_⟩
  ·rw [Int.natAbs_mul_self' x]; omega
  ·have:((x.natAbs:Int)+1)*((x.natAbs:Int)+1)=(x.natAbs:Int)*(x.natAbs:Int)+2*x.natAbs+1:=by grind
   rw [Int.natAbs_mul_self' x] at this;omega
 rw [yu h,Int.natAbs_mul_self' x];exact e
theorem xV {n g r:Int} (hg:0 < g) (hr:0<=r) (h:r*r<=n):r<=(g+n / g) / 2:=by
 apply Int.not_lt.mp;intro hl;have h1:g+n / g+1<=2*r:=by omega
 have hn:0<=n:=by have:=lA (Int.le_refl 0) hr; omega
 have hq:0<=n / g:=Int.ediv_nonneg hn (by omega)
 have h2:=lA (a:=g+n / g+1) (b:=2*r) (by omega) h1
 have h3:n < (n / g+1)*g:=by
  have:=Int.lt_ediv_add_one_mul_self n hg;exact this
 have h4:0<=(g - (n / g+1))*(g - (n / g+1)):=by
  rw [<- Int.natAbs_mul_self' (g - (n / g+1))]; exact Int.natCast_nonneg _
 generalize n / g=q at*
 grind
theorem yb {n g r:Int} (hn:0<=n) (h:Rt n r) (hg:r < g):(g+n / g) / 2 < g:=by
 have h0:=h.nn;have h1:n / g < r+1:=by
  apply Int.ediv_lt_of_lt_mul (by omega)
  have:=h.lt;have h2:(r+1)*(r+1)<=(r+1)*g:=Int.mul_le_mul_of_nonneg_left (by omega) (by omega)
  omega
 omega
def Bt (n:Nat) (x:Int):Prop:=x.natAbs < 2 ^ n
theorem pB {m n:Nat} (h:m<=n):2 ^ m<=2 ^ n:=Nat.pow_le_pow_right (by decide) h
theorem Bt.mono {m n:Nat} {x:Int} (h:Bt m x) (hm:m<=n):Bt n x:=JN h (pB hm)
theorem Bt.mul {m n:Nat} {x y:Int} (hx:Bt m x) (hy:Bt n y):Bt (m+n) (x*y):=by
 unfold Bt at*
 rw [Int.natAbs_mul,Nat.pow_add];exact Nat.mul_lt_mul'' hx hy
theorem Bt.neg {m:Nat} {x:Int} (hx:Bt m x):Bt m (-x):=by unfold Bt at *; omega
theorem Bt.le {m:Nat} {x y:Int} (hx:Bt m x) (h:y.natAbs<=x.natAbs):Bt m y:=Nat.lt_of_le_of_lt h hx
structure Sz (n:Nat) (q:Rat):Prop where
 num:Bt n q.num
 den:Bt n q.den
theorem Sz.mono {m n:Nat} {q:Rat} (h:Sz m q) (hm:m<=n):Sz n q:=⟨h.num.mono hm,h.den.mono hm⟩
theorem jF:∀ a b:Int,(a.fdiv b).natAbs<=a.natAbs
 | .ofNat 0,b=>by
  have e:Int.fdiv (.ofNat 0) b=0:=Int.zero_fdiv b;rw [e]; exact Kd _
 | .ofNat (k+1),.ofNat j=>Nat.div_le_self (k+1) j
 | .ofNat (k+1),.negSucc j=>Nat.succ_le_succ (Nat.div_le_self k (j+1))
 | .negSucc _,.ofNat 0=>Kd _
 | .negSucc k,.ofNat (j+1)=>Nat.succ_le_succ (Nat.div_le_self k (j+1))
 | .negSucc k,.negSucc j=>Nat.div_le_self (k+1) (j+1)
theorem Sz.divInt {n:Nat} {t b:Int} (ht:Bt n t) (hb:Bt n b) (h:b≠0):Sz n (Rat.divInt t b):=
 ⟨by rw [<- sI h]; exact ht.le (jF _ _),by rw [<- rX h]; exact hb.le (jF _ _)⟩
theorem sK (q:Rat):(q.den:Int)≠0:=by have:=q.den_nz; omega
theorem fX (p q:Rat):(p.den:Int)*q.den≠0:=Int.mul_ne_zero (sK p) (sK q)
theorem Sz.mul {m n:Nat} {a b:Rat} (ha:Sz m a) (hb:Sz n b):Sz (m+n) (a*b):=by
 rw [<- vO];exact .divInt (ha.num.mul hb.num) (ha.den.mul hb.den) (fX a b)
theorem ir {q:Rat} (h:q≠0):q.num≠0:=λe=>h (Rat.num_eq_zero.mp e)
theorem Sz.div {m n:Nat} {a b:Rat} (ha:Sz m a) (hb:Sz n b) (h:b≠0):Sz (m+n) (a / b):=by
 rw [<- AK];exact .divInt (ha.num.mul hb.den) (ha.den.mul hb.num) (Int.mul_ne_zero (sK a) (ir h))
theorem Sz.neg {m:Nat} {a:Rat} (ha:Sz m a):Sz m (-a):=⟨by rw [Rat.neg_num]; exact ha.num.neg,by rw [Rat.neg_den]; exact ha.den⟩
theorem vA (r:Rat):(r*r).num=r.num*r.num:=by
 have h:=Rat.num_pow r 2;rw [show r ^ 2=r*r by grind,show r.num ^ 2=r.num*r.num by grind] at h
 exact h
theorem vC (r:Rat):(r*r).den=r.den*r.den:=by
 have h:=Rat.den_pow r 2;rw [show r ^ 2=r*r by grind,show r.den ^ 2=r.den*r.den by grind] at h
 exact h
def AA (u:Rat):Prop:=∀ r:Rat,r*r≠u
theorem Eh {n:Int} (h:0<=n):jo n<=n:=by
 have rt:=j7 h;have h0:=rt.nn;have h1:=rt.le;rcases Int.lt_or_le (jo n) 1 with h2 | h2
 ·omega
 ·have:jo n*1<=jo n*jo n:=Int.mul_le_mul_of_nonneg_left h2 h0;omega
theorem EZ {n:Int} {m:Nat} (h:0<=n) (hb:Bt m n):Bt m (jo n):=hb.le (by have:=Eh h; have:=(j7 h).nn; omega)
theorem Au:jo 0=0:=by decide
structure Gd (n g:Int):Prop where
 pos:0 < g
 ge:jo n<=g
 bt:Bt 2002 g
theorem qO (a:Int) {b:Int} (h:0 < b):a.fdiv b=a / b:=Int.fdiv_eq_ediv_of_nonneg a (by omega)
theorem Gd.next {n g:Int} (h0:1<=n) (h:Gd n g) (hl:(g+n.fdiv g).fdiv 2 < g):Gd n ((g+n.fdiv g).fdiv 2):=by
 have rt:=j7 (n:=n) (by omega)
 have r1:1<=jo n:=rt.le_of (by omega)
 rw [qO _ (by decide),qO _ h.pos] at hl ⊢
 have h1:=xV h.pos rt.nn rt.le;exact⟨by omega,h1,h.bt.le (by have:=h.pos; omega)⟩
theorem Gd.last {n g:Int} (h0:1<=n) (h:Gd n g) (hl:¬ (g+n.fdiv g).fdiv 2 < g):g=jo n:=by
 have rt:=j7 (n:=n) (by omega)
 rw [qO _ (by decide),qO _ h.pos] at hl
 have h1:=h.ge;rcases Int.lt_or_le (jo n) g with h2 | h2
 ·exact absurd (yb (by omega) rt h2) hl
 ·omega
theorem Gd.first {n:Int} {b:Nat} (h0:1<=n) (hn:n.natAbs < 2 ^ b) (hb:b<=4000):Gd n ((1:Int)*2 ^ ((((b:Nat):Int)+1).fdiv 2).toNat):=by
 have e:((((b:Nat):Int)+1).fdiv 2).toNat=(b+1) / 2:=by rw [qO _ (by decide)]; omega
 rw [e,Int.one_mul];have hp:(0:Int) < 2 ^ ((b+1) / 2):=Int.pow_pos (by decide)
 have rt:=j7 (n:=n) (by omega)
 refine⟨hp,?_,?_⟩
 ·apply Int.not_lt.mp;intro hl;have h1:=lA (Int.le_of_lt hp) (Int.le_of_lt hl);have h2:=rt.le;have h3:(2:Int) ^ ((b+1) / 2)*2 ^ ((b+1) / 2)=2 ^ ((b+1) / 2+(b+1) / 2):=(Int.pow_add _ _ _).symm;have h4:2 ^ b<=2 ^ ((b+1) / 2+(b+1) / 2):=pB (by omega)
  have h5:((2 ^ ((b+1) / 2+(b+1) / 2):Nat):Int)=(2:Int) ^ ((b+1) / 2+(b+1) / 2):=by rw [Int.natCast_pow]; rfl
  have h6:((2 ^ b:Nat):Int)<=((2 ^ ((b+1) / 2+(b+1) / 2):Nat):Int):=Int.ofNat_le.mpr h4;have h7:(n.natAbs:Int) < ((2 ^ b:Nat):Int):=Int.ofNat_lt.mpr hn;rw [h3] at h1;rw [h5] at h6;omega
 ·unfold Bt;rw [Int.natAbs_pow];exact Nat.pow_lt_pow_right (by decide) (by omega)
abbrev kN (a:Int):Int:=if a < 0 then -a else a
theorem wD (a:Int):0<=kN a:=by unfold kN; split <;> omega
theorem BG {n:Nat} {a:Int} (h:Bt n a):Bt n (kN a):=h.le (by unfold kN; split <;> omega)
theorem qk (r:Rat):0<=r*r:=by
 rcases Rat.le_total (a:=0) (b:=r) with h | h
 ·exact Rat.mul_nonneg h h
 ·have:0<=-r:=by grind
  have:=Rat.mul_nonneg this this;grind
theorem nP (w:Rat):(w.num:Rat)=w*(w.den:Rat):=by
 have h:=Rat.num_divInt_den w;rw [Rat.divInt_eq_div,Rat.intCast_natCast] at h;have hd:(w.den:Rat)≠0:=by
  have:=w.den_nz;exact λe=>this (by exact_mod_cast e)
 grind
theorem pJ (w:Rat):(w.den:Rat)≠0:=by
 have:=w.den_nz;exact λe=>this (by exact_mod_cast e)
theorem B4 (q:Rat):Int.gcd q.num (q.den:Int)=1:=by
 have:=q.reduced;unfold Nat.Coprime at this
 simpa [Int.gcd] using this
def ab (b:Rat):Rat:=if b < 0 then -b else b
theorem yM (b:Rat):0<=ab b:=by unfold ab; split <;> grind
theorem CM (b:Rat):ab b*ab b=b*b:=by unfold ab; split <;> grind
def ss (b:Rat):Rat:=b*ab b
theorem gp (q:Rat):q.num < 0↔q < 0:=by
 have:=Rat.num_nonneg (q:=q)
 constructor
 ·intro h;apply Rat.not_le.mp;intro h2;have:=this.mpr h2;omega
 ·intro h;apply Int.not_le.mp;intro h2;exact absurd (this.mp h2) (Rat.not_le.mpr h)
theorem Fq (q:Rat):(ab q).num=kN q.num:=by
 unfold ab kN
 by_cases h:q < 0
 ·rw [if_pos h,if_pos ((gp q).mpr h),Rat.neg_num]
 ·rw [if_neg h,if_neg (λe=>h ((gp q).mp e))]
theorem EB (q:Rat):(ab q).den=q.den:=by
 unfold ab
 split
 ·exact Rat.neg_den _
 ·rfl
theorem tY {x:Int} (h:0<=x):jo (x*x)=x:=yu ⟨h,Int.le_refl _,by grind⟩
theorem wc {b u:Rat} (hu:0 < u):ss b*u=0↔b=0:=by
 unfold ss ab
 constructor
 ·intro h;have hu':u≠0:=by grind
  split at h <;> grind
 ·intro h;subst h;grind
theorem FG {b u:Rat} (hu:0 < u):ab (ss b*u)=b*b*u:=by
 have h2:=qk b;have h3:=Rat.mul_nonneg h2 (Rat.le_of_lt hu);unfold ss
 by_cases h:b < 0
 ·have e:b*ab b*u=-(b*b*u):=by unfold ab; rw [if_pos h]; grind
  rw [e];have hp:0 < b*b*u:=by
   have h4:0 < -b:=by grind
   have h5:=Rat.mul_pos h4 h4;have h6:=Rat.mul_pos h5 hu;grind
  unfold ab;rw [if_pos (by grind)]
  grind
 ·have e:b*ab b*u=b*b*u:=by unfold ab; rw [if_neg h]
  rw [e];unfold ab;rw [if_neg (by grind)]
def IN (q:Rat):Int:=if 0 < q then 1 else if q < 0 then -1 else 0
def Jn (a b u:Rat):Int:=if 0 < a*a - b*b*u then IN a else IN b
theorem AL {x y:Rat} (hx:0<=x) (hy:0<=y):0<=x / y:=by
 by_cases h:y=0
 ·subst h;rw [show x / 0=0 by grind]
  exact Rat.le_refl
 ·apply Rat.not_lt.mp;intro hl;have h1:=Rat.mul_pos (show 0 < -(x / y) by grind) (show 0 < y by grind)
  have h2:x / y*y=x:=by grind
  grind
theorem vc {q:Rat} (h:0<=q):0<=q.num:=Rat.num_nonneg.mpr h
theorem uK {q r:Rat} (h0:0<=r) (e:r*r=q):jo q.num=r.num/\jo (q.den:Int)=(r.den:Int):=by
 subst e;rw [vA,vC];refine⟨tY (vc h0),?_⟩;rw [Int.natCast_mul];exact tY (by omega)
theorem v9 {q:Rat} (h0:0<=q) (s1:jo q.num*jo q.num=q.num) (s2:jo (q.den:Int)*jo (q.den:Int)=(q.den:Int)):∃ r:Rat,0<=r/\r*r=q:=by
 have n1:=(j7 (vc h0)).nn;have n2:=(j7 (n:=(q.den:Int)) (by omega)).nn
 generalize jo q.num=x at s1 n1
 generalize jo (q.den:Int)=y at s2 n2
 have t1:(x:Rat)*x=(q.num:Rat):=by
  have:=congrArg (λz:Int=>(z:Rat)) s1
  simpa [Rat.intCast_mul] using this
 have t2:(y:Rat)*y=(q.den:Rat):=by
  have:=congrArg (λz:Int=>(z:Rat)) s2
  simpa [Rat.intCast_mul,Rat.intCast_natCast] using this
 have hd:=pJ q;have hy0:(y:Rat)≠0:=by intro e; rw [e] at t2; exact hd (by grind)
 have hwn:=nP q;have x0:(0:Rat)<=x:=by exact_mod_cast n1
 have y0:(0:Rat)<=y:=by exact_mod_cast n2
 refine⟨(x:Rat) / y,?_,by grind⟩
 exact AL x0 y0
theorem GI {e:Rat} (h:e≠0):ab e≠0:=by unfold ab; split <;> grind
theorem zK {b e u:Rat} (u0:0 < u) (he:e≠0):(ab b / ab e)*(ab b / ab e)=(b*b*u) / (e*e*u):=by
 have u1:u≠0:=by grind
 have e1:=CM e;have b1:=CM b;have e2:=GI he;have:ab b / ab e*(ab b / ab e)=(ab b*ab b) / (ab e*ab e):=by grind
 rw [this,e1,b1];grind
def pick (b d:Rat):Rat:=if b=0 then d else b
theorem yY {b u:Rat} (u0:0 < u):ab (ss b*u)=b*b*u:=FG u0
theorem Sz.ab {n:Nat} {q:Rat} (h:Sz n q):Sz n (HM.ab q):=by
 unfold HM.ab
 split
 ·exact h.neg
 ·exact h
theorem Sz.ss {n:Nat} {q:Rat} (h:Sz n q):Sz (n+n) (HM.ss q):=h.mul h.ab
theorem Sz.zero:Sz 1 0:=⟨by show(0:Int).natAbs < 2 ^ 1; decide,by show((1:Nat):Int).natAbs < 2 ^ 1; decide⟩
end HM
namespace L2
open PySem PySem.Spec PyProof.Rows
theorem sC (elt target iter:Kt) (scope:Scope) (pos:Pos) (it acc:Kq) (env:Env):
  compTurn (.ListComp elt [⟨target,iter,[],0⟩] scope pos) 0 it acc env=(standAt iter.pos >>= λ_=>pyNext it >>= λr=>match r with
   | none=>pure (.done .next)
   | some v=>letOwnedTupleGo target it v >>= λ_=>assign target env v >>= λ_=>
    (eval elt env >>= λx=>call (.builtin "list.append") [acc,x] >>= λ_=>pure ()) >>= λ_=>
     again (.compLoop (.ListComp elt [⟨target,iter,[],0⟩] scope pos) 0 it acc env)):=by rfl
section
variable {prog:Ku} {w:Kw} {A:Kv} {R:Result->Ko->Prop} {s:Ko}
abbrev qt:Kq->Ko->Prop:=λ_ _=>False
theorem Ap {α:Type} {M:Model} {A:Kv} {t:Sem α} {Q:α->Ko->Prop} {E:Kq->Ko->Prop} {s:Ko} (h:wpAny M A t Q qt s):wpAny M A t Q E s:=J4 h (λ_ _ q=>q) λ_ _ z=>z.elim
theorem lJ {elt target iter:Kt} {scope:Scope} {pos:Pos} {it acc:Kq} {env:Env} (I:Nat->Ko->Prop)
  (turn:∀ n s,I n s->wpAny (model prog w) A (pyNext it) (λr s1=>match r with
   | none=>R (.ok .next) s1
   | some v=>wpAny (model prog w) A (letOwnedTupleGo target it v) (λ_ s2=>wpAny (model prog w) A (assign target env v) (λ_ s3=>wpAny (model prog w) A (eval elt env) (λx s4=>
     wpAny (model prog w) A (call (.builtin "list.append") [acc,x]) (λ_ s5=>∃ m,m < n/\I m s5) qt s4) qt s3) qt s2) qt s1) qt s)
  (n:Nat) (h:I n s):codeAny (model prog w) A (.compLoop (.ListComp elt [⟨target,iter,[],0⟩] scope pos) 0 it acc env) R s:=by
 refine codeAny_loop rfl I (λn s hI=>?_) n h
 show wpAny _ _ ((compTurn (.ListComp elt [⟨target,iter,[],0⟩] scope pos) 0 it acc env).onRaise (λx=>do noteFrame x env; theTreesLotGoes x)) _ _ s
 refine wpAny_noted ?_;rw [sC];refine gt (wpAny_standAt (gt (Ap (J4 (turn n s hI) (λr s1 h1=>?_) λ_ _ z=>z))))
 cases r with
 | none=>exact JB h1
 | some v=>
  exact gt (Ap (be h1 λ_ s2 h2=>gt (Ap (be h2 λ_ s3 h3=>gt (gt (Ap (be h3 λx s4 h4=>gt (Ap (be h4 λ_ s5 h5=>JB (JB ⟨rfl,h5⟩))))))))))
theorem nU {M:Model} {A:Kv} {E:Kq->Ko->Prop} {c:Kt} {env:Env} {Q:KA->Ko->Prop} {s:Ko} (h:wpAny M A (PySem.isTrue c env (eval c env)) Q E s):
  wpAny M A (forIn [c] true λc r=>if r=true then do let ok <- PySem.isTrue c env (eval c env); pure (ForInStep.yield ok) else pure (ForInStep.yield r)) Q E s:=by
 rw [List.forIn_cons];refine gt ?_;rw [if_pos rfl];refine gt (be h λok s1 q=>JB ?_)
 show wpAny M A (forIn [] ok _) Q E s1
 rw [List.forIn_nil];exact JB q
theorem ln {elt target iter c:Kt} {scope:Scope} {pos:Pos} {it acc:Kq} {env:Env} (I:Nat->Ko->Prop)
  (turn:∀ n s,I n s->wpAny (model prog w) A (pyNext it) (λr s1=>match r with
   | none=>R (.ok .next) s1
   | some v=>wpAny (model prog w) A (letOwnedTupleGo target it v) (λ_ s2=>wpAny (model prog w) A (assign target env v) (λ_ s3=>wpAny (model prog w) A (isTrue c env (eval c env)) (λb s3'=>
     if b=true then wpAny (model prog w) A (eval elt env) (λx s4=>wpAny (model prog w) A (call (.builtin "list.append") [acc,x]) (λ_ s5=>∃ m,m < n/\I m s5) qt s4) qt s3'
     else ∃ m,m < n/\I m s3') qt s3) qt s2) qt s1) qt s)
  (n:Nat) (h:I n s):codeAny (model prog w) A (.compLoop (.ListComp elt [⟨target,iter,[c],0⟩] scope pos) 0 it acc env) R s:=by
 refine codeAny_loop rfl I (λn s hI=>?_) n h
 show wpAny _ _ ((compTurn (.ListComp elt [⟨target,iter,[c],0⟩] scope pos) 0 it acc env).onRaise (λx=>do noteFrame x env; theTreesLotGoes x)) _ _ s
 refine wpAny_noted ?_;rw [compTurn_list];refine gt (wpAny_standAt (gt (Ap (J4 (turn n s hI) (λr s1 h1=>?_) λ_ _ z=>z))))
 cases r with
 | none=>exact JB h1
 | some v=>
  refine gt (Ap (be h1 λ_ s2 h2=>gt (Ap (be h2 λ_ s3 h3=>gt (nU (Ap (be h3 λb s3' h3'=>?_)))))))
  cases b with
  | true=>
   rw [if_pos rfl] at h3' ⊢;exact gt (gt (Ap (be h3' λx s4 h4=>gt (Ap (be h4 λ_ s5 h5=>JB (JB ⟨rfl,h5⟩))))))
  | false=>
   rw [if_neg JH] at h3' ⊢;exact JB ⟨rfl,h3'⟩
end
def dZ (X:Cx) (scope:Scope) (cl:List (Str×Kr)) (N:List Str) (s0:Ko) (H0:Hp) (ex:List Kr) (C:Kr):Cx where
 prog:=X.prog
 w:=X.w
 K:=X.K
 mg:=X.mg
 base:=X.base
 A:=X.A
 N:=N
 s₀:=s0
 H₀:=H0
 env:=compEnvC scope cl C X.env
 outer:=X.stack
 stack:=X.stack
 ex:=ex
 fn:=λ_=>false
 calm:=X.calm
 pn:=[]
 xe:=qt
structure db (X:Cx) (scope:Scope) (cl:List (Str×Kr)) (N:List Str) (cap:List (Ks Nat)):Prop where
 kind:scope.kind=.function
 clos:closureFor scope X.env=pure cl
 nocell:(scope.names.all λy=>y.2 != NameKind.cell)=true
 names:(scope.names.all λy=>y.2 != NameKind.local || scope.names.lookup y.1 == some NameKind.local)=true
 sub:∀ p∈cl,X.env.cells.lookup p.1=some p.2
 has:((relabel scope X.env).names.all λy=>(y.2 != NameKind.cell && y.2 != NameKind.free) || (cl.lookup y.1).isSome)=true
 len:cap.length=N.length
 caps:∀ (i j:Nat) (x:Str),cap[i]?=some (some j)->N[i]?=some x->X.N[j]?=some x/\(X.env.scope.names.lookup x=some .cell\/X.env.scope.names.lookup x=some .free)/\((relabel scope X.env).names.lookup x=some .cell\/(relabel scope X.env).names.lookup x=some .free)
def lg (cap:List (Ks Nat)) (σ:St):St:=cap.map λo=>match o with
 | some j=>(σ[j]?).join
 | none=>none
theorem xx {cap:List (Ks Nat)} {σ:St} {i:Nat} {v:V} (h:(lg cap σ)[i]?=some (some v)):∃ j,cap[i]?=some (some j)/\σ[j]?=some (some v):=by
 unfold lg at h;rw [J0] at h;cases e:cap[i]? with
 | none=>rw [e] at h; cases h
 | some o=>
  rw [e] at h;cases o with
  | none=>cases h
  | some j=>
   refine⟨j,rfl,?_⟩;have h:(σ[j]?).join=some v:=J1 h;cases e2:σ[j]? with
   | none=>rw [e2] at h; cases h
   | some q=>rw [e2] at h; exact congrArg some h
theorem eB {X:Cx} {cl:List (Str×Kr)} (h:∀ p∈cl,X.env.cells.lookup p.1=some p.2) {x:Str} {c:Kr} (e:cl.lookup x=some c):X.env.cells.lookup x=some c:=h (x,c) (J8 e)
theorem lD {X:Cx} {scope:Scope} {cl:List (Str×Kr)} {N:List Str} {cap:List (Ks Nat)} (Sc:db X scope cl N cap) {KE:List (Kr×KD)} {σ:St} {H:Hp} {s:Ko} {fp:List Kr} (I:aE X KE σ H s)
  (hf:∀ b∈fp,ni X KE H b) (ho:∀ b∈fp,∃ o,s.heap.get? b=some o) {h1 h1':Kx} {m:Str->Ks Kq} {tk:Nat} {ob:KD}
  (hD:s.heap.push {cls:=.type "list",data:=.seq ([]:List Kq).toArray}=h1') (hns:h1.Ns h1'.objs.size m) (hsb:Heap.SameBut h1'.objs.size (h1'.push ob) h1):
  aE (dZ X scope cl N {s with heap:=h1'} (br H s.heap.objs.size (.lst [])) fp h1'.objs.size) [] (lg cap σ) (br H s.heap.objs.size (.lst [])) {s with heap:=h1,toks:=tk}/\
   Un (sU X.stack) fp H (br H s.heap.objs.size (.lst [])) s.heap h1':=by
 have hC:h1'.objs.size=s.heap.objs.size+1:=by rw [<- hD,Kf]
 have k1:∀ b o,s.heap.get? b=some o->h1'.get? b=some o:=λb o e=>by rw [<- hD]; exact pp _ e
 have k2:∀ b o,h1'.get? b=some o->h1.get? b=some o:=λb o e=>(hsb.2 b (JK (JD e))).trans (pp _ e)
 have hHn:H s.heap.objs.size=none:=I.hok.fresh (JE _);have neD:∀ b o,s.heap.get? b=some o->b≠s.heap.objs.size:=λb o e=>JK (JD e)
 have un1:Un (sU X.stack) fp H (br H s.heap.objs.size (.lst [])) s.heap h1':=Un.laid k1 (JE _) hHn;have new:dy X.prog X.w (br H s.heap.objs.size (.lst [])) h1' s.heap.objs.size (.lst []):=⟨Kd _,[],0,.nil,by rw [<- hD]; exact JC _ rfl⟩
 have hok1:n5 X.prog X.w (br H s.heap.objs.size (.lst [])) h1':=I.hok.laid k1 (JE _) new;have fsub:∀ b∈fp,b∉sU X.stack:=λb hb z=>by
  obtain⟨_,f1,f2,_⟩:=hf b hb;rcases JJ.mp (I.stkSub b z) with e | e
  ·exact f1 e
  ·exact f2 e
 have cellK:∀ x c,cl.lookup x=some c->∃ v,s.heap.IsCell c v:=λx c e=>I.cell x c (eB Sc.sub e)
 refine⟨⟨⟨I.ok.mod,?_,I.ok.glob,I.ok.blt,JE _,λx y c e1 e2=>I.ok.inj x y c (eB Sc.sub e1) (eB Sc.sub e2),λx hx=>?_,λx c z=>(by cases z),I.ok.hd,I.ok.frames,.inl rfl,λb hb=>⟨?_,λx c e=>?_⟩,λb o e=>⟨?_,?_⟩,?_,λb o e hb=>?_,fsub,?_,λb hb=>?_⟩,
  rfl,I.bare,Un.kept k2,⟨m,hns,λi x v e1 e2 e3=>?_⟩,λx c e=>?_,?_,λx c e=>?_,λp hp=>absurd hp (by simp [dZ]),hok1.kept k2,?_⟩,un1⟩
 ·exact Sc.kind
 ·have hx:(relabel scope X.env).names.lookup x=some .cell\/(relabel scope X.env).names.lookup x=some .free:=hx;have ha:=Kg.mp Sc.has
  show ∃ c,cl.lookup x=some c
  rcases hx with hx | hx
  ·have:=ha _ (J8 hx);exact Km.mp (by simpa using this)
  ·have:=ha _ (J8 hx);exact Km.mp (by simpa using this)
 ·obtain⟨o,e⟩:=ho b hb;have:=JD e
  show b≠h1'.objs.size
  rw [hC];exact JK (Nat.lt_succ_of_lt this)
 ·exact(hf b hb).2.2.2.2.1 x c (eB Sc.sub e)
 ·exact k1 b o (I.bk b o e)
 ·show br H s.heap.objs.size (.lst []) b=none
  rw [aO (neD b o (I.bk b o e))];exact(I.bs b o e).2
 ·show X.base.objs.size<=h1'.objs.size
  rw [hC];exact Nat.le_succ_of_le (J5 I.ok.bsz I.sz)
 ·obtain⟨_,_,_,f3,_⟩:=hf b hb;rcases f3 with f3 | f3
  ·exact I.ok.noex b o e f3
  ·have q1:=JD e;have q2:=I.ok.bsz;exact absurd (JN q1 (J5 q2 f3)) (Ke _)
 ·exact I.stack.of_keeps λb o e _=>⟨o,k1 b o e,rfl⟩
 ·show br H s.heap.objs.size (.lst []) b=none
  obtain⟨_,o,e,_⟩:=I.stack.mem hb;rw [aO (neD b o e)];exact I.stkFree b hb
 ·obtain⟨j,c1,c2⟩:=xx e2;obtain⟨d1,d2,d3⟩:=Sc.caps i j x c1 e1;obtain⟨m0,_,l0⟩:=I.loc;obtain⟨u,ru,lk⟩:=l0 j x v d1 c2 (d2.elim (λz=>.inr (.inl z)) λz=>.inr (.inr z))
  refine⟨u,ru,.inr ⟨d3,?_⟩⟩;rcases lk with ⟨z,_⟩ | ⟨_,c,z1,z2⟩
  ·have z:X.env.scope.names.lookup x=some .local:=z;rcases d2 with q | q <;> (rw [q] at z; cases z)
  ·have ha:=Kg.mp Sc.has;have hs:∃ c',cl.lookup x=some c':=by
    rcases d3 with q | q
    ·exact Km.mp (by simpa using ha _ (J8 q))
    ·exact Km.mp (by simpa using ha _ (J8 q))
   obtain⟨c',q⟩:=hs;have q2:=eB Sc.sub q;rw [z1] at q2;cases q2;obtain⟨o,e,d⟩:=z2;exact⟨c,q,o,k2 _ _ (k1 _ _ e),d⟩
 ·obtain⟨v,o,e1,d⟩:=cellK x c e;exact⟨v,o,k2 _ _ (k1 _ _ e1),d⟩
 ·show br H s.heap.objs.size (.lst []) h1'.objs.size=none
  rw [hC,aO (Nat.succ_ne_self _)];exact I.hok.fresh (Nat.le_succ _)
 ·obtain⟨v,o,e1,d⟩:=cellK x c e
  show br H s.heap.objs.size (.lst []) c=none
  rw [aO (neD c o e1)];exact I.freeC x c (eB Sc.sub e)
 ·show(lg cap σ).length=N.length
  unfold lg;rw [JG];exact Sc.len
def CD (cap:List (Ks Nat)) (wi:TI) (g:TG) (te:TE):TE:=fun σ H Q=>wi σ H λJ H1=>∀ D,H1 D=none->∃ W:Nat->Nat->St->Hp->Prop,(∃ m,W 0 m (lg cap σ) (br H1 D (.lst [])))/\∀ i m σ' H',W i m σ' H'->
 (J.stop i H'/\Q (.ref D) H')\/(J.go i H'/\∃ N:St->Hp->Prop,(∀ σ2 H2,N σ2 H2->∃ m',m' < m/\W (i+1) m' σ2 H2)/\∀ x H2,J.yld i H' x H2->g x σ' H2 fun σ3 H3=>te σ3 H3 λv H4=>∃ ys,H4 D=some (.lst ys)/\ys.length < sizeLine/\N σ3 (br H4 D (.lst (ys++[v]))))
def sJ (cap:List (Ks Nat)) (wi:TI) (g:TG) (tc:TT) (te:TE):TE:=fun σ H Q=>wi σ H λJ H1=>∀ D,H1 D=none->∃ W:Nat->Nat->St->Hp->Prop,(∃ m,W 0 m (lg cap σ) (br H1 D (.lst [])))/\∀ i m σ' H',W i m σ' H'->
 (J.stop i H'/\Q (.ref D) H')\/(J.go i H'/\∃ N:St->Hp->Prop,(∀ σ2 H2,N σ2 H2->∃ m',m' < m/\W (i+1) m' σ2 H2)/\∀ x H2,J.yld i H' x H2->g x σ' H2 fun σ3 H3=>tc σ3 H3 λb H3'=>if b=true then te σ3 H3' λv H4=>∃ ys,H4 D=some (.lst ys)/\ys.length < sizeLine/\N σ3 (br H4 D (.lst (ys++[v]))) else N σ3 H3')
section
variable {X:Cx} {elt tg iter c:Kt} {scope:Scope} {cl:List (Str×Kr)} {N:List Str} {cap:List (Ks Nat)} {pos:Pos} {wi:TI} {g:TG} {te:TE} {tc:TT}
theorem pH (Sc:db X scope cl N cap) {KE:List (Kr×KD)} {σ σ3:St} {H2 H3:Hp} {s2 s4:Ko} {fp:List Kr} {h1':Kx} {C:Kr} (I2:aE X KE σ H2 s2) (f2:∀ b∈fp,ni X KE H2 b) {H1:Hp}
  (un3:Un (sU X.stack) fp H2 H1 s2.heap h1') (I4:aE (dZ X scope cl N {s2 with heap:=h1'} H1 fp C) [] σ3 H3 s4) {h':Kx} (hC:s2.heap.objs.size<=C) (sb:Heap.SameBut C s4.heap h'):aE X KE σ H3 {s4 with heap:=h'}:=by
 have u:Un (sU X.stack) fp H2 H3 s2.heap s4.heap:=un3.trans I4.base;have ne:∀ b o,s2.heap.get? b=some o->b≠C:=λb o e=>JK (JN (JD e) hC)
 have u':Un (sU X.stack) fp H2 H3 s2.heap h':=⟨λb o e n hb hx=>(sb.2 b (ne b o e)).trans (u.keep b o e n hb hx),λb o e n hb hx=>by
   obtain⟨sl,q⟩:=u.slot b o e n hb hx;exact⟨sl,(sb.2 b (ne b o e)).trans q⟩,u.free,λb o e hx=>by
   obtain⟨o',q⟩:=u.there b o e hx;exact⟨o',(sb.2 b (ne b o e)).trans q⟩,u.tups,u.frzs,u.tbls⟩
 have hok:n5 X.prog X.w H3 h':=λb ob e=>by
  refine(I4.hok b ob e).stay (λc w' hc q=>(sb.2 c ?_).trans q) (λ_ q=>q) λ_ _ q=>q
  rintro rfl;have hfree:H3 c=none:=I4.free;rcases hc with rfl | hc
  ·rw [hfree] at e; cases e
  ·rw [hfree] at hc; cases hc
 refine I2.call' (s':={s4 with heap:=h'}) (ch:=fp) I4.os u' hok I4.bare λb hb=>?_
 obtain⟨_,f1,_,f3,f4,f5⟩:=f2 b hb;exact⟨f3,f1,f4,f5⟩
theorem da {s0:Ko} {H0:Hp} {C:Kr} {fp:List Kr} {σ:St} {H:Hp} {s:Ko} (I:aE (dZ X scope cl N s0 H0 fp C) [] σ H s) (hn:∀ b∈fp,H b=none):∀ b∈fp,ni (dZ X scope cl N s0 H0 fp C) [] H b:=λb hb=>
 ⟨hn b hb,(I.ok.exf b hb).1,I.ok.exfs b hb,.inl hb,(I.ok.exf b hb).2,λp hp=>absurd hp (by simp [dZ])⟩
theorem wz (hc:X.calm=true) (Sc:db X scope cl N cap) (hi:PI X tg iter wi) (hg:∀ s0 H0 ex C,PG (dZ X scope cl N s0 H0 ex C) tg g) (he:∀ s0 H0 ex C,PE (dZ X scope cl N s0 H0 ex C) elt te)
  (hs:∀ x,foldedSetIterable iter X.env x=pure x:=by intro _; rfl):PE X (.ListComp elt [⟨tg,iter,[],0⟩] scope pos) (CD cap wi g te):=by
 intro KE s σ H Q I h;rw [eval_ListComp];have hcell:∀ y∈scope.names,y.2≠.cell:=λy hy=>by simpa using Kg.mp Sc.nocell y hy
 have hnames:∀ y∈scope.names,y.2=.local->scope.names.lookup y.1=some .local:=λy hy e=>by
  have:=Kg.mp Sc.names y hy;rw [e] at this
  simpa using this
 refine wpAny_comprehension_free (use:=none) rfl hs Sc.clos Sc.kind hnames (be (hi KE s σ H _ I h) λv s1 h1=>be h1 λitv s2 h2=>?_)
 obtain⟨it,fp,tn,J,H2,e,I2,T,st2,f2,hW⟩:=h2;subst e;refine JZ (wpAny_newFunctionEnv hcell (by intro y hy; simp at hy) (λh1 hns hsb=>?_) Sc.kind)
 obtain⟨W,⟨m0,w0⟩,turn⟩:=hW s2.heap.objs.size I2.fresh;dsimp only at hns hsb ⊢
 generalize hD:s2.heap.push {cls:=.type "list",dict:=none,data:=.seq ([]:List Kq).toArray}=h1' at hns hsb ⊢
 obtain⟨I3,un3⟩:=lD (tk:=s2.toks+([]:List (Str×Kq)).length) Sc I2 f2 (λb hb=>let ⟨o,e,_⟩:=T.obj 0 _ st2 b hb; ⟨o,e⟩) hD hns hsb
 have hC:s2.heap.objs.size<=h1'.objs.size:=by rw [<- hD,Kf]; exact Nat.le_succ _
 have k1:∀ b o,s2.heap.get? b=some o->h1.get? b=some o:=λb o e=>by
  have e1:h1'.get? b=some o:=by rw [<- hD]; exact pp _ e
  exact(hsb.2 b (JK (JD e1))).trans (pp _ e1)
 have st3:tn 0 h1:=T.keep 0 _ _ st2 λb _ o e=>k1 b o e
 have fr3:∀ b∈fp,(br H2 s2.heap.objs.size (.lst [])) b=none:=λb hb=>by
  obtain⟨o,e,_⟩:=T.obj 0 _ st2 b hb;rw [aO (JK (JD e))];exact(f2 b hb).1
 have loop:∀ s3:Ko,s3={s2 with heap:=h1,toks:=s2.toks+([]:List (Str×Kq)).length}->
   codeAny (model X.prog X.w) X.A (.compLoop (.ListComp elt [⟨tg,iter,[],0⟩] scope pos) 0 (.ref it) (.ref s2.heap.objs.size) (compEnvC scope cl h1'.objs.size X.env))
    (compPost (model X.prog X.w) X.A X.xe none (EP X KE σ Q) (.ref s2.heap.objs.size) h1'.objs.size) s3:=by
  rintro s3 rfl;refine lJ (λn s'=>∃ i σ' H',aE (dZ X scope cl N {s2 with heap:=h1'} (br H2 s2.heap.objs.size (.lst [])) fp h1'.objs.size) [] σ' H' s'/\tn i s'.heap/\(∀ b∈fp,H' b=none)/\W i n σ' H') ?_ m0 ⟨0,_,_,I3,st3,fr3,w0⟩
  rintro n s3 ⟨i,σ3,H3,I3,st3,fr3,w3⟩;rcases turn i n σ3 H3 w3 with ⟨stop,qn⟩ | ⟨go,Nn,hN,step⟩
  ·refine be (T.done (dZ X scope cl N {s2 with heap:=h1'} (br H2 s2.heap.objs.size (.lst [])) fp h1'.objs.size) rfl rfl rfl hc i [] s3 σ3 H3 qt I3 (da I3 fr3) st3 stop) λr s4 z9=>?_
   obtain⟨hr,I4⟩:=z9;subst hr;obtain⟨m,hm,_⟩:=I4.loc;exact⟨m,hm,λh' sb=>⟨.ref _,H3,pH Sc I2 f2 un3 I4 hC sb,rfl,qn⟩⟩
  ·refine be (T.item (dZ X scope cl N {s2 with heap:=h1'} (br H2 s2.heap.objs.size (.lst [])) fp h1'.objs.size) rfl rfl rfl hc i [] s3 σ3 H3 qt I3 (da I3 fr3) st3 go) λr s4 z9=>?_
   obtain⟨u,hr,h4⟩:=z9;subst hr;refine be h4 λ_ s5 z9=>?_
   obtain⟨x,H5,I5,r5,y5,st5,fr5⟩:=z9;have I5':=I5.pinned (da I5 fr5) (T.obj _ _ st5);refine be (hg _ _ _ _ _ s5 σ3 H5 x u _ I5' r5 (step x H5 y5)) λ_ s6 z9=>?_
   obtain⟨σ6,H6,I6,q6⟩:=z9;refine be (he _ _ _ _ _ s6 σ6 H6 _ I6 q6) λuv s7 z9=>?_
   obtain⟨v,H7,I7,r7,ys,hy,hl,q7⟩:=z9;refine be (hX (X:=dZ X scope cl N {s2 with heap:=h1'} (br H2 s2.heap.objs.size (.lst [])) fp h1'.objs.size) _ s7 σ6 H7 (.ref s2.heap.objs.size) [v] (.ref s2.heap.objs.size) [uv] (λ_ H8=>Nn σ6 H8) I7 rfl (.cons r7 .nil) ⟨_,ys,v,rfl,rfl,hy,hl,q7⟩) λ_ s8 z9=>?_
   obtain⟨_,H8,I8,_,n8⟩:=z9;obtain⟨m',hm,w8⟩:=hN σ6 H8 n8;refine⟨m',hm,i+1,σ6,H8,I8.unpinned,T.keep _ _ _ st5 λb hb o e=>(I8.pin (b,o) (JO _ (JO _ (b5 hb e)))).1,λb hb=>?_,w8⟩
   obtain⟨o,e,d⟩:=T.obj _ _ st5 b hb;exact(I8.pin (b,o) (JO _ (JO _ (b5 hb e)))).2.1
 exact codeAny_compStart_list (loop _ rfl) (T.self _ 0 _ _ _ st3 (loop _ rfl))
theorem mE (hc:X.calm=true) (Sc:db X scope cl N cap) (hi:PI X tg iter wi) (hg:∀ s0 H0 ex C,PG (dZ X scope cl N s0 H0 ex C) tg g) (hcnd:∀ s0 H0 ex C,PT (dZ X scope cl N s0 H0 ex C) c tc) (he:∀ s0 H0 ex C,PE (dZ X scope cl N s0 H0 ex C) elt te)
  (hs:∀ x,foldedSetIterable iter X.env x=pure x:=by intro _; rfl):PE X (.ListComp elt [⟨tg,iter,[c],0⟩] scope pos) (sJ cap wi g tc te):=by
 intro KE s σ H Q I h;rw [eval_ListComp];have hcell:∀ y∈scope.names,y.2≠.cell:=λy hy=>by simpa using Kg.mp Sc.nocell y hy
 have hnames:∀ y∈scope.names,y.2=.local->scope.names.lookup y.1=some .local:=λy hy e=>by
  have:=Kg.mp Sc.names y hy;rw [e] at this
  simpa using this
 refine wpAny_comprehension_free (use:=none) rfl hs Sc.clos Sc.kind hnames (be (hi KE s σ H _ I h) λv s1 h1=>be h1 λitv s2 h2=>?_)
 obtain⟨it,fp,tn,J,H2,e,I2,T,st2,f2,hW⟩:=h2;subst e;refine JZ (wpAny_newFunctionEnv hcell (by intro y hy; simp at hy) (λh1 hns hsb=>?_) Sc.kind)
 obtain⟨W,⟨m0,w0⟩,turn⟩:=hW s2.heap.objs.size I2.fresh;dsimp only at hns hsb ⊢
 generalize hD:s2.heap.push {cls:=.type "list",dict:=none,data:=.seq ([]:List Kq).toArray}=h1' at hns hsb ⊢
 obtain⟨I3,un3⟩:=lD (tk:=s2.toks+([]:List (Str×Kq)).length) Sc I2 f2 (λb hb=>let ⟨o,e,_⟩:=T.obj 0 _ st2 b hb; ⟨o,e⟩) hD hns hsb
 have hC:s2.heap.objs.size<=h1'.objs.size:=by rw [<- hD,Kf]; exact Nat.le_succ _
 have k1:∀ b o,s2.heap.get? b=some o->h1.get? b=some o:=λb o e=>by
  have e1:h1'.get? b=some o:=by rw [<- hD]; exact pp _ e
  exact(hsb.2 b (JK (JD e1))).trans (pp _ e1)
 have st3:tn 0 h1:=T.keep 0 _ _ st2 λb _ o e=>k1 b o e
 have fr3:∀ b∈fp,(br H2 s2.heap.objs.size (.lst [])) b=none:=λb hb=>by
  obtain⟨o,e,_⟩:=T.obj 0 _ st2 b hb;rw [aO (JK (JD e))];exact(f2 b hb).1
 have loop:∀ s3:Ko,s3={s2 with heap:=h1,toks:=s2.toks+([]:List (Str×Kq)).length}->
   codeAny (model X.prog X.w) X.A (.compLoop (.ListComp elt [⟨tg,iter,[c],0⟩] scope pos) 0 (.ref it) (.ref s2.heap.objs.size) (compEnvC scope cl h1'.objs.size X.env))
    (compPost (model X.prog X.w) X.A X.xe none (EP X KE σ Q) (.ref s2.heap.objs.size) h1'.objs.size) s3:=by
  rintro s3 rfl;refine ln (λn s'=>∃ i σ' H',aE (dZ X scope cl N {s2 with heap:=h1'} (br H2 s2.heap.objs.size (.lst [])) fp h1'.objs.size) [] σ' H' s'/\tn i s'.heap/\(∀ b∈fp,H' b=none)/\W i n σ' H') ?_ m0 ⟨0,_,_,I3,st3,fr3,w0⟩
  rintro n s3 ⟨i,σ3,H3,I3,st3,fr3,w3⟩;rcases turn i n σ3 H3 w3 with ⟨stop,qn⟩ | ⟨go,Nn,hN,step⟩
  ·refine be (T.done (dZ X scope cl N {s2 with heap:=h1'} (br H2 s2.heap.objs.size (.lst [])) fp h1'.objs.size) rfl rfl rfl hc i [] s3 σ3 H3 qt I3 (da I3 fr3) st3 stop) λr s4 z9=>?_
   obtain⟨hr,I4⟩:=z9;subst hr;obtain⟨m,hm,_⟩:=I4.loc;exact⟨m,hm,λh' sb=>⟨.ref _,H3,pH Sc I2 f2 un3 I4 hC sb,rfl,qn⟩⟩
  ·refine be (T.item (dZ X scope cl N {s2 with heap:=h1'} (br H2 s2.heap.objs.size (.lst [])) fp h1'.objs.size) rfl rfl rfl hc i [] s3 σ3 H3 qt I3 (da I3 fr3) st3 go) λr s4 z9=>?_
   obtain⟨u,hr,h4⟩:=z9;subst hr;refine be h4 λ_ s5 z9=>?_
   obtain⟨x,H5,I5,r5,y5,st5,fr5⟩:=z9;have I5':=I5.pinned (da I5 fr5) (T.obj _ _ st5);refine be (hg _ _ _ _ _ s5 σ3 H5 x u _ I5' r5 (step x H5 y5)) λ_ s6 z9=>?_
   obtain⟨σ6,H6,I6,q6⟩:=z9;have again:∀ {s8:Ko} {H8:Hp},aE (dZ X scope cl N {s2 with heap:=h1'} (br H2 s2.heap.objs.size (.lst [])) fp h1'.objs.size) ([]++na fp s5.heap) σ6 H8 s8->Nn σ6 H8->
     ∃ m,m < n/\∃ i σ' H',aE (dZ X scope cl N {s2 with heap:=h1'} (br H2 s2.heap.objs.size (.lst [])) fp h1'.objs.size) [] σ' H' s8/\tn i s8.heap/\(∀ b∈fp,H' b=none)/\W i m σ' H':=λ{s8 H8} I8 n8=>by
    obtain⟨m',hm,w8⟩:=hN σ6 H8 n8;refine⟨m',hm,i+1,σ6,H8,I8.unpinned,T.keep _ _ _ st5 λb hb o e=>(I8.pin (b,o) (JO _ (JO _ (b5 hb e)))).1,λb hb=>?_,w8⟩
    obtain⟨o,e,d⟩:=T.obj _ _ st5 b hb;exact(I8.pin (b,o) (JO _ (JO _ (b5 hb e)))).2.1
   refine be (hcnd _ _ _ _ _ s6 σ6 H6 _ I6 q6) λb s6' z9=>?_
   obtain⟨H6',I6',q6'⟩:=z9;cases b with
   | true=>
    rw [if_pos rfl] at q6' ⊢;refine be (he _ _ _ _ _ s6' σ6 H6' _ I6' q6') λuv s7 z9=>?_
    obtain⟨v,H7,I7,r7,ys,hy,hl,q7⟩:=z9;refine be (hX (X:=dZ X scope cl N {s2 with heap:=h1'} (br H2 s2.heap.objs.size (.lst [])) fp h1'.objs.size) _ s7 σ6 H7 (.ref s2.heap.objs.size) [v] (.ref s2.heap.objs.size) [uv] (λ_ H8=>Nn σ6 H8) I7 rfl (.cons r7 .nil) ⟨_,ys,v,rfl,rfl,hy,hl,q7⟩) λ_ s8 z9=>?_
    obtain⟨_,H8,I8,_,n8⟩:=z9;exact again I8 n8
   | false=>
    rw [if_neg JH] at q6' ⊢;exact again I6' q6'
 exact codeAny_compStart_list (loop _ rfl) (T.self _ 0 _ _ _ st3 (loop _ rfl))
end
end L2
namespace DL
open PySem PySem.Spec PyProof.Rows L2
abbrev Fg:=PySem.W.Frag
inductive Ty where
 | non | bool | int | str | tup | lst | dic | verr
def Ty.name:Ty->KB
 | .non=>"NoneType" | .bool=>"bool" | .int=>"int" | .str=>"str" | .tup=>"tuple" | .lst=>"list" | .dic=>"dict" | .verr=>"ValueError"
inductive D where
 | non | bl (b:KA) | int (i:Int) | str (x:Str) | tup (ds:List D) | rl (ds:List D) | ref (a:Kr) | ty (n:Ty)
def Ft (K:Fg) (H:Hp) (a:Kr) (xs:List V):Prop:=
 (∃ o,H a=some (.frz o (.lst xs)))\/∃ (o:KD) (its:Kz Kq) (n:Nat),K.lookup a=some o/\o.cls=.type "list"/\o.dict=none/\o.data=.seq its n/\its.size<=sizeLine/\aW xs its.toList
theorem Ft.sq {K:Fg} {H:Hp} {a:Kr} {xs:List V} (h:Ft K H a xs):eQ K H a xs:=by
 rcases h with h | h
 ·exact .inl (.inr h)
 ·exact .inr h
mutual
def bB (K:Fg) (H:Hp):D->V->Prop
 | .non,v=>v=.non
 | .bl b,v=>v=.bl b
 | .int i,v=>v=.int i
 | .str x,v=>v=.str x
 | .tup ds,v=>∃ a xs,v=.ref a/\gZ K H a xs/\IsDs K H ds xs
 | .rl ds,v=>∃ a xs,v=.ref a/\Ft K H a xs/\IsDs K H ds xs
 | .ref a,v=>v=.ref a
 | .ty n,v=>v=.ty n.name
def IsDs (K:Fg) (H:Hp):List D->List V->Prop
 | [],vs=>vs=[]
 | d::ds,vs=>∃ v r,vs=v::r/\bB K H d v/\IsDs K H ds r
end
def Hr:HO->Prop
 | .tup _=>True
 | .frz _ _=>True
 | _=>False
def Kp (H H':Hp):Prop:=∀ a o,H a=some o->Hr o->H' a=some o
theorem Kp.refl (H:Hp):Kp H H:=λ_ _ h _=>h
theorem Kp.trans {H H1 H2:Hp} (a:Kp H H1) (b:Kp H1 H2):Kp H H2:=λc o h i=>b c o (a c o h i) i
theorem Kp.tup {K:Fg} {H H':Hp} {a:Kr} {xs:List V} (k:Kp H H') (h:gZ K H a xs):gZ K H' a xs:=by
 rcases h with (h | ⟨o,h⟩) | h
 ·exact .inl (.inl (k _ _ h trivial))
 ·exact .inl (.inr ⟨o,k _ _ h trivial⟩)
 ·exact .inr h
theorem Kp.fro {K:Fg} {H H':Hp} {a:Kr} {xs:List V} (k:Kp H H') (h:Ft K H a xs):Ft K H' a xs:=by
 rcases h with ⟨o,h⟩ | h
 ·exact .inl ⟨o,k _ _ h trivial⟩
 ·exact .inr h
theorem Kp.new {H:Hp} {p:Kr} {o:HO} (h:H p=none):Kp H (br H p o):=λb u e _=>by rw [aO (bN e h)]; exact e
theorem Kp.mut {H:Hp} {p:Kr} {o u:HO} (h:H p=some u) (n:¬ Hr u):Kp H (br H p o):=λb z e i=>by
 rw [aO (λq=>by subst q; rw [h] at e; cases e; exact n i)]; exact e
mutual
theorem bB.kp {K:Fg} {H H':Hp} (k:Kp H H'):∀ {d:D} {v:V},bB K H d v->bB K H' d v
 | .non,_,h=>by unfold bB at *; exact h
 | .bl _,_,h=>by unfold bB at *; exact h
 | .int _,_,h=>by unfold bB at *; exact h
 | .str _,_,h=>by unfold bB at *; exact h
 | .ref _,_,h=>by unfold bB at *; exact h
 | .ty _,_,h=>by unfold bB at *; exact h
 | .tup ds,_,h=>by
  unfold bB at*
  obtain⟨a,xs,e,t,r⟩:=h;exact⟨a,xs,e,k.tup t,IsDs.kp k r⟩
 | .rl ds,_,h=>by
  unfold bB at*
  obtain⟨a,xs,e,t,r⟩:=h;exact⟨a,xs,e,k.fro t,IsDs.kp k r⟩
theorem IsDs.kp {K:Fg} {H H':Hp} (k:Kp H H'):∀ {ds:List D} {vs:List V},IsDs K H ds vs->IsDs K H' ds vs
 | [],_,h=>by unfold IsDs at *; exact h
 | d::ds,_,h=>by
  unfold IsDs at*
  obtain⟨v,r,e,h1,h2⟩:=h;exact⟨v,r,e,bB.kp k h1,IsDs.kp k h2⟩
end
section
variable {K:Fg} {H:Hp}
theorem isInt {i:Int} {v:V}:bB K H (.int i) v↔v=.int i:=by unfold bB; exact Iff.rfl
theorem aT {b:KA} {v:V}:bB K H (.bl b) v↔v=.bl b:=by unfold bB; exact Iff.rfl
theorem aY {b:Str} {v:V}:bB K H (.str b) v↔v=.str b:=by unfold bB; exact Iff.rfl
theorem b7 {v:V}:bB K H .non v↔v=.non:=by unfold bB; exact Iff.rfl
theorem aU {a:Kr} {v:V}:bB K H (.ref a) v↔v=.ref a:=by unfold bB; exact Iff.rfl
theorem yW {a:Ty} {v:V}:bB K H (.ty a) v↔v=.ty a.name:=by unfold bB; exact Iff.rfl
theorem bw {ds:List D} {v:V}:bB K H (.tup ds) v↔∃ a xs,v=.ref a/\gZ K H a xs/\IsDs K H ds xs:=by unfold bB; exact Iff.rfl
theorem uc {ds:List D} {v:V}:bB K H (.rl ds) v↔∃ a xs,v=.ref a/\Ft K H a xs/\IsDs K H ds xs:=by unfold bB; exact Iff.rfl
theorem eJ {vs:List V}:IsDs K H [] vs↔vs=[]:=by unfold IsDs; exact Iff.rfl
theorem bC {d:D} {ds:List D} {vs:List V}:IsDs K H (d::ds) vs↔∃ v r,vs=v::r/\bB K H d v/\IsDs K H ds r:=by
 constructor
 ·intro h; unfold IsDs at h; exact h
 ·intro h; unfold IsDs; exact h
theorem IsDs.nil:IsDs K H [] []:=eJ.mpr rfl
theorem IsDs.cons {d:D} {ds:List D} {v:V} {vs:List V} (h1:bB K H d v) (h2:IsDs K H ds vs):IsDs K H (d::ds) (v::vs):=bC.mpr ⟨v,vs,rfl,h1,h2⟩
theorem IsDs.length:∀ {ds:List D} {vs:List V},IsDs K H ds vs->ds.length=vs.length
 | [],_,h=>by rw [eJ.mp h]; rfl
 | d::ds,_,h=>by
  obtain⟨v,r,rfl,_,h2⟩:=bC.mp h;rw [JQ,JQ,IsDs.length h2]
theorem IsDs.get:∀ {ds:List D} {vs:List V} {i:Nat} {d:D},IsDs K H ds vs->ds[i]?=some d->∃ v,vs[i]?=some v/\bB K H d v
 | [],_,_,_,_,e=>by simp at e
 | c::ds,_,0,d,h,e=>by
  obtain⟨v,r,rfl,h1,h2⟩:=bC.mp h;simp at e;subst e;exact⟨v,rfl,h1⟩
 | c::ds,_,i+1,d,h,e=>by
  obtain⟨v,r,rfl,h1,h2⟩:=bC.mp h;obtain⟨u,q1,q2⟩:=IsDs.get (i:=i) (d:=d) h2 (by simpa using e)
  exact⟨u,by simpa using q1,q2⟩
theorem IsDs.set:∀ {ds:List D} {vs:List V} {d:D} {v:V} (i:Nat),IsDs K H ds vs->bB K H d v->IsDs K H (ds.set i d) (vs.set i v)
 | [],_,_,_,_,h,_=>by rw [eJ.mp h]; exact IsDs.nil
 | c::ds,_,d,v,0,h,hd=>by
  obtain⟨u,r,rfl,h1,h2⟩:=bC.mp h;exact IsDs.cons hd h2
 | c::ds,_,d,v,i+1,h,hd=>by
  obtain⟨u,r,rfl,h1,h2⟩:=bC.mp h;exact IsDs.cons h1 (IsDs.set i h2 hd)
theorem IsDs.append:∀ {ds es:List D} {vs us:List V},IsDs K H ds vs->IsDs K H es us->IsDs K H (ds++es) (vs++us)
 | [],_,_,_,h,h'=>by rw [eJ.mp h]; exact h'
 | c::ds,_,_,_,h,h'=>by
  obtain⟨u,r,rfl,h1,h2⟩:=bC.mp h;exact IsDs.cons h1 (IsDs.append h2 h')
theorem IsDs.drop:∀ {ds:List D} {vs:List V} (n:Nat),IsDs K H ds vs->IsDs K H (ds.drop n) (vs.drop n)
 | _,_,0,h=>h
 | [],_,n+1,h=>by rw [eJ.mp h]; exact IsDs.nil
 | c::ds,_,n+1,h=>by
  obtain⟨u,r,rfl,h1,h2⟩:=bC.mp h;exact IsDs.drop n h2
theorem IsDs.take:∀ {ds:List D} {vs:List V} (n:Nat),IsDs K H ds vs->IsDs K H (ds.take n) (vs.take n)
 | _,_,0,h=>by simpa using IsDs.nil
 | [],_,n+1,h=>by rw [eJ.mp h]; exact IsDs.nil
 | c::ds,_,n+1,h=>by
  obtain⟨u,r,rfl,h1,h2⟩:=bC.mp h;exact IsDs.cons h1 (IsDs.take n h2)
end
def qC (ks:List Int):Int:=reduceHash (Builtin.Tuple.tupleHashOf (ks.map hashInt))
def eT (x:List Int×Kr×Kq):KC:=⟨qC x.1,.ref x.2.1,x.2.2⟩
def p5 (es:Kz KC) (ep:Nat):KD:={cls:=.type "dict",dict:=none,data:=.dict es ep,slots:=#[]}
def mZ (a:Kr) (xs:List (List Int×Kr×Kq)) (ep:Nat):Kx->Prop:=λh=>(a == sysModules)=false/\xs.length<=sizeLine/\(xs.map (·.1)).Nodup/\h.get? a=some (p5 (xs.map eT).toArray ep)
inductive FA where
 | dT (kvs:List (List Int×D)) (ep:Nat)
 | dK (kvs:List (so×D))
abbrev lM (K:Fg) (H:Hp):List (List Int×D)->List (List Int×Kr×Kq)->Prop:=Paired λp q=>p.1=q.1/\gZ K H q.2.1 (p.1.map V.int)/\∃ v,aV v q.2.2/\bB K H p.2 v
def og (K:Fg) (H:Hp) (a:Kr):FA->Prop
 | .dT kvs ep=>∃ xs,H a=some (.ext (mZ a xs ep))/\lM K H kvs xs
 | .dK kvs=>∃ ys,H a=some (.dK ys)/\Paired (λ(p:so×D) (q:so×V)=>p.1=q.1/\bB K H p.2 q.2) kvs ys
theorem lM.kp {K:Fg} {H H':Hp} {kvs:List (List Int×D)} {xs:List (List Int×Kr×Kq)} (r:lM K H kvs xs) (k:Kp H H'):lM K H' kvs xs:=
 Paired.mapP r λ_ _ z9=>by obtain⟨a,b,v,c,d⟩:=z9; exact⟨a,k.tup b,v,c,d.kp k⟩
theorem og.there {K:Fg} {H:Hp} {a:Kr} {g:FA} (h:og K H a g):∃ o,H a=some o/\¬ Hr o:=by
 cases g with
 | dT kvs ep=>obtain⟨xs,e,_⟩:=h; exact⟨_,e,λz=>z⟩
 | dK kvs=>obtain⟨xs,e,_⟩:=h; exact⟨_,e,λz=>z⟩
theorem og.step {K:Fg} {H H':Hp} {a:Kr} {g:FA} (h:og K H a g) (k:Kp H H') (s:H' a=H a):og K H' a g:=by
 cases g with
 | dT kvs ep=>obtain⟨xs,e,r⟩:=h; exact⟨xs,s.trans e,r.kp k⟩
 | dK kvs=>obtain⟨xs,e,r⟩:=h; exact⟨xs,s.trans e,Paired.mapP r λ_ _ z=>⟨z.1,z.2.kp k⟩⟩
inductive DO where
 | lst (ds:List D)
 | dic
 | exc (C:Kr)
 | fn (φ:Hp->Prop)
 | tbl (ψ:Hp->Kz Kq->Prop)
 | gen (g:FA)
abbrev DH:=Kr->Ks DO
def put (S:DH) (a:Kr) (o:DO):DH:=λb=>if b=a then some o else S b
theorem ak {S:DH} {a:Kr} {o:DO}:put S a o a=some o:=by unfold put; rw [if_pos rfl]
theorem cj {S:DH} {a b:Kr} {o:DO} (h:b≠a):put S a o b=S b:=by unfold put; rw [if_neg h]
theorem wY {S:DH} {a:Kr} {o u:DO}:put (put S a o) a u=put S a u:=by funext b; unfold put; split <;> rfl
theorem v8 {S:DH} {a p:Kr} {o:DO} (h:S a=some o) (h':S p=none):a≠p:=by intro e; subst e; rw [h] at h'; cases h'
def xY (K:Fg) (H:Hp) (a:Kr):DO->Prop
 | .lst ds=>∃ xs,H a=some (.lst xs)/\IsDs K H ds xs
 | .dic=>∃ kvs,H a=some (.dK kvs)
 | .exc C=>∃ o u,H a=some (.frz o u)/\o.cls=.ref C
 | .fn φ=>(∃ o u,H a=some (.frz o u))/\∀ H',Kp H H'->φ H'
 | .tbl ψ=>∃ ps,H a=some (.tbl ps)/\∀ H',Kp H H'->ψ H' ps
 | .gen g=>og K H a g
def Hs (K:Fg) (H:Hp) (S:DH):Prop:=∀ a o,S a=some o->xY K H a o
section
variable {K:Fg} {H H':Hp} {S:DH} {p:Kr}
theorem Hs.lst {ds:List D} (h:Hs K H S) (e:S p=some (.lst ds)):∃ xs,H p=some (.lst xs)/\IsDs K H ds xs:=h p _ e
theorem Hs.free (h:Hs K H S) (e:H p=none):S p=none:=by
 cases q:S p with
 | none=>rfl
 | some o=>
  have z:=h p o q;cases o with
  | lst ds=>obtain⟨xs,z,_⟩:=z; rw [e] at z; cases z
  | dic=>obtain⟨xs,z⟩:=z; rw [e] at z; cases z
  | exc C=>obtain⟨_,_,z,_⟩:=z; rw [e] at z; cases z
  | fn φ=>obtain⟨⟨_,_,z⟩,_⟩:=z; rw [e] at z; cases z
  | tbl ψ=>obtain⟨_,z,_⟩:=z; rw [e] at z; cases z
  | gen g=>obtain⟨_,z,_⟩:=og.there z; rw [e] at z; cases z
theorem Hs.step (h:Hs K H S) (k:Kp H H') (s:∀ a o,S a=some o->H' a=H a):Hs K H' S:=λa o e=>by
 have z:=h a o e;cases o with
 | lst ds=>obtain⟨xs,z,r⟩:=z; exact⟨xs,by rw [s a _ e]; exact z,r.kp k⟩
 | dic=>obtain⟨xs,z⟩:=z; exact⟨xs,by rw [s a _ e]; exact z⟩
 | exc C=>obtain⟨x,y,z,r⟩:=z; exact⟨x,y,by rw [s a _ e]; exact z,r⟩
 | fn φ=>obtain⟨⟨x,y,z⟩,r⟩:=z; exact⟨⟨x,y,by rw [s a _ e]; exact z⟩,λH2 k2=>r H2 (k.trans k2)⟩
 | tbl ψ=>obtain⟨ps,z,r⟩:=z; exact⟨ps,by rw [s a _ e]; exact z,λH2 k2=>r H2 (k.trans k2)⟩
 | gen g=>exact og.step z k (s a _ e)
theorem Hs.new {o:HO} (h:Hs K H S) (e:H p=none):Hs K (br H p o) S:=h.step (Kp.new e) λa u q=>by
 rw [aO]; intro z; subst z; rw [h.free e] at q; cases q
theorem Hs.newL {xs:List V} {ds:List D} (h:Hs K H S) (e:H p=none) (r:IsDs K H ds xs):Hs K (br H p (.lst xs)) (put S p (.lst ds)):=λa o q=>by
 by_cases z:a=p
 ·subst z;rw [ak] at q;cases q;exact⟨xs,bo,r.kp (Kp.new e)⟩
 ·rw [cj z] at q;exact(h.new e) a o q
theorem Hs.setL {xs ys:List V} {ds:List D} (h:Hs K H S) (e:H p=some (.lst xs)) (r:IsDs K H ds ys):Hs K (br H p (.lst ys)) (put S p (.lst ds)):=λa o q=>by
 have k:Kp H (br H p (.lst ys)):=Kp.mut e (λz=>z)
 by_cases z:a=p
 ·subst z;rw [ak] at q;cases q;exact⟨ys,bo,r.kp k⟩
 ·rw [cj z] at q;have w:=h a o q;cases o with
  | lst ds=>obtain⟨xs,w,r⟩:=w; exact⟨xs,by rw [aO z]; exact w,r.kp k⟩
  | dic=>obtain⟨xs,w⟩:=w; exact⟨xs,by rw [aO z]; exact w⟩
  | exc C=>obtain⟨x,y,w,r⟩:=w; exact⟨x,y,by rw [aO z]; exact w,r⟩
  | fn φ=>obtain⟨⟨x,y,w⟩,r⟩:=w; exact⟨⟨x,y,by rw [aO z]; exact w⟩,λH2 k2=>r H2 (k.trans k2)⟩
  | tbl ψ=>obtain⟨ps,w,r⟩:=w; exact⟨ps,by rw [aO z]; exact w,λH2 k2=>r H2 (k.trans k2)⟩
  | gen g=>exact og.step w k (aO z)
end
abbrev Lo:=List (Ks D)
def Lc (K:Fg) (H:Hp):Lo->L2.St->Prop
 | [],σ=>σ=[]
 | none::L,σ=>∃ x r,σ=x::r/\Lc K H L r
 | some d::L,σ=>∃ v r,σ=some v::r/\bB K H d v/\Lc K H L r
section
variable {K:Fg} {H H':Hp}
theorem Lc.kp (k:Kp H H'):∀ {L:Lo} {σ:L2.St},Lc K H L σ->Lc K H' L σ
 | [],_,h=>h
 | none::L,_,h=>by
  obtain⟨x,r,e,h⟩:=h;exact⟨x,r,e,Lc.kp k h⟩
 | some d::L,_,h=>by
  obtain⟨v,r,e,h1,h⟩:=h;exact⟨v,r,e,h1.kp k,Lc.kp k h⟩
theorem Lc.get:∀ {L:Lo} {σ:L2.St} {i:Nat} {d:D},Lc K H L σ->L[i]?=some (some d)->∃ v,σ[i]?=some (some v)/\bB K H d v
 | [],_,_,_,_,e=>by simp at e
 | none::L,_,0,_,_,e=>by simp at e
 | some c::L,_,0,d,h,e=>by
  obtain⟨v,r,rfl,h1,h⟩:=h;simp at e;subst e;exact⟨v,rfl,h1⟩
 | none::L,_,i+1,d,h,e=>by
  obtain⟨x,r,rfl,h⟩:=h;obtain⟨u,q1,q2⟩:=Lc.get (i:=i) (d:=d) h (by simpa using e)
  exact⟨u,by simpa using q1,q2⟩
 | some c::L,_,i+1,d,h,e=>by
  obtain⟨v,r,rfl,_,h⟩:=h;obtain⟨u,q1,q2⟩:=Lc.get (i:=i) (d:=d) h (by simpa using e)
  exact⟨u,by simpa using q1,q2⟩
theorem Lc.set {d:D} {v:V} (hd:bB K H d v):∀ {L:Lo} {σ:L2.St} (i:Nat),Lc K H L σ->Lc K H (L.set i (some d)) (σ.set i (some v))
 | [],_,_,h=>by
  have e:_=[]:=h;subst e;exact rfl
 | none::L,_,0,h=>by
  obtain⟨x,r,rfl,h⟩:=h;exact⟨v,r,rfl,hd,h⟩
 | some c::L,_,0,h=>by
  obtain⟨x,r,rfl,_,h⟩:=h;exact⟨v,r,rfl,hd,h⟩
 | none::L,_,i+1,h=>by
  obtain⟨x,r,rfl,h⟩:=h;exact⟨x,r.set i (some v),rfl,Lc.set hd i h⟩
 | some c::L,_,i+1,h=>by
  obtain⟨x,r,rfl,h1,h⟩:=h;exact⟨x,r.set i (some v),rfl,h1,Lc.set hd i h⟩
theorem Lc.none:∀ (n:Nat),Lc K H (List.replicate n .none) (List.replicate n .none)
 | 0=>rfl
 | n+1=>⟨_,_,rfl,Lc.none n⟩
theorem Lc.start:∀ {ds:List D} {vs:List V} (n:Nat),IsDs K H ds vs->Lc K H (ds.map some++List.replicate n .none) (vs.map some++List.replicate n .none)
 | [],_,n,h=>by rw [eJ.mp h]; exact Lc.none n
 | d::ds,_,n,h=>by
  obtain⟨v,r,rfl,h1,h2⟩:=bC.mp h;exact⟨v,_,rfl,h1,Lc.start n h2⟩
end
abbrev DK:=D->DH->Prop
abbrev DE:=Lo->DH->DK->Prop
abbrev DT:=Lo->DH->(KA->DH->Prop)->Prop
abbrev DA:=Lo->DH->(List D->DH->Prop)->Prop
structure lX where
 nx:Lo->DH->Prop
 rt:DK
 bk:Lo->DH->Prop:=λ_ _=>False
 ct:Lo->DH->Prop:=λ_ _=>False
abbrev DS:=lX->Lo->DH->Prop
def up (K:Fg) (g:DE):TE:=fun σ H Q=>∃ L S k,Lc K H L σ/\Hs K H S/\g L S k/\∀ d S' v H',k d S'->Kp H H'->Hs K H' S'->bB K H' d v->Q v H'
def sV (K:Fg) (g:DT):TT:=fun σ H Q=>∃ L S k,Lc K H L σ/\Hs K H S/\g L S k/\∀ b S' H',k b S'->Kp H H'->Hs K H' S'->Q b H'
def q9 (K:Fg) (g:DA):TA:=fun σ H Q=>∃ L S k,Lc K H L σ/\Hs K H S/\g L S k/\∀ ds S' vs H',k ds S'->Kp H H'->Hs K H' S'->IsDs K H' ds vs->Q vs H'
structure A3 (K:Fg) (H:Hp) (M:lX) (N:ql):Prop where
 nx:∀ L S σ H',M.nx L S->Kp H H'->Lc K H' L σ->Hs K H' S->N.nx σ H'
 rt:∀ d S v H',M.rt d S->Kp H H'->Hs K H' S->bB K H' d v->N.rt v H'
 bk:∀ L S σ H',M.bk L S->Kp H H'->Lc K H' L σ->Hs K H' S->N.bk σ H'
 ct:∀ L S σ H',M.ct L S->Kp H H'->Lc K H' L σ->Hs K H' S->N.ct σ H'
theorem A3.kp {K:Fg} {H H1:Hp} {M:lX} {N:ql} (r:A3 K H M N) (k:Kp H H1):A3 K H1 M N:=
 ⟨λL S σ H' h k'=>r.nx L S σ H' h (k.trans k'),λd S v H' h k'=>r.rt d S v H' h (k.trans k'),λL S σ H' h k'=>r.bk L S σ H' h (k.trans k'),λL S σ H' h k'=>r.ct L S σ H' h (k.trans k')⟩
def Ca (K:Fg) (g:DS):TS:=λN σ H=>∃ L S M,Lc K H L σ/\Hs K H S/\g M L S/\A3 K H M N
theorem PE.imp {X:Cx} {e:Kt} {t t':TE} (h:PE X e t) (i:∀ σ H Q,t' σ H Q->t σ H Q):PE X e t':=λKE s σ H Q I q=>h KE s σ H Q I (i σ H Q q)
theorem PT.imp {X:Cx} {e:Kt} {t t':TT} (h:PT X e t) (i:∀ σ H Q,t' σ H Q->t σ H Q):PT X e t':=λKE s σ H Q I q=>h KE s σ H Q I (i σ H Q q)
theorem PW.imp {X:Cx} {e:Kt} {t t':TT} (h:PW X e t) (i:∀ σ H Q,t' σ H Q->t σ H Q):PW X e t':=λw KE s σ H Q I q=>h w KE s σ H Q I (i σ H Q q)
theorem PA.imp {X:Cx} {e:List Kt} {t t':TA} (h:PA X e t) (i:∀ σ H Q,t' σ H Q->t σ H Q):PA X e t':=λpos KE s σ H Q I q=>h pos KE s σ H Q I (i σ H Q q)
theorem PS.imp {X:Cx} {e:Ky} {t t':TS} (h:PS X e t) (i:∀ N σ H,t' N σ H->t N σ H):PS X e t':=λKE s σ H Q I q=>h KE s σ H Q I (i Q σ H q)
theorem qH.imp {X:Cx} {e:List Ky} {t t':TS} (h:qH X e t) (i:∀ N σ H,t' N σ H->t N σ H):qH X e t':=λKE s σ H Q I q=>h KE s σ H Q I (i Q σ H q)
theorem up.go {K:Fg} {g:DE} {σ:L2.St} {H:Hp} {Q:VK} {L:Lo} {S:DH} {k:DK} (hL:Lc K H L σ) (hS:Hs K H S) (h:g L S k)
  (n:∀ d S' v H',k d S'->Kp H H'->Lc K H' L σ->Hs K H' S'->bB K H' d v->Q v H'):up K g σ H Q:=
 ⟨L,S,k,hL,hS,h,λd S' v H' a b c e=>n d S' v H' a b (hL.kp b) c e⟩
theorem sV.go {K:Fg} {g:DT} {σ:L2.St} {H:Hp} {Q:KA->Hp->Prop} {L:Lo} {S:DH} {k:KA->DH->Prop} (hL:Lc K H L σ) (hS:Hs K H S) (h:g L S k)
  (n:∀ b S' H',k b S'->Kp H H'->Lc K H' L σ->Hs K H' S'->Q b H'):sV K g σ H Q:=
 ⟨L,S,k,hL,hS,h,λb S' H' a c e=>n b S' H' a c (hL.kp c) e⟩
theorem q9.go {K:Fg} {g:DA} {σ:L2.St} {H:Hp} {Q:List V->Hp->Prop} {L:Lo} {S:DH} {k:List D->DH->Prop} (hL:Lc K H L σ) (hS:Hs K H S) (h:g L S k)
  (n:∀ ds S' vs H',k ds S'->Kp H H'->Lc K H' L σ->Hs K H' S'->IsDs K H' ds vs->Q vs H'):q9 K g σ H Q:=
 ⟨L,S,k,hL,hS,h,λd S' v H' a b c e=>n d S' v H' a b (hL.kp b) c e⟩
section
variable {X:Cx} {a b c:Kt} {ga gb gc:DE} {pos:Pos}
def cL (i:Nat):DE:=λL S k=>match L[i]? with
 | some (some d)=>k d S
 | _=>False
def dC (d:D):DE:=λ_ S k=>k d S
theorem CI {e:Kt} {d:D} {v:V} (h:PE X e (tC v)) (hd:∀ H,bB X.K H d v):PE X e (up X.K (dC d)):=
 PE.imp h fun σ H Q z9=>by obtain⟨L,S,k,hL,hS,h,n⟩:=z9; exact n d S v H h (Kp.refl H) hS (hd H)
def CU:Kt->KA
 | .Starred _ _=>true
 | _=>false
theorem cO {a:Kt} {es:List Kt} {env:Env} (h:CU a=false):starEach (a::es) env=(false,eval a env)::starEach es env:=by
 cases a <;> first | rfl | cases h
theorem g8 {pos:Pos} {env:Env}:∀ {es:List Kt},(es.all λe=>!CU e)=true->(backTo pos (starEach es env)).any (·.1)=false
 | [],_=>rfl
 | e::es,h=>by
  rw [List.all_cons,J6] at h;rw [cO (by simpa using h.1)]
  exact g8 h.2
def mx:DA:=λ_ S k=>k [] S
def eW (g:DE) (t:DA):DA:=λL S k=>g L S λd S1=>t L S1 λds S2=>k (d::ds) S2
def C0 (t:DA):DE:=λL S k=>t L S λds S1=>ds.length<=sizeLine/\k (.tup ds) S1
def Iw (t:DA):DE:=λL S k=>t L S λds S1=>ds.length<=sizeLine/\∀ p,S1 p=none->k (.ref p) (put S1 p (.lst ds))
abbrev D2:=D->D->DH->DK->Prop
def fh (K:Fg) (r:D2):R2:=λx y H Q=>∃ d e S k,bB K H d x/\bB K H e y/\Hs K H S/\r d e S k/\∀ d' S' v H',k d' S'->Kp H H'->Hs K H' S'->bB K H' d' v->Q v H'
def wP (r:D2) (ga gb:DE):DE:=λL S k=>ga L S λx S1=>gb L S1 λy S2=>r x y S2 k
theorem rK {K:Fg} {r:D2}:∀ σ H Q,up K (wP r ga gb) σ H Q->Gm (fh K r) (up K ga) (up K gb) σ H Q:=fun σ H Q ⟨L,S,k,hL,hS,h,n⟩=>
 up.go hL hS h λd S1 v H1 h1 k1 hL1 hS1 i1=>up.go hL1 hS1 h1 λe S2 u H2 h2 k2 hL2 hS2 i2=>
  ⟨d,e,S2,k,i1.kp k2,i2,hS2,h2,λd' S' v H' q k3 z1 z2=>n d' S' v H' q (k1.trans (k2.trans k3)) z1 z2⟩
abbrev D1:=D->DH->DK->Prop
def IR (K:Fg) (r:D1):V->Hp->VK->Prop:=λx H Q=>∃ d S k,bB K H d x/\Hs K H S/\r d S k/\∀ d' S' v H',k d' S'->Kp H H'->Hs K H' S'->bB K H' d' v->Q v H'
def Hq (r:D1) (ga:DE):DE:=λL S k=>ga L S λx S1=>r x S1 k
def g_ (g:DE):DT:=λL S k=>g L S λd S1=>match d with
 | .bl c=>k c S1
 | _=>False
theorem ue {K:Fg} {g:DE}:∀ σ H Q,sV K (g_ g) σ H Q->AZ (up K g) σ H Q:=fun σ H Q ⟨L,S,k,hL,hS,h,n⟩=>
 up.go hL hS h λd S1 v H1 h1 k1 hL1 hS1 i1=>by
  cases d with
  | bl c=>
   have e:=aT.mp i1;subst e;exact⟨c,rfl,n c S1 H1 h1 k1 hS1⟩
  | _=>exact(show False from h1).elim
variable {tA tB':DT} {bh:List Kt}
def Cu (t u:DT):DT:=λL S k=>t L S λc S1=>if c=true then u L S1 k else k false S1
def GS (t u:DT):DT:=λL S k=>t L S λc S1=>if c=true then k true S1 else u L S1 k
def AB (t:DT):DT:=λL S k=>t L S λc S1=>k (!c) S1
def FV (ga gb:DE):DE:=λL S k=>ga L S λx S1=>match x with
 | .bl c=>if c=true then gb L S1 k else k (.bl false) S1
 | _=>False
def Io (ga gb:DE):DE:=λL S k=>ga L S λx S1=>match x with
 | .bl c=>if c=true then k (.bl true) S1 else gb L S1 k
 | _=>False
def Hi (ga:DE):DE:=λL S k=>ga L S λx S1=>match x with
 | .bl c=>k (.bl (!c)) S1
 | _=>False
def Iz (t:DT) (ga gb:DE):DE:=λL S k=>t L S λc S1=>if c=true then ga L S1 k else gb L S1 k
end
section
variable {X:Cx}
theorem eV {K:Fg} {H:Hp} {S:DH} {k:DK} {Q:VK} {d:D} {v:V} (n:∀ d' S' v H',k d' S'->Kp H H'->Hs K H' S'->bB K H' d' v->Q v H') (hS:Hs K H S) (h:k d S) (i:bB K H d v):Q v H:=n d S v H h (Kp.refl H) hS i
def Fv (C:Int->Int->Prop) (g:Int->Int->D):D2:=λd e S k=>match d,e with
 | .int i,.int j=>C i j/\k (g i j) S
 | _,_=>False
theorem AO {f:Kq->Kq->Sem Kq} {C:Int->Int->Prop} {g:Int->Int->D} {gV:Int->Int->V} (ho:cS X f (rI C gV)) (hg:∀ i j H,bB X.K H (g i j) (gV i j)):cS X f (fh X.K (Fv C g)):=by
 intro KE s σ H x y v u Q I rx ry h;obtain⟨d,e,S,k,i1,i2,hS,r,n⟩:=h;cases d with
 | int i=>
  cases e with
  | int j=>
   have e1:=isInt.mp i1;have e2:=isInt.mp i2;subst e1;subst e2;exact ho KE s σ H _ _ v u Q I rx ry ⟨i,j,rfl,rfl,r.1,eV n hS r.2 (hg i j H)⟩
  | _=>exact(show False from r).elim
 | _=>exact(show False from r).elim
def xS (g:Int->Int->D):D2:=λd e S k=>match d,e with
 | .int i,.int j=>k (g i j) S
 | _,_=>False
theorem ug {f:Kq->Kq->Sem Kq} {g:Int->Int->D} {gV:Int->Int->V} (ho:cS X f (Ba gV)) (hg:∀ i j H,bB X.K H (g i j) (gV i j)):cS X f (fh X.K (xS g)):=by
 intro KE s σ H x y v u Q I rx ry h;obtain⟨d,e,S,k,i1,i2,hS,r,n⟩:=h;cases d with
 | int i=>
  cases e with
  | int j=>
   have e1:=isInt.mp i1;have e2:=isInt.mp i2;subst e1;subst e2;exact ho KE s σ H _ _ v u Q I rx ry ⟨i,j,rfl,rfl,eV n hS r (hg i j H)⟩
  | _=>exact(show False from r).elim
 | _=>exact(show False from r).elim
def qB (i j:Int):Prop:=j≠0/\j.natAbs.log2 < 9000
abbrev Ib:D2:=xS λi j=>.int (i - j)
abbrev G1:D2:=Fv IntMulOk λi j=>.int (i*j)
abbrev HU:D2:=Fv qB λi j=>.int (i.fdiv j)
abbrev Iy:D2:=Fv (λ_ j=>j≠0) λi j=>.int (i.fmod j)
abbrev HC:D2:=Fv xq λi j=>.int (i ^ j.toNat)
abbrev Iu:D2:=Fv xq λi j=>.int (i*2 ^ j.toNat)
abbrev Jh:D2:=xS λi j=>.bl (decide (i < j))
abbrev IZ:D2:=xS λi j=>.bl (decide (i<=j))
abbrev I_:D2:=xS λi j=>.bl (decide (j < i))
abbrev IK:D2:=xS λi j=>.bl (decide (j<=i))
theorem o6:cS X (binaryOp .Sub) (fh X.K Ib):=ug Ez λ_ _ _=>isInt.mpr rfl
theorem dY:cS X (binaryOp .Mult) (fh X.K G1):=AO (C:=IntMulOk) (gV:=λi j=>.int (i*j)) (Hj λ_ _ _ _ _ _ _ hc q=>mul_int q hc) λ_ _ _=>isInt.mpr rfl
theorem jp:cS X (binaryOp .FloorDiv) (fh X.K HU):=AO (C:=qB) (gV:=λi j=>.int (i.fdiv j)) (Hj λ_ _ _ _ _ _ _ hc q=>floordiv_int hc.1 q (.inl (PyProof.noPylong_of_log2 hc.2))) λ_ _ _=>isInt.mpr rfl
theorem kA:cS X (binaryOp .Mod) (fh X.K Iy):=AO BD λ_ _ _=>isInt.mpr rfl
theorem wJ:cS X (binaryOp .Pow) (fh X.K HC):=AO E4 λ_ _ _=>isInt.mpr rfl
theorem GZ:cS X (binaryOp .LShift) (fh X.K Iu):=AO E8 λ_ _ _=>isInt.mpr rfl
theorem uE:cS X (compareOp .Lt) (fh X.K Jh):=ug Gv λ_ _ _=>aT.mpr rfl
theorem zm:cS X (compareOp .LtE) (fh X.K IZ):=ug Go λ_ _ _=>aT.mpr rfl
theorem t7:cS X (compareOp .Gt) (fh X.K I_):=ug Hf λ_ _ _=>aT.mpr rfl
theorem yT:cS X (compareOp .GtE) (fh X.K IK):=ug Gh λ_ _ _=>aT.mpr rfl
def EG:D2:=λd e S k=>match d,e with
 | .int i,.int j=>k (.int (i+j)) S
 | .str x,.str y=>x.length+y.length<=sizeLine/\k (.str (x++y)) S
 | .tup xs,.tup ys=>xs≠[]/\ys≠[]/\xs.length+ys.length<=sizeLine/\k (.tup (xs++ys)) S
 | .ref a,.ref b=>∃ xs ys,S a=some (.lst xs)/\S b=some (.lst ys)/\xs.length+ys.length<=sizeLine/\∀ p,S p=none->k (.ref p) (put S p (.lst (xs++ys)))
 | _,_=>False
theorem rn {K:Fg} {H:Hp} {ds:List D} {vs:List V} (i:IsDs K H ds vs) (h:ds≠[]):vs≠[]:=by
 intro e;subst e;have:=i.length;exact h (Kn.mp this)
theorem bv:cS X (binaryOp .Add) (fh X.K EG):=by
 intro KE s σ H x y v u Q I rx ry h;obtain⟨d,e,S,k,i1,i2,hS,r,n⟩:=h;cases d with
 | int i=>
  cases e with
  | int j=>
   have e1:=isInt.mp i1;have e2:=isInt.mp i2;subst e1;subst e2;exact DY KE s σ H _ _ v u Q I rx ry ⟨i,j,rfl,rfl,eV n hS r (isInt.mpr rfl)⟩
  | _=>exact(show False from r).elim
 | str i=>
  cases e with
  | str j=>
   have e1:=aY.mp i1;have e2:=aY.mp i2;subst e1;subst e2;exact vY KE s σ H _ _ v u Q I rx ry ⟨i,j,rfl,rfl,r.1,eV n hS r.2 (aY.mpr rfl)⟩
  | _=>exact(show False from r).elim
 | tup xs=>
  cases e with
  | tup ys=>
   obtain⟨a,vs,rfl,t1,j1⟩:=bw.mp i1;obtain⟨b,us,rfl,t2,j2⟩:=bw.mp i2;obtain⟨h1,h2,h3,r⟩:=r;refine BM KE s σ H _ _ v u Q I rx ry ⟨a,b,vs,us,rfl,rfl,t1,t2,rn j1 h1,by rw [<- j1.length,<- j2.length]; exact h3,λz=>absurd z (rn j2 h2),λ_ p hp=>?_⟩
   have kp:Kp H (br H p (.tup (vs++us))):=Kp.new hp;exact n _ S _ _ r kp (hS.new hp) (bw.mpr ⟨p,_,rfl,gZ.of bo,(j1.append j2).kp kp⟩)
  | _=>exact(show False from r).elim
 | ref a=>
  cases e with
  | ref b=>
   have e1:=aU.mp i1;have e2:=aU.mp i2;subst e1;subst e2;obtain⟨xs,ys,h1,h2,h3,r⟩:=r;obtain⟨vs,q1,j1⟩:=hS.lst h1;obtain⟨us,q2,j2⟩:=hS.lst h2;refine Ed KE s σ H _ _ v u Q I rx ry ⟨a,b,vs,us,rfl,rfl,q1,q2,by rw [<- j1.length,<- j2.length]; exact h3,λp hp=>?_⟩
   exact n _ _ _ _ (r p (hS.free hp)) (Kp.new hp) (hS.newL hp (j1.append j2)) (aU.mpr rfl)
  | _=>exact(show False from r).elim
 | _=>exact(show False from r).elim
def Fw:D->D->Ks KA
 | .int i,.int j=>some (decide (i=j))
 | .bl i,.bl j=>some (decide (i=j))
 | .str i,.str j=>some (decide (i=j))
 | _,_=>none
def Hu:D2:=λd e S k=>match Fw d e with
 | some b=>k (.bl b) S
 | none=>False
def Hv:D2:=λd e S k=>match Fw d e with
 | some b=>k (.bl (!b)) S
 | none=>False
theorem CV {K:Fg} {H:Hp} {d e:D} {x y:V} {b:KA} (h:Fw d e=some b) (i1:bB K H d x) (i2:bB K H e y):D7 x y=true/\decide (x=y)=b:=by
 unfold Fw at h
 split at h
 ·have e1:=isInt.mp i1;have e2:=isInt.mp i2;subst e1; subst e2
  cases h;exact⟨rfl,by simp⟩
 ·have e1:=aT.mp i1;have e2:=aT.mp i2;subst e1; subst e2
  cases h;exact⟨rfl,by simp⟩
 ·have e1:=aY.mp i1;have e2:=aY.mp i2;subst e1; subst e2
  cases h;exact⟨rfl,by simp⟩
 ·cases h
theorem dW:cS X (compareOp .Eq) (fh X.K Hu):=by
 intro KE s σ H x y v u Q I rx ry h;obtain⟨d,e,S,k,i1,i2,hS,r,n⟩:=h;unfold Hu at r;cases q:Fw d e with
 | none=>rw [q] at r; exact r.elim
 | some b=>
  rw [q] at r;obtain⟨h1,h2⟩:=CV q i1 i2;exact He KE s σ H _ _ v u Q I rx ry ⟨h1,by rw [h2]; exact eV n hS r (aT.mpr rfl)⟩
theorem kR:cS X (compareOp .NotEq) (fh X.K Hv):=by
 intro KE s σ H x y v u Q I rx ry h;obtain⟨d,e,S,k,i1,i2,hS,r,n⟩:=h;unfold Hv at r;cases q:Fw d e with
 | none=>rw [q] at r; exact r.elim
 | some b=>
  rw [q] at r;obtain⟨h1,h2⟩:=CV q i1 i2;exact G8 KE s σ H _ _ v u Q I rx ry ⟨h1,by rw [h2]; exact eV n hS r (aT.mpr rfl)⟩
def vX:D->KA
 | .non=>true
 | _=>false
def IP:D2:=λd e S k=>match d,e with
 | .bl c,.bl b=>k (.bl (c == b)) S
 | d,.non=>k (.bl (vX d)) S
 | _,_=>False
def zk:D2:=λd e S k=>match d,e with
 | .bl c,.bl b=>k (.bl (!(c == b))) S
 | d,.non=>k (.bl (!vX d)) S
 | _,_=>False
theorem tO {K:Fg} {H:Hp} {d:D} {x:V} (i:bB K H d x):decide (x=.non)=vX d:=by
 cases d with
 | non=>rw [b7.mp i]; rfl
 | bl b=>rw [aT.mp i]; rfl
 | int b=>rw [isInt.mp i]; rfl
 | str b=>rw [aY.mp i]; rfl
 | ref b=>rw [aU.mp i]; rfl
 | ty b=>rw [yW.mp i]; rfl
 | tup b=>obtain⟨a,xs,rfl,_⟩:=bw.mp i; rfl
 | rl b=>obtain⟨a,xs,rfl,_⟩:=uc.mp i; rfl
theorem Dc:cS X (compareOp .Is) (fh X.K IP):=by
 intro KE s σ H x y v u Q I rx ry h;obtain⟨d,e,S,k,i1,i2,hS,r,n⟩:=h;unfold IP at r
 split at r
 ·rename_i c b
  have e1:=aT.mp i1;have e2:=aT.mp i2;subst e1; subst e2
  cases rx; cases ry
  exact is_bool ⟨.bl _,H,I,rfl,eV n hS r (aT.mpr rfl)⟩
 ·have e2:=b7.mp i2;exact Fo KE s σ H _ _ v u Q I rx ry ⟨e2,by rw [tO i1]; exact eV n hS r (aT.mpr rfl)⟩
 ·exact r.elim
theorem xb:cS X (compareOp .IsNot) (fh X.K zk):=by
 intro KE s σ H x y v u Q I rx ry h;obtain⟨d,e,S,k,i1,i2,hS,r,n⟩:=h;unfold zk at r
 split at r
 ·rename_i c b
  have e1:=aT.mp i1;have e2:=aT.mp i2;subst e1; subst e2
  cases rx; cases ry
  exact isnot_bool ⟨.bl _,H,I,rfl,eV n hS r (aT.mpr rfl)⟩
 ·have e2:=b7.mp i2;exact Ci KE s σ H _ _ v u Q I rx ry ⟨e2,by rw [tO i1]; exact eV n hS r (aT.mpr rfl)⟩
 ·exact r.elim
def DD:D1:=λd S k=>match d with
 | .int i=>k (.int (-i)) S
 | _=>False
theorem qM:Gj X (unaryOp .USub) (IR X.K DD):=by
 intro KE s σ H x v Q I rx h;obtain⟨d,S,k,i1,hS,r,n⟩:=h;cases d with
 | int i=>
  have e1:=isInt.mp i1;subst e1;exact DF KE s σ H _ v Q I rx ⟨i,rfl,eV n hS r (isInt.mpr rfl)⟩
 | _=>exact(show False from r).elim
def sX:D2:=λd e S k=>match d,e with
 | .tup ds,.int i=>(match atI ds i with
  | some c=>k c S
  | none=>False)
 | .rl ds,.int i=>(match atI ds i with
  | some c=>k c S
  | none=>False)
 | .ref a,.int i=>(match S a with
  | some (.lst ds)=>(match atI ds i with
   | some c=>k c S
   | none=>False)
  | _=>False)
 | _,_=>False
theorem IsDs.atI {K:Fg} {H:Hp} {ds:List D} {vs:List V} {i:Int} {d:D} (r:IsDs K H ds vs) (h:atI ds i=some d):∃ v,L2.atI vs i=some v/\bB K H d v:=by
 unfold L2.atI at h ⊢;rw [<- r.length];cases q:yl ds.length i with
 | none=>rw [q] at h; cases h
 | some j=>
  rw [q] at h;exact r.get h
theorem G5:xR X (fh X.K sX):=by
 intro value slice KE s σ H x y v u Q I rx ry h hs;obtain⟨d,e,S,k,i1,i2,hS,r,n⟩:=h;cases e with
 | int i=>
  have e2:=isInt.mp i2;subst e2;cases d with
  | tup ds=>
   obtain⟨a,vs,rfl,t,j⟩:=bw.mp i1;cases q:atI ds i with
   | none=>simp only [sX,q] at r
   | some c=>
    simp only [sX,q] at r;obtain⟨w,e1,e2⟩:=j.atI q;exact Fm value slice KE s σ H _ _ v u Q I rx ry ⟨a,vs,i,w,rfl,rfl,t,e1,eV n hS r e2⟩ hs
  | rl ds=>
   obtain⟨a,vs,rfl,t,j⟩:=uc.mp i1;cases q:atI ds i with
   | none=>simp only [sX,q] at r
   | some c=>
    simp only [sX,q] at r;obtain⟨w,e1,e2⟩:=j.atI q;exact wS value slice KE s σ H _ _ v u Q I rx ry ⟨a,vs,i,w,rfl,rfl,t.sq,e1,eV n hS r e2⟩ hs
  | ref a=>
   have e1:=aU.mp i1;subst e1;cases z:S a with
   | none=>simp only [sX,z] at r
   | some o=>
    cases o with
    | dic=>simp only [sX,z] at r
    | exc _=>simp only [sX,z] at r
    | fn _=>simp only [sX,z] at r
    | tbl _=>simp only [sX,z] at r
    | gen _=>simp only [sX,z] at r
    | lst ds=>
     obtain⟨vs,hl,j⟩:=hS.lst z;cases q:atI ds i with
     | none=>simp only [sX,z,q] at r
     | some c=>
      simp only [sX,z,q] at r;obtain⟨w,e1,e2⟩:=j.atI q;exact wS value slice KE s σ H _ _ v u Q I rx ry ⟨a,vs,i,w,rfl,rfl,eQ.of hl,e1,eV n hS r e2⟩ hs
  | _=>exact(show False from r).elim
 | _=>
  cases d <;> exact(show False from r).elim
end
abbrev bE:=List D->DH->DK->Prop
def nX (K:Fg) (r:bE):List V->Hp->VK->Prop:=λxs H Q=>∃ ds S k,IsDs K H ds xs/\Hs K H S/\r ds S k/\∀ d' S' v H',k d' S'->Kp H H'->Hs K H' S'->bB K H' d' v->Q v H'
def gm (r:bE) (t:DA):DE:=λL S k=>t L S λds S1=>r ds S1 k
section
variable {X:Cx} {x:Str} {p pos:Pos} {e:Kt} {es:List Kt} {t:DA} {id T:KB} {r:bE}
theorem uB {K:Fg}:∀ σ H Q,up K (gm r t) σ H Q->HZ (nX K r) (q9 K t) σ H Q:=fun σ H Q ⟨L,S,k,hL,hS,h,n⟩=>
 q9.go hL hS h λds S1 vs H1 h1 k1 hL1 hS1 i1=>⟨ds,S1,k,i1,hS1,h1,λd' S' v H' q k3 z1 z2=>n d' S' v H' q (k1.trans k3) z1 z2⟩
def ce (K:Fg) (F:bE):Sp:=λvs H Q _=>nX K F vs H Q
structure bc (P:Ku) (w:Kw) (K:Fg) (mg:Str->Ks Kq) (base:Kx) (x:Str) (n:Nat) (F:bE):Prop where
 ex:∃ f fd ps,aQ P w K mg base b8 n f fd ps (ce K F)/\mg x=some (.ref f)/\PySem.W.keepIn K (.ref f)=true/\o_ K fd ps []
theorem Ex {n:Nat} {F:bE} (c:bc X.prog X.w X.K X.mg X.base x n F) (hr:cA n X.A) (hg:Gl X x) (ha:PA X (e::es) (q9 X.K t)) (hdb:(x == ("__debug__":Str))=false:=by decide)
  (he:starEach (e::es) X.env=(false,eval e X.env)::starEach es X.env:=by exact cO rfl) (hpl:(backTo pos (starEach es X.env)).any (·.1)=false:=by exact g8 rfl):
  PE X (.Call (.Name x p) (e::es) [] pos) (up X.K (gm F t)):=by
 obtain⟨f,fd,ps,F1,h1,h2,h3⟩:=c.ex;refine PE.imp (BJ F1 hr hg h1 h2 h3 .nil FF ha hdb he hpl) fun σ H Q z9=>?_
 obtain⟨L,S,k,hL,hS,h,n⟩:=z9;refine q9.go hL hS h λds S1 vs H1 h1 k1 hL1 hS1 i1=>?_
 show ce X.K F (vs++[]) H1 Q E0
 rw [JW];exact⟨ds,S1,k,i1,hS1,h1,λd' S' v H' q k3 z1 z2=>n d' S' v H' q (k1.trans k3) z1 z2⟩
def GV:bE:=λds S k=>match ds with
 | [.int i]=>k (.int (if i < 0 then -i else i)) S
 | _=>False
theorem cr {K:Fg} {H:Hp} {d:D} {xs:List V} (h:IsDs K H [d] xs):∃ x,xs=[x]/\bB K H d x:=by
 obtain⟨v,r,rfl,h1,h2⟩:=bC.mp h;rw [eJ.mp h2];exact⟨v,rfl,h1⟩
theorem ku {K:Fg} {H:Hp} {d e:D} {xs:List V} (h:IsDs K H [d,e] xs):∃ x y,xs=[x,y]/\bB K H d x/\bB K H e y:=by
 obtain⟨v,r,rfl,h1,h2⟩:=bC.mp h;obtain⟨y,rfl,h3⟩:=cr h2;exact⟨v,y,rfl,h1,h3⟩
theorem rf:bW X (.builtin "abs") (nX X.K GV):=by
 intro KE s σ H xs us Q I rs h;obtain⟨ds,S,k,i,hS,r,n⟩:=h;unfold GV at r
 split at r
 ·obtain⟨x,rfl,i1⟩:=cr i;have e1:=isInt.mp i1;subst e1;exact zR KE s σ H _ us Q I rs ⟨_,rfl,eV n hS r (isInt.mpr rfl)⟩
 ·exact r.elim
def DV:bE:=λds S k=>match ds with
 | [.tup xs]=>k (.int xs.length) S
 | [.rl xs]=>k (.int xs.length) S
 | [.ref a]=>(match S a with
  | some (.lst xs)=>k (.int xs.length) S
  | _=>False)
 | _=>False
theorem FU:bW X (.builtin "len") (nX X.K DV):=by
 intro KE s σ H xs us Q I rs h;obtain⟨ds,S,k,i,hS,r,n⟩:=h;unfold DV at r
 split at r
 ·obtain⟨x,rfl,i1⟩:=cr i;obtain⟨a,vs,rfl,t,j⟩:=bw.mp i1;exact jd KE s σ H _ us Q I rs ⟨a,vs,rfl,.inr t,by rw [<- j.length]; exact eV n hS r (isInt.mpr rfl)⟩
 ·obtain⟨x,rfl,i1⟩:=cr i;obtain⟨a,vs,rfl,t,j⟩:=uc.mp i1;exact jd KE s σ H _ us Q I rs ⟨a,vs,rfl,.inl t.sq,by rw [<- j.length]; exact eV n hS r (isInt.mpr rfl)⟩
 ·obtain⟨x,rfl,i1⟩:=cr i;have e1:=aU.mp i1;subst e1
  split at r
  ·rename_i z
   obtain⟨vs,hl,j⟩:=hS.lst z;exact jd KE s σ H _ us Q I rs ⟨_,vs,rfl,.inl (eQ.of hl),by rw [<- j.length]; exact eV n hS r (isInt.mpr rfl)⟩
  ·exact r.elim
 ·exact r.elim
def GG:bE:=λds S k=>match ds with
 | [.int i,.int j]=>k (.int (if j > i then j else i)) S
 | _=>False
def G4:bE:=λds S k=>match ds with
 | [.int i,.int j]=>k (.int (if j < i then j else i)) S
 | _=>False
theorem CG (hc:X.calm=true:=by rfl):bW X (.builtin "max") (nX X.K GG):=by
 intro KE s σ H xs us Q I rs h;obtain⟨ds,S,k,i,hS,r,n⟩:=h;unfold GG at r
 split at r
 ·obtain⟨x,y,rfl,i1,i2⟩:=ku i;have e1:=isInt.mp i1;have e2:=isInt.mp i2;subst e1; subst e2
  exact xl hc KE s σ H _ us Q I rs ⟨_,_,rfl,eV n hS r (isInt.mpr rfl)⟩
 ·exact r.elim
theorem FD (hc:X.calm=true:=by rfl):bW X (.builtin "min") (nX X.K G4):=by
 intro KE s σ H xs us Q I rs h;obtain⟨ds,S,k,i,hS,r,n⟩:=h;unfold G4 at r
 split at r
 ·obtain⟨x,y,rfl,i1,i2⟩:=ku i;have e1:=isInt.mp i1;have e2:=isInt.mp i2;subst e1; subst e2
  exact xG hc KE s σ H _ us Q I rs ⟨_,_,rfl,eV n hS r (isInt.mpr rfl)⟩
 ·exact r.elim
def EN:bE:=λds S k=>match ds with
 | [.int i]=>k (.int i) S
 | [.bl b]=>k (.int (if b then 1 else 0)) S
 | _=>False
theorem yO:bW X (.type "int") (nX X.K EN):=by
 intro KE s σ H xs us Q I rs h;obtain⟨ds,S,k,i,hS,r,n⟩:=h;unfold EN at r
 split at r
 ·obtain⟨x,rfl,i1⟩:=cr i;have e1:=isInt.mp i1;subst e1;exact qG KE s σ H _ us Q I rs (.inl ⟨_,rfl,eV n hS r (isInt.mpr rfl)⟩)
 ·obtain⟨x,rfl,i1⟩:=cr i;have e1:=aT.mp i1;subst e1;exact qG KE s σ H _ us Q I rs (.inr ⟨_,rfl,eV n hS r (isInt.mpr rfl)⟩)
 ·exact r.elim
def Ih:bE:=λds S k=>match ds with
 | [.int i]=>i.natAbs.log2 < 1920/\k (.str (toString i)) S
 | _=>False
def GL:Ks DO->Ks Ty
 | some (.lst _)=>some .lst
 | some .dic=>some .dic
 | _=>none
def Fu (S:DH):D->Ks Ty
 | .non=>some .non
 | .bl _=>some .bool
 | .int _=>some .int
 | .str _=>some .str
 | .tup _=>some .tup
 | .rl _=>none
 | .ref a=>GL (S a)
 | .ty _=>none
def pX:Ty->Ty->KA
 | .non,.non=>true | .bool,.bool=>true | .bool,.int=>true | .int,.int=>true | .str,.str=>true | .tup,.tup=>true | .lst,.lst=>true | .dic,.dic=>true | .verr,.verr=>true
 | _,_=>false
theorem vR {K:Fg} (t c:Ty):PySem.W.kitOne K (.type t.name) (.type c.name)=some (pX t c):=by
 cases t <;> cases c <;> rfl
def GM:D1:=λd S k=>match d with
 | .int i=>k (.int ((Builtin.Int.intBits i:Nat):Int)) S
 | _=>False
def jq (xs:List D) (lo hi:Ks Int):List D:=(xs.drop (HT.cI xs.length 0 lo)).take (HT.cI xs.length xs.length hi - HT.cI xs.length 0 lo)
abbrev A6:=Lo->DH->(Ks Int->DH->Prop)->Prop
def Jv (K:Fg) (g:A6):TO:=fun σ H Q=>∃ L S k,Lc K H L σ/\Hs K H S/\g L S k/\∀ i S' H',k i S'->Kp H H'->Hs K H' S'->Q i H'
def FM:A6:=λ_ S k=>k none S
def FI (g:DE):A6:=λL S k=>g L S λd S1=>match d with
 | .int i=>k (some i) S1
 | _=>False
end
section
variable {X:Cx} {st:Ky} {bh:List Ky} {g h:DS} {e:Kt} {ge:DE} {pos:Pos}
def wX:DS:=λM L S=>M.nx L S
def rM (g h:DS):DS:=λM L S=>g {M with nx:=h M} L S
theorem Cq {K:Fg}:∀ N σ H,Ca K (rM g h) N σ H->FW (Ca K g) (Ca K h) N σ H:=λN σ H ⟨L,S,M,hL,hS,q,r⟩=>
 ⟨L,S,{M with nx:=h M},hL,hS,q,⟨λL' S' σ' H' q' k' hL' hS'=>⟨L',S',M,hL',hS',q',r.kp k'⟩,r.rt,r.bk,r.ct⟩⟩
def GC (ge:DE):DS:=λM L S=>ge L S λ_ S1=>M.nx L S1
def yF (ge:DE):DS:=λM L S=>ge L S M.rt
def xO (c:DT) (g h:DS):DS:=λM L S=>c L S λb S1=>if b=true then g M L S1 else h M L S1
def rZ:DS:=λ_ _ _=>False
def u7 (i:Nat) (ge:DE):DS:=λM L S=>ge L S λd S1=>M.nx (L.set i (some d)) S1
def Iq (i j:Nat) (ta:DA):DS:=λM L S=>ta L S λds S1=>match ds with
 | [d,e]=>M.nx ((L.set i (some d)).set j (some e)) S1
 | _=>False
abbrev DG:=D->Lo->DH->(Lo->DH->Prop)->Prop
def DR (K:Fg) (g:DG):TG:=λv σ H Q=>∃ d L S k,bB K H d v/\Lc K H L σ/\Hs K H S/\g d L S k/\∀ L' S' σ' H',k L' S'->Kp H H'->Lc K H' L' σ'->Hs K H' S'->Q σ' H'
theorem PG.imp {e:Kt} {t t':TG} (h:PG X e t) (i:∀ v σ H Q,t' v σ H Q->t v σ H Q):PG X e t':=λKE s σ H v u Q I rv q=>h KE s σ H v u Q I rv (i v σ H Q q)
def eS (i:Nat):DG:=λd L S k=>k (L.set i (some d)) S
abbrev A2:=List D->Lo->DH->(Lo->DH->Prop)->Prop
def HW (K:Fg) (g:A2):y6:=λv σ H Q=>∃ d L S k,IsDs K H d v/\Lc K H L σ/\Hs K H S/\g d L S k/\∀ L' S' σ' H',k L' S'->Kp H H'->Lc K H' L' σ'->Hs K H' S'->Q σ' H'
theorem yt.imp {e:List Kt} {t t':y6} (h:yt X e t) (i:∀ v σ H Q,t' v σ H Q->t v σ H Q):yt X e t':=λKE s σ H v u Q I rv q=>h KE s σ H v u Q I rv (i v σ H Q q)
def Hl:A2:=λds L S k=>ds=[]/\k L S
def EW (t:DG) (u:A2):A2:=λds L S k=>match ds with
 | d::r=>t d L S λL1 S1=>u r L1 S1 k
 | []=>False
def G9 (ge:DE) (g:DG):DS:=λM L S=>ge L S λd S1=>g d L S1 M.nx
def Fb (c:DT) (b:DS):DS:=λM L S=>∃ W:Nat->Lo->DH->Prop,(∃ m,W m L S)/\∀ m L S,W m L S->
 c L S λt S1=>if t=true then ∃ N:Lo->DH->Prop,(∀ L' S',N L' S'->∃ m',m' < m/\W m' L' S')/\b {M with nx:=N,ct:=N,bk:=M.nx} L S1 else M.nx L S1
def fJ (ok:DH->Prop) (g:DG) (b:DS) (M:lX):List D->Lo->DH->Prop
 | [],L,S=>ok S/\M.nx L S
 | d::r,L,S=>ok S/\g d L S λL1 S1=>b {M with nx:=λL2 S2=>fJ ok g b M r L2 S2,ct:=λL2 S2=>fJ ok g b M r L2 S2,bk:=M.nx} L1 S1
theorem lv {K:Fg} {ok:DH->Prop} {gg:DG} {b:DS} {M:lX} {ds:List D} {L:Lo} {S:DH} {N:ql} {σ:L2.St} {H:Hp} {J:It} (hL:Lc K H L σ) (hS:Hs K H S) (h:fJ ok gg b M ds L S) (r:A3 K H M N)
  (hgo:∀ i d S1 H1,ds[i]?=some d->Kp H H1->Hs K H1 S1->ok S1->J.go i H1/\∀ x H',J.yld i H1 x H'->H'=H1/\bB K H1 d x)
  (hst:∀ S1 H1,Kp H H1->Hs K H1 S1->ok S1->J.stop ds.length H1):
  ∃ W:Nat->Nat->L2.St->Hp->Prop,(∃ m,W 0 m σ H)/\∀ i m σ H,W i m σ H->
   (J.stop i H/\N.nx σ H)\/(J.go i H/\∃ N':L2.St->Hp->Prop,(∀ σ' H',N' σ' H'->∃ m',m' < m/\W (i+1) m' σ' H')/\∀ x H',J.yld i H x H'->DR K gg x σ H' fun σ2 H2=>Ca K b {N with nx:=N',ct:=N',bk:=N.nx} σ2 H2):=by
 refine⟨λi m σ1 H1=>m=ds.length - i/\i<=ds.length/\∃ L1 S1,Lc K H1 L1 σ1/\Hs K H1 S1/\Kp H H1/\fJ ok gg b M (ds.drop i) L1 S1,⟨ds.length,by simp,Kd _,L,S,hL,hS,Kp.refl H,h⟩,?_⟩
 rintro i m σ1 H1 ⟨rfl,hi,L1,S1,hL1,hS1,k1,w1⟩
 by_cases hlt:i < ds.length
 ·have e:ds.drop i=ds[i]::ds.drop (i+1):=Kb hlt;rw [e] at w1;obtain⟨o1,w1⟩:=w1;obtain⟨g1,y1⟩:=hgo i ds[i] S1 H1 (by simp [hlt]) k1 hS1 o1
  refine .inr ⟨g1,fun σ' H'=>i+1<=ds.length/\∃ L' S',Lc K H' L' σ'/\Hs K H' S'/\Kp H H'/\fJ ok gg b M (ds.drop (i+1)) L' S',fun σ' H' z9=>by obtain⟨q1,q2⟩:=z9; exact⟨ds.length - (i+1),by omega,rfl,q1,q2⟩,λx H' y=>?_⟩
  obtain⟨rfl,ix⟩:=y1 x H' y;refine⟨ds[i],L1,S1,_,ix,hL1,hS1,w1,λL2 S2 σ2 H2 q k2 hL2 hS2=>⟨L2,S2,_,hL2,hS2,q,?_⟩⟩
  have r2:=r.kp (k1.trans k2);exact⟨λL3 S3 σ3 H3 q3 k3 hL3 hS3=>⟨hlt,L3,S3,hL3,hS3,(k1.trans k2).trans k3,q3⟩,r2.rt,r2.nx,λL3 S3 σ3 H3 q3 k3 hL3 hS3=>⟨hlt,L3,S3,hL3,hS3,(k1.trans k2).trans k3,q3⟩⟩
 ·have e:i=ds.length:=by omega
  subst e;rw [List.drop_length] at w1;obtain⟨o1,w1⟩:=w1;exact .inl ⟨hst S1 H1 k1 hS1 o1,r.nx L1 S1 σ1 H1 w1 k1 hL1 hS1⟩
def aI (S:DH):D->Ks (List D×Ks Kr)
 | .tup ds=>some (ds,none)
 | .rl ds=>some (ds,none)
 | .ref a=>(match S a with
  | some (.lst ds)=>some (ds,some a)
  | _=>none)
 | _=>none
def eG:List D×Ks Kr->DH->Prop
 | (_,none)=>λ_=>True
 | (ds,some a)=>λS=>S a=some (.lst ds)
theorem PI.imp {tg e:Kt} {w w':TI} (h:PI X tg e w) (i:∀ σ H R,w' σ H R->w σ H R):PI X tg e w':=λKE s σ H R I q=>h KE s σ H R I (i σ H R q)
def Hy (K:Fg) (t:TE):TI:=fun σ H R=>t σ H λx H1=>∃ a,x=.ref a/\(((∃ xs,eQ K H1 a xs)/\R (F0 K a) H1)\/((∃ xs,gZ K H1 a xs)/\R (F3 K a) H1))
theorem rV {tg l:Kt} {tl:TE} (hl:PE X l tl):PI X tg l (Hy X.K tl):=by
 intro KE s σ H R I h;refine be (hl KE s σ H _ I h) λv s1 z9=>?_
 obtain⟨x,H1,I1,r1,q1⟩:=z9;obtain⟨a,e,q1⟩:=q1;subst e;cases r1;rcases q1 with ⟨⟨xs,hq⟩,q⟩ | ⟨⟨xs,hq⟩,q⟩
 ·obtain⟨its,rv,p,hz⟩:=I1.list hq;refine wpAny_pyIter_list p.isList ?_;refine⟨s1.heap.objs.size,[s1.heap.objs.size],_,_,H1,rfl,I1.kept (t':=s1.toks) λb o e=>pp _ e,xo a _,⟨_,JC _ rfl,rfl,rfl⟩,λb hb=>?_,q⟩
  have e:b=s1.heap.objs.size:=by simpa using hb
  subst e;exact I1.fpOk (JE _) (I1.hok.fresh (JE _))
 ·obtain⟨its,rv,p,hz⟩:=I1.tuple hq;refine wpAny_pyIter_tuple (show s1.heap.IsTuple a its.toArray from p) ?_
  refine⟨s1.heap.objs.size,[s1.heap.objs.size],_,_,H1,rfl,I1.kept (t':=s1.toks) λb o e=>pp _ e,vU a _,⟨_,JC _ rfl,rfl,rfl⟩,λb hb=>?_,q⟩
  have e:b=s1.heap.objs.size:=by simpa using hb
  subst e;exact I1.fpOk (JE _) (I1.hok.fresh (JE _))
def FR (ta:DA) (g:DG) (b:DS):DS:=λM L S=>ta L S λds S1=>match ds with
 | [.int n]=>(-(2 ^ 62)<=n/\n < 2 ^ 62)/\fJ (λ_=>True) g b M ((List.range n.toNat).map λi=>D.int (i:Nat)) L S1
 | _=>False
end
section
variable {P:Ku} {w:Kw} {K:Fg} {mg:Str->Ks Kq} {base:Kx}
theorem _root_.L2.xJ.okD {x KF:Str} {st:Ky} {f:Kr} {fd:FuncData} {N ps:List Str} {k:Nat} {F:bE} (Fn:xJ K x KF st f fd) (Sc:ao N ps (aj st)) (len:∀ ds S k,F ds S k->ds.length=ps.length)
  (hbody:∀ (cdv:Kq) (A:Kv) (outer:List Env) (s:Ko) (H:Hp) (E:XK),cA k (A.deeper (envOfC KF (aj st) s.heap.objs.size f cdv))->
   ∃ g,qH (tL b8 P w K mg base N KF (aj st) f cdv A outer s H E).nox (cP st) (Ca K g)/\
    ∀ ds S k,F ds S k->g {nx:=λ_ S'=>k .non S',rt:=k} (ds.map some++List.replicate (N.length - ps.length) none) S):aQ P w K mg base b8 (k+1) f fd ps (ce K F):=by
 refine Fn.ok Sc (λvs H Q E h=>?_) (λcdv A outer s H vs Q E hr h=>?_)
 ·obtain⟨ds,S,k,i,_,q,_⟩:=h;rw [<- i.length];exact len ds S k q
 ·obtain⟨g,hg,q⟩:=hbody cdv A outer s H E hr;obtain⟨ds,S,k',i,hS,h,n⟩:=h;refine⟨_,hg,ds.map some++List.replicate (N.length - ps.length) none,S,_,?_,hS,q ds S k' h,?_⟩
  ·unfold L2.start;rw [<- i.length,len ds S k' h];exact Lc.start _ i
  ·exact⟨λL S' σ H' h1 k1 _ hS'=>n _ S' _ H' h1 k1 hS' (b7.mpr rfl),λd S' v H' h1 k1 hS' i1=>n d S' v H' h1 k1 hS' i1,λ_ _ _ _ h1=>h1.elim,λ_ _ _ _ h1=>h1.elim⟩
theorem bc.mk' {x KF:Str} {st:Ky} {f:Kr} {fd:FuncData} {ps:List Str} {n:Nat} {F:bE} (Fn:xJ K x KF st f fd) (h:aQ P w K mg base b8 n f fd ps (ce K F)) (hm:mg x=some (.ref f)) (hb:o_ K fd ps []):bc P w K mg base x n F:=
 ⟨f,fd,ps,h,hm,Fn.kp,hb⟩
end
end DL
namespace DL
open PySem PySem.Spec PyProof.Rows L2 HM
theorem Dh {K:Fg} {H:Hp} {a:Kr} {ns:List Int} {F:bE} {E:XK} (ho:Bj H) (hS:eQ K H a (ns.map V.int)) (h:F [.rl (ns.map D.int)] (λ_=>none) (λd _=>d=.bl true)):ce K F [.ref a] H (λv _=>v=.bl true) E:=by
 refine⟨[.rl (ns.map D.int)],λ_=>none,λd _=>d=.bl true,IsDs.cons (uc.mpr ⟨a,ns.map V.int,rfl,?_,?_⟩) IsDs.nil,λa o e=>(by cases e),h,λd' S' v H' e _ _ i=>?_⟩
 ·rcases hS with (h1 | h1) | h1
  ·rcases ho a with z | ⟨o,xs,z⟩
   ·rw [z] at h1; cases h1
   ·rw [z] at h1; cases h1
  ·exact .inl h1
  ·exact .inr h1
 ·clear h hS
  induction ns with
  | nil=>exact IsDs.nil
  | cons n ns ih=>exact IsDs.cons (isInt.mpr rfl) ih
 ·subst e;exact aT.mp i
theorem uI {m n:Nat} {x y:Int} (hx:Bt m x) (hy:Bt n y) (h:m+n<=134217728:=by decide):IntMulOk x y:=IntMulOk.of_le (intBits_le_iff.mpr hx) (intBits_le_iff.mpr hy) h
theorem Bx {m:Nat} {y:Int} (h0:y≠0) (hy:Bt m y) (h:m<=9000:=by decide):qB x y:=⟨h0,(Nat.log2_lt (by omega)).mpr (hy.mono h)⟩
def pr (a b:Int):D:=.tup [.int a,.int b]
def fr (q:Rat):D:=pr q.num (q.den:Int)
end DL
namespace DL
theorem bq {x:D} {r:List D}:L2.atI (x::r) 0=some x:=L2.e_ (j:=0) rfl
theorem mJ {x y:D} {r:List D}:L2.atI (x::y::r) 1=some y:=L2.e_ (j:=1) rfl
theorem By {x y z:D} {r:List D}:L2.atI (x::y::z::r) 2=some z:=L2.e_ (j:=2) rfl
theorem C' {x y z u:D} {r:List D}:L2.atI (x::y::z::u::r) 3=some u:=L2.e_ (j:=3) rfl
theorem FC {n:Nat}:L2.yl (n+1) 0=some 0:=by
 unfold L2.yl;rw [if_pos (by decide),if_pos (by omega)]
 rfl
end DL
namespace DL
open PySem PySem.Spec PyProof.Rows L2
def Bk:D->D->Ks KA
 | .int i,.int j=>some (i == j)
 | .bl i,.bl j=>some (i == j)
 | .str i,.str j=>some (i == j)
 | .non,.non=>some true
 | .non,.int _=>some false
 | .int _,.non=>some false
 | .non,.bl _=>some false
 | .bl _,.non=>some false
 | .bl a,.int j=>some ((if a then 1 else 0) == j)
 | .int i,.bl b=>some (i == (if b then 1 else 0))
 | _,_=>none
def gD (f:D->D->Ks KA):List D->List D->Ks KA
 | [],[]=>some true
 | [],_::_=>some false
 | _::_,[]=>some false
 | x::xs,y::ys=>match f x y,gD f xs ys with
  | some a,some b=>some (a && b)
  | _,_=>none
def gY:Nat->D->D->Ks KA
 | 0,d,e=>Bk d e
 | n+1,.tup xs,.tup ys=>gD (gY n) xs ys
 | _+1,d,e=>Bk d e
theorem o8 (n:Nat) (d e:D):gY (n+1) d e=(match d,e with | .tup xs,.tup ys=>gD (gY n) xs ys | d,e=>Bk d e):=by
 cases d <;> cases e <;> rfl
def hV (f:D->D->Ks KA):List D->List D->Nat->KA
 | x::_,y::_,0=>(f x y).getD false
 | _::xs,_::ys,j+1=>hV f xs ys j
 | _,_,_=>false
theorem z8 (e:Nat->KA) (m:Nat):(List.range (m+1)).all e=(e 0 && (List.range m).all λj=>e (j+1)):=by
 rw [List.range_succ_eq_map,List.all_cons,List.all_map]
 rfl
theorem li {f:D->D->Ks KA}:∀ {xs ys:List D} {b:KA},gD f xs ys=some b->((List.range (min xs.length ys.length)).all (hV f xs ys) && xs.length == ys.length)=b
 | [],[],b,h=>by unfold gD at h; cases h; rfl
 | [],_::_,b,h=>by unfold gD at h; cases h; simp
 | _::_,[],b,h=>by unfold gD at h; cases h; simp
 | x::xs,y::ys,b,h=>by
  unfold gD at h
  split at h
  ·rename_i a c e1 e2
   cases h;have ih:=li e2;rw [JQ,JQ,Nat.succ_min_succ,z8];have e3:hV f (x::xs) (y::ys) 0=a:=by unfold hV; rw [e1]; rfl
   rw [e3,Bool.and_assoc];have e4:(λj=>hV f (x::xs) (y::ys) (j+1))=hV f xs ys:=by funext j; rfl
   rw [e4];have e5:(xs.length+1 == ys.length+1)=(xs.length == ys.length):=by simp
   rw [e5,ih]
  ·cases h
theorem oq {f:D->D->Ks KA}:∀ {xs ys:List D} {b:KA} {j:Nat} {x y:D},gD f xs ys=some b->xs[j]?=some x->ys[j]?=some y->f x y=some (hV f xs ys j)
 | [],_,_,_,_,_,_,e,_=>by simp at e
 | _::_,[],_,_,_,_,_,_,e=>by simp at e
 | x::xs,y::ys,b,0,x',y',h,e1,e2=>by
  simp at e1 e2
  subst e1; subst e2
  unfold gD at h
  split at h
  ·rename_i a c q1 q2
   unfold hV;rw [q1]
   rfl
  ·cases h
 | x::xs,y::ys,b,j+1,x',y',h,e1,e2=>by
  unfold gD at h
  split at h
  ·rename_i a c q1 q2
   unfold hV;exact oq q2 (by simpa using e1) (by simpa using e2)
  ·cases h
section
variable {X:Cx} {KE:List (Kr×KD)} {σ:L2.St} {H:Hp} {s:Ko}
theorem lK {K:Fg} {ds es:List D} {xs ys:List V} {us ws:List Kq} {j:Nat} (i1:IsDs K H ds xs) (i2:IsDs K H es ys) (r1:aW xs us) (r2:aW ys ws) (h1:j < us.length) (h2:j < ws.length):
  ∃ d e x y,ds[j]?=some d/\es[j]?=some e/\bB K H d x/\bB K H e y/\aV x us[j]/\aV y ws[j]:=by
 have l1:=i1.length;have l2:=i2.length;have l3:=r1.length;have l4:=r2.length;have e1:ds[j]?=some ds[j]:=by simp [show j < ds.length by omega]
 have e2:es[j]?=some es[j]:=by simp [show j < es.length by omega]
 obtain⟨x,q1,d1⟩:=i1.get e1;obtain⟨y,q2,d2⟩:=i2.get e2;obtain⟨u,q3,rx⟩:=r1.get q1;obtain⟨w,q4,ry⟩:=r2.get q2;have f1:us[j]=u:=(J3.mp q3).2;have f2:ws[j]=w:=(J3.mp q4).2;exact⟨_,_,x,y,e1,e2,d1,d2,by rw [f1]; exact rx,by rw [f2]; exact ry⟩
theorem yp {K:Fg} {A:Kv} {d e:D} {x y:V} {u w:Kq} {b:KA} (h:Bk d e=some b) (i1:bB K H d x) (i2:bB K H e y) (rx:aV x u) (ry:aV y w):SeqAt.EqAt A s u w b/\SeqAt.RcAt A s u w b:=by
 unfold Bk at h
 split at h
 ·cases h; rw [isInt.mp i1] at rx; rw [isInt.mp i2] at ry; obtain⟨t,rfl⟩:=rx; obtain⟨t',rfl⟩:=ry; exact⟨(SeqAt.EqAt.int_int _ _ _ _),(SeqAt.RcAt.int_int _ _ _ _)⟩
 ·cases h; rw [aT.mp i1] at rx; rw [aT.mp i2] at ry; cases rx; cases ry; exact⟨(SeqAt.EqAt.bool_bool _ _),(SeqAt.RcAt.bool_bool _ _)⟩
 ·cases h; rw [aY.mp i1] at rx; rw [aY.mp i2] at ry; obtain⟨t,rfl⟩:=rx; obtain⟨t',rfl⟩:=ry; exact⟨(SeqAt.EqAt.str_str _ _ _ _),(SeqAt.RcAt.str_str _ _ _ _)⟩
 ·cases h; rw [b7.mp i1] at rx; rw [b7.mp i2] at ry; cases rx; cases ry; exact⟨SeqAt.EqAt.same _,SeqAt.RcAt.none_none⟩
 ·cases h; rw [b7.mp i1] at rx; rw [isInt.mp i2] at ry; cases rx; obtain⟨t',rfl⟩:=ry; exact⟨(SeqAt.EqAt.none_int _ _),(SeqAt.RcAt.none_int _ _)⟩
 ·cases h; rw [isInt.mp i1] at rx; rw [b7.mp i2] at ry; obtain⟨t,rfl⟩:=rx; cases ry; exact⟨(SeqAt.EqAt.int_none _ _),(SeqAt.RcAt.int_none _ _)⟩
 ·cases h; rw [b7.mp i1] at rx; rw [aT.mp i2] at ry; cases rx; cases ry; exact⟨(SeqAt.EqAt.none_bool _),(SeqAt.RcAt.none_bool _)⟩
 ·cases h; rw [aT.mp i1] at rx; rw [b7.mp i2] at ry; cases rx; cases ry; exact⟨(SeqAt.EqAt.bool_none _),(SeqAt.RcAt.bool_none _)⟩
 ·cases h; rw [aT.mp i1] at rx; rw [isInt.mp i2] at ry; cases rx; obtain⟨t',rfl⟩:=ry; exact⟨(SeqAt.EqAt.bool_int _ _ _),(SeqAt.RcAt.bool_int _ _ _)⟩
 ·cases h; rw [isInt.mp i1] at rx; rw [aT.mp i2] at ry; obtain⟨t,rfl⟩:=rx; cases ry; exact⟨(SeqAt.EqAt.int_bool _ _ _),(SeqAt.RcAt.int_bool _ _ _)⟩
 ·cases h
theorem tX {K:Fg} {d e:D} {x:V} {b:KA} (h:Bk d e=some b) (i1:bB K H d x) (i2:bB K H e x):b=true:=by
 unfold Bk at h
 split at h
 ·cases h; have e1:=isInt.mp i1; have e2:=isInt.mp i2; rw [e1] at e2; cases e2; simp
 ·cases h; have e1:=aT.mp i1; have e2:=aT.mp i2; rw [e1] at e2; cases e2; simp
 ·cases h; have e1:=aY.mp i1; have e2:=aY.mp i2; rw [e1] at e2; cases e2; simp
 ·cases h; rfl
 ·have e1:=b7.mp i1; have e2:=isInt.mp i2; rw [e1] at e2; cases e2
 ·have e1:=isInt.mp i1; have e2:=b7.mp i2; rw [e1] at e2; cases e2
 ·have e1:=b7.mp i1; have e2:=aT.mp i2; rw [e1] at e2; cases e2
 ·have e1:=aT.mp i1; have e2:=b7.mp i2; rw [e1] at e2; cases e2
 ·have e1:=aT.mp i1; have e2:=isInt.mp i2; rw [e1] at e2; cases e2
 ·have e1:=isInt.mp i1; have e2:=aT.mp i2; rw [e1] at e2; cases e2
 ·cases h
theorem hU {K:Fg} {f:D->D->Ks KA} (hf:∀ d e x b,f d e=some b->bB K H d x->bB K H e x->b=true):∀ {ds es:List D} {xs:List V} {b:KA},gD f ds es=some b->IsDs K H ds xs->IsDs K H es xs->b=true
 | [],[],_,_,h,_,_=>by unfold gD at h; cases h; rfl
 | [],_::_,_,_,_,i1,i2=>by
  have e1:=eJ.mp i1;obtain⟨v,r,e2,_⟩:=bC.mp i2;rw [e1] at e2; cases e2
 | _::_,[],_,_,_,i1,i2=>by
  have e1:=eJ.mp i2;obtain⟨v,r,e2,_⟩:=bC.mp i1;rw [e1] at e2; cases e2
 | d::ds,e::es,xs,b,h,i1,i2=>by
  obtain⟨v,r,e1,h1,h2⟩:=bC.mp i1;obtain⟨v',r',e2,h3,h4⟩:=bC.mp i2;rw [e1] at e2;cases e2;unfold gD at h
  split at h
  ·rename_i a c q1 q2
   cases h;rw [hf _ _ _ _ q1 h1 h3,hU hf q2 h2 h4]
   rfl
  ·cases h
theorem uA (I:aE X KE σ H s):∀ (n:Nat) (d e:D) (x:V) (b:KA),gY n d e=some b->bB X.K H d x->bB X.K H e x->b=true
 | 0,d,e,x,b,h,i1,i2=>tX (by unfold gY at h; exact h) i1 i2
 | n+1,d,e,x,b,h,i1,i2=>by
  rw [o8] at h
  split at h
  ·rename_i xs ys
   obtain⟨a,vs,e1,t1,j1⟩:=bw.mp i1;obtain⟨a',vs',e2,t2,j2⟩:=bw.mp i2;rw [e1] at e2;cases e2;have q:=I.tuple_inj t1 t2;subst q;exact hU (λd e x b=>uA I n d e x b) h j1 j2
  ·exact tX h i1 i2
theorem mM (I:aE X KE σ H s):∀ (n:Nat) (A:Kv) (d e:D) (x y:V) (u w:Kq) (b:KA),A.units+n < cLine->gY n d e=some b->bB X.K H d x->bB X.K H e y->aV x u->aV y w->SeqAt.EqAt A s u w b/\SeqAt.RcAt A s u w b
 | 0,A,d,e,x,y,u,w,b,hu,h,i1,i2,rx,ry=>yp (by unfold gY at h; exact h) i1 i2 rx ry
 | n+1,A,d,e,x,y,u,w,b,hu,h,i1,i2,rx,ry=>by
  have h0:=h;rw [o8] at h
  split at h
  ·rename_i xs ys
   obtain⟨p,vs,rfl,t1,j1⟩:=bw.mp i1;obtain⟨q,vs',rfl,t2,j2⟩:=bw.mp i2;cases rx;cases ry;obtain⟨us,r1,p1,_⟩:=I.tuple t1;obtain⟨ws,r2,p2,_⟩:=I.tuple t2;have l1:=j1.length;have l2:=j2.length;have l3:=r1.length;have l4:=r2.length;have rc:SeqAt.RcAt A s (.ref p) (.ref q) b:=by
    have e:=li h;have z:=SeqAt.RcAt.tuples (A:=A) (s:=s) (items:=us.toArray) (items2:=ws.toArray) (e:=hV (gY n) xs ys) (show s.heap.IsTuple p us.toArray from p1) (show s.heap.IsTuple q ws.toArray from p2) (by omega) (λj h1 h2=>by
     simp only [JI] at h1 h2
     obtain⟨d,e,x,y,q1,q2,d1,d2,rx,ry⟩:=lK j1 j2 r1 r2 h1 h2;have:=(mM I n A.in1 d e x y us[j] ws[j] _ (by show A.units+1+n < cLine; omega) (oq h q1 q2) d1 d2 rx ry).1
     simpa using this)
    simp only [JI] at z;rw [<- l3,<- l4,<- l1,<- l2,e] at z;exact z
   refine⟨?_,rc⟩
   by_cases hpq:p=q
   ·subst hpq;have:=uA I (n+1) _ _ _ _ h0 i1 i2;subst this;exact SeqAt.EqAt.same _
   ·exact SeqAt.EqAt.of_refs hpq rc
  ·exact yp h i1 i2 rx ry
theorem AY {K:Fg} {A:Kv} {d e:D} {x y:V} {u w:Kq} {b:KA} (h:Bk d e=some b) (i1:bB K H d x) (i2:bB K H e y) (rx:aV x u) (ry:aV y w):SeqAt.RcNeAt A s u w (!b):=by
 unfold Bk at h
 split at h
 ·cases h; rw [isInt.mp i1] at rx; rw [isInt.mp i2] at ry; obtain⟨t,rfl⟩:=rx; obtain⟨t',rfl⟩:=ry; exact(SeqAt.RcNeAt.int_int _ _ _ _)
 ·cases h; rw [aT.mp i1] at rx; rw [aT.mp i2] at ry; cases rx; cases ry; exact(SeqAt.RcNeAt.bool_bool _ _)
 ·cases h; rw [aY.mp i1] at rx; rw [aY.mp i2] at ry; obtain⟨t,rfl⟩:=rx; obtain⟨t',rfl⟩:=ry; exact(SeqAt.RcNeAt.str_str _ _ _ _)
 ·cases h; rw [b7.mp i1] at rx; rw [b7.mp i2] at ry; cases rx; cases ry; exact SeqAt.RcNeAt.none_none
 ·cases h; rw [b7.mp i1] at rx; rw [isInt.mp i2] at ry; cases rx; obtain⟨t',rfl⟩:=ry; exact(SeqAt.RcNeAt.none_int _ _)
 ·cases h; rw [isInt.mp i1] at rx; rw [b7.mp i2] at ry; obtain⟨t,rfl⟩:=rx; cases ry; exact(SeqAt.RcNeAt.int_none _ _)
 ·cases h; rw [b7.mp i1] at rx; rw [aT.mp i2] at ry; cases rx; cases ry; exact(SeqAt.RcNeAt.none_bool _)
 ·cases h; rw [aT.mp i1] at rx; rw [b7.mp i2] at ry; cases rx; cases ry; exact(SeqAt.RcNeAt.bool_none _)
 ·cases h; rw [aT.mp i1] at rx; rw [isInt.mp i2] at ry; cases rx; obtain⟨t',rfl⟩:=ry; exact(SeqAt.RcNeAt.bool_int _ _ _)
 ·cases h; rw [isInt.mp i1] at rx; rw [aT.mp i2] at ry; obtain⟨t,rfl⟩:=rx; cases ry; exact(SeqAt.RcNeAt.int_bool _ _ _)
 ·cases h
theorem E3 (I:aE X KE σ H s) (n:Nat) (A:Kv) (d e:D) (x y:V) (u w:Kq) (b:KA) (hu:A.units+n < cLine) (h:gY n d e=some b) (i1:bB X.K H d x) (i2:bB X.K H e y) (rx:aV x u) (ry:aV y w):SeqAt.RcNeAt A s u w (!b):=by
 cases n with
 | zero=>exact AY (by unfold gY at h; exact h) i1 i2 rx ry
 | succ n=>
  rw [o8] at h
  split at h
  ·rename_i xs ys
   obtain⟨p,vs,rfl,t1,j1⟩:=bw.mp i1;obtain⟨q,vs',rfl,t2,j2⟩:=bw.mp i2;cases rx;cases ry;obtain⟨us,r1,p1,_⟩:=I.tuple t1;obtain⟨ws,r2,p2,_⟩:=I.tuple t2;have l1:=j1.length;have l2:=j2.length;have l3:=r1.length;have l4:=r2.length;have e:=li h;have z:=SeqAt.RcNeAt.tuples (A:=A) (s:=s) (items:=us.toArray) (items2:=ws.toArray) (e:=hV (gY n) xs ys) (show s.heap.IsTuple p us.toArray from p1) (show s.heap.IsTuple q ws.toArray from p2) (by omega) (λj h1 h2=>by
    simp only [JI] at h1 h2
    obtain⟨d,e,x,y,q1,q2,d1,d2,rx,ry⟩:=lK j1 j2 r1 r2 h1 h2;have:=(mM I n A.in1 d e x y us[j] ws[j] _ (by show A.units+1+n < cLine; omega) (oq h q1 q2) d1 d2 rx ry).1
    simpa using this)
   simp only [JI] at z;rw [<- l3,<- l4,<- l1,<- l2,e] at z;exact z
  ·exact AY h i1 i2 rx ry
end
structure EJ (X:Cx) (e:Kt) (g:DE):Prop where
 h:PE X e (up X.K g)
structure TJ (X:Cx) (e:Kt) (g:DT):Prop where
 h:PT X e (sV X.K g)
structure WJ (X:Cx) (e:Kt) (g:DT):Prop where
 h:PW X e (sV X.K g)
structure AJ (X:Cx) (e:List Kt) (g:DA):Prop where
 h:PA X e (q9 X.K g)
structure SJ (X:Cx) (e:Ky) (g:DS):Prop where
 h:PS X e (Ca X.K g)
structure xt (X:Cx) (e:List Ky) (g:DS):Prop where
 h:qH X e (Ca X.K g)
structure GJ (X:Cx) (e:Kt) (g:DG):Prop where
 h:PG X e (DR X.K g)
structure Hd (X:Cx) (e:List Kt) (g:A2):Prop where
 h:yt X e (HW X.K g)
structure OJ (X:Cx) (e:Ks Kt) (g:A6):Prop where
 h:PO X e (Jv X.K g)
theorem WJ.pt {X:Cx} {e:Kt} {g:DT} (h:WJ X e g):TJ X e g:=⟨PW.pt h.h⟩
section
variable {X:Cx} {a b c:Kt} {ga gb gc:DE} {pos:Pos}
theorem af (i:Nat) {x:Str} (hN:X.N[i]?=some x:=by rfl) (hv:Ge X.env.scope x:=by first | exact Or.inl rfl | exact Or.inr (Or.inl rfl) | exact Or.inr (Or.inr rfl)) (hd:(x == ("__debug__":Str))=false:=by decide) (hcd:(x == ("__classdict__":Str))=false:=by decide):EJ X (.Name x pos) (cL i):=⟨PE.imp (Dw hN hv hd hcd) fun σ H Q ⟨L,S,k,hL,hS,h,n⟩=>by
  unfold cL at h
  split at h
  ·rename_i d e
   obtain⟨v,e1,e2⟩:=hL.get e;exact⟨v,e1,n d S v H h (Kp.refl H) hS e2⟩
  ·exact h.elim⟩
theorem ae {i j pos}:EJ X (.Constant (.int i) j pos) (dC (.int i)):=⟨CI Dg λ_=>isInt.mpr rfl⟩
theorem cn {i j pos}:EJ X (.Constant (.bool i) j pos) (dC (.bl i)):=⟨CI GP λ_=>aT.mpr rfl⟩
theorem ji {j pos}:EJ X (.Constant .none j pos) (dC .non):=⟨CI EY λ_=>b7.mpr rfl⟩
theorem aH {i j pos}:EJ X (.Constant (.str i) j pos) (dC (.str i)):=⟨CI DX λ_=>aY.mpr rfl⟩
theorem g7 {x:Str} {n:Ty} (hg:Gl X x) (hm:X.mg x=none) (hv:bootBuiltins x=some (.type n.name)) (hn:x≠"__name__":=by decide) (hd:(x == ("__debug__":Str))=false:=by decide):EJ X (.Name x pos) (dC (.ty n)):=⟨CI (Cc (v:=.ty n.name) hg hm hv rfl hn hd) λ_=>yW.mpr rfl⟩
theorem ac:AJ X [] mx:=⟨PA.imp zJ fun σ H Q z9=>by obtain⟨L,S,k,hL,hS,h,n⟩:=z9; exact n [] S [] H h (Kp.refl H) hS IsDs.nil⟩
theorem aa {es:List Kt} {t:DA} (ha:EJ X a ga) (hr:AJ X es t) (hs:starEach (a::es) X.env=(false,eval a X.env)::starEach es X.env:=by exact cO rfl):AJ X (a::es) (eW ga t):=⟨have ha:=ha.h; have hr:=hr.h; PA.imp (xf ha hr hs) fun σ H Q ⟨L,S,k,hL,hS,h,n⟩=>up.go hL hS h λd S1 v H1 h1 k1 hL1 hS1 i1=>q9.go hL1 hS1 h1 λds S2 vs H2 h2 k2 hL2 hS2 i2=>
  n (d::ds) S2 (v::vs) H2 h2 (k1.trans k2) hS2 (IsDs.cons (i1.kp k2) i2)⟩
theorem aG {X:Cx} {x:Str} {pos:Pos} {es:List Kt} {t:DA} (n:Nat) (hr:AJ X es t) (hN:X.N[n]?=some x:=by rfl) (hv:Ge X.env.scope x:=by first | exact Or.inl rfl | exact Or.inr (Or.inl rfl) | exact Or.inr (Or.inr rfl)) (hd:(x == ("__debug__":Str))=false:=by decide) (hcd:(x == ("__classdict__":Str))=false:=by decide) (hs:starEach (.Name x pos::es) X.env=(false,eval (.Name x pos) X.env)::starEach es X.env:=by exact cO rfl):AJ X (.Name x pos::es) (eW (cL n) t):=aa (af n hN hv hd hcd) hr hs
theorem aC {es:List Kt} {x1} {t:DA} (h:AJ X es t):EJ X (.Tuple es x1 pos) (C0 t):=⟨have h:=h.h; PE.imp (Eu h) fun σ H Q ⟨L,S,k,hL,hS,h,n⟩=>q9.go hL hS h λds S1 vs H1 h1 k1 hL1 hS1 i1=>by
  refine⟨by rw [<- i1.length]; exact h1.1,λp hp=>?_⟩
  have k2:Kp H1 (br H1 p (.tup vs)):=Kp.new hp;exact n (.tup ds) S1 _ _ h1.2 (k1.trans k2) (hS1.new hp) (bw.mpr ⟨p,vs,rfl,gZ.of bo,i1.kp k2⟩)⟩
theorem cm {es:List Kt} {t:DA} (h:AJ X es t):EJ X (.List es pos) (Iw t):=⟨have h:=h.h; PE.imp (DZ h) fun σ H Q ⟨L,S,k,hL,hS,h,n⟩=>q9.go hL hS h λds S1 vs H1 h1 k1 hL1 hS1 i1=>by
  refine⟨by rw [<- i1.length]; exact h1.1,λp hp=>?_⟩
  exact n (.ref p) _ _ _ (h1.2 p (hS1.free hp)) (k1.trans (Kp.new hp)) (hS1.newL hp i1) (aU.mpr rfl)⟩
theorem aB {op:Operator} {r:D2} (ho:cS X (binaryOp op) (fh X.K r)) (ha:EJ X a ga) (hb:EJ X b gb):EJ X (.BinOp a op b pos) (wP r ga gb):=⟨have ha:=ha.h; have hb:=hb.h; PE.imp (GQ ho ha hb) rK⟩
theorem ca {op:CmpOp} {r:D2} (ho:cS X (compareOp op) (fh X.K r)) (ha:EJ X a ga) (hb:EJ X b gb) (hm:behindInMarks op b=false):EJ X (.Compare a [op] [b] pos) (wP r ga gb):=⟨have ha:=ha.h; have hb:=hb.h; PE.imp (BV ho ha hb hm) rK⟩
theorem aD {r:D2} (hr:xR X (fh X.K r)) (ha:EJ X a ga) (hb:EJ X b gb) (hs:wx b):EJ X (.Subscript a b pos) (wP r ga gb):=⟨have ha:=ha.h; have hb:=hb.h; PE.imp (GA hr ha hb hs) rK⟩
theorem rj {op:UnaryOp} {r:D1} (ho:Gj X (unaryOp op) (IR X.K r)) (ha:EJ X a ga):EJ X (.UnaryOp op a pos) (Hq r ga):=⟨have ha:=ha.h; PE.imp (Hm ho ha) fun σ H Q z9=>by obtain⟨L,S,k,hL,hS,h,n⟩:=z9; exact up.go hL hS h λd S1 v H1 h1 k1 hL1 hS1 i1=>⟨d,S1,k,i1,hS1,h1,λd' S' v H' q k3 z1 z2=>n d' S' v H' q (k1.trans k3) z1 z2⟩⟩
theorem au {op:CmpOp} {r:D2} (ho:cS X (compareOp op) (fh X.K r)) (ha:EJ X a ga) (hb:EJ X b gb) (hm:behindInMarks op b=false):TJ X (.Compare a [op] [b] pos) (g_ (wP r ga gb)):=⟨have ha:=ha.h; have hb:=hb.h; PT.imp (PT.imp (BF ho ha hb hm) fun σ H Q h=>rK σ H _ h) ue⟩
theorem aK {e:Kt} {g:DE} (h:EJ X e g) (he:∀ whole,isTrue e X.env whole=(do let v <- whole; standAt e.pos; holding [v] (truthy v)):=by intro _; rfl):TJ X e (g_ g):=⟨have h:=h.h; PT.imp (C2 h he) ue⟩
end
section
variable {X:Cx} {a b c:Kt} {ga gb gc:DE} {pos:Pos}
variable {tA tB':DT} {bh:List Kt}
theorem fG (ha:TJ X a tA):WJ X (.BoolOp .And [a] pos) tA:=⟨have ha:=ha.h; BR ha⟩
theorem bI (ha:TJ X a tA):WJ X (.BoolOp .Or [a] pos) tA:=⟨have ha:=ha.h; Do ha⟩
theorem iA (ha:TJ X a tA) (hb:WJ X (.BoolOp .And (b::bh) pos) tB'):WJ X (.BoolOp .And (a::b::bh) pos) (Cu tA tB'):=⟨have ha:=ha.h; have hb:=hb.h; PW.imp (C8 ha hb) fun σ H Q ⟨L,S,k,hL,hS,h,n⟩=>sV.go hL hS h λc S1 H1 h1 k1 hL1 hS1=>by
  cases c with
  | true=>
   rw [if_pos rfl] at h1 ⊢;exact sV.go hL1 hS1 h1 λc2 S2 H2 h2 k2 _ hS2=>n c2 S2 H2 h2 (k1.trans k2) hS2
  | false=>
   rw [if_neg JH] at h1 ⊢;exact n false S1 H1 h1 k1 hS1⟩
theorem b_ (ha:TJ X a tA) (hb:WJ X (.BoolOp .Or (b::bh) pos) tB'):WJ X (.BoolOp .Or (a::b::bh) pos) (GS tA tB'):=⟨have ha:=ha.h; have hb:=hb.h; PW.imp (GW ha hb) fun σ H Q ⟨L,S,k,hL,hS,h,n⟩=>sV.go hL hS h λc S1 H1 h1 k1 hL1 hS1=>by
  cases c with
  | true=>
   rw [if_pos rfl] at h1 ⊢;exact n true S1 H1 h1 k1 hS1
  | false=>
   rw [if_neg JH] at h1 ⊢;exact sV.go hL1 hS1 h1 λc2 S2 H2 h2 k2 _ hS2=>n c2 S2 H2 h2 (k1.trans k2) hS2⟩
theorem aZ (ha:TJ X a tA):TJ X (.UnaryOp .Not a pos) (AB tA):=⟨have ha:=ha.h; PT.imp (EX ha) fun σ H Q z9=>by obtain⟨L,S,k,hL,hS,h,n⟩:=z9; exact sV.go hL hS h λc S1 H1 h1 k1 hL1 hS1=>n _ S1 H1 h1 k1 hS1⟩
theorem dI {op} (h:EJ X a ga):EJ X (.BoolOp op [a] pos) ga:=⟨have h:=h.h; DJ h⟩
theorem dU (ha:EJ X a ga) (hb:EJ X (.BoolOp .And (b::bh) pos) gb):EJ X (.BoolOp .And (a::b::bh) pos) (FV ga gb):=⟨have ha:=ha.h; have hb:=hb.h; PE.imp (Ep ha hb) fun σ H Q ⟨L,S,k,hL,hS,h,n⟩=>up.go hL hS h λd S1 v H1 h1 k1 hL1 hS1 i1=>by
  cases d with
  | bl c=>
   have e:=aT.mp i1;subst e;refine⟨c,rfl,?_⟩;have h1:if c=true then _ else _:=h1
   cases c with
   | true=>
    rw [if_pos rfl] at h1 ⊢;exact up.go hL1 hS1 h1 λd2 S2 v2 H2 h2 k2 _ hS2 i2=>n d2 S2 v2 H2 h2 (k1.trans k2) hS2 i2
   | false=>
    rw [if_neg JH] at h1 ⊢;exact n _ S1 _ H1 h1 k1 hS1 (aT.mpr rfl)
  | _=>exact(show False from h1).elim⟩
theorem Cv (ha:EJ X a ga) (hb:EJ X (.BoolOp .Or (b::bh) pos) gb):EJ X (.BoolOp .Or (a::b::bh) pos) (Io ga gb):=⟨have ha:=ha.h; have hb:=hb.h; PE.imp (GK ha hb) fun σ H Q ⟨L,S,k,hL,hS,h,n⟩=>up.go hL hS h λd S1 v H1 h1 k1 hL1 hS1 i1=>by
  cases d with
  | bl c=>
   have e:=aT.mp i1;subst e;refine⟨c,rfl,?_⟩;have h1:if c=true then _ else _:=h1
   cases c with
   | true=>
    rw [if_pos rfl] at h1 ⊢;exact n _ S1 _ H1 h1 k1 hS1 (aT.mpr rfl)
   | false=>
    rw [if_neg JH] at h1 ⊢;exact up.go hL1 hS1 h1 λd2 S2 v2 H2 h2 k2 _ hS2 i2=>n d2 S2 v2 H2 h2 (k1.trans k2) hS2 i2
  | _=>exact(show False from h1).elim⟩
theorem yN (ha:EJ X a ga):EJ X (.UnaryOp .Not a pos) (Hi ga):=⟨have ha:=ha.h; PE.imp (Ek ha) fun σ H Q ⟨L,S,k,hL,hS,h,n⟩=>up.go hL hS h λd S1 v H1 h1 k1 hL1 hS1 i1=>by
  cases d with
  | bl c=>
   have e:=aT.mp i1;subst e;exact⟨c,rfl,n _ S1 _ H1 h1 k1 hS1 (aT.mpr rfl)⟩
  | _=>exact(show False from h1).elim⟩
theorem oX {c:Kt} (hc:TJ X c tA) (ha:EJ X a ga) (hb:EJ X b gb):EJ X (.IfExp c a b pos) (Iz tA ga gb):=⟨have hc:=hc.h; have ha:=ha.h; have hb:=hb.h; PE.imp (AT hc ha hb) fun σ H Q ⟨L,S,k,hL,hS,h,n⟩=>sV.go hL hS h λd S1 H1 h1 k1 hL1 hS1=>by
  cases d with
  | true=>
   rw [if_pos rfl] at h1 ⊢;exact up.go hL1 hS1 h1 λd2 S2 v2 H2 h2 k2 _ hS2 i2=>n d2 S2 v2 H2 h2 (k1.trans k2) hS2 i2
  | false=>
   rw [if_neg JH] at h1 ⊢;exact up.go hL1 hS1 h1 λd2 S2 v2 H2 h2 k2 _ hS2 i2=>n d2 S2 v2 H2 h2 (k1.trans k2) hS2 i2⟩
end
section
variable {X:Cx} {x:Str} {p pos:Pos} {e:Kt} {es:List Kt} {t:DA} {id T:KB} {r:bE}
theorem aA (hc:bW X (.builtin id) (nX X.K r)) (hg:Gl X x) (hm:X.mg x=none) (hv:bootBuiltins x=some (.builtin id)) (ha:AJ X (e::es) t) (hn:x≠"__name__":=by decide) (hdb:(x == ("__debug__":Str))=false:=by decide) (he:starEach (e::es) X.env=(false,eval e X.env)::starEach es X.env:=by exact cO rfl) (hpl:(backTo pos (starEach es X.env)).any (·.1)=false:=by exact g8 rfl):EJ X (.Call (.Name x p) (e::es) [] pos) (gm r t):=⟨have ha:=ha.h; PE.imp (y9 hc hg hm hv ha hn hdb he hpl) uB⟩
theorem bD (hc:bW X (.type T) (nX X.K r)) (hg:Gl X x) (hm:X.mg x=none) (hv:bootBuiltins x=some (.type T)) (ha:AJ X (e::es) t) (hn:x≠"__name__":=by decide) (hdb:(x == ("__debug__":Str))=false:=by decide) (he:starEach (e::es) X.env=(false,eval e X.env)::starEach es X.env:=by exact cO rfl) (hpl:(backTo pos (starEach es X.env)).any (·.1)=false:=by exact g8 rfl):EJ X (.Call (.Name x p) (e::es) [] pos) (gm r t):=⟨have ha:=ha.h; PE.imp (xP hc hg hm hv ha hn hdb he hpl) uB⟩
theorem B6 {n:Nat} {F:bE} (c:bc X.prog X.w X.K X.mg X.base x n F) (hr:cA n X.A) (hg:Gl X x) (ha:AJ X (e::es) t) (hdb:(x == ("__debug__":Str))=false:=by decide) (he:starEach (e::es) X.env=(false,eval e X.env)::starEach es X.env:=by exact cO rfl) (hpl:(backTo pos (starEach es X.env)).any (·.1)=false:=by exact g8 rfl):EJ X (.Call (.Name x p) (e::es) [] pos) (gm F t):=⟨Ex (c:=c) (hr:=hr) (hg:=hg) (ha:=ha.h) (hdb:=hdb) (he:=he) (hpl:=hpl)⟩
theorem dq {n m:Nat} {F:bE} (c:bc X.prog X.w X.K X.mg X.base x n F) (hr:cA m X.A) (ha:AJ X (e::es) t) (hg:Gl X x:=by exact rfl) (le:n<=m:=by decide) (hdb:(x == ("__debug__":Str))=false:=by decide) (he:starEach (e::es) X.env=(false,eval e X.env)::starEach es X.env:=by exact cO rfl) (hpl:(backTo pos (starEach es X.env)).any (·.1)=false:=by exact g8 rfl):EJ X (.Call (.Name x p) (e::es) [] pos) (gm F t):=B6 c (hr.mono le) hg ha hdb he hpl
theorem Bi {o:Kt} {g:DE} {apos cpos:Pos} (ho:EJ X o g) (hbase:attributeBase o "bit_length" X.env (eval o X.env)=eval o X.env:=by rfl) (hline:(apos.endLine == cpos.line)=true:=by rfl):EJ X (.Call (.Attribute o "bit_length" apos) [] [] cpos) (Hq GM g):=⟨by
 have ho:=ho.h;refine PE.imp (Ej PySem.F.plainAttrs_int PySem.F.slot_int_bit_length PySem.F.type_int_bit_length (r:=λx xs H Q=>∃ i,x=.int i/\xs=[]/\Q (.int ((Builtin.Int.intBits i:Nat):Int)) H) ?_ ho hbase hline) fun σ H Q ⟨L,S,k,hL,hS,h,n⟩=>?_
 ·intro KE s σ H x xs v us Q I rx rs h;obtain⟨i,rfl,rfl,q⟩:=h;obtain⟨t,rfl⟩:=rx;cases rs;exact call_int_bit_length ⟨.int _,H,I.tok _,⟨_,rfl⟩,q⟩
 ·refine up.go hL hS h λd S1 v H1 h1 k1 hL1 hS1 i1=>?_
  cases d with
  | int i=>
   have e1:=isInt.mp i1;subst e1;exact⟨rfl,i,rfl,rfl,n _ S1 _ H1 h1 k1 hS1 (isInt.mpr rfl)⟩
  | _=>exact(show False from h1).elim⟩
theorem eH:OJ X none FM:=⟨by
 intro KE s σ H Q I h;obtain⟨L,S,k,hL,hS,h,n⟩:=h;exact Cf KE s σ H Q I (n none S H h (Kp.refl H) hS)⟩
theorem cZ {e:Kt} {g:DE} (he:EJ X e g):OJ X (some e) (FI g):=⟨by
 have he:=he.h;intro KE s σ H Q I h;obtain⟨L,S,k,hL,hS,h,n⟩:=h;refine Ck he KE s σ H Q I (up.go hL hS h λd S1 v H1 h1 k1 hL1 hS1 i1=>?_)
 cases d with
 | int i=>
  have e1:=isInt.mp i1;subst e1;exact⟨i,rfl,n (some i) S1 H1 h1 k1 hS1⟩
 | _=>exact(show False from h1).elim⟩
end
section
variable {X:Cx} {st:Ky} {bh:List Ky} {g h:DS} {e:Kt} {ge:DE} {pos:Pos}
theorem az:xt X [] wX:=⟨qH.imp BQ λN σ H z9=>by obtain⟨L,S,M,hL,hS,h,r⟩:=z9; exact r.nx L S σ H h (Kp.refl H) hL hS⟩
theorem ag (h1:SJ X st g) (h2:xt X bh h):xt X (st::bh) (rM g h):=⟨have h1:=h1.h; have h2:=h2.h; qH.imp (Af h1 h2) Cq⟩
theorem ah (h1:SJ X st g):xt X [st] g:=⟨have h1:=h1.h; BE h1⟩
theorem bS (he:EJ X e ge) (hs:swapsWith e none pos.line X.env=pure false:=by rfl):SJ X (.Expr e pos) (GC ge):=⟨have he:=he.h; PS.imp (Be he hs) λN σ H z9=>by obtain⟨L,S,M,hL,hS,h,r⟩:=z9; exact up.go hL hS h λd S1 v H1 h1 k1 hL1 hS1 _=>r.nx L S1 σ H1 h1 k1 hL1 hS1⟩
theorem ai (he:EJ X e ge):SJ X (.Return (some e) pos) (yF ge):=⟨have he:=he.h; PS.imp (Di he) λN σ H z9=>by obtain⟨L,S,M,hL,hS,h,r⟩:=z9; exact up.go hL hS h λd S1 v H1 h1 k1 _ hS1 i1=>r.rt d S1 v H1 h1 k1 hS1 i1⟩
theorem ay {c:Kt} {a b:List Ky} {gc:DT} (hc:TJ X c gc) (ha:xt X a g) (hb:xt X b h):SJ X (.If c a b pos) (xO gc g h):=⟨have hc:=hc.h; have ha:=ha.h; have hb:=hb.h; PS.imp (GR hc ha hb) λN σ H ⟨L,S,M,hL,hS,q,r⟩=>sV.go hL hS q λt S1 H1 h1 k1 hL1 hS1=>by
  cases t with
  | true=>
   rw [if_pos rfl] at h1 ⊢;exact⟨L,S1,M,hL1,hS1,h1,r.kp k1⟩
  | false=>
   rw [if_neg JH] at h1 ⊢;exact⟨L,S1,M,hL1,hS1,h1,r.kp k1⟩⟩
theorem ba:SJ X st rZ:=⟨PS.imp yv λN σ H z9=>by obtain⟨L,S,M,hL,hS,h,r⟩:=z9; exact h.elim⟩
theorem am {i:Nat} {x:Str} {pos':Pos} (hN:X.N.Nodup) (he:EJ X e ge) (hi:X.N[i]?=some x:=by rfl) (hx:FB X.env.scope x:=by first | exact Or.inl rfl | exact Or.inr rfl) (hs:swapsWith e (some (.Name x pos')) pos.line X.env=pure false:=by rfl) (hf:X.fn x=true\/X.env.scope.names.lookup x=some .local:=by first | exact .inl rfl | exact .inr rfl | assumption):SJ X (.Assign [.Name x pos'] e pos) (u7 i ge):=⟨have he:=he.h; PS.imp (Dt hN hi hx he hs hf) λN σ H z9=>by obtain⟨L,S,M,hL,hS,h,r⟩:=z9; exact up.go hL hS h λd S1 v H1 h1 k1 hL1 hS1 i1=>r.nx _ S1 _ H1 h1 k1 (hL1.set i1 i) hS1⟩
theorem yn {i j:Nat} {x y:Str} {a b:Kt} {ta:DA} {px py pt:Pos} {kt k2 pt2} (hc:X.calm=true) (hN:X.N.Nodup) (hij:i≠j) (ha:AJ X [a,b] ta) (hi:X.N[i]?=some x:=by rfl) (hj:X.N[j]?=some y:=by rfl) (hx:X.env.scope.names.lookup x=some .local:=by rfl) (hy:X.env.scope.names.lookup y=some .local:=by rfl) (hw:swappedStores [.Tuple [.Name x px,.Name y py] kt pt] (.Tuple [a,b] k2 pt2) X.env=pure (some [x,y]):=by rfl) (hs:swapsWithSole [.Tuple [.Name x px,.Name y py] kt pt] (.Tuple [a,b] k2 pt2) pos.line X.env=pure false:=by rfl):SJ X (.Assign [.Tuple [.Name x px,.Name y py] kt pt] (.Tuple [a,b] k2 pt2) pos) (Iq i j ta):=⟨have ha:=ha.h; PS.imp (Dl hc hN hi hj hij hx hy ha hw hs) λN σ H ⟨L,S,M,hL,hS,h,r⟩=>q9.go hL hS h λds S1 vs H1 h1 k1 hL1 hS1 i1=>by
  split at h1
  ·obtain⟨v,u,rfl,j1,j2⟩:=ku i1;exact⟨v,u,rfl,r.nx _ S1 _ H1 h1 k1 ((hL1.set j1 i).set j2 j) hS1⟩
  ·exact h1.elim⟩
theorem aN {i:Nat} {x:Str} (hN:X.N.Nodup) (hi:X.N[i]?=some x:=by rfl) (hx:FB X.env.scope x:=by first | exact Or.inl rfl | exact Or.inr rfl) (hf:X.fn x=true\/X.env.scope.names.lookup x=some .local:=by first | exact .inl rfl | exact .inr rfl | assumption):GJ X (.Name x pos) (eS i):=⟨PG.imp (se hN hi hx hf) λv σ H Q z9=>by obtain⟨d,L,S,k,i1,hL,hS,h,n⟩:=z9; exact n _ S _ H h (Kp.refl H) (hL.set i1 i) hS⟩
theorem po:Hd X [] Hl:=⟨yt.imp BS λv σ H Q ⟨d,L,S,k,i1,hL,hS,h,n⟩=>by
 obtain⟨rfl,h⟩:=h;exact⟨eJ.mp i1,n L S σ H h (Kp.refl H) hL hS⟩⟩
theorem fz {es:List Kt} {t:DG} {u:A2} (h1:GJ X e t) (h2:Hd X es u) (hs:(assignEach (e::es) X.env).map (·.2)=assign e X.env::(assignEach es X.env).map (·.2):=by rfl):Hd X (e::es) (EW t u):=⟨have h1:=h1.h; have h2:=h2.h; yt.imp (yz h1 h2 hs) λvs σ H Q ⟨ds,L,S,k,i1,hL,hS,h,n⟩=>by
  cases ds with
  | nil=>exact(show False from h).elim
  | cons d r=>
   obtain⟨v,vr,rfl,j1,j2⟩:=bC.mp i1;exact⟨v,vr,rfl,d,L,S,_,j1,hL,hS,h,λL1 S1 σ1 H1 q k1 hL1 hS1=>⟨r,L1,S1,k,j2.kp k1,hL1,hS1,q,λL' S' σ' H' q' k'=>n L' S' σ' H' q' (k1.trans k')⟩⟩⟩
theorem fQ {tg e:Kt} {g:DG} (he:EJ X e ge) (hg:GJ X tg g) (hs:swapsWithSole [tg] e pos.line X.env=pure false:=by rfl) (hw:swappedStores [tg] e X.env=pure none:=by rfl) (h1:(assignEach [tg] X.env).map (·.2)=[assign tg X.env]:=by rfl):SJ X (.Assign [tg] e pos) (G9 ge g):=⟨have he:=he.h; have hg:=hg.h; PS.imp (C6 he hg hs hw h1) λN σ H z9=>by obtain⟨L,S,M,hL,hS,h,r⟩:=z9; exact up.go hL hS h λd S1 v H1 h1 k1 hL1 hS1 i1=>
  ⟨d,L,S1,M.nx,i1,hL1,hS1,h1,λL' S' σ' H' q k' hL' hS'=>r.nx L' S' σ' H' q (k1.trans k') hL' hS'⟩⟩
theorem jf {c:Kt} {body:List Ky} {gc:DT} (hp:PassesOwn (model X.prog X.w) X.A X.env X.xe) (hc:TJ X c gc) (hb:xt X body g):SJ X (.While c body [] pos) (Fb gc g):=⟨have hc:=hc.h; have hb:=hb.h; PS.imp (Al hp hc hb) λN σ H ⟨L,S,M,hL,hS,⟨W,⟨m0,w0⟩,turn⟩,r⟩=>by
  refine⟨λm σ H1=>∃ L S,Lc X.K H1 L σ/\Hs X.K H1 S/\W m L S/\Kp H H1,⟨m0,L,S,hL,hS,w0,Kp.refl H⟩,?_⟩
  rintro m σ1 H1 ⟨L1,S1,hL1,hS1,w1,k1⟩;refine sV.go hL1 hS1 (turn m L1 S1 w1) λt S2 H2 h2 k2 hL2 hS2=>?_
  cases t with
  | true=>
   rw [if_pos rfl] at h2 ⊢;obtain⟨N',hN,hb⟩:=h2;refine⟨fun σ' H'=>∃ L' S',Lc X.K H' L' σ'/\Hs X.K H' S'/\N' L' S'/\Kp H H',?_,L1,S2,_,hL2,hS2,hb,?_⟩
   ·rintro σ' H' ⟨L',S',hL',hS',n',k'⟩;obtain⟨m',hm,w'⟩:=hN L' S' n';exact⟨m',hm,L',S',hL',hS',w',k'⟩
   ·have r2:=r.kp (k1.trans k2);exact⟨λL' S' σ' H' n' k' hL' hS'=>⟨L',S',hL',hS',n',(k1.trans k2).trans k'⟩,r2.rt,r2.nx,λL' S' σ' H' n' k' hL' hS'=>⟨L',S',hL',hS',n',(k1.trans k2).trans k'⟩⟩
  | false=>
   rw [if_neg JH] at h2 ⊢;exact(r.kp (k1.trans k2)).nx L1 S2 σ1 H2 h2 (Kp.refl H2) hL2 hS2⟩
theorem ie {tg a:Kt} {body:List Ky} {ta:DA} {gg:DG} {p pos':Pos} (hp:PassesOwn (model X.prog X.w) X.A X.env X.xe) (hc:X.calm=true) (hgl:Gl X "range") (hm:X.mg "range"=none) (ha:AJ X [a] ta) (hg:GJ X tg gg) (hb:xt X body g) (hs1:starEach [a] X.env=[(false,eval a X.env)]:=by rfl) (hs:∀ x,foldedSetIterable (.Call (.Name "range" p) [a] [] pos') X.env x=pure x:=by intro _; rfl):SJ X (.For tg (.Call (.Name "range" p) [a] [] pos') body [] pos) (FR ta gg g):=⟨have ha:=ha.h; have hg:=hg.h; have hb:=hb.h; PS.imp (pN hp hc (rq hgl hm ha hs1) hg hb hs) λN σ H ⟨L,S,M,hL,hS,h,r⟩=>q9.go hL hS h λds S1 vs H1 h1 k1 hL1 hS1 i1=>by
  split at h1
  ·obtain⟨v,rfl,j⟩:=cr i1;have e:=isInt.mp j;subst e;obtain⟨⟨h2,h3⟩,h1⟩:=h1;refine⟨_,rfl,h2,h3,lv hL1 hS1 h1 (r.kp k1) (λi d S2 H2 e k2 hS2 _=>?_) λS2 H2 k2 hS2 _=>?_⟩
   ·rw [J0] at e;cases q:(List.range (Int.toNat _))[i]? with
    | none=>rw [q] at e; cases e
    | some z=>
     rw [q] at e;cases e;have hz:=J3.mp q;obtain⟨hz1,hz2⟩:=hz;rw [List.length_range] at hz1;rw [List.getElem_range] at hz2;subst hz2;exact⟨hz1,λx H' y=>⟨y.1,by rw [y.2]; exact isInt.mpr (by rw [Int.zero_add])⟩⟩
   ·rw [JG,List.length_range];exact JE _
  ·exact h1.elim⟩
end
section
variable {P:Ku} {w:Kw} {K:Fg} {mg:Str->Ks Kq} {base:Kx}
theorem _root_.L2.xJ.okJ {x KF:Str} {st:Ky} {f:Kr} {fd:FuncData} {N ps:List Str} {k:Nat} {F:bE} (Fn:xJ K x KF st f fd) (Sc:ao N ps (aj st)) (len:∀ ds S k,F ds S k->ds.length=ps.length)
  (hbody:∀ (cdv:Kq) (A:Kv) (outer:List Env) (s:Ko) (H:Hp) (E:XK),cA k (A.deeper (envOfC KF (aj st) s.heap.objs.size f cdv))->
   ∃ g,xt (tL b8 P w K mg base N KF (aj st) f cdv A outer s H E).nox (cP st) g/\
    ∀ ds S k,F ds S k->g {nx:=λ_ S'=>k .non S',rt:=k} (ds.map some++List.replicate (N.length - ps.length) none) S):aQ P w K mg base b8 (k+1) f fd ps (ce K F):=
 Fn.okD Sc len λcdv A outer s H E hr=>let ⟨g,h,q⟩:=hbody cdv A outer s H E hr; ⟨g,h.h,q⟩
end
end DL
namespace L2
open PySem PySem.Spec PyProof.Rows
section
variable {X:Cx} {pos:Pos}
def Hx (K:PySem.W.Frag) (n:Nat) (t:y6):TG:=λv σ H Q=>∃ a xs,v=.ref a/\eQ K H a xs/\xs.length=n/\t xs σ H Q
theorem ED {es:List Kt} {k:Nat} {t:y6} {n:Nat} (hc:X.calm=true) (h:yt X es t)
  (hn:(assignEach es X.env).length=n:=by rfl) (hst:(assignEach es X.env).findIdx? (·.1)=none:=by rfl):PG X (.Tuple es k pos) (Hx X.K n t):=by
 intro KE s σ H v u Q I r hw;obtain⟨a,xs,e1,hq,hl,hw⟩:=hw;subst e1;cases r;obtain⟨its,rv,ht,hz⟩:=I.list hq;have e2:(assignEach es X.env).length=its.toArray.size:=by simp [hn,<- hl,rv.length]
 rw [arm_assign_Tuple];refine gt (wpAny_standAt ?_);unfold unpack;rw [e2,hst];refine gt (JX (PySem.W.kun_itemsOf (I.ok.hd hc) ht.isList λh' hx=>?_))
 have I1:aE X KE σ H {s with heap:=h'}:=I.kept (t':=s.toks) λb o e=>hx b o (JK (JD e)) e
 exact h KE _ σ H xs _ Q I1 (by simpa using rv) hw
theorem PG.or {e:Kt} {t t':TG} (h:PG X e t) (h':PG X e t'):PG X e (λv σ H Q=>t v σ H Q\/t' v σ H Q):=by
 intro KE s σ H v u Q I r q;rcases q with q | q
 ·exact h KE s σ H v u Q I r q
 ·exact h' KE s σ H v u Q I r q
end
def nJ (X:Cx) (scope:Scope):List (Ks Nat)->List Str->Prop
 | some j::r,x::xs=>(X.N[j]?=some x/\(X.env.scope.names.lookup x=some .cell\/X.env.scope.names.lookup x=some .free)/\((relabel scope X.env).names.lookup x=some .cell\/(relabel scope X.env).names.lookup x=some .free))/\nJ X scope r xs
 | none::r,_::xs=>nJ X scope r xs
 | _,_=>True
theorem nJ.get {X:Cx} {scope:Scope}:∀ {cap:List (Ks Nat)} {N:List Str},nJ X scope cap N->∀ (i j:Nat) (x:Str),cap[i]?=some (some j)->N[i]?=some x->
  X.N[j]?=some x/\(X.env.scope.names.lookup x=some .cell\/X.env.scope.names.lookup x=some .free)/\((relabel scope X.env).names.lookup x=some .cell\/(relabel scope X.env).names.lookup x=some .free)
 | [],_,_,_,_,_,h,_=>by simp at h
 | _::_,[],_,_,_,_,_,h=>by simp at h
 | some _::_,_::_,h,0,j,x,h1,h2=>by
  simp at h1 h2
  subst h1 h2;exact h.1
 | none::_,_::_,_,0,j,x,h1,_=>by simp at h1
 | some _::_,_::_,h,i+1,j,x,h1,h2=>nJ.get h.2 i j x (by simpa using h1) (by simpa using h2)
 | none::r,_::xs,h,i+1,j,x,h1,h2=>nJ.get (show nJ X scope r xs from h) i j x (by simpa using h1) (by simpa using h2)
def s9 (X:Cx):List (Str×Kr)->Prop
 | []=>True
 | p::r=>X.env.cells.lookup p.1=some p.2/\s9 X r
theorem s9.mem {X:Cx}:∀ {cl:List (Str×Kr)},s9 X cl->∀ p∈cl,X.env.cells.lookup p.1=some p.2
 | [],_,p,hp=>by simp at hp
 | q::r,h,p,hp=>by
  rcases JJ.mp hp with e | e
  ·subst e; exact h.1
  ·exact s9.mem h.2 p e
theorem de {X:Cx} {scope:Scope} {cl:List (Str×Kr)} {N:List Str} {cap:List (Ks Nat)} (h1:scope.kind=.function) (h2:closureFor scope X.env=pure cl) (h3:(scope.names.all λy=>y.2 != NameKind.cell)=true)
  (h4:(scope.names.all λy=>y.2 != NameKind.local || scope.names.lookup y.1 == some NameKind.local)=true) (h5:s9 X cl)
  (h6:((relabel scope X.env).names.all λy=>(y.2 != NameKind.cell && y.2 != NameKind.free) || (cl.lookup y.1).isSome)=true) (h7:cap.length=N.length) (h8:nJ X scope cap N):db X scope cl N cap:=⟨h1,h2,h3,h4,h5.mem,h6,h7,h8.get⟩
end L2
namespace DL
open PySem PySem.Spec PyProof.Rows L2
section
variable {X:Cx} {pos:Pos}
def mf (n:Nat) (t:A2):DG:=λd L S k=>match aI S d with
 | some p=>p.1.length=n/\t p.1 L S k
 | none=>False
theorem Fj {es:List Kt} {k:Nat} {t:A2} {n:Nat} (hc:X.calm=true) (h:Hd X es t) (hn:(assignEach es X.env).length=n:=by rfl) (hst:(assignEach es X.env).findIdx? (·.1)=none:=by rfl):GJ X (.Tuple es k pos) (mf n t):=
 ⟨PG.imp (PG.or (Et hc h.h hn hst) (ED hc h.h hn hst)) λv σ H Q ⟨d,L,S,k,i1,hL,hS,h,m⟩=>by
  cases d with
  | tup ds=>
   obtain⟨a,xs,rfl,t1,j⟩:=bw.mp i1;exact .inl ⟨a,xs,rfl,t1,by rw [<- j.length]; exact h.1,ds,L,S,k,j,hL,hS,h.2,m⟩
  | rl ds=>
   obtain⟨a,xs,rfl,t1,j⟩:=uc.mp i1;exact .inr ⟨a,xs,rfl,t1.sq,by rw [<- j.length]; exact h.1,ds,L,S,k,j,hL,hS,h.2,m⟩
  | ref a=>
   have e1:=aU.mp i1;subst e1;cases z:S a with
   | none=>simp only [mf,aI,z] at h
   | some o=>
    cases o with
    | dic=>simp only [mf,aI,z] at h
    | exc _=>simp only [mf,aI,z] at h
    | fn _=>simp only [mf,aI,z] at h
    | tbl _=>simp only [mf,aI,z] at h
    | gen _=>simp only [mf,aI,z] at h
    | lst ds=>
     simp only [mf,aI,z] at h;obtain⟨xs,hl,j⟩:=hS.lst z;exact .inr ⟨a,xs,rfl,eQ.of hl,by rw [<- j.length]; exact h.1,ds,L,S,k,j,hL,hS,h.2,m⟩
  | _=>exact(show False from h).elim⟩
end
def x6 (cap:List (Ks Nat)) (L:Lo):Lo:=cap.map λo=>match o with
 | some j=>(L[j]?).join
 | none=>none
theorem Lc.cap {K:Fg} {H:Hp} {L:Lo} {σ:L2.St} (hL:Lc K H L σ):∀ cap:List (Ks Nat),Lc K H (x6 cap L) (lg cap σ)
 | []=>rfl
 | Option.none::r=>⟨_,_,rfl,Lc.cap hL r⟩
 | Option.some j::r=>by
  show Lc K H ((L[j]?).join::x6 r L) ((σ[j]?).join::lg r σ)
  cases e:L[j]? with
  | none=>exact⟨_,_,rfl,Lc.cap hL r⟩
  | some o=>
   cases o with
   | none=>exact⟨_,_,rfl,Lc.cap hL r⟩
   | some d=>
    obtain⟨v,e1,e2⟩:=hL.get e;rw [e1];exact⟨v,_,rfl,e2,Lc.cap hL r⟩
abbrev DB:=Lo->DH->(Ks D->DH->Prop)->Prop
def jx (ge:DE):DB:=λL S k=>ge L S λv S1=>k (some v) S1
def m8 (c:DT) (ge:DE):DB:=λL S k=>c L S λb S1=>if b=true then ge L S1 λv S2=>k (some v) S2 else k none S1
def bK (ok:DH->Prop) (p:Kr) (g:DG) (bd:DB) (k:DK):List D->List D->Lo->DH->Prop
 | [],_,_,S=>ok S/\k (.ref p) S
 | d::r,acc,L,S=>ok S/\g d L S λL1 S1=>bd L1 S1 λo S2=>match o with
  | some v=>S2 p=some (.lst acc)/\acc.length < sizeLine/\bK ok p g bd k r (acc++[v]) L1 (put S2 p (.lst (acc++[v])))
  | none=>bK ok p g bd k r acc L1 S2
def EQ (cap:List (Ks Nat)) (ta:DA) (g:DG) (bd:DB):DE:=λL S k=>ta L S λds S1=>match ds with
 | [.int n]=>(-(2 ^ 62)<=n/\n < 2 ^ 62)/\∀ p,S1 p=none->bK (λ_=>True) p g bd k ((List.range n.toNat).map λi=>D.int (i:Nat)) [] (x6 cap L) (put S1 p (.lst []))
 | _=>False
section
variable {K:Fg} {ok:DH->Prop} {gg:DG} {ge:DE} {gc:DT} {k:DK} {ds:List D} {L:Lo} {S:DH} {σ:L2.St} {H:Hp} {J:It} {Q:VK} {p:Kr}
theorem ic (hL:Lc K H L σ) (hS:Hs K H S) (hp:H p=none) (h:bK ok p gg (jx ge) k ds [] L (put S p (.lst [])))
  (n:∀ d S' v H',k d S'->Kp H H'->Hs K H' S'->bB K H' d v->Q v H')
  (hgo:∀ i d S1 H1,ds[i]?=some d->Kp H H1->Hs K H1 S1->ok S1->J.go i H1/\∀ x H',J.yld i H1 x H'->H'=H1/\bB K H1 d x)
  (hst:∀ S1 H1,Kp H H1->Hs K H1 S1->ok S1->J.stop ds.length H1):
  ∃ W:Nat->Nat->L2.St->Hp->Prop,(∃ m,W 0 m σ (br H p (.lst [])))/\∀ i m σ' H',W i m σ' H'->
   (J.stop i H'/\Q (.ref p) H')\/(J.go i H'/\∃ N:L2.St->Hp->Prop,(∀ σ2 H2,N σ2 H2->∃ m',m' < m/\W (i+1) m' σ2 H2)/\∀ x H2,J.yld i H' x H2->DR K gg x σ' H2 fun σ3 H3=>up K ge σ3 H3 λv H4=>∃ ys,H4 p=some (.lst ys)/\ys.length < sizeLine/\N σ3 (br H4 p (.lst (ys++[v])))):=by
 refine⟨λi m σ1 H1=>m=ds.length - i/\i<=ds.length/\∃ acc L1 S1,Lc K H1 L1 σ1/\Hs K H1 S1/\Kp H H1/\bK ok p gg (jx ge) k (ds.drop i) acc L1 S1,⟨ds.length,by simp,Kd _,[],L,_,hL.kp (Kp.new hp),hS.newL hp IsDs.nil,Kp.new hp,h⟩,?_⟩
 rintro i m σ1 H1 ⟨rfl,hi,acc,L1,S1,hL1,hS1,k1,w1⟩
 by_cases hlt:i < ds.length
 ·have e:ds.drop i=ds[i]::ds.drop (i+1):=Kb hlt;rw [e] at w1;obtain⟨o1,w1⟩:=w1;obtain⟨g1,y1⟩:=hgo i ds[i] S1 H1 (by simp [hlt]) k1 hS1 o1
  refine .inr ⟨g1,fun σ' H'=>i+1<=ds.length/\∃ acc L' S',Lc K H' L' σ'/\Hs K H' S'/\Kp H H'/\bK ok p gg (jx ge) k (ds.drop (i+1)) acc L' S',fun σ' H' z9=>by obtain⟨q1,q2⟩:=z9; exact⟨ds.length - (i+1),by omega,rfl,q1,q2⟩,λx H' y=>?_⟩
  obtain⟨rfl,ix⟩:=y1 x H' y;refine⟨ds[i],L1,S1,_,ix,hL1,hS1,w1,λL2 S2 σ2 H2 q k2 hL2 hS2=>up.go hL2 hS2 q λd S3 v H3 h3 k3 hL3 hS3 i3=>?_⟩
  obtain⟨z1,z2,z3⟩:=h3;obtain⟨xs,hl,j⟩:=hS3.lst z1;have k4:Kp H3 (br H3 p (.lst (xs++[v]))):=Kp.mut hl (λz=>z)
  exact⟨xs,hl,by rw [<- j.length]; exact z2,hlt,_,L2,_,hL3.kp k4,hS3.setL hl (j.append (IsDs.cons i3 IsDs.nil)),((k1.trans k2).trans k3).trans k4,z3⟩
 ·have e:i=ds.length:=by omega
  subst e;rw [List.drop_length] at w1;obtain⟨o1,w1⟩:=w1;exact .inl ⟨hst S1 H1 k1 hS1 o1,n _ S1 _ H1 w1 k1 hS1 (aU.mpr rfl)⟩
theorem gx (hL:Lc K H L σ) (hS:Hs K H S) (hp:H p=none) (h:bK ok p gg (m8 gc ge) k ds [] L (put S p (.lst [])))
  (n:∀ d S' v H',k d S'->Kp H H'->Hs K H' S'->bB K H' d v->Q v H')
  (hgo:∀ i d S1 H1,ds[i]?=some d->Kp H H1->Hs K H1 S1->ok S1->J.go i H1/\∀ x H',J.yld i H1 x H'->H'=H1/\bB K H1 d x)
  (hst:∀ S1 H1,Kp H H1->Hs K H1 S1->ok S1->J.stop ds.length H1):
  ∃ W:Nat->Nat->L2.St->Hp->Prop,(∃ m,W 0 m σ (br H p (.lst [])))/\∀ i m σ' H',W i m σ' H'->
   (J.stop i H'/\Q (.ref p) H')\/(J.go i H'/\∃ N:L2.St->Hp->Prop,(∀ σ2 H2,N σ2 H2->∃ m',m' < m/\W (i+1) m' σ2 H2)/\∀ x H2,J.yld i H' x H2->DR K gg x σ' H2 fun σ3 H3=>sV K gc σ3 H3 λb H3'=>if b=true then up K ge σ3 H3' λv H4=>∃ ys,H4 p=some (.lst ys)/\ys.length < sizeLine/\N σ3 (br H4 p (.lst (ys++[v]))) else N σ3 H3'):=by
 refine⟨λi m σ1 H1=>m=ds.length - i/\i<=ds.length/\∃ acc L1 S1,Lc K H1 L1 σ1/\Hs K H1 S1/\Kp H H1/\bK ok p gg (m8 gc ge) k (ds.drop i) acc L1 S1,⟨ds.length,by simp,Kd _,[],L,_,hL.kp (Kp.new hp),hS.newL hp IsDs.nil,Kp.new hp,h⟩,?_⟩
 rintro i m σ1 H1 ⟨rfl,hi,acc,L1,S1,hL1,hS1,k1,w1⟩
 by_cases hlt:i < ds.length
 ·have e:ds.drop i=ds[i]::ds.drop (i+1):=Kb hlt;rw [e] at w1;obtain⟨o1,w1⟩:=w1;obtain⟨g1,y1⟩:=hgo i ds[i] S1 H1 (by simp [hlt]) k1 hS1 o1
  refine .inr ⟨g1,fun σ' H'=>i+1<=ds.length/\∃ acc L' S',Lc K H' L' σ'/\Hs K H' S'/\Kp H H'/\bK ok p gg (m8 gc ge) k (ds.drop (i+1)) acc L' S',fun σ' H' z9=>by obtain⟨q1,q2⟩:=z9; exact⟨ds.length - (i+1),by omega,rfl,q1,q2⟩,λx H' y=>?_⟩
  obtain⟨rfl,ix⟩:=y1 x H' y;refine⟨ds[i],L1,S1,_,ix,hL1,hS1,w1,λL2 S2 σ2 H2 q k2 hL2 hS2=>sV.go hL2 hS2 q λb S2' H2' h2 k2' hL2' hS2'=>?_⟩
  cases b with
  | true=>
   rw [if_pos rfl] at h2 ⊢;refine up.go hL2' hS2' h2 λd S3 v H3 h3 k3 hL3 hS3 i3=>?_
   obtain⟨z1,z2,z3⟩:=h3;obtain⟨xs,hl,j⟩:=hS3.lst z1;have k4:Kp H3 (br H3 p (.lst (xs++[v]))):=Kp.mut hl (λz=>z)
   exact⟨xs,hl,by rw [<- j.length]; exact z2,hlt,_,L2,_,hL3.kp k4,hS3.setL hl (j.append (IsDs.cons i3 IsDs.nil)),(((k1.trans k2).trans k2').trans k3).trans k4,z3⟩
  | false=>
   rw [if_neg JH] at h2 ⊢;exact⟨hlt,acc,L2,S2',hL2',hS2',(k1.trans k2).trans k2',h2⟩
 ·have e:i=ds.length:=by omega
  subst e;rw [List.drop_length] at w1;obtain⟨o1,w1⟩:=w1;exact .inl ⟨hst S1 H1 k1 hS1 o1,n _ S1 _ H1 w1 k1 hS1 (aU.mpr rfl)⟩
end
theorem AW {K:Fg} {H:Hp} {n:Int}:∀ i d (S1:DH) H1,((List.range n.toNat).map λi=>D.int (i:Nat))[i]?=some d->Kp H H1->Hs K H1 S1->(λ_=>True:DH->Prop) S1->(Ga 0 n.toNat).go i H1/\∀ x H',(Ga 0 n.toNat).yld i H1 x H'->H'=H1/\bB K H1 d x:=by
 intro i d S1 H1 e _ _ _;rw [J0] at e;cases q:(List.range (Int.toNat _))[i]? with
 | none=>rw [q] at e; cases e
 | some z=>
  rw [q] at e;cases e;obtain⟨hz1,hz2⟩:=J3.mp q;rw [List.length_range] at hz1;rw [List.getElem_range] at hz2;subst hz2;exact⟨hz1,λx H' y=>⟨y.1,by rw [y.2]; exact isInt.mpr (by rw [Int.zero_add])⟩⟩
def Es (K:Fg) (mg:Str->Ks Kq) (x:Str) (ns:List Int):Prop:=∃ p o its n,mg x=some (.ref p)/\K.lookup p=some o/\o.cls=.type "tuple"/\o.data=.seq its n/\its.size<=sizeLine/\aW (ns.map V.int) its.toList
theorem mD {K:Fg} {H:Hp}:∀ ns:List Int,IsDs K H (ns.map D.int) (ns.map V.int)
 | []=>IsDs.nil
 | _::ns=>IsDs.cons (isInt.mpr rfl) (mD ns)
theorem EK {X:Cx} {x:Str} {ns:List Int} {pos:Pos} (g:Es X.K X.mg x ns) (hg:Gl X x) (hd:(x == ("__debug__":Str))=false:=by decide):EJ X (.Name x pos) (dC (.tup (ns.map D.int))):=by
 obtain⟨p,o,its,n,hm,h1,h2,h3,h4,h5⟩:=g;exact⟨CI (oC (v:=.ref p) hg hm rfl hd) λH=>bw.mpr ⟨p,_,rfl,.inr ⟨o,its,n,h1,h2,h3,h4,h5⟩,mD ns⟩⟩
theorem fh.imp {K:Fg} {r r':D2} (i:∀ d e S k,r' d e S k->r d e S k):∀ x y H Q,fh K r' x y H Q->fh K r x y H Q:=λx y H Q z9=>by obtain⟨d,e,S,k,a,b,c,h,n⟩:=z9; exact⟨d,e,S,k,a,b,c,i d e S k h,n⟩
theorem nX.imp {K:Fg} {r r':bE} (i:∀ ds S k,r' ds S k->r ds S k):∀ xs H Q,nX K r' xs H Q->nX K r xs H Q:=λxs H Q z9=>by obtain⟨ds,S,k,a,b,h,n⟩:=z9; exact⟨ds,S,k,a,b,i ds S k h,n⟩
theorem cS.imp {X:Cx} {f:Kq->Kq->Sem Kq} {r r':R2} (h:cS X f r) (i:∀ x y H Q,r' x y H Q->r x y H Q):cS X f r':=λKE s σ H x y v u Q I rx ry q=>h KE s σ H x y v u Q I rx ry (i x y H Q q)
theorem xR.imp {X:Cx} {r r':R2} (h:xR X r) (i:∀ x y H Q,r' x y H Q->r x y H Q):xR X r':=λvalue slice KE s σ H x y v u Q I rx ry q=>h value slice KE s σ H x y v u Q I rx ry (i x y H Q q)
theorem bW.imp {X:Cx} {f:Kq} {r r':List V->Hp->VK->Prop} (h:bW X f r) (i:∀ xs H Q,r' xs H Q->r xs H Q):bW X f r':=λKE s σ H xs us Q I rs q=>h KE s σ H xs us Q I rs (i xs H Q q)
def Bf:D2:=λd e S k=>match d,e with
 | .tup ds,.int i=>(match L2.atI ds i with
  | some c=>k c S
  | none=>False)
 | .rl ds,.int i=>∃ c,L2.atI ds i=some c/\k c S
 | .ref a,.int i=>∃ ds c,S a=some (.lst ds)/\L2.atI ds i=some c/\k c S
 | _,_=>False
theorem oM {X:Cx}:xR X (fh X.K Bf):=xR.imp G5 (fh.imp λd e S k h=>by
 unfold Bf at h
 split at h
 ·exact h
 ·obtain⟨c,h1,h2⟩:=h;simp only [sX,h1];exact h2
 ·obtain⟨ds,c,h0,h1,h2⟩:=h;simp only [sX,h0,h1];exact h2
 ·exact h.elim)
theorem dz {X:Cx} {x:Str} {p1 p2 pos:Pos} {c:Int} {j} (n:Nat) (hN:X.N[n]?=some x:=by rfl) (hv:Ge X.env.scope x:=by first | exact Or.inl rfl | exact Or.inr (Or.inl rfl) | exact Or.inr (Or.inr rfl)) (hd:(x == ("__debug__":Str))=false:=by decide) (hcd:(x == ("__classdict__":Str))=false:=by decide):EJ X (.Subscript (.Name x p1) (.Constant (.int c) j p2) pos) (wP Bf (cL n) (dC (.int c))):=aD oM (af n hN hv hd hcd) ae Zf
def yh:bE:=λds S k=>match ds with
 | [.tup xs]=>k (.int xs.length) S
 | [.rl xs]=>k (.int xs.length) S
 | [.ref a]=>∃ xs,S a=some (.lst xs)/\k (.int xs.length) S
 | _=>False
theorem cM {X:Cx}:bW X (.builtin "len") (nX X.K yh):=bW.imp FU (nX.imp λds S k h=>by
 unfold yh at h
 split at h
 ·exact h
 ·exact h
 ·obtain⟨xs,h1,h2⟩:=h;simp only [DV,h1];exact h2
 ·exact h.elim)
def GD (gi:DE) (g:DG) (b:DS):DS:=λM L S=>gi L S λd S1=>∃ p,aI S1 d=some p/\fJ (eG p) g b M p.1 L S1
def Ds (n:Nat) (t:A2):DG:=λd L S k=>∃ p,aI S d=some p/\p.1.length=n/\t p.1 L S k
theorem GJ.imp {X:Cx} {e:Kt} {g g':DG} (h:GJ X e g) (i:∀ d L S k,g' d L S k->g d L S k):GJ X e g':=⟨PG.imp h.h λv σ H Q z9=>by obtain⟨d,L,S,k,a,hL,hS,q,n⟩:=z9; exact⟨d,L,S,k,a,hL,hS,i d L S k q,n⟩⟩
theorem si {X:Cx} {pos:Pos} {es:List Kt} {k:Nat} {t:A2} {n:Nat} (hc:X.calm=true) (h:Hd X es t) (hn:(assignEach es X.env).length=n:=by rfl) (hst:(assignEach es X.env).findIdx? (·.1)=none:=by rfl):GJ X (.Tuple es k pos) (Ds n t):=
 GJ.imp (Fj hc h hn hst) λd L S k ⟨p,h1,h2⟩=>by
  simp only [mf,h1];exact h2
section
variable {X:Cx} {pos:Pos}
def Fp (go gi:DE):DG:=λd L S k=>go L S λo S1=>gi L S1 λi S2=>match o,i with
 | .ref a,.int j=>∃ ds n,S2 a=some (.lst ds)/\yl ds.length j=some n/\k L (put S2 a (.lst (ds.set n d)))
 | _,_=>False
theorem w6 {o i:Kt} {go gi:DE} (ho:EJ X o go) (hi:EJ X i gi)
  (ha:∀ v,assign (.Subscript o i pos) X.env v=(do
   let ov <- holding [v] (eval o X.env)
   let iv <- holding [v,ov] (eval i X.env)
   standAt pos
   holding [v,ov,iv] (setItem ov iv v)
   release [v,ov,iv] []):=by intro _; rfl):GJ X (.Subscript o i pos) (Fp go gi):=
 ⟨PG.imp (zP ho.h hi.h yH ha) λv σ H Q ⟨d,L,S,k,i1,hL,hS,h,n⟩=>up.go hL hS h λc S1 u H1 h1 k1 hL1 hS1 j1=>up.go hL1 hS1 h1 λc2 S2 u2 H2 h2 k2 hL2 hS2 j2=>by
  cases c with
  | ref a=>
   cases c2 with
   | int z=>
    have e1:=aU.mp j1;have e2:=isInt.mp j2;subst e1;subst e2;obtain⟨ds,m,w,q,h2⟩:=h2;obtain⟨vs,hl,j⟩:=hS2.lst w;refine⟨a,vs,z,m,rfl,rfl,hl,by rw [<- j.length]; exact q,?_⟩
    have k3:Kp H2 (br H2 a (.lst (vs.set m v))):=Kp.mut hl (λz=>z)
    exact n L _ σ _ h2 (k1.trans (k2.trans k3)) (hL2.kp k3) (hS2.setL hl (j.set m (i1.kp (k1.trans k2))))
   | _=>exact(show False from h2).elim
  | _=>exact(show False from h2).elim⟩
theorem rF {K:Fg} {S1:DH} {H1:Hp} {d:D} {v:V} {p:List D×Ks Kr} (hS1:Hs K H1 S1) (i1:bB K H1 d v) (hp:aI S1 d=some p):∃ a,v=.ref a/\
  (((∃ xs, eQ K H1 a xs) ∧ (∀ i c S2 H2, p.1[i]? = some c → Kp H1 H2 → Hs K H2 S2 → eG p S2 → (F0 K a).go i H2 ∧ ∀ x H', (F0 K a).yld i H2 x H' → H' = H2 ∧ bB K H2 c x) ∧ ∀ S2 H2, Kp H1 H2 → Hs K H2 S2 → eG p S2 → (F0 K a).stop p.1.length H2) ∨
   ((∃ xs,gZ K H1 a xs)/\(∀ i c S2 H2,p.1[i]?=some c->Kp H1 H2->Hs K H2 S2->eG p S2->(F3 K a).go i H2/\∀ x H',(F3 K a).yld i H2 x H'->H'=H2/\bB K H2 c x)/\∀ S2 H2,Kp H1 H2->Hs K H2 S2->eG p S2->(F3 K a).stop p.1.length H2)):=by
 cases d with
 | tup ds=>
  cases hp;obtain⟨a,xs,rfl,t,j⟩:=bw.mp i1;refine⟨a,rfl,.inr ⟨⟨xs,t⟩,λi d S2 H2 e k2 hS2 _=>?_,λS2 H2 k2 hS2 _=>⟨xs,k2.tup t,by rw [<- j.length]; exact JE _⟩⟩⟩
  obtain⟨w,e1,e2⟩:=j.get e;refine⟨⟨xs,w,k2.tup t,e1⟩,λx H' y=>⟨y.1,?_⟩⟩
  have z:=y.2 xs (k2.tup t);rw [e1] at z;cases z;exact e2.kp k2
 | rl ds=>
  cases hp;obtain⟨a,xs,rfl,t,j⟩:=uc.mp i1;refine⟨a,rfl,.inl ⟨⟨xs,t.sq⟩,λi d S2 H2 e k2 hS2 _=>?_,λS2 H2 k2 hS2 _=>⟨xs,(k2.fro t).sq,by rw [<- j.length]; exact JE _⟩⟩⟩
  obtain⟨w,e1,e2⟩:=j.get e;refine⟨⟨xs,w,(k2.fro t).sq,e1⟩,λx H' y=>⟨y.1,?_⟩⟩
  have z:=y.2 xs (k2.fro t).sq;rw [e1] at z;cases z;exact e2.kp k2
 | ref a=>
  have e1:=aU.mp i1;subst e1;cases z:S1 a with
  | none=>simp only [aI,z] at hp; cases hp
  | some o=>
   cases o with
   | dic=>simp only [aI,z] at hp; cases hp
   | exc _=>simp only [aI,z] at hp; cases hp
   | fn _=>simp only [aI,z] at hp; cases hp
   | tbl _=>simp only [aI,z] at hp; cases hp
   | gen _=>simp only [aI,z] at hp; cases hp
   | lst ds=>
    simp only [aI,z] at hp;cases hp;obtain⟨xs,hl,j⟩:=hS1.lst z;refine⟨a,rfl,.inl ⟨⟨xs,eQ.of hl⟩,λi d S2 H2 e k2 hS2 o2=>?_,λS2 H2 k2 hS2 o2=>?_⟩⟩
    ·obtain⟨ys,hl2,j2⟩:=hS2.lst o2;obtain⟨w,e1,e2⟩:=j2.get e;refine⟨⟨ys,w,eQ.of hl2,e1⟩,λx H' y=>⟨y.1,?_⟩⟩
     have q:=y.2 ys (eQ.of hl2);rw [e1] at q;cases q;exact e2
    ·obtain⟨ys,hl2,j2⟩:=hS2.lst o2;exact⟨ys,eQ.of hl2,by rw [<- j2.length]; exact JE _⟩
 | _=>cases hp
theorem qP {tg iter:Kt} {body:List Ky} {gi:DE} {gg:DG} {g:DS} (hp:PassesOwn (model X.prog X.w) X.A X.env X.xe) (hc:X.calm=true) (hi:EJ X iter gi) (hg:GJ X tg gg) (hb:xt X body g)
  (hs:∀ x,foldedSetIterable iter X.env x=pure x:=by intro _; rfl):SJ X (.For tg iter body [] pos) (GD gi gg g):=
 ⟨PS.imp (pN hp hc (rV hi.h) hg.h hb.h hs) λN σ H ⟨L,S,M,hL,hS,h,r⟩=>up.go hL hS h λd S1 v H1 h1 k1 hL1 hS1 i1=>by
  obtain⟨p,hp,h1⟩:=h1;obtain⟨a,e,q⟩:=rF hS1 i1 hp;refine⟨a,e,?_⟩;rcases q with ⟨q1,q2,q3⟩ | ⟨q1,q2,q3⟩
  ·exact .inl ⟨q1,lv hL1 hS1 h1 (r.kp k1) q2 q3⟩
  ·exact .inr ⟨q1,lv hL1 hS1 h1 (r.kp k1) q2 q3⟩⟩
def sR (cap:List (Ks Nat)) (gi:DE) (g:DG) (bd:DB):DE:=λL S k=>gi L S λd S1=>∃ q,aI S1 d=some q/\∀ p,S1 p=none->bK (eG q) p g bd k q.1 [] (x6 cap L) (put S1 p (.lst []))
theorem dA {elt tg iter:Kt} {scope:Scope} {cl:List (Str×Kr)} {N:List Str} {cap:List (Ks Nat)} {gg:DG} {ge gi:DE} (hc:X.calm=true) (Sc:db X scope cl N cap) (hi:EJ X iter gi) (hg:∀ s0 H0 ex C,GJ (dZ X scope cl N s0 H0 ex C) tg gg) (he:∀ s0 H0 ex C,EJ (dZ X scope cl N s0 H0 ex C) elt ge)
  (hs:∀ x,foldedSetIterable iter X.env x=pure x:=by intro _; rfl):EJ X (.ListComp elt [⟨tg,iter,[],0⟩] scope pos) (sR cap gi gg (jx ge)):=
 ⟨PE.imp (wz hc Sc (rV hi.h) (λs0 H0 ex C=>(hg s0 H0 ex C).h) (λs0 H0 ex C=>(he s0 H0 ex C).h) hs) fun σ H Q ⟨L,S,k,hL,hS,h,n⟩=>up.go hL hS h λd S1 v H1 h1 k1 hL1 hS1 i1=>by
  obtain⟨p,hp,h1⟩:=h1;obtain⟨a,e,q⟩:=rF hS1 i1 hp;refine⟨a,e,?_⟩;have n':∀ d S' v H',k d S'->Kp H1 H'->Hs X.K H' S'->bB X.K H' d v->Q v H':=λd S' v H' q k3=>n d S' v H' q (k1.trans k3)
  rcases q with ⟨q1,q2,q3⟩ | ⟨q1,q2,q3⟩
  ·exact .inl ⟨q1,λD hD=>ic (hL1.cap cap) hS1 hD (h1 D (hS1.free hD)) n' q2 q3⟩
  ·exact .inr ⟨q1,λD hD=>ic (hL1.cap cap) hS1 hD (h1 D (hS1.free hD)) n' q2 q3⟩⟩
end
end DL
namespace L2
open PySem PySem.Spec PyProof.Rows
structure pM (P:Ku) (w:Kw) (it l:Kr) (st:Nat->Kx->Prop) (sq:Kz Kq->Kx->Prop):Prop where
 at_:∀ k h h',st k h->(∀ o,h.get? it=some o->h'.get? it=some o)->st k h'
 sqAt:∀ xs h h',sq xs h->(∀ o,h.get? l=some o->h'.get? l=some o)->sq xs h'
 obj:∀ k h,st k h->∃ o,h.get? it=some o/\∀ v,o.data≠.cell v
 item:∀ (A:Kv) (k:Nat) (s:Ko) (xs:Kz Kq) (x:Kq) (Q:Kq->Ko->Prop) (E:Kq->Ko->Prop),st k s.heap->sq xs s.heap->xs[k]?=some x->
  (∀ h',st (k+1) h'->Heap.SameBut it s.heap h'->Q x {s with heap:=h'})->wpAny (model P w) A (Builtin.SmallTypes.nextOf (.ref it)) Q E s
 fin:∀ (A:Kv) (k:Nat) (s:Ko) (xs:Kz Kq) (Q:Kq->Ko->Prop) (E:Kq->Ko->Prop),A.handled=none->st k s.heap->sq xs s.heap->xs[k]?=none->
  (∀ h' e,Heap.ExtBut it s.heap h'->(∃ o,h'.get? e=some o/\o.cls=.type "StopIteration")->E (.ref e) {s with heap:=h'})->wpAny (model P w) A (Builtin.SmallTypes.nextOf (.ref it)) Q E s
theorem pM.list {P:Ku} {w:Kw} (it l:Kr):pM P w it l (λk h=>h.IsListIter it l k) (λxs h=>h.IsList l xs) where
 at_:=λ_ _ _ x y=>x.at y
 sqAt:=λ_ _ _ x y=>x.at y
 obj:=λ_ _ z9=>by obtain⟨o,e,_,d⟩:=z9; exact⟨o,e,λv z=>by rw [d] at z; cases z⟩
 item:=λ_ _ _ _ _ _ _ a b c d=>wpAny_nextOf_list_item a b c d
 fin:=λ_ _ _ _ _ _ hh a b c d=>wpAny_nextOf_list_end hh a b c d
section
variable {prog:Ku} {w:Kw} {A:Kv} {E:Kq->Ko->Prop} {s:Ko}
theorem lj {it t:Kr} {i:Nat} {items} {x:Kq} {Q:Kq->Ko->Prop} (hit:s.heap.IsTupleIter it t i) (ht:s.heap.IsTuple t items) (hx:items[i]?=some x)
  (hQ:∀ h',h'.IsTupleIter it t (i+1)->Heap.SameBut it s.heap h'->Q x {s with heap:=h'}):wpAny (model prog w) A (Builtin.SmallTypes.nextOf (.ref it)) Q E s:=by
 obtain⟨o,ho,hc,hd⟩:=id hit;obtain⟨ol,hol,_,nl,hdl⟩:=ht;unfold Builtin.SmallTypes.nextOf;refine gt (Kh (name:=Str.ofString "__next__") hit.typeIs F.slot_tuple_iterator_next (wpAny_call_entry F.slot_tuple_iterator_next hit.typeIs F.entry_tuple_iterator_next ?_ (F.args_tuple_iterator_next_1 _)))
 refine gt (m:=field (.ref it) 0) (wpAny_field ho hd (x:=.ref t) rfl ?_)
 show wpAny _ _ (if (Value.ref t == Value.none)=true then _ else _) _ _ s
 rw [if_neg (show ¬ ((Value.ref t == Value.none)=true) from JH)]
 refine gt (m:=field (.ref it) 1) (wpAny_field ho hd (x:=.int i 0) rfl ?_);refine gt (m:=seqItems? (.ref t)) (wpAny_seqItems hol hdl ?_);simp only [Ki,hx];refine gt (wpAny_setField ho hd (by simp) (JB ⟨x,rfl,JB (hQ _ ⟨_,Heap.get?_update_self _ ho (Obj.isFreed_of_fields (Obj.data_mapFields hd _)),(Obj.cls_mapFields ..).trans hc,?_⟩ (Heap.SameBut.update ..))⟩))
 rw [Obj.data_mapFields hd];simp [rawInt]
theorem mR {it t:Kr} {i:Nat} {items} {Q:Kq->Ko->Prop} (hh:A.handled=none) (hit:s.heap.IsTupleIter it t i) (ht:s.heap.IsTuple t items) (hx:items[i]?=none)
  (hE:∀ h' e,Heap.ExtBut it s.heap h'->(∃ o,h'.get? e=some o/\o.cls=.type "StopIteration")->E (.ref e) {s with heap:=h'}):wpAny (model prog w) A (Builtin.SmallTypes.nextOf (.ref it)) Q E s:=by
 obtain⟨o,ho,hc,hd⟩:=id hit;obtain⟨ol,hol,_,nl,hdl⟩:=ht;unfold Builtin.SmallTypes.nextOf;refine gt (Kh (name:=Str.ofString "__next__") hit.typeIs F.slot_tuple_iterator_next (wpAny_call_entry F.slot_tuple_iterator_next hit.typeIs F.entry_tuple_iterator_next ?_ (F.args_tuple_iterator_next_1 _)))
 refine gt (m:=field (.ref it) 0) (wpAny_field ho hd (x:=.ref t) rfl ?_)
 show wpAny _ _ (if (Value.ref t == Value.none)=true then _ else _) _ _ s
 rw [if_neg (show ¬ ((Value.ref t == Value.none)=true) from JH)]
 refine gt (m:=field (.ref it) 1) (wpAny_field ho hd (x:=.int i 0) rfl ?_);refine gt (m:=seqItems? (.ref t)) (wpAny_seqItems hol hdl ?_);simp only [Ki,hx];refine gt (wpAny_rule (gt (wpAny_setField ho hd (by simp) ?_)))
 refine gt (m:=newExc (.type "StopIteration") []) ?_
 simp only [newExc,newTuple];refine gt (JZ ?_ (by size_fits))
 refine gt (m:=firstArgMember _ _) (wpAny_of_eq (a:=Value.none) (by first | rfl | (simp only [firstArgMember]; rfl)) ?_)
 refine JZ ?_ (by size_fits)
 simp only [raiseNew];refine gt (wpAny_handled ?_)
 first | rw [show A.in1.handled=none from hh] | rw [hh]
 exact gt (JB (wpAny_throw (hE _ _ (((Heap.SameBut.update ..).extBut.push _).push _) ⟨_,JC _ rfl,rfl⟩)))
end
theorem pM.tuple {P:Ku} {w:Kw} (it l:Kr):pM P w it l (λk h=>h.IsTupleIter it l k) (λxs h=>h.IsTuple l xs) where
 at_:=λ_ _ _ x y=>x.at y
 sqAt:=λ_ _ _ x y=>x.at y
 obj:=λ_ _ z9=>by obtain⟨o,e,_,d⟩:=z9; exact⟨o,e,λv z=>by rw [d] at z; cases z⟩
 item:=λ_ _ _ _ _ _ _ a b c d=>lj a b c d
 fin:=λ_ _ _ _ _ _ hh a b c d=>mR hh a b c d
section
variable {l1 l2:Kr} {n1 n2:KB} {sq1 Jn:Kz Kq->Kx->Prop}
abbrev A1 (h:Kx) (n1:KB) (l1:Kr):Kx:=h.push {cls:=.type n1,data:=.fields #[.ref l1,.int 0 0]}
variable {prog:Ku} {w:Kw} {A:Kv} {E:Kq->Ko->Prop} {s:Ko}
end
section
variable {X:Cx} {KE:List (Kr×KD)} {σ:St} {H:Hp} {s:Ko} {h':Kx}
theorem aE.turnedL {t':Nat} (ch:List Kr) (I:aE X KE σ H s) (k:∀ b o,b∉ch->s.heap.get? b=some o->h'.get? b=some o) (hf:∀ b∈ch,ni X KE H b):aE X KE σ H {s with heap:=h',toks:=t'}:=by
 have nit:∀ b u,H b=some u->b∉ch:=λb u e z=>by rw [(hf b z).1] at e; cases e
 refine I.step (g':=s.gens) (d':=s.drawn) (ch:=ch) (λb hb=>⟨(hf b hb).2.2.2.1,(hf b hb).2.1,(hf b hb).2.2.2.2.1,(hf b hb).2.2.2.2.2⟩) (λb o _ _ hc e _=>k b o hc e) (λb o _ _ hc e _=>⟨o.slots,k b o hc e⟩) (λ_ _ _ _ n=>n)
  (λb o hc e=>⟨o,k b o hc e⟩) (λ_ _ e=>e) (λ_ _ _ e=>e) (λb ps e=>⟨#[],by rw [e]; simp⟩) (λm hm=>?_) (λb u e=>?_) I.bare
 ·obtain⟨o,es,ep,ho,r⟩:=hm;exact⟨o,es,ep,k _ o (λz=>(hf _ z).2.1 rfl) ho,r⟩
 ·refine(I.hok b u e).stay (λc v hc q=>k c v ?_ q) (λ_ q=>q) λ_ _ q=>q
  rcases hc with z | z
  ·rw [z]; exact nit b u e
  ·exact nit c _ z
theorem aE.turnedNew {t':Nat} {T:Kr} {xs:List V} (ch:List Kr) (I:aE X KE σ H s) (k:∀ b o,b∉ch->s.heap.get? b=some o->h'.get? b=some o) (hf:∀ b∈ch,ni X KE H b) (hT:s.heap.objs.size<=T)
  (new:dy X.prog X.w (br H T (.tup xs)) h' T (.tup xs)):aE X KE σ (br H T (.tup xs)) {s with heap:=h',toks:=t'}:=by
 have hn:H T=none:=I.hok.fresh hT;have nit:∀ b u,H b=some u->b∉ch:=λb u e z=>by rw [(hf b z).1] at e; cases e
 have neT:∀ b o,s.heap.get? b=some o->b≠T:=λb o e z=>by subst z; exact absurd (JN (JD e) hT) (Ke _)
 refine I.step (g':=s.gens) (d':=s.drawn) (ch:=ch) (λb hb=>⟨(hf b hb).2.2.2.1,(hf b hb).2.1,(hf b hb).2.2.2.2.1,(hf b hb).2.2.2.2.2⟩) (λb o _ _ hc e _=>k b o hc e) (λb o _ _ hc e _=>⟨o.slots,k b o hc e⟩) (λb o _ e n=>by rw [aO (neT b o e)]; exact n)
  (λb o hc e=>⟨o,k b o hc e⟩) (λb _ e=>by rw [aO (bN e hn)]; exact e) (λb _ _ e=>by rw [aO (bN e hn)]; exact e) (λb ps e=>⟨#[],by rw [aO (bN e hn),e]; simp⟩) (λm hm=>?_) (λb u e=>?_) I.bare
 ·obtain⟨o,es,ep,ho,r⟩:=hm;exact⟨o,es,ep,k _ o (λz=>(hf _ z).2.1 rfl) ho,r⟩
 ·by_cases hb:b=T
  ·subst hb;rw [bo] at e;cases e;exact new
  ·rw [aO hb] at e;refine(I.hok b u e).stay (λc v hc q=>k c v ?_ q) (λc q=>by rw [aO (bN q hn)]; exact q) λc _ q=>by rw [aO (bN q hn)]; exact q
   rcases hc with z | z
   ·rw [z]; exact nit b u e
   ·exact nit c _ z
end
def wb (b:KA) (K:PySem.W.Frag) (H:Hp) (a:Kr) (xs:List V):Prop:=match b with | true=>eQ K H a xs | false=>gZ K H a xs
def FL (b:KA) (it l:Kr) (k:Nat) (h:Kx):Prop:=match b with | true=>h.IsListIter it l k | false=>h.IsTupleIter it l k
def sqB (b:KA) (l:Kr) (xs:Kz Kq) (h:Kx):Prop:=match b with | true=>h.IsList l xs | false=>h.IsTuple l xs
theorem dD {P:Ku} {w:Kw} (b:KA) (it l:Kr):pM P w it l (FL b it l) (sqB b l):=match b with | true=>pM.list it l | false=>pM.tuple it l
section
variable {X:Cx} {KE:List (Kr×KD)} {σ:St} {H:Hp} {s:Ko} {a:Kr} {xs ys:List V} {b:KA}
theorem aE.sqB (I:aE X KE σ H s) (h:wb b X.K H a xs):∃ its:List Kq,aW xs its/\L2.sqB b a its.toArray s.heap:=by
 cases b with
 | true=>obtain⟨its,r,p,_⟩:=I.list h; exact⟨its,r,p.isList⟩
 | false=>obtain⟨its,r,p,_⟩:=I.tuple h; exact⟨its,r,p⟩
theorem aE.sqB_inj (I:aE X KE σ H s) (h:wb b X.K H a xs) (h':wb b X.K H a ys):xs=ys:=by
 cases b with
 | true=>exact I.list_inj h h'
 | false=>exact I.tuple_inj h h'
theorem vF {its:Kz Kq} {h:Kx} (e:L2.sqB b a its h):a < h.objs.size:=by
 cases b with
 | true=>obtain⟨o,e,_⟩:=e; exact JD e
 | false=>obtain⟨o,e,_⟩:=e; exact JD e
end
end L2
namespace DL
open PySem PySem.Spec PyProof.Rows L2
theorem vy {K:Fg} {S1:DH} {H1:Hp} {d:D} {v:V} {p:List D×Ks Kr} (hS1:Hs K H1 S1) (i1:bB K H1 d v) (hp:aI S1 d=some p):∃ a b,v=.ref a/\
  (∃ xs,wb b K H1 a xs)/\∀ S2 H2,Kp H1 H2->Hs K H2 S2->eG p S2->∃ xs,wb b K H2 a xs/\IsDs K H2 p.1 xs:=by
 cases d with
 | tup ds=>
  cases hp;obtain⟨a,xs,rfl,t,j⟩:=bw.mp i1;exact⟨a,false,rfl,⟨xs,t⟩,λS2 H2 k2 _ _=>⟨xs,k2.tup t,j.kp k2⟩⟩
 | rl ds=>
  cases hp;obtain⟨a,xs,rfl,t,j⟩:=uc.mp i1;exact⟨a,true,rfl,⟨xs,t.sq⟩,λS2 H2 k2 _ _=>⟨xs,(k2.fro t).sq,j.kp k2⟩⟩
 | ref a=>
  have e1:=aU.mp i1;subst e1;cases z:S1 a with
  | none=>simp only [aI,z] at hp; cases hp
  | some o=>
   cases o with
   | dic=>simp only [aI,z] at hp; cases hp
   | exc _=>simp only [aI,z] at hp; cases hp
   | fn _=>simp only [aI,z] at hp; cases hp
   | tbl _=>simp only [aI,z] at hp; cases hp
   | gen _=>simp only [aI,z] at hp; cases hp
   | lst ds=>
    simp only [aI,z] at hp;cases hp;obtain⟨xs,hl,j⟩:=hS1.lst z;refine⟨a,true,rfl,⟨xs,eQ.of hl⟩,λS2 H2 k2 hS2 o2=>?_⟩
    obtain⟨ys,hl2,j2⟩:=hS2.lst o2;exact⟨ys,eQ.of hl2,j2⟩
 | _=>cases hp
theorem tQ {K:Fg} {H:Hp}:∀ {bs:List KA} {xs:List V},IsDs K H (bs.map D.bl) xs->xs=bs.map V.bl
 | [],_,h=>eJ.mp h
 | b::bs,_,h=>by
  obtain⟨v,r,rfl,h1,h2⟩:=bC.mp h;rw [aT.mp h1,tQ h2]
  rfl
theorem tH:∀ {bs:List KA} {us:List Kq},aW (bs.map V.bl) us->us=bs.map Value.bool
 | [],_,.nil=>rfl
 | b::bs,_,.cons r t=>by
  cases r;rw [tH t]
  rfl
theorem mH:∀ (bs:List KA),(List.range bs.length).all (λi=>bs.getD i true)=bs.all id
 | []=>rfl
 | b::bs=>by
  rw [JQ,List.range_succ_eq_map,List.all_cons,List.all_map,List.all_cons];exact congrArg (b && ·) (mH bs)
theorem wB {S:DH} {d:D} {q:List D×Ks Kr} (h:aI S d=some q):eG q S:=by
 cases d with
 | tup ds=>cases h; trivial
 | rl ds=>cases h; trivial
 | ref a=>
  simp only [aI] at h
  split at h
  ·rename_i z; cases h; exact z
  ·cases h
 | _=>cases h
def zN:bE:=λds S k=>match ds with
 | [d]=>∃ (q:List D×Ks Kr) (bs:List KA),aI S d=some q/\q.1=bs.map D.bl/\k (.bl (bs.all id)) S
 | _=>False
theorem Fl {X:Cx} (hc:X.calm=true:=by rfl):bW X (.builtin "all") (nX X.K zN):=by
 intro KE s σ H xs us Q I rs h;obtain⟨ds,S,k,i,hS,r,n⟩:=h;unfold zN at r
 split at r
 ·obtain⟨x,rfl,i1⟩:=cr i;obtain⟨q,bs,e1,e2,r⟩:=r;obtain⟨a,b,rfl,_,y⟩:=vy hS i1 e1;obtain⟨vs,w1,w2⟩:=y S H (Kp.refl H) hS (wB e1);rw [e2] at w2;have ev:=tQ w2;subst ev;obtain⟨its,rv,p⟩:=I.sqB w1;have ei:=tH rv;subst ei;cases rs with
  | cons r0 rr=>
   cases rr;cases r0;have hh:X.A.in1.handled=none:=I.ok.hd hc;have hlt:=vF p;have fin:∀ (nm:KB) (h':Kx) (tk:Nat),(∀ c o,c∉[s.heap.objs.size]->(s.heap.push {cls:=.type nm,data:=.fields #[.ref a,.int 0 0]}).get? c=some o->h'.get? c=some o)->
     EP X KE σ Q (.bool (bs.all id)) {s with heap:=h',toks:=tk}:=λnm h' tk kk=>by
    have I1:aE X KE σ H {s with heap:=s.heap.push {cls:=.type nm,data:=.fields #[.ref a,.int 0 0]}}:=I.kept (t':=s.toks) λc o e=>pp _ e
    refine⟨.bl (bs.all id),H,aE.turnedL (s:={s with heap:=s.heap.push {cls:=.type nm,data:=.fields #[.ref a,.int 0 0]}}) (t':=tk) [s.heap.objs.size] I1 kk (λc hc=>?_),rfl,n _ _ _ _ r (Kp.refl H) hS (aT.mpr rfl)⟩
    have e:c=s.heap.objs.size:=by simpa using hc
    subst e;exact I.fpOk (JE _) (I.hok.fresh (JE _))
   have len:(bs.map Value.bool).toArray.size=bs.length:=by simp
   have tr:∀ A',TruthOf X.prog X.w A' (λi v=>(bs.map Value.bool).toArray[i]?=some v) (λi=>bs.getD i true):=λA' i v s' Q' E' hP hQ=>by
    have hP':(bs[i]?).map Value.bool=some v:=by simpa using hP
    cases z:bs[i]? with
    | none=>rw [z] at hP'; cases hP'
    | some c=>
     rw [z] at hP';cases hP';refine wpAny_truthy_bool ?_
     simpa [List.getD,z] using hQ
   refine call_all_walk ?_;cases b with
   | true=>
    refine wpAny_pyIter_list (show s.heap.IsList a _ from p) ?_
    refine⟨s.heap.objs.size,_,_,_,_,_,_,rfl,Walks.list hh s.heap.objs.size a (JK hlt) (bs.map Value.bool).toArray,⟨⟨_,JC _ rfl,rfl,rfl⟩,Heap.IsList.at p λo e=>pp _ e⟩,tr _,λh' tk kk=>?_⟩
    rw [len,mH];exact fin _ h' tk kk
   | false=>
    refine wpAny_pyIter_tuple (show s.heap.IsTuple a _ from p) ?_
    refine⟨s.heap.objs.size,_,_,_,_,_,_,rfl,Walks.tuple hh s.heap.objs.size a (JK hlt) (bs.map Value.bool).toArray,⟨⟨_,JC _ rfl,rfl,rfl⟩,Heap.IsTuple.at p λo e=>pp _ e⟩,tr _,λh' tk kk=>?_⟩
    rw [len,mH];exact fin _ h' tk kk
 ·exact r.elim
theorem yq {X:Cx} {KE:List (Kr×KD)} {σ:L2.St} {H:Hp} {s:Ko} {S:DH} {d:D} {x:V} {u:Kq} {t:Ty} (I:aE X KE σ H s) (hS:Hs X.K H S) (i:bB X.K H d x) (r:aV x u) (h:Fu S d=some t):
  ∃ Hh:Kx->Prop,PySem.W.KitX X.K u (.type t.name) Hh/\Hh s.heap/\u≠.builtin "__main__.__loader__#opaque":=by
 cases d with
 | non=>cases h; rw [b7.mp i] at r; cases (show u=Value.none from r); exact⟨_,PySem.W.kitx_none,True.intro,λz=>nomatch z⟩
 | bl b=>cases h; rw [aT.mp i] at r; cases (show u=Value.bool b from r); exact⟨_,PySem.W.kitx_bool,True.intro,λz=>nomatch z⟩
 | int b=>cases h; rw [isInt.mp i] at r; obtain⟨tk,q⟩:=(show ∃ t,u=Value.int b t from r); cases q; exact⟨_,PySem.W.kitx_int,True.intro,λz=>nomatch z⟩
 | str b=>cases h; rw [aY.mp i] at r; obtain⟨tk,q⟩:=(show ∃ t,u=Value.str b t from r); cases q; exact⟨_,PySem.W.kitx_str,True.intro,λz=>nomatch z⟩
 | tup ds=>
  cases h;obtain⟨a,vs,rfl,q,_⟩:=bw.mp i;cases (show u=Value.ref a from r)
  obtain⟨its,_,⟨o,h1,h2,_⟩,_⟩:=I.tuple q;exact⟨_,PySem.W.kitx_tuple,⟨o,h1,h2⟩,λz=>nomatch z⟩
 | rl ds=>cases h
 | ty n=>cases h
 | ref a=>
  rw [aU.mp i] at r;cases (show u=Value.ref a from r)
  have h:GL (S a)=some t:=h;cases z:S a with
  | none=>rw [z] at h; cases h
  | some o=>
   rw [z] at h;cases o with
   | lst ds=>
    cases h;obtain⟨vs,e,_⟩:=hS.lst z;obtain⟨its,_,⟨o,n,h1,h2,_⟩,_⟩:=I.list (eQ.of e);exact⟨_,PySem.W.kitx_list,⟨o,h1,h2⟩,λz=>nomatch z⟩
   | dic=>
    cases h;obtain⟨vs,e⟩:=hS _ _ z;obtain⟨_,_,vs',_,p⟩:=(show dy X.prog X.w H s.heap a (.dK vs) from I.hok a _ e)
    obtain⟨o,es,ep,h1,h2,_⟩:=p;exact⟨_,PySem.W.kitx_dict,⟨o,h1,h2.1⟩,λz=>nomatch z⟩
   | exc _=>cases h
   | fn _=>cases h
   | tbl _=>cases h
   | gen _=>cases h
theorem rB {K:Fg} (t:Ty):∀ cs:List Ty,PySem.W.kitAny K (.type t.name) (cs.map λc=>.type c.name)=some (cs.any (pX t))
 | []=>rfl
 | c::r=>by
  have ih:=rB (K:=K) t r;rw [JP,PySem.W.kitAny,vR];cases z:pX t c with
  | true=>simp [z]
  | false=>simp only [List.any_cons,z,Bool.false_or]; exact ih
theorem uu {K:Fg} {H:Hp}:∀ {cs:List Ty} {xs:List V},IsDs K H (cs.map D.ty) xs->xs=cs.map λc=>V.ty c.name
 | [],_,h=>eJ.mp h
 | b::bs,_,h=>by
  obtain⟨v,r,rfl,h1,h2⟩:=bC.mp h;rw [yW.mp h1,uu h2]
  rfl
theorem uk:∀ {cs:List Ty} {us:List Kq},aW (cs.map λc=>V.ty c.name) us->us=cs.map λc=>Value.type c.name
 | [],_,.nil=>rfl
 | b::bs,_,.cons r t=>by
  cases r;rw [uk t]
  rfl
def CC:bE:=λds S k=>match ds with
 | [d,.ty c]=>∃ t,Fu S d=some t/\k (.bl (pX t c)) S
 | [d,.tup cs]=>∃ (t:Ty) (ts:List Ty),Fu S d=some t/\cs=ts.map D.ty/\k (.bl (ts.any (pX t))) S
 | _=>False
theorem eR {X:Cx}:bW X (.builtin "isinstance") (nX X.K CC):=by
 intro KE s σ H xs us Q I rs h;obtain⟨ds,S,k,i,hS,r,n⟩:=h;unfold CC at r
 split at r
 ·rename_i d c
  obtain⟨t,ht,r⟩:=r;obtain⟨x,y,rfl,i1,i2⟩:=ku i;have e2:=yW.mp i2;subst e2;obtain⟨u,w',rfl,r1,r2⟩:=o9 rs;cases (show w'=Value.type c.name from r2)
  obtain⟨Hh,kx,p,nb⟩:=yq I hS i1 r1 ht;exact PySem.W.kia_one kx I.kIn p (vR t c) nb λtk=>⟨.bl (pX t c),H,I.tok tk,rfl,n _ _ _ _ r (Kp.refl H) hS (aT.mpr rfl)⟩
 ·rename_i d cs
  obtain⟨t,ts,ht,rfl,r⟩:=r;obtain⟨x,y,rfl,i1,i2⟩:=ku i;obtain⟨a,vs,rfl,q,j⟩:=bw.mp i2;have ev:=uu j;subst ev;obtain⟨u,w',rfl,r1,r2⟩:=o9 rs;cases (show w'=Value.ref a from r2)
  obtain⟨Hh,kx,p,nb⟩:=yq I hS i1 r1 ht;obtain⟨its,rv,⟨o,h1,h2,m,h3⟩,_⟩:=I.tuple q;have ei:=uk rv;subst ei;obtain⟨oc,od,odt,os⟩:=o;cases h2;cases h3;exact PySem.W.kia_tup kx I.kIn p h1 (rB t ts) nb λtk=>⟨.bl (ts.any (pX t)),H,I.tok tk,rfl,n _ _ _ _ r (Kp.refl H) hS (aT.mpr rfl)⟩
 ·exact r.elim
section
variable {X:Cx} {o e a b c:Kt} {go ge ga gb gc:DE} {apos cpos pos:Pos}
def II (go ge:DE):DE:=λL S k=>go L S λd S1=>match d with
 | .ref a=>(∃ ds,S1 a=some (.lst ds))/\ge L S1 λe S2=>∃ ds,S2 a=some (.lst ds)/\ds.length < sizeLine/\k .non (put S2 a (.lst (ds++[e])))
 | _=>False
theorem gC (ho:EJ X o go) (he:EJ X e ge) (hbase:attributeBase o "append" X.env (eval o X.env)=eval o X.env:=by rfl)
  (hfew:((backTo cpos (starEach [e] X.env)).all (λx=>!x.1) && (backToKw cpos (keywordEach [] X.env)).all (λx=>x.1.isSome) && decide ([e].length+([]:List Keyword).length+(if ([]:List Keyword).isEmpty then 0 else 1) < 30))=true:=by rfl)
  (hline:(apos.endLine == cpos.line)=true:=by rfl) (hs:starEach [e] X.env=(false,eval e X.env)::starEach [] X.env:=by rfl) (hpl:(backTo cpos (starEach [] X.env)).any (·.1)=false:=by rfl):
  EJ X (.Call (.Attribute o "append" apos) [e] [] cpos) (II go ge):=
 ⟨PE.imp (CL PySem.F.plainAttrs_list PySem.F.slot_list_append PySem.F.type_list_append hX ho.h (xf he.h zJ hs) hbase hfew hline hs hpl) fun σ H Q ⟨L,S,k,hL,hS,h,n⟩=>up.go hL hS h λd S1 v H1 h1 k1 hL1 hS1 i1=>by
  cases d with
  | ref a=>
   have e1:=aU.mp i1;subst e1;obtain⟨⟨ds1,z1⟩,h1⟩:=h1;obtain⟨xs1,hl1,_⟩:=hS1.lst z1;refine⟨.inl ⟨rfl,xs1,eQ.of hl1⟩,up.go hL1 hS1 h1 λd2 S2 v2 H2 h2 k2 hL2 hS2 i2=>?_⟩
   obtain⟨ds,z,hz,w⟩:=h2;obtain⟨xs,hl,j⟩:=hS2.lst z;have k3:Kp H2 (br H2 a (.lst (xs++[v2]))):=Kp.mut hl (λz=>z)
   exact⟨a,xs,v2,rfl,rfl,hl,by rw [<- j.length]; exact hz,n _ _ _ _ w (k1.trans (k2.trans k3)) (hS2.setL hl (j.append (IsDs.cons i2 IsDs.nil))) (b7.mpr rfl)⟩
  | _=>exact(show False from h1).elim⟩
def vo (r r':D2) (ga gb gc:DE):DE:=λL S k=>ga L S λx S1=>gb L S1 λy S2=>r x y S2 λz S3=>match z with
 | .bl t=>if t=true then gc L S3 λw S4=>r' y w S4 k else k (.bl false) S3
 | _=>False
theorem rm {K:Fg} {r r':D2}:∀ σ H Q,up K (vo r r' ga gb gc) σ H Q->uU (fh K r) (fh K r') (up K ga) (up K gb) (up K gc) σ H Q:=fun σ H Q ⟨L,S,k,hL,hS,h,n⟩=>
 up.go hL hS h λd S1 v H1 h1 k1 hL1 hS1 i1=>up.go hL1 hS1 h1 λe S2 u H2 h2 k2 hL2 hS2 i2=>⟨d,e,S2,_,i1.kp k2,i2,hS2,h2,λz S3 w H3 q k3 hS3 i3=>by
  cases z with
  | bl t=>
   refine⟨t,aT.mp i3,?_⟩;have q':if t=true then gc L S3 (λw S4=>r' e w S4 k) else k (.bl false) S3:=q
   cases t with
   | false=>
    rw [if_neg JH] at q' ⊢;exact n _ _ _ _ q' (k1.trans (k2.trans k3)) hS3 (aT.mpr rfl)
   | true=>
    rw [if_pos rfl] at q' ⊢;exact up.go (hL2.kp k3) hS3 q' λf S4 w4 H4 h4 k4 hL4 hS4 i4=>⟨e,f,S4,k,i2.kp (k3.trans k4),i4,hS4,h4,λd' S' v' H' q k5 z1 z2=>n d' S' v' H' q (k1.trans (k2.trans (k3.trans (k4.trans k5)))) z1 z2⟩
  | _=>exact(show False from q).elim⟩
theorem uh {op op':CmpOp} {r r':D2} (ho:cS X (compareOp op) (fh X.K r)) (ho':cS X (compareOp op') (fh X.K r')) (ha:EJ X a ga) (hb:EJ X b gb) (hc:EJ X c gc)
  (hm:lastMarks [op,op'] [b,c]=false:=by with_unfolding_all rfl):EJ X (.Compare a [op,op'] [b,c] pos) (vo r r' ga gb gc):=⟨PE.imp (zc ho ho' ha.h hb.h hc.h hm) rm⟩
theorem xu {op op':CmpOp} {r r':D2} (ho:cS X (compareOp op) (fh X.K r)) (ho':cS X (compareOp op') (fh X.K r')) (ha:EJ X a ga) (hb:EJ X b gb) (hc:EJ X c gc)
  (hm:lastMarks [op,op'] [b,c]=false:=by with_unfolding_all rfl):TJ X (.Compare a [op,op'] [b,c] pos) (g_ (vo r r' ga gb gc)):=
 ⟨PT.imp (Ag ho ho' ha.h hb.h hc.h hm) fun σ H Q z9=>by obtain⟨L,S,k,hL,hS,h,n⟩:=z9; exact rm σ H _ ⟨L,S,_,hL,hS,h,λd S' v H' q k1 hS1 i1=>by
  cases d with
  | bl t=>exact⟨t,aT.mp i1,n t S' H' q k1 hS1⟩
  | _=>exact(show False from q).elim⟩⟩
end
theorem qy {K:Fg} {ok:DH->Prop} {gg:DG} {b:DS} {M:lX} {ds:List D} {L:Lo} {S:DH} {N:ql} {σ:L2.St} {H:Hp} {J:It} (hL:Lc K H L σ) (hS:Hs K H S) (h:fJ ok gg b M ds L S) (r:A3 K H M N)
  (hgo:∀ i d S1 H1,ds[i]?=some d->Kp H H1->Hs K H1 S1->ok S1->J.go i H1/\∀ x H',J.yld i H1 x H'->Kp H1 H'/\Hs K H' S1/\bB K H' d x)
  (hst:∀ S1 H1,Kp H H1->Hs K H1 S1->ok S1->J.stop ds.length H1):
  ∃ W:Nat->Nat->L2.St->Hp->Prop,(∃ m,W 0 m σ H)/\∀ i m σ H,W i m σ H->
   (J.stop i H/\N.nx σ H)\/(J.go i H/\∃ N':L2.St->Hp->Prop,(∀ σ' H',N' σ' H'->∃ m',m' < m/\W (i+1) m' σ' H')/\∀ x H',J.yld i H x H'->DR K gg x σ H' fun σ2 H2=>Ca K b {N with nx:=N',ct:=N',bk:=N.nx} σ2 H2):=by
 refine⟨λi m σ1 H1=>m=ds.length - i/\i<=ds.length/\∃ L1 S1,Lc K H1 L1 σ1/\Hs K H1 S1/\Kp H H1/\fJ ok gg b M (ds.drop i) L1 S1,⟨ds.length,by simp,Kd _,L,S,hL,hS,Kp.refl H,h⟩,?_⟩
 rintro i m σ1 H1 ⟨rfl,hi,L1,S1,hL1,hS1,k1,w1⟩
 by_cases hlt:i < ds.length
 ·have e:ds.drop i=ds[i]::ds.drop (i+1):=Kb hlt;rw [e] at w1;obtain⟨o1,w1⟩:=w1;obtain⟨g1,y1⟩:=hgo i ds[i] S1 H1 (by simp [hlt]) k1 hS1 o1
  refine .inr ⟨g1,fun σ' H'=>i+1<=ds.length/\∃ L' S',Lc K H' L' σ'/\Hs K H' S'/\Kp H H'/\fJ ok gg b M (ds.drop (i+1)) L' S',fun σ' H' z9=>by obtain⟨q1,q2⟩:=z9; exact⟨ds.length - (i+1),by omega,rfl,q1,q2⟩,λx H' y=>?_⟩
  obtain⟨k0,hS0,ix⟩:=y1 x H' y;have k10:=k1.trans k0;refine⟨ds[i],L1,S1,_,ix,hL1.kp k0,hS0,w1,λL2 S2 σ2 H2 q k2 hL2 hS2=>⟨L2,S2,_,hL2,hS2,q,?_⟩⟩
  have r2:=r.kp (k10.trans k2);exact⟨λL3 S3 σ3 H3 q3 k3 hL3 hS3=>⟨hlt,L3,S3,hL3,hS3,(k10.trans k2).trans k3,q3⟩,r2.rt,r2.nx,λL3 S3 σ3 H3 q3 k3 hL3 hS3=>⟨hlt,L3,S3,hL3,hS3,(k10.trans k2).trans k3,q3⟩⟩
 ·have e:i=ds.length:=by omega
  subst e;rw [List.drop_length] at w1;obtain⟨o1,w1⟩:=w1;exact .inl ⟨hst S1 H1 k1 hS1 o1,r.nx L1 S1 σ1 H1 w1 k1 hL1 hS1⟩
def wo:D->KA
 | .int _=>true | .bl _=>true | .str _=>true | .non=>true | _=>false
def A4:D->V
 | .int i=>.int i | .bl b=>.bl b | .str x=>.str x | _=>.non
theorem Ar {K:Fg} {H:Hp} {d:D} {v:V} (f:wo d=true) (i:bB K H d v):v=A4 d/\ko v=true:=by
 cases d with
 | int n=>rw [isInt.mp i]; exact⟨rfl,rfl⟩
 | bl n=>rw [aT.mp i]; exact⟨rfl,rfl⟩
 | str n=>rw [aY.mp i]; exact⟨rfl,rfl⟩
 | non=>rw [b7.mp i]; exact⟨rfl,rfl⟩
 | _=>cases f
theorem xa {K:Fg} {H:Hp}:∀ {ds:List D} {vs:List V},ds.all wo=true->IsDs K H ds vs->vs=ds.map A4/\vs.all ko=true
 | [],_,_,i=>by rw [eJ.mp i]; exact⟨rfl,rfl⟩
 | d::ds,_,f,i=>by
  obtain⟨v,r,rfl,h1,h2⟩:=bC.mp i;rw [List.all_cons,J6] at f;obtain⟨a1,a2⟩:=Ar f.1 h1;obtain⟨b1,b2⟩:=xa f.2 h2;exact⟨by rw [a1,b1]; rfl,by rw [List.all_cons,a2,b2]; rfl⟩
def F_ (neg:KA):D2:=λd e S k=>∃ q,aI S e=some q/\wo d=true/\q.1.all wo=true/\k (.bl (if neg then !Cz (A4 d) (q.1.map A4) else Cz (A4 d) (q.1.map A4))) S
theorem Hg {K:Fg} {neg:KA}:∀ x y H Q,fh K (F_ neg) x y H Q->IM K neg x y H Q:=λx y H Q ⟨d,e,S,k,i1,i2,hS,h,n⟩=>by
 obtain⟨q,e1,f1,f2,w⟩:=h;obtain⟨a,b,rfl,_,y⟩:=vy hS i2 e1;obtain⟨xs,w1,w2⟩:=y S H (Kp.refl H) hS (wB e1);obtain⟨a1,a2⟩:=Ar f1 i1;obtain⟨b1,b2⟩:=xa f2 w2;refine⟨a,xs,rfl,(by cases b with | true=>exact .inl w1 | false=>exact .inr w1),a2,b2,n _ _ _ _ w (Kp.refl H) hS (aT.mpr ?_)⟩
 rw [a1,b1]
theorem Gi {X:Cx}:cS X (compareOp .In) (fh X.K (F_ false)):=cS.imp ya Hg
section
variable {X:Cx} {pos:Pos}
def G6 (g:DE) (tl th:A6):DE:=λL S k=>g L S λx S1=>tl L S1 λlo S2=>th L S2 λhi S3=>match x with
 | .tup xs=>¬ (HT.cI xs.length 0 lo=0/\HT.cI xs.length xs.length hi=xs.length)/\k (.tup (jq xs lo hi)) S3
 | .rl xs=>∀ p,S3 p=none->k (.ref p) (put S3 p (.lst (jq xs lo hi)))
 | .ref a=>∃ xs,S3 a=some (.lst xs)/\∀ p,S3 p=none->k (.ref p) (put S3 p (.lst (jq xs lo hi)))
 | _=>False
theorem ot {e:Kt} {g:DE} {lo hi:Ks Kt} {tl th:A6} {p2 pos:Pos} (he:EJ X e g) (hl:OJ X lo tl) (hu:OJ X hi th):EJ X (.Subscript e (.Slice lo hi none p2) pos) (G6 g tl th):=
 ⟨PE.imp (pG (zd.or AS BN) he.h hl.h hu.h) fun σ H Q ⟨L,S,k,hL,hS,h,n⟩=>up.go hL hS h λd S1 v H1 h1 k1 hL1 hS1 i1=>by
  refine⟨L,S1,_,hL1,hS1,h1,λlo' S2 H2 h2 k2 hS2=>⟨L,S2,_,hL1.kp k2,hS2,h2,λhi' S3 H3 h3 k3 hS3=>?_⟩⟩
  cases d with
  | tup xs=>
   obtain⟨a,vs,rfl,t,j⟩:=bw.mp i1;have j3:=j.kp (k2.trans k3);refine .inl ⟨a,vs,rfl,(k2.trans k3).tup t,by rw [<- j.length]; exact h3.1,λp hp=>?_⟩
   have k4:Kp H3 (br H3 p (.tup (nW vs lo' hi'))):=Kp.new hp;refine n _ S3 _ _ h3.2 (k1.trans (k2.trans (k3.trans k4))) (hS3.new hp) (bw.mpr ⟨p,_,rfl,gZ.of bo,?_⟩);unfold jq nW;rw [j.length];exact((j3.drop _).take _).kp k4
  | rl xs=>
   obtain⟨a,vs,rfl,t,j⟩:=uc.mp i1;have j3:=j.kp (k2.trans k3);refine .inr ⟨a,vs,rfl,((k2.trans k3).fro t).sq,λp hp=>?_⟩
   refine n _ _ _ _ (h3 p (hS3.free hp)) (k1.trans (k2.trans (k3.trans (Kp.new hp)))) (hS3.newL hp ?_) (aU.mpr rfl);unfold jq nW;rw [j.length];exact(j3.drop _).take _
  | ref a=>
   have e1:=aU.mp i1;subst e1;obtain⟨xs,z,h3⟩:=h3;obtain⟨vs,hl,j⟩:=hS3.lst z;refine .inr ⟨a,vs,rfl,eQ.of hl,λp hp=>?_⟩
   refine n _ _ _ _ (h3 p (hS3.free hp)) (k1.trans (k2.trans (k3.trans (Kp.new hp)))) (hS3.newL hp ?_) (aU.mpr rfl);unfold jq nW;rw [j.length];exact(j.drop _).take _
  | _=>exact(show False from h3).elim⟩
theorem vi {elt tg iter c:Kt} {scope:Scope} {cl:List (Str×Kr)} {N:List Str} {cap:List (Ks Nat)} {gg:DG} {ge gi:DE} {gc:DT} (hc:X.calm=true) (Sc:db X scope cl N cap) (hi:EJ X iter gi) (hg:∀ s0 H0 ex C,GJ (dZ X scope cl N s0 H0 ex C) tg gg) (hcnd:∀ s0 H0 ex C,TJ (dZ X scope cl N s0 H0 ex C) c gc) (he:∀ s0 H0 ex C,EJ (dZ X scope cl N s0 H0 ex C) elt ge)
  (hs:∀ x,foldedSetIterable iter X.env x=pure x:=by intro _; rfl):EJ X (.ListComp elt [⟨tg,iter,[c],0⟩] scope pos) (sR cap gi gg (m8 gc ge)):=
 ⟨PE.imp (mE hc Sc (rV hi.h) (λs0 H0 ex C=>(hg s0 H0 ex C).h) (λs0 H0 ex C=>(hcnd s0 H0 ex C).h) (λs0 H0 ex C=>(he s0 H0 ex C).h) hs) fun σ H Q ⟨L,S,k,hL,hS,h,n⟩=>up.go hL hS h λd S1 v H1 h1 k1 hL1 hS1 i1=>by
  obtain⟨p,hp,h1⟩:=h1;obtain⟨a,e,q⟩:=rF hS1 i1 hp;refine⟨a,e,?_⟩;have n':∀ d S' v H',k d S'->Kp H1 H'->Hs X.K H' S'->bB X.K H' d v->Q v H':=λd S' v H' q k3=>n d S' v H' q (k1.trans k3)
  rcases q with ⟨q1,q2,q3⟩ | ⟨q1,q2,q3⟩
  ·exact .inl ⟨q1,λD hD=>gx (hL1.cap cap) hS1 hD (h1 D (hS1.free hD)) n' q2 q3⟩
  ·exact .inr ⟨q1,λD hD=>gx (hL1.cap cap) hS1 hD (h1 D (hS1.free hD)) n' q2 q3⟩⟩
theorem eY {ok:DH->Prop} {g:DG} {b:DS} {M:lX} (Iv:List D->Lo->DH->Prop) (hok:∀ r L S,Iv r L S->ok S)
  (hs:∀ d r L S N,Iv (d::r) L S->(∀ L' S',Iv r L' S'->N L' S')->g d L S λL1 S1=>b {M with nx:=N,ct:=N,bk:=M.nx} L1 S1) (hd:∀ L S,Iv [] L S->M.nx L S):∀ r L S,Iv r L S->fJ ok g b M r L S
 | [],L,S,i=>⟨hok [] L S i,hd L S i⟩
 | d::r,L,S,i=>⟨hok _ L S i,hs d r L S _ i λL' S' i'=>eY Iv hok hs hd r L' S' i'⟩
end
end DL
namespace L2
open PySem PySem.Spec PyProof.Rows
section
variable {X:Cx} {elt tg iter c:Kt} {scope:Scope} {cl:List (Str×Kr)} {N:List Str} {cap:List (Ks Nat)} {pos:Pos} {wi:TI} {g:TG} {te:TE} {tc:TT}
theorem oE (Sc:db X scope cl N cap) {KE:List (Kr×KD)} {σ σ3:St} {H2 H3:Hp} {s2 s4:Ko} {fp:List Kr} {h1':Kx} {C:Kr} (I2:aE X KE σ H2 s2) (f2:∀ b∈fp,ni X KE H2 b) {H1:Hp}
  (un3:Un (sU X.stack) fp H2 H1 s2.heap h1') (I4:aE (dZ X scope cl N {s2 with heap:=h1'} H1 fp C) [] σ3 H3 s4) (hC:s2.heap.objs.size<=C) {x:Str} {pos':Pos} {i:Nat} {D:ql} {a:Kr} (pg:PG X (.Name x pos') (nH i)) (qn:D.nx (σ.set i (some (.ref a))) H3):
  wpAny (model X.prog X.w) X.A (assign (.Name x pos') X.env (.ref a)) (λ_ s''=>∃ m,s''.heap.Ns C m/\∀ h',Heap.SameBut C s''.heap h'->∃ σ' H',aE X KE σ' H' {s'' with heap:=h'}/\D.nx σ' H') X.xe s4:=by
 have J:aE X KE σ H3 s4:=pH Sc I2 f2 un3 I4 (h':=s4.heap) hC ⟨rfl,λ_ _=>rfl⟩
 obtain⟨m,⟨o,es,ep,ho,hd,hr⟩,_⟩:=I4.loc;have ltC:∀ b u,s2.heap.get? b=some u->b≠C:=λb u e=>JK (JN (JD e) hC)
 have hL:C≠X.env.locals:=λz=>by
  have:=I2.lt;rw [<- z] at this;exact absurd (JN this hC) (Ke _)
 have hn:H3 C=none:=I4.free;have J':aE X ((C,o)::KE) σ H3 s4:=⟨J.ok,J.os,J.bare,J.base,J.loc,J.cell,J.free,J.freeC,λp hp=>by
  rcases List.mem_append.mp hp with hp | hp
  ·exact J.pin p (List.mem_append_left _ hp)
  ·rcases JJ.mp hp with rfl | hp
   ·exact⟨ho,hn,hL,I2.nofs hC,λv z=>by rw [hd] at z; cases z⟩
   ·exact J.pin p (JO _ hp),J.hok,J.len⟩
 refine be (pg _ s4 σ H3 (.ref a) (.ref a) (fun σ' H'=>σ'=σ.set i (some (.ref a))/\H'=H3) J' rfl ⟨rfl,rfl⟩) λ_ s5 h5=>?_
 obtain⟨_,_,I5,rfl,rfl⟩:=h5;have h6:=I5.pin (C,o) (JO _ JL);refine⟨m,⟨o,es,ep,h6.1,hd,hr⟩,λh' sb=>⟨_,_,?_,qn⟩⟩
 have I6:aE X KE (σ.set i (some (.ref a))) _ s5:=⟨I5.ok,I5.os,I5.bare,I5.base,I5.loc,I5.cell,I5.free,I5.freeC,λp hp=>I5.pin p (by
  rcases List.mem_append.mp hp with hp | hp
  ·exact List.mem_append_left _ hp
  ·exact JO _ (JM _ hp)),I5.hok,I5.len⟩
 exact I6.turned (t':=s5.toks) (it:=C) (λb u hb e=>(sb.2 b hb).trans e) hn hL (.inr (J5 I2.sz hC)) (λy c e=>by
  obtain⟨v,u,q,_⟩:=I2.cell y c e;exact ltC c u q) (λp hp=>ltC p.1 p.2 (I2.pin p hp).1)
theorem yD {x:Str} {i:Nat} {pos' spos:Pos} (hN:X.N.Nodup) (hi':X.N[i]?=some x) (hx':X.env.scope.names.lookup x=some .local) (hsw:swapsWith (.ListComp elt [⟨tg,iter,[],0⟩] scope pos) (some (.Name x pos')) spos.line X.env=pure true) (hc:X.calm=true) (Sc:db X scope cl N cap) (hi:PI X tg iter wi) (hg:∀ s0 H0 ex C,PG (dZ X scope cl N s0 H0 ex C) tg g) (he:∀ s0 H0 ex C,PE (dZ X scope cl N s0 H0 ex C) elt te)
  (hs:∀ x,foldedSetIterable iter X.env x=pure x:=by intro _; rfl):PS X (.Assign [.Name x pos'] (.ListComp elt [⟨tg,iter,[],0⟩] scope pos) spos) (yX (CD cap wi g te) (nH i)):=by
 intro KE s σ H D I h;have pg:PG X (.Name x pos') (nH i):=se hN hi' (.inl hx') (.inr hx');rw [exec_Assign_Name_used _ _ _ _ hsw];refine gt (wpAny_standAt (gt ?_))
 show wpAny _ _ (evalThenUse _ X.env _) _ _ _
 unfold evalThenUse;have Q:=λv H1=>D.nx (σ.set i (some v)) H1
 refine gt (J4 (Q:=λ_ s'=>∃ σ' H',aE X KE σ' H' s'/\D.nx σ' H') ?_ (λv s' q=>JB (JB q)) λ_ _ q=>q)
 have hcell:∀ y∈scope.names,y.2≠.cell:=λy hy=>by simpa using Kg.mp Sc.nocell y hy
 have hnames:∀ y∈scope.names,y.2=.local->scope.names.lookup y.1=some .local:=λy hy e=>by
  have:=Kg.mp Sc.names y hy;rw [e] at this
  simpa using this
 refine wpAny_comprehension_free (use:=some (assign (.Name x pos') X.env)) rfl hs Sc.clos Sc.kind hnames (be (hi KE s σ H _ I h) λv s1 h1=>be h1 λitv s2 h2=>?_)
 obtain⟨it,fp,tn,J,H2,e,I2,T,st2,f2,hW⟩:=h2;subst e;refine JZ (wpAny_newFunctionEnv hcell (by intro y hy; simp at hy) (λh1 hns hsb=>?_) Sc.kind)
 obtain⟨W,⟨m0,w0⟩,turn⟩:=hW s2.heap.objs.size I2.fresh;dsimp only at hns hsb ⊢
 generalize hD:s2.heap.push {cls:=.type "list",dict:=none,data:=.seq ([]:List Kq).toArray}=h1' at hns hsb ⊢
 obtain⟨I3,un3⟩:=lD (tk:=s2.toks+([]:List (Str×Kq)).length) Sc I2 f2 (λb hb=>let ⟨o,e,_⟩:=T.obj 0 _ st2 b hb; ⟨o,e⟩) hD hns hsb
 have hC:s2.heap.objs.size<=h1'.objs.size:=by rw [<- hD,Kf]; exact Nat.le_succ _
 have k1:∀ b o,s2.heap.get? b=some o->h1.get? b=some o:=λb o e=>by
  have e1:h1'.get? b=some o:=by rw [<- hD]; exact pp _ e
  exact(hsb.2 b (JK (JD e1))).trans (pp _ e1)
 have st3:tn 0 h1:=T.keep 0 _ _ st2 λb _ o e=>k1 b o e
 have fr3:∀ b∈fp,(br H2 s2.heap.objs.size (.lst [])) b=none:=λb hb=>by
  obtain⟨o,e,_⟩:=T.obj 0 _ st2 b hb;rw [aO (JK (JD e))];exact(f2 b hb).1
 have loop:∀ s3:Ko,s3={s2 with heap:=h1,toks:=s2.toks+([]:List (Str×Kq)).length}->
   codeAny (model X.prog X.w) X.A (.compLoop (.ListComp elt [⟨tg,iter,[],0⟩] scope pos) 0 (.ref it) (.ref s2.heap.objs.size) (compEnvC scope cl h1'.objs.size X.env))
    (compPost (model X.prog X.w) X.A X.xe (some (assign (.Name x pos') X.env)) (λ_ s'=>∃ σ' H',aE X KE σ' H' s'/\D.nx σ' H') (.ref s2.heap.objs.size) h1'.objs.size) s3:=by
  rintro s3 rfl;refine lJ (λn s'=>∃ i σ' H',aE (dZ X scope cl N {s2 with heap:=h1'} (br H2 s2.heap.objs.size (.lst [])) fp h1'.objs.size) [] σ' H' s'/\tn i s'.heap/\(∀ b∈fp,H' b=none)/\W i n σ' H') ?_ m0 ⟨0,_,_,I3,st3,fr3,w0⟩
  rintro n s3 ⟨i,σ3,H3,I3,st3,fr3,w3⟩;rcases turn i n σ3 H3 w3 with ⟨stop,qn⟩ | ⟨go,Nn,hN,step⟩
  ·refine be (T.done (dZ X scope cl N {s2 with heap:=h1'} (br H2 s2.heap.objs.size (.lst [])) fp h1'.objs.size) rfl rfl rfl hc i [] s3 σ3 H3 qt I3 (da I3 fr3) st3 stop) λr s4 z9=>?_
   obtain⟨hr,I4⟩:=z9;subst hr;exact oE Sc I2 f2 un3 I4 hC pg qn
  ·refine be (T.item (dZ X scope cl N {s2 with heap:=h1'} (br H2 s2.heap.objs.size (.lst [])) fp h1'.objs.size) rfl rfl rfl hc i [] s3 σ3 H3 qt I3 (da I3 fr3) st3 go) λr s4 z9=>?_
   obtain⟨u,hr,h4⟩:=z9;subst hr;refine be h4 λ_ s5 z9=>?_
   obtain⟨x,H5,I5,r5,y5,st5,fr5⟩:=z9;have I5':=I5.pinned (da I5 fr5) (T.obj _ _ st5);refine be (hg _ _ _ _ _ s5 σ3 H5 x u _ I5' r5 (step x H5 y5)) λ_ s6 z9=>?_
   obtain⟨σ6,H6,I6,q6⟩:=z9;refine be (he _ _ _ _ _ s6 σ6 H6 _ I6 q6) λuv s7 z9=>?_
   obtain⟨v,H7,I7,r7,ys,hy,hl,q7⟩:=z9;refine be (hX (X:=dZ X scope cl N {s2 with heap:=h1'} (br H2 s2.heap.objs.size (.lst [])) fp h1'.objs.size) _ s7 σ6 H7 (.ref s2.heap.objs.size) [v] (.ref s2.heap.objs.size) [uv] (λ_ H8=>Nn σ6 H8) I7 rfl (.cons r7 .nil) ⟨_,ys,v,rfl,rfl,hy,hl,q7⟩) λ_ s8 z9=>?_
   obtain⟨_,H8,I8,_,n8⟩:=z9;obtain⟨m',hm,w8⟩:=hN σ6 H8 n8;refine⟨m',hm,i+1,σ6,H8,I8.unpinned,T.keep _ _ _ st5 λb hb o e=>(I8.pin (b,o) (JO _ (JO _ (b5 hb e)))).1,λb hb=>?_,w8⟩
   obtain⟨o,e,d⟩:=T.obj _ _ st5 b hb;exact(I8.pin (b,o) (JO _ (JO _ (b5 hb e)))).2.1
 exact codeAny_compStart_list (loop _ rfl) (T.self _ 0 _ _ _ st3 (loop _ rfl))
theorem u_ {x:Str} {i:Nat} {pos' spos:Pos} (hN:X.N.Nodup) (hi':X.N[i]?=some x) (hx':X.env.scope.names.lookup x=some .local) (hsw:swapsWith (.ListComp elt [⟨tg,iter,[c],0⟩] scope pos) (some (.Name x pos')) spos.line X.env=pure true) (hc:X.calm=true) (Sc:db X scope cl N cap) (hi:PI X tg iter wi) (hg:∀ s0 H0 ex C,PG (dZ X scope cl N s0 H0 ex C) tg g) (hcnd:∀ s0 H0 ex C,PT (dZ X scope cl N s0 H0 ex C) c tc) (he:∀ s0 H0 ex C,PE (dZ X scope cl N s0 H0 ex C) elt te)
  (hs:∀ x,foldedSetIterable iter X.env x=pure x:=by intro _; rfl):PS X (.Assign [.Name x pos'] (.ListComp elt [⟨tg,iter,[c],0⟩] scope pos) spos) (yX (sJ cap wi g tc te) (nH i)):=by
 intro KE s σ H D I h;have pg:PG X (.Name x pos') (nH i):=se hN hi' (.inl hx') (.inr hx');rw [exec_Assign_Name_used _ _ _ _ hsw];refine gt (wpAny_standAt (gt ?_))
 show wpAny _ _ (evalThenUse _ X.env _) _ _ _
 unfold evalThenUse;have Q:=λv H1=>D.nx (σ.set i (some v)) H1
 refine gt (J4 (Q:=λ_ s'=>∃ σ' H',aE X KE σ' H' s'/\D.nx σ' H') ?_ (λv s' q=>JB (JB q)) λ_ _ q=>q)
 have hcell:∀ y∈scope.names,y.2≠.cell:=λy hy=>by simpa using Kg.mp Sc.nocell y hy
 have hnames:∀ y∈scope.names,y.2=.local->scope.names.lookup y.1=some .local:=λy hy e=>by
  have:=Kg.mp Sc.names y hy;rw [e] at this
  simpa using this
 refine wpAny_comprehension_free (use:=some (assign (.Name x pos') X.env)) rfl hs Sc.clos Sc.kind hnames (be (hi KE s σ H _ I h) λv s1 h1=>be h1 λitv s2 h2=>?_)
 obtain⟨it,fp,tn,J,H2,e,I2,T,st2,f2,hW⟩:=h2;subst e;refine JZ (wpAny_newFunctionEnv hcell (by intro y hy; simp at hy) (λh1 hns hsb=>?_) Sc.kind)
 obtain⟨W,⟨m0,w0⟩,turn⟩:=hW s2.heap.objs.size I2.fresh;dsimp only at hns hsb ⊢
 generalize hD:s2.heap.push {cls:=.type "list",dict:=none,data:=.seq ([]:List Kq).toArray}=h1' at hns hsb ⊢
 obtain⟨I3,un3⟩:=lD (tk:=s2.toks+([]:List (Str×Kq)).length) Sc I2 f2 (λb hb=>let ⟨o,e,_⟩:=T.obj 0 _ st2 b hb; ⟨o,e⟩) hD hns hsb
 have hC:s2.heap.objs.size<=h1'.objs.size:=by rw [<- hD,Kf]; exact Nat.le_succ _
 have k1:∀ b o,s2.heap.get? b=some o->h1.get? b=some o:=λb o e=>by
  have e1:h1'.get? b=some o:=by rw [<- hD]; exact pp _ e
  exact(hsb.2 b (JK (JD e1))).trans (pp _ e1)
 have st3:tn 0 h1:=T.keep 0 _ _ st2 λb _ o e=>k1 b o e
 have fr3:∀ b∈fp,(br H2 s2.heap.objs.size (.lst [])) b=none:=λb hb=>by
  obtain⟨o,e,_⟩:=T.obj 0 _ st2 b hb;rw [aO (JK (JD e))];exact(f2 b hb).1
 have loop:∀ s3:Ko,s3={s2 with heap:=h1,toks:=s2.toks+([]:List (Str×Kq)).length}->
   codeAny (model X.prog X.w) X.A (.compLoop (.ListComp elt [⟨tg,iter,[c],0⟩] scope pos) 0 (.ref it) (.ref s2.heap.objs.size) (compEnvC scope cl h1'.objs.size X.env))
    (compPost (model X.prog X.w) X.A X.xe (some (assign (.Name x pos') X.env)) (λ_ s'=>∃ σ' H',aE X KE σ' H' s'/\D.nx σ' H') (.ref s2.heap.objs.size) h1'.objs.size) s3:=by
  rintro s3 rfl;refine ln (λn s'=>∃ i σ' H',aE (dZ X scope cl N {s2 with heap:=h1'} (br H2 s2.heap.objs.size (.lst [])) fp h1'.objs.size) [] σ' H' s'/\tn i s'.heap/\(∀ b∈fp,H' b=none)/\W i n σ' H') ?_ m0 ⟨0,_,_,I3,st3,fr3,w0⟩
  rintro n s3 ⟨i,σ3,H3,I3,st3,fr3,w3⟩;rcases turn i n σ3 H3 w3 with ⟨stop,qn⟩ | ⟨go,Nn,hN,step⟩
  ·refine be (T.done (dZ X scope cl N {s2 with heap:=h1'} (br H2 s2.heap.objs.size (.lst [])) fp h1'.objs.size) rfl rfl rfl hc i [] s3 σ3 H3 qt I3 (da I3 fr3) st3 stop) λr s4 z9=>?_
   obtain⟨hr,I4⟩:=z9;subst hr;exact oE Sc I2 f2 un3 I4 hC pg qn
  ·refine be (T.item (dZ X scope cl N {s2 with heap:=h1'} (br H2 s2.heap.objs.size (.lst [])) fp h1'.objs.size) rfl rfl rfl hc i [] s3 σ3 H3 qt I3 (da I3 fr3) st3 go) λr s4 z9=>?_
   obtain⟨u,hr,h4⟩:=z9;subst hr;refine be h4 λ_ s5 z9=>?_
   obtain⟨x,H5,I5,r5,y5,st5,fr5⟩:=z9;have I5':=I5.pinned (da I5 fr5) (T.obj _ _ st5);refine be (hg _ _ _ _ _ s5 σ3 H5 x u _ I5' r5 (step x H5 y5)) λ_ s6 z9=>?_
   obtain⟨σ6,H6,I6,q6⟩:=z9;have again:∀ {s8:Ko} {H8:Hp},aE (dZ X scope cl N {s2 with heap:=h1'} (br H2 s2.heap.objs.size (.lst [])) fp h1'.objs.size) ([]++na fp s5.heap) σ6 H8 s8->Nn σ6 H8->
     ∃ m,m < n/\∃ i σ' H',aE (dZ X scope cl N {s2 with heap:=h1'} (br H2 s2.heap.objs.size (.lst [])) fp h1'.objs.size) [] σ' H' s8/\tn i s8.heap/\(∀ b∈fp,H' b=none)/\W i m σ' H':=λ{s8 H8} I8 n8=>by
    obtain⟨m',hm,w8⟩:=hN σ6 H8 n8;refine⟨m',hm,i+1,σ6,H8,I8.unpinned,T.keep _ _ _ st5 λb hb o e=>(I8.pin (b,o) (JO _ (JO _ (b5 hb e)))).1,λb hb=>?_,w8⟩
    obtain⟨o,e,d⟩:=T.obj _ _ st5 b hb;exact(I8.pin (b,o) (JO _ (JO _ (b5 hb e)))).2.1
   refine be (hcnd _ _ _ _ _ s6 σ6 H6 _ I6 q6) λb s6' z9=>?_
   obtain⟨H6',I6',q6'⟩:=z9;cases b with
   | true=>
    rw [if_pos rfl] at q6' ⊢;refine be (he _ _ _ _ _ s6' σ6 H6' _ I6' q6') λuv s7 z9=>?_
    obtain⟨v,H7,I7,r7,ys,hy,hl,q7⟩:=z9;refine be (hX (X:=dZ X scope cl N {s2 with heap:=h1'} (br H2 s2.heap.objs.size (.lst [])) fp h1'.objs.size) _ s7 σ6 H7 (.ref s2.heap.objs.size) [v] (.ref s2.heap.objs.size) [uv] (λ_ H8=>Nn σ6 H8) I7 rfl (.cons r7 .nil) ⟨_,ys,v,rfl,rfl,hy,hl,q7⟩) λ_ s8 z9=>?_
    obtain⟨_,H8,I8,_,n8⟩:=z9;exact again I8 n8
   | false=>
    rw [if_neg JH] at q6' ⊢;exact again I6' q6'
 exact codeAny_compStart_list (loop _ rfl) (T.self _ 0 _ _ _ st3 (loop _ rfl))
end
end L2
namespace DL
open PySem PySem.Spec PyProof.Rows L2
theorem F' {K:Fg} {ge:DE} {tc:TE} {i:Nat} (f:∀ σ H Q,up K ge σ H Q->tc σ H Q):∀ N σ H,Ca K (u7 i ge) N σ H->yX tc (nH i) N σ H:=λN σ H ⟨L,S,M,hL,hS,h,r⟩=>
 f σ H _ (up.go hL hS h λd S1 v H1 h1 k1 hL1 hS1 i1=>r.nx _ S1 _ H1 h1 k1 (hL1.set i1 i) hS1)
section
variable {X:Cx} {pos pos' p:Pos} {elt tg a b c:Kt} {scope:Scope} {cl:List (Str×Kr)} {N:List Str} {cap:List (Ks Nat)} {gg:DG} {ge gi:DE} {gc:DT} {ta:DA}
theorem qh {xv:Str} {iv:Nat} {pv sv:Pos} (hNv:X.N.Nodup) (hc:X.calm=true) (Sc:db X scope cl N cap) (hgl:Gl X "range") (hm:X.mg "range"=none) (ha:AJ X [a] ta) (hg:∀ s0 H0 ex C,GJ (dZ X scope cl N s0 H0 ex C) tg gg) (hcn:∀ s0 H0 ex C,TJ (dZ X scope cl N s0 H0 ex C) c gc) (he:∀ s0 H0 ex C,EJ (dZ X scope cl N s0 H0 ex C) elt ge)
  (hs1:starEach [a] X.env=[(false,eval a X.env)]:=by exact cO rfl) (hs:∀ x,foldedSetIterable (.Call (.Name "range" p) [a] [] pos') X.env x=pure x:=by intro _; rfl) (hiv:X.N[iv]?=some xv:=by rfl) (hxv:X.env.scope.names.lookup xv=some .local:=by rfl) (hswv:swapsWith (.ListComp elt [⟨tg,.Call (.Name "range" p) [a] [] pos',[c],0⟩] scope pos) (some (.Name xv pv)) sv.line X.env=pure true:=by rfl):SJ X (.Assign [.Name xv pv] (.ListComp elt [⟨tg,.Call (.Name "range" p) [a] [] pos',[c],0⟩] scope pos) sv) (u7 iv (EQ cap ta gg (m8 gc ge))):=
 ⟨PS.imp (u_ hNv hiv hxv hswv hc Sc (rq hgl hm ha.h hs1) (λs0 H0 ex C=>(hg s0 H0 ex C).h) (λs0 H0 ex C=>(hcn s0 H0 ex C).h) (λs0 H0 ex C=>(he s0 H0 ex C).h) hs) (F' (fun σ H Q ⟨L,S,k,hL,hS,h,n⟩=>q9.go hL hS h λds S1 vs H1 h1 k1 hL1 hS1 i1=>by
  split at h1
  ·obtain⟨v,rfl,j⟩:=cr i1;have e:=isInt.mp j;subst e;obtain⟨⟨h2,h3⟩,h1⟩:=h1;refine⟨_,rfl,h2,h3,λD hD=>gx (hL1.cap cap) hS1 hD (h1 D (hS1.free hD)) (λd S' v H' q k3=>n d S' v H' q (k1.trans k3)) AW λS2 H2 k2 hS2 _=>?_⟩
   rw [JG,List.length_range];exact JE _
  ·exact h1.elim))⟩
theorem tz {xv:Str} {iv:Nat} {pv sv:Pos} (hNv:X.N.Nodup) {elt tg iter:Kt} {scope:Scope} {cl:List (Str×Kr)} {N:List Str} {cap:List (Ks Nat)} {gg:DG} {ge gi:DE} (hc:X.calm=true) (Sc:db X scope cl N cap) (hi:EJ X iter gi) (hg:∀ s0 H0 ex C,GJ (dZ X scope cl N s0 H0 ex C) tg gg) (he:∀ s0 H0 ex C,EJ (dZ X scope cl N s0 H0 ex C) elt ge)
  (hs:∀ x,foldedSetIterable iter X.env x=pure x:=by intro _; rfl) (hiv:X.N[iv]?=some xv:=by rfl) (hxv:X.env.scope.names.lookup xv=some .local:=by rfl) (hswv:swapsWith (.ListComp elt [⟨tg,iter,[],0⟩] scope pos) (some (.Name xv pv)) sv.line X.env=pure true:=by rfl):SJ X (.Assign [.Name xv pv] (.ListComp elt [⟨tg,iter,[],0⟩] scope pos) sv) (u7 iv (sR cap gi gg (jx ge))):=
 ⟨PS.imp (yD hNv hiv hxv hswv hc Sc (rV hi.h) (λs0 H0 ex C=>(hg s0 H0 ex C).h) (λs0 H0 ex C=>(he s0 H0 ex C).h) hs) (F' (fun σ H Q ⟨L,S,k,hL,hS,h,n⟩=>up.go hL hS h λd S1 v H1 h1 k1 hL1 hS1 i1=>by
  obtain⟨p,hp,h1⟩:=h1;obtain⟨a,e,q⟩:=rF hS1 i1 hp;refine⟨a,e,?_⟩;have n':∀ d S' v H',k d S'->Kp H1 H'->Hs X.K H' S'->bB X.K H' d v->Q v H':=λd S' v H' q k3=>n d S' v H' q (k1.trans k3)
  rcases q with ⟨q1,q2,q3⟩ | ⟨q1,q2,q3⟩
  ·exact .inl ⟨q1,λD hD=>ic (hL1.cap cap) hS1 hD (h1 D (hS1.free hD)) n' q2 q3⟩
  ·exact .inr ⟨q1,λD hD=>ic (hL1.cap cap) hS1 hD (h1 D (hS1.free hD)) n' q2 q3⟩))⟩
end
abbrev Er:=Kr×Ks Int
instance:Coe Kr Er:=⟨λa=>(a,none)⟩
section
variable {X:Cx} {KE:List (Kr×KD)} {σ:L2.St} {H:Hp} {s:Ko}
theorem yr (I:aE X KE σ H s) {S:DH} {a c:Kr} {ds es:List D} {b:KA} (hS:Hs X.K H S) (h1:S a=some (.lst ds)) (h2:S c=some (.lst es)) (hl:ds.length=es.length) (A:Kv) (hu:A.units+8 < cLine) (h:gD (gY 7) ds es=some b):
  SeqAt.RcAt A s (.ref a) (.ref c) b/\SeqAt.RcNeAt A s (.ref a) (.ref c) (!b):=by
 obtain⟨xs,q1,j1⟩:=hS.lst h1;obtain⟨ys,q2,j2⟩:=hS.lst h2;obtain⟨us,r1,p1,_⟩:=I.list (eQ.of q1);obtain⟨ws,r2,p2,_⟩:=I.list (eQ.of q2);have l1:=j1.length;have l2:=j2.length;have l3:=r1.length;have l4:=r2.length;have hsz:us.toArray.size=ws.toArray.size:=by simp only [JI]; omega
 have he:∀ j (h1:j < us.toArray.size) (h2:j < ws.toArray.size),SeqAt.EqAt A.in1 s us.toArray[j] ws.toArray[j] (hV (gY 7) ds es j):=λj h1 h2=>by
  simp only [JI] at h1 h2
  obtain⟨d,e,x,y,q1,q2,d1,d2,rx,ry⟩:=lK j1 j2 r1 r2 h1 h2;have:=(mM I 7 A.in1 d e x y us[j] ws[j] _ (by show A.units+1+7 < cLine; omega) (oq h q1 q2) d1 d2 rx ry).1
  simpa using this
 have e:=li h;rw [hl,Nat.min_self] at e;have e:(List.range us.toArray.size).all (hV (gY 7) ds es)=b:=by
  simp only [JI];rw [<- l3,<- l1,hl]
  simpa using e
 refine⟨?_,?_⟩
 ·have z:=SeqAt.RcAt.lists p1.isList p2.isList hsz (by omega) he
  rw [e] at z;exact z
 ·have z:=SeqAt.RcNeAt.lists p1.isList p2.isList hsz (by omega) he
  rw [e] at z;exact z
end
def E6:D2:=λd e S k=>match d,e with
 | .ref a,.ref c=>∃ xs ys b,S a=some (.lst xs)/\S c=some (.lst ys)/\xs.length=ys.length/\gD (gY 7) xs ys=some b/\k (.bl b) S
 | d,e=>∃ b,gY 8 d e=some b/\k (.bl b) S
def C3:D2:=λd e S k=>match d,e with
 | .ref a,.ref c=>∃ xs ys b,S a=some (.lst xs)/\S c=some (.lst ys)/\xs.length=ys.length/\gD (gY 7) xs ys=some b/\k (.bl (!b)) S
 | d,e=>∃ b,gY 8 d e=some b/\k (.bl (!b)) S
theorem qE {X:Cx} {n:Nat} (hr:cA n X.A):cS X (compareOp .Eq) (fh X.K E6):=by
 intro KE s σ H x y v u Q I rx ry h;obtain⟨d,e,S,k,i1,i2,hS,r,m⟩:=h;have hu:=hr.units;unfold E6 at r
 split at r
 ·obtain⟨xs,ys,b,h1,h2,h3,h4,w⟩:=r;have e1:=aU.mp i1;have e2:=aU.mp i2;subst e1 e2;cases rx;cases ry;exact(yr I hS h1 h2 h3 X.A (by omega) h4).1 X.prog X.w X.xe _ ⟨.bl b,H,I,rfl,eV m hS w (aT.mpr rfl)⟩
 ·obtain⟨b,h1,w⟩:=r;exact(mM I 8 X.A d e x y v u b (by omega) h1 i1 i2 rx ry).2 X.prog X.w X.xe _ ⟨.bl b,H,I,rfl,eV m hS w (aT.mpr rfl)⟩
theorem tv {X:Cx} {n:Nat} (hr:cA n X.A):cS X (compareOp .NotEq) (fh X.K C3):=by
 intro KE s σ H x y v u Q I rx ry h;obtain⟨d,e,S,k,i1,i2,hS,r,m⟩:=h;have hu:=hr.units;unfold C3 at r
 split at r
 ·obtain⟨xs,ys,b,h1,h2,h3,h4,w⟩:=r;have e1:=aU.mp i1;have e2:=aU.mp i2;subst e1 e2;cases rx;cases ry;exact(yr I hS h1 h2 h3 X.A (by omega) h4).2 X.prog X.w X.xe _ ⟨.bl (!b),H,I,rfl,eV m hS w (aT.mpr rfl)⟩
 ·obtain⟨b,h1,w⟩:=r;exact E3 I 8 X.A d e x y v u b (by omega) h1 i1 i2 rx ry X.prog X.w X.xe _ ⟨.bl (!b),H,I,rfl,eV m hS w (aT.mpr rfl)⟩
end DL
namespace L2
open PySem PySem.Spec PyProof.Rows
theorem Dj {α:Type} (its:List α):(List.range its.length).filterMap (λk=>its[its.length - 1 - k]?)=its.reverse:=by
 apply List.ext_getElem?;intro i;have e:(List.range its.length).filterMap (λk=>its[its.length - 1 - k]?)=(List.range its.length).pmap (λk (h:k < its.length)=>its[its.length - 1 - k]) (λk hk=>List.mem_range.mp hk):=by
  generalize hp:(λk hk=>List.mem_range.mp hk:∀ k∈List.range its.length,k < its.length)=p
  clear hp;generalize List.range its.length=l at p ⊢
  induction l with
  | nil=>rfl
  | cons a l ih=>
   have ha:=p a JL;rw [List.filterMap_cons,JY (by omega),List.pmap]
   simp only;rw [ih λk hk=>p k (JM _ hk)]
 rw [e]
 by_cases h:i < its.length
 ·rw [JY (by simpa using h),JY (by simpa using h)]
  simp [List.getElem_reverse]
 ·rw [List.getElem?_eq_none (by simpa using h),List.getElem?_eq_none (by simpa using h)]
theorem xM (n:Nat):sliceRange ((n:Int) - 1) (-1) (-1)=(List.range n).map λk=>n - 1 - k:=by
 unfold sliceRange;have e:((if (-1:Int) > 0 then(if (n:Int) - 1 < -1 then(-1 - ((n:Int) - 1)+-1 - 1) / -1 else 0) else(if (n:Int) - 1 > -1 then((n:Int) - 1 - -1 - -1 - 1) / (- -1) else 0)):Int).toNat=n:=by
  rw [if_neg (by decide),Int.neg_neg,Int.ediv_one]
  split
  ·omega
  ·omega
 simp only [e];refine List.map_congr_left λk hk=>?_
 have:=List.mem_range.mp hk;omega
theorem AQ (its:List Kq):slicePick its.toArray none none (some (-1))=its.reverse.toArray:=by
 unfold slicePick;have h1:(sliceBounds none none (some (-1)) its.toArray.size)=((its.length:Int) - 1,-1,-1):=by
  simp [sliceBounds]
 rw [h1];simp only;rw [xM,List.filterMap_map]
 congr 1
 have:=Dj its
 simpa [Function.comp_def] using this
theorem aW.rev {xs:List V} {us:List Kq} (r:aW xs us):aW xs.reverse us.reverse:=by
 induction r with
 | nil=>exact .nil
 | cons h t ih=>
  rw [List.reverse_cons,List.reverse_cons];exact ih.append (.cons h .nil)
section
variable {X:Cx} {e st:Kt} {te ts:TE} {p2 pos:Pos}
def Ii (K:PySem.W.Frag) (te ts:TE):TE:=fun σ H Q=>te σ H λx H1=>ts σ H1 λy H2=>y=.int (-1)/\∃ a xs,x=.ref a/\eQ K H2 a xs/\∀ p,H2 p=none->Q (.ref p) (br H2 p (.lst xs.reverse))
theorem E2 (he:PE X e te) (hs:PE X st ts):PE X (.Subscript e (.Slice none none (some st) p2) pos) (Ii X.K te ts):=by
 intro KE s σ H Q I h;refine Subscript_ (be (he KE s σ H _ I h) λv s1 z9=>?_)
 obtain⟨x,H1,I1,r1,q1⟩:=z9;refine wpAny_Slice ?_;rw [evalPart_none];refine JB (JB ?_);rw [evalPart_some];refine be (hs KE s1 σ H1 _ I1 q1) λvs s3 z9=>?_
 obtain⟨y,H3,I3,r3,q3⟩:=z9;obtain⟨rfl,a,xs,rfl,hx,q⟩:=q3;obtain⟨t,rfl⟩:=r3;cases r1;have I4:aE X KE σ H3 {s3 with heap:=s3.heap.push {cls:=.type "slice",data:=.fields #[.none,.none,.int (-1) t]}}:=I3.kept (t':=s3.toks) λb ob q=>pp _ q
 obtain⟨its,r,ht,hz⟩:=I4.list hx;have hlen:=r.length
 show wpAny (model X.prog X.w) X.A (subscriptTail e (.Slice none none (some st) p2) (.ref a) (.ref s3.heap.objs.size)) (EP X KE σ Q) X.xe {s3 with heap:=s3.heap.push {cls:=.type "slice",data:=.fields #[.none,.none,.int (-1) t]}}
 refine tail_any (ops:=[.ref a,.ref s3.heap.objs.size]) ht.isList.typeIs slot_list_getitem.lookup ?_ (by with_unfolding_all rfl)
 refine wpAny_getItem_list_slice ht.isList (Heap.IsSliceOf.new ..) .none .none (.int (-1) t) (by decide) ?_ (by rw [JI]; omega)
 rw [AQ];refine⟨.ref _,br H3 _ (.lst xs.reverse),I4.laid (t':=s3.toks) (o:=.lst xs.reverse) (λb ob q=>pp _ q) (JE _) ?_,rfl,q _ (I4.hok.fresh (JE _))⟩
 exact⟨by rw [List.length_reverse]; exact hz,_,0,r.rev,JC _ rfl⟩
end
end L2
namespace DL
open PySem PySem.Spec PyProof.Rows L2
theorem IsDs.rev {K:Fg} {H:Hp}:∀ {ds:List D} {vs:List V},IsDs K H ds vs->IsDs K H ds.reverse vs.reverse
 | [],_,h=>by rw [eJ.mp h]; exact IsDs.nil
 | c::ds,_,h=>by
  obtain⟨u,r,rfl,h1,h2⟩:=bC.mp h;rw [List.reverse_cons,List.reverse_cons];exact(IsDs.rev h2).append (IsDs.cons h1 IsDs.nil)
def Ie (ge gs:DE):DE:=λL S k=>ge L S λd S1=>gs L S1 λy S2=>y=.int (-1)/\match d with
 | .ref a=>∃ xs,S2 a=some (.lst xs)/\∀ p,S2 p=none->k (.ref p) (put S2 p (.lst xs.reverse))
 | _=>False
theorem DW {X:Cx} {e st:Kt} {ge gs:DE} {p2 pos:Pos} (he:EJ X e ge) (hs:EJ X st gs):EJ X (.Subscript e (.Slice none none (some st) p2) pos) (Ie ge gs):=
 ⟨PE.imp (E2 he.h hs.h) fun σ H Q ⟨L,S,k,hL,hS,h,n⟩=>up.go hL hS h λd S1 v H1 h1 k1 hL1 hS1 i1=>up.go hL1 hS1 h1 λy S2 v2 H2 h2 k2 hL2 hS2 i2=>by
  obtain⟨rfl,h2⟩:=h2;refine⟨isInt.mp i2,?_⟩;cases d with
  | ref a=>
   have e1:=aU.mp i1;subst e1;obtain⟨xs,z,h2⟩:=h2;obtain⟨vs,hl,j⟩:=hS2.lst z;exact⟨a,vs,rfl,eQ.of hl,λp hp=>n _ _ _ _ (h2 p (hS2.free hp)) (k1.trans (k2.trans (Kp.new hp))) (hS2.newL hp j.rev) (aU.mpr rfl)⟩
  | _=>exact h2.elim⟩
def uL:bE:=λds S k=>match ds with
 | [.tup xs]=>k (.tup xs) S
 | [.ref a]=>∃ xs,S a=some (.lst xs)/\k (.tup xs) S
 | _=>False
theorem j_ {X:Cx}:bW X (.type "tuple") (nX X.K uL):=by
 intro KE s σ H xs us Q I rs h;obtain⟨ds,S,k,i,hS,r,n⟩:=h;unfold uL at r
 split at r
 ·obtain⟨x,rfl,i1⟩:=cr i;obtain⟨a,vs,rfl,t,j⟩:=bw.mp i1;exact kB KE s σ H _ us Q I rs ⟨a,vs,rfl,.inr ⟨t,n _ S _ H r (Kp.refl H) hS i1⟩⟩
 ·obtain⟨x,rfl,i1⟩:=cr i;have e1:=aU.mp i1;subst e1;obtain⟨xs,z,r⟩:=r;obtain⟨vs,hl,j⟩:=hS.lst z;refine kB KE s σ H _ us Q I rs ⟨_,vs,rfl,.inl ⟨eQ.of hl,λp hp=>?_⟩⟩
  have kp:Kp H (br H p (.tup vs)):=Kp.new hp;exact n _ S _ _ r kp (hS.new hp) (bw.mpr ⟨p,vs,rfl,gZ.of bo,j.kp kp⟩)
 ·exact r.elim
end DL
namespace L2
open PySem PySem.Spec PyProof.Rows
theorem qR:bootBuiltins "enumerate"=some (.type "enumerate"):=by decide +kernel
theorem rL {P:Ku} {w:Kw} {A:Kv} (b:KA) (it l:Kr) (xs:Kz Kq) (hh:A.handled=none) (hne:it≠l):Draws P w A it [it,l] xs.size (λi x=>xs[i]?=some x) (λi h=>FL b it l i h/\sqB b l xs h) where
 live:=λi h st=>by obtain⟨o,e,_⟩:=(dD (P:=P) (w:=w) b it l).obj _ _ st.1; exact⟨o,e⟩
 frame:=λi h h' st q=>⟨(dD (P:=P) (w:=w) b it l).at_ _ _ _ st.1 λo e=>q it (by simp) o e,(dD (P:=P) (w:=w) b it l).sqAt _ _ _ st.2 λo e=>q l (by simp) o e⟩
 item:=λi s Q E hi st hQ=>(dD (P:=P) (w:=w) b it l).item A i s xs xs[i] Q E st.1 st.2 (by simp [hi]) λh' a1 a2=>hQ _ h' s.toks (by simp [hi]) ⟨a1,(dD (P:=P) (w:=w) b it l).sqAt _ _ _ st.2 λo e=>a2.extBut _ _ (Ne.symm hne) e⟩ a2
 done:=λs Q E st hE=>(dD (P:=P) (w:=w) b it l).fin _ _ _ _ _ _ hh st.1 st.2 (by simp) hE
def FS (K:PySem.W.Frag) (b:KA) (a:Kr):It:=
 ⟨λi H => ∃ xs x, wb b K H a xs ∧ xs[i]? = some x,
  λi H v H'=>∃ T x,v=.ref T/\H T=none/\H'=br H T (.tup [.int (i:Nat),x])/\∀ xs,wb b K H a xs->xs[i]?=some x,
  λi H=>∃ xs,wb b K H a xs/\xs.length=i⟩
def Jy (b:KA) (e it a:Kr) (i:Nat) (h:Kx):Prop:=(∃ old,IsEnum h e it (i:Nat) old)/\FL b it a i h
theorem xn {P:Ku} {w:Kw} {K:PySem.W.Frag} {es:List Kt} {k:Nat} {pos:Pos} (b:KA) {e it a:Kr} (h1:e≠it) (h2:e≠a) (h3:it≠a):
  qe P w K (.Tuple es k pos) (FS K b a) [e,it] e (Jy b e it a) where
 mem:=by simp
 obj:=λi h st c hc=>by
  obtain⟨⟨old,he⟩,hi⟩:=st;have hc':c=e\/c=it:=by simpa using hc
  rcases hc' with rfl | rfl
  ·exact⟨_,he,λv q=>by cases q⟩
  ·exact(dD (P:=P) (w:=w) b c a).obj _ _ hi
 keep:=λi h h' st q=>by
  obtain⟨⟨old,he⟩,hi⟩:=st;exact⟨⟨old,q e (by simp) _ he⟩,(dD (P:=P) (w:=w) b it a).at_ _ _ _ hi λo x=>q it (by simp) o x⟩
 item:=by
  intro X hP hw hK hc i KE s σ H E I hf st hg;subst hP hw hK;obtain⟨xs,x,q1,hx⟩:=hg;obtain⟨its,rv,p⟩:=I.sqB q1;obtain⟨u,hu,ru⟩:=rv.get hx;obtain⟨⟨old,he⟩,hi⟩:=st;have hn:H s.heap.objs.size=none:=I.hok.fresh (JE _);have helt:e < s.heap.objs.size:=JD he;have hilt:it < s.heap.objs.size:=by obtain⟨o,z,_⟩:=(dD (P:=X.prog) (w:=X.w) b it a).obj _ _ hi; exact JD z
  have hlt:i < its.toArray.size:=by
   have:=J3.mp hu;obtain⟨z,_⟩:=this
   simpa using z
  refine wpAny_pyNext_enum_itemD (rL b it a its.toArray (show X.A.in1.handled=none from I.ok.hd hc) h3) he ⟨hi,p⟩ hlt h1 (by simp [h1,h2]) λx' h' tk hx' ho hst hT hsz hk=>?_
  have ex:x'=u:=by
   have z:its[i]?=some x':=by simpa using hx'
   rw [hu] at z;exact(J1 z).symm
  subst ex;have I1:aE X KE σ (br H s.heap.objs.size (.tup [.int (i:Nat),x])) {s with heap:=h',toks:=tk+1}:=
   I.turnedNew (t':=tk+1) [e,it] (λc o hb y=>hk c o (λq=>hb (by simp [q])) (λq=>hb (by simp [q])) y) hf (JE _) ⟨JT rfl,[.int (i:Nat) tk,x'],.cons ⟨tk,rfl⟩ (.cons ru .nil),⟨_,hT,rfl,_,rfl⟩⟩
  refine⟨_,rfl,wpAny_letOwnedTupleGo_enum (s:={s with heap:=h',toks:=tk+1}) ho λh2' g1 g2=>?_⟩
  refine⟨.ref s.heap.objs.size,br H s.heap.objs.size (.tup [.int (i:Nat),x]),?_,rfl,⟨_,x,rfl,hn,rfl,λxs' e1=>by rw [I.sqB_inj e1 q1]; exact hx⟩,⟨⟨x',by simpa using g1⟩,?_⟩,λc hb=>?_⟩
  ·refine I1.turnedL (t':=tk+1) [e] (λc o hb y=>g2.extBut _ _ (λq=>hb (by simp [q])) y) λc hb=>?_
   have z:c=e:=by simpa using hb
   subst z;obtain⟨f0,f1,f2,f3,f4,f5⟩:=hf c (by simp)
   exact⟨by rw [aO (JK helt)]; exact f0,f1,f2,f3,f4,f5⟩
  ·exact(dD (P:=X.prog) (w:=X.w) b it a).at_ _ _ _ hst.1 λo z=>g2.extBut _ _ (Ne.symm h1) z
  ·have hc':c=e\/c=it:=by simpa using hb
   rw [aO (by rcases hc' with rfl | rfl; exact JK helt; exact JK hilt)]
   exact(hf c hb).1
 done:=by
  intro X hP hw hK hc i KE s σ H E I hf st hg;subst hP hw hK;obtain⟨xs,q1,hx⟩:=hg;obtain⟨its,rv,p⟩:=I.sqB q1;obtain⟨⟨old,he⟩,hi⟩:=st;have l1:=rv.length;have ez:i=its.toArray.size:=by simp; omega
  refine wpAny_pyNext_enum_endD (rL b it a its.toArray (show X.A.in1.handled=none from I.ok.hd hc) h3) he ⟨by rw [<- ez]; exact hi,p⟩ λh' kk=>⟨rfl,I.turnedL (t':=s.toks) [it] (λc o hb y=>kk c o (λq=>hb (by simp [q])) y) λc hb=>hf c ?_⟩
  have z:c=it:=by simpa using hb
  subst z;simp
 self:=λ_ _ _ _ _ st h=>by
  obtain⟨⟨old,he⟩,_⟩:=st;exact wpAny_pyIter_enum he h
theorem tN (l:Kr) (xs:Kz Kq) (n:Nat) (dct:Ks Kr) (sl:Kz (Ks Kq)):
  Meets (Builtin.«enumerate.__new__» ⟨[.type "enumerate",.ref l],[]⟩) (λ_ R s=>s.heap.get? l=some ⟨.type "tuple",dct,.seq xs n,sl⟩/\
   R (.ok (.ret (.ref (A1 s.heap "tuple_iterator" l).objs.size))) {s with heap:=(A1 s.heap "tuple_iterator" l).push {cls:=.type "enumerate",data:=.fields #[.none,.bool false,.ref s.heap.objs.size,rawInt 0,.none,.none]}}):=
 .of_wp λprog w A R s h=>by
  obtain⟨hp,g,d,tk,os⟩:=s;obtain⟨hl,h⟩:=h;have hsub:=sub_enumerate;have hT:Heap.IsTuple (Shared.heap ⟨hp,g,d,tk,os⟩) l xs:=⟨_,hl,rfl,n,rfl⟩
  wp_walk using AutoSeq1.wpAny_loadPart' hl
  refine wpAny_stack_any λ_=>JB ?_
  split
  ·rename_i c _ _ _ _ _
   cases (c == Value.type "enumerate") <;> (wp_walk using AutoSeq1.wpAny_loadPart' hl,wpAny_pyIter_tuple hT; exact⟨_,rfl,h⟩)
  ·wp_walk using AutoSeq1.wpAny_loadPart' hl,wpAny_pyIter_tuple hT
   exact⟨_,rfl,h⟩
section
variable {prog:Ku} {w:Kw} {A:Kv} {E:Kq->Ko->Prop} {s:Ko}
theorem vZ {l:Kr} {xs:Kz Kq} {Q:Kq->Ko->Prop} (hL:s.heap.IsTuple l xs)
  (h:∀ h',IsEnum h' (s.heap.objs.size+1) s.heap.objs.size 0 .none->h'.get? s.heap.objs.size=some {cls:=.type "tuple_iterator",data:=.fields #[.ref l,.int 0 0]}->(∀ c o,s.heap.get? c=some o->h'.get? c=some o)->Q (.ref (s.heap.objs.size+1)) {s with heap:=h'}):
  wpAny (model prog w) A (call (.type "enumerate") [.ref l]) Q E s:=by
 obtain⟨⟨c,dct,dt,sl⟩,hl,hc,n,hd⟩:=hL;obtain rfl:c=.type "tuple":=hc
 obtain rfl:dt=.seq xs n:=hd;refine callType_new F.called_enumerate (by decide) (F.typeCall_enumerate_1 _) (F.newCall_enumerate_1 _) (λobj=>F.args_object_init_2 obj _) F.entry_enumerate_new (tN l xs n dct sl) ⟨hl,?_⟩
 have z1:(A1 s.heap "tuple_iterator" l).objs.size=s.heap.objs.size+1:=Kf ..
 have g5:=JC (A1 s.heap "tuple_iterator" l) (o:={cls:=.type "enumerate",data:=.fields #[.none,.bool false,.ref s.heap.objs.size,rawInt 0,.none,.none]}) rfl
 show _/\_
 rw [z1] at g5 ⊢;exact⟨⟨_,g5,rfl⟩,h _ g5 (pp _ (JC _ rfl)) λc o x=>pp _ (pp _ x)⟩
theorem u4 {b:KA} {l:Kr} {xs:Kz Kq} {Q:Kq->Ko->Prop} (hL:sqB b l xs s.heap)
  (h:∀ h',IsEnum h' (s.heap.objs.size+1) s.heap.objs.size 0 .none->FL b s.heap.objs.size l 0 h'->(∀ c o,s.heap.get? c=some o->h'.get? c=some o)->Q (.ref (s.heap.objs.size+1)) {s with heap:=h'}):
  wpAny (model prog w) A (call (.type "enumerate") [.ref l]) Q E s:=by
 cases b with
 | true=>exact call_enumerate_list hL λh' a1 a2 _ a4=>h h' a1 a2 a4
 | false=>exact vZ hL λh' a1 a2 a4=>h h' a1 ⟨_,a2,rfl,rfl⟩ a4
end
def FK (K:PySem.W.Frag) (ta:TA):TI:=fun σ H R=>ta σ H λvs H1=>∃ a b,vs=[.ref a]/\(∃ xs,wb b K H1 a xs)/\R (FS K b a) H1
theorem B5 {X:Cx} {a:Kt} {ta:TA} {p pos tp:Pos} {es:List Kt} {k:Nat} (hg:Gl X "enumerate") (hm:X.mg "enumerate"=none) (ha:PA X [a] ta) (hs:starEach [a] X.env=[(false,eval a X.env)]:=by rfl):
  PI X (.Tuple es k tp) (.Call (.Name "enumerate" p) [a] [] pos) (FK X.K ta):=by
 intro KE s σ H R I h;refine Call_ (j4 I hg hm qR (PyProof.Rows.callWith_type1 (be (ha pos KE s σ H _ I h) λus s1 ⟨vs,H1,I1,r1,q1⟩=>?_) (by rw [hs]; rfl) rfl))
 obtain⟨a1,b,rfl,⟨xs,e1⟩,q⟩:=q1;cases r1 with
 | cons r rr=>
  cases rr;cases r;obtain⟨its,rv,p1⟩:=I1.sqB e1;have al:=vF p1;refine u4 p1 λh' c1 c2 c3=>?_
  refine wpAny_pyIter_enum (s:={s1 with heap:=h'}) c1 ?_
  have fr:∀ j,H1 (s1.heap.objs.size+j)=none:=λj=>I1.hok.fresh (Nat.le_add_right _ _)
  refine⟨_,[s1.heap.objs.size+1,s1.heap.objs.size],_,_,H1,rfl,I1.kept (t':=s1.toks) c3,xn b (Nat.succ_ne_self _) (Nat.ne_of_gt (Nat.lt_succ_of_lt al)) (Nat.ne_of_gt al),⟨⟨_,c1⟩,c2⟩,λc hb=>?_,q⟩
  have hb':c=s1.heap.objs.size+1\/c=s1.heap.objs.size:=by simpa using hb
  rcases hb' with rfl | rfl
  ·exact I1.fpOk (Nat.le_add_right _ _) (fr 1)
  ·exact I1.fpOk (JE _) (fr 0)
end L2
namespace DL
open PySem PySem.Spec PyProof.Rows L2
def jR:Nat->List D->List D
 | _,[]=>[]
 | j,d::r=>.tup [.int (j:Nat),d]::jR (j+1) r
theorem mC:∀ {ds:List D} {j i:Nat} {c:D},(jR j ds)[i]?=some c->∃ d,ds[i]?=some d/\c=.tup [.int ((j+i:Nat):Int),d]
 | [],_,_,_,h=>by cases h
 | d::r,j,0,c,h=>⟨d,rfl,(J1 h).symm⟩
 | d::r,j,i+1,c,h=>by
  obtain⟨e,h1,h2⟩:=mC (ds:=r) (j:=j+1) (i:=i) h;exact⟨e,h1,by rw [h2,show j+1+i=j+(i+1) by omega]⟩
theorem nB:∀ {ds:List D} {j:Nat},(jR j ds).length=ds.length
 | [],_=>rfl
 | _::r,j=>congrArg (·+1) (nB (ds:=r) (j:=j+1))
theorem Bw {K:Fg} {H1:Hp} {q:List D×Ks Kr} {a:Kr} {b:KA} (y:∀ S2 H2,Kp H1 H2->Hs K H2 S2->eG q S2->∃ xs,wb b K H2 a xs/\IsDs K H2 q.1 xs):
  (∀ i d S2 H2,(jR 0 q.1)[i]?=some d->Kp H1 H2->Hs K H2 S2->eG q S2->(FS K b a).go i H2/\∀ x H',(FS K b a).yld i H2 x H'->Kp H2 H'/\Hs K H' S2/\bB K H' d x)/\
  ∀ S2 H2,Kp H1 H2->Hs K H2 S2->eG q S2->(FS K b a).stop (jR 0 q.1).length H2:=by
 refine⟨λi c S2 H2 e k2 hS2 o2=>?_,λS2 H2 k2 hS2 o2=>?_⟩
 ·obtain⟨xs,w1,u1⟩:=y S2 H2 k2 hS2 o2;obtain⟨d,f1,rfl⟩:=mC e;obtain⟨v1,g1,r1⟩:=u1.get f1;refine⟨⟨xs,v1,w1,g1⟩,?_⟩;rintro x H' ⟨T,x',rfl,hT,rfl,al⟩;have l1:=al xs w1;rw [g1] at l1;cases l1;have kn:Kp H2 (br H2 T (.tup [.int (i:Nat),v1])):=Kp.new hT;exact⟨kn,hS2.new hT,bw.mpr ⟨T,[.int (i:Nat),v1],rfl,gZ.of bo,IsDs.cons (isInt.mpr (by rw [Nat.zero_add])) (IsDs.cons (r1.kp kn) IsDs.nil)⟩⟩
 ·obtain⟨xs,w1,u1⟩:=y S2 H2 k2 hS2 o2;refine⟨xs,w1,?_⟩;rw [<- u1.length,nB]
def EI (ta:DA) (g:DG) (b:DS):DS:=λM L S=>ta L S λds S1=>match ds with
 | [d]=>∃ q,aI S1 d=some q/\fJ (eG q) g b M (jR 0 q.1) L S1
 | _=>False
section
variable {X:Cx} {a:Kt} {es:List Kt} {kt:Nat} {tp p pos pos':Pos} {gg:DG} {ta:DA} {g:DS} {body:List Ky}
theorem uM (hp:PassesOwn (model X.prog X.w) X.A X.env X.xe) (hc:X.calm=true) (hgl:Gl X "enumerate") (hm:X.mg "enumerate"=none) (ha:AJ X [a] ta) (hg:GJ X (.Tuple es kt tp) gg) (hb:xt X body g)
  (hs1:starEach [a] X.env=[(false,eval a X.env)]:=by rfl) (hs:∀ x,foldedSetIterable (.Call (.Name "enumerate" p) [a] [] pos') X.env x=pure x:=by intro _; rfl):
  SJ X (.For (.Tuple es kt tp) (.Call (.Name "enumerate" p) [a] [] pos') body [] pos) (EI ta gg g):=
 ⟨PS.imp (pN hp hc (B5 hgl hm ha.h hs1) hg.h hb.h hs) λN σ H ⟨L,S,M,hL,hS,h,r⟩=>q9.go hL hS h λds S1 vs H1 h1 k1 hL1 hS1 i1=>by
  split at h1
  ·rename_i d1
   obtain⟨v1,rfl,j1⟩:=cr i1;obtain⟨q1,e1,h1⟩:=h1;obtain⟨a1,b1,rfl,x1,y1⟩:=vy hS1 j1 e1;obtain⟨z1,z2⟩:=Bw y1;exact⟨a1,b1,rfl,x1,qy hL1 hS1 h1 (r.kp k1) z1 z2⟩
  ·exact h1.elim⟩
end
def Gp:D2:=λd e S k=>match d,e with
 | .ref a,.ref c=>∃ xs ys b,S a=some (.lst xs)/\S c=some (.lst ys)/\((xs.length=ys.length/\gD (gY 7) xs ys=some b)\/(xs.length≠ys.length/\b=false))/\k (.bl (!b)) S
 | d,e=>∃ b,gY 8 d e=some b/\k (.bl (!b)) S
def E_:D2:=λd e S k=>match d,e with
 | .tup ds,.int i=>∃ c,L2.atI ds i=some c/\k c S
 | .rl ds,.int i=>∃ c,L2.atI ds i=some c/\k c S
 | .ref a,.int i=>∃ ds c,S a=some (.lst ds)/\L2.atI ds i=some c/\k c S
 | _,_=>False
theorem cy {X:Cx}:xR X (fh X.K E_):=xR.imp G5 (fh.imp λd e S k h=>by
 unfold E_ at h
 split at h
 ·obtain⟨c,h1,h2⟩:=h;simp only [sX,h1];exact h2
 ·obtain⟨c,h1,h2⟩:=h;simp only [sX,h1];exact h2
 ·obtain⟨ds,c,h0,h1,h2⟩:=h;simp only [sX,h0,h1];exact h2
 ·exact h.elim)
def Ic:D2:=λd e S k=>match e with
 | .str y=>(match d with
  | .str x=>k (.bl (x == y)) S
  | .int _=>k (.bl false) S
  | .bl _=>k (.bl false) S
  | .non=>k (.bl false) S
  | .tup _=>k (.bl false) S
  | .ref a=>(∃ ds,S a=some (.lst ds))/\k (.bl false) S
  | _=>False)
 | _=>False
theorem tm {X:Cx} {n:Nat} (hr:cA n X.A):cS X (compareOp .Eq) (fh X.K Ic):=by
 intro KE s σ H x y v u Q I rx ry h;obtain⟨d,e,S,k,i1,i2,hS,r,m⟩:=h;have hu:=hr.units;cases e with
 | str z=>
  rw [aY.mp i2] at ry;obtain⟨t',rfl⟩:=ry;cases d with
  | str w=>rw [aY.mp i1] at rx; obtain⟨t,rfl⟩:=rx; exact SeqAt.RcAt.str_str _ _ _ _ X.prog X.w X.xe _ ⟨.bl _,H,I,rfl,eV m hS r (aT.mpr rfl)⟩
  | int w=>rw [isInt.mp i1] at rx; obtain⟨t,rfl⟩:=rx; exact SeqAt.RcAt.int_str _ _ _ _ X.prog X.w X.xe _ ⟨.bl _,H,I,rfl,eV m hS r (aT.mpr rfl)⟩
  | bl w=>rw [aT.mp i1] at rx; cases rx; exact SeqAt.RcAt.bool_str _ _ _ X.prog X.w X.xe _ ⟨.bl _,H,I,rfl,eV m hS r (aT.mpr rfl)⟩
  | non=>rw [b7.mp i1] at rx; cases rx; exact SeqAt.RcAt.none_str _ _ X.prog X.w X.xe _ ⟨.bl _,H,I,rfl,eV m hS r (aT.mpr rfl)⟩
  | tup xs=>
   obtain⟨p,vs,rfl,t1,j1⟩:=bw.mp i1;cases rx;obtain⟨us,r1,p1,_⟩:=I.tuple t1;exact SeqAt.RcAt.tuple_str (items:=us.toArray) _ _ (show s.heap.IsTuple p us.toArray from p1) (by omega) X.prog X.w X.xe _ ⟨.bl _,H,I,rfl,eV m hS r (aT.mpr rfl)⟩
  | ref a=>
   have e1:=aU.mp i1;subst e1;cases rx;obtain⟨⟨ds,h1⟩,r⟩:=r;obtain⟨xs,q1,j1⟩:=hS.lst h1;obtain⟨us,r1,p1,_⟩:=I.list (eQ.of q1);exact SeqAt.RcAt.list_str (items:=us.toArray) _ _ p1.isList (by omega) X.prog X.w X.xe _ ⟨.bl _,H,I,rfl,eV m hS r (aT.mpr rfl)⟩
  | _=>exact r.elim
 | _=>exact(show False from r).elim
end DL
namespace HT
open PySem PyProof.Rows
section
variable {prog:Ku} {w:Kw} {A:Kv} {E:Kq->Ko->Prop} {s:Ko}
theorem ki {t sl:Kr} {items:Kz Kq} {vl vu:Kq} {lo hi:Ks Int} {Q:Kq->Ko->Prop} (ht:IsTup s.heap t items) (hs:s.heap.IsSliceOf sl vl vu .none) (pl:IsPart vl lo) (pu:IsPart vu hi)
  (hw:cI items.size 0 lo=0/\cI items.size items.size hi=items.size) (h:Q (.ref t) s):wpAny (model prog w) A (getItem (.ref t) (.ref sl)) Q E s:=by
 obtain⟨os,hos,hcs,hds⟩:=id hs;have hTs:s.TypeIs (.ref sl) "slice":=⟨os,hos,hcs⟩
 unfold getItem
 try with_reducible refine JX ?_
 first | refine gt (JB ?_) | skip
 refine gt (wpAny_sequenceKey ht.typeIs (by decide) ?_)
 refine gt (Kh (name:=Str.ofString "__getitem__") ht.typeIs PyProof.Rows.slot_tuple_getitem
  (wpAny_call_entry PyProof.Rows.slot_tuple_getitem ht.typeIs entry_tuple_getitem ?_ (args_tuple_getitem _ _)))
 show wpAny _ _ (Builtin.Tuple.tupleItemsOf (.ref t) >>= _) _ _ s
 refine gt (tupleItemsOf_ ht (gt (wpAny_typeOf hTs ?_)));rw [if_pos (by decide)]
 refine gt (g9 hs pl pu ?_);rw [hw.1,hw.2]
 show wpAny _ _ (if ((((0:Nat):Int) == 0) && (1:Int) == 1 && (items.size - 0) == items.size)=true then _ else _) _ _ s
 rw [if_pos (by simp)]
 refine gt (m:=Builtin.Tuple.tupleIsExact (.ref t)) (gt (wpAny_typeOf ht.typeIs (JB ?_)));rw [if_pos (by decide)]
 first
  | exact JB ⟨_,rfl,JB h⟩
  | exact gt (JB (JB ⟨_,rfl,JB h⟩))
  | (wp_walk; exact⟨_,rfl,JB h⟩)
end
end HT
namespace L2
open PySem PySem.Spec PyProof.Rows
section
variable {X:Cx}
theorem Br:zd X (λx lo hi H Q=>∃ a xs,x=.ref a/\gZ X.K H a xs/\(HT.cI xs.length 0 lo=0/\HT.cI xs.length xs.length hi=xs.length)/\Q (.ref a) H):=by
 intro KE s σ H x v vl vu lo hi sl Q I rx hs pl pu h;obtain⟨a,xs,rfl,hx,hw,q⟩:=h;cases rx;obtain⟨its,r,ht,hz⟩:=I.tuple hx;have hlen:its.toArray.size=xs.length:=by rw [JI]; exact r.length.symm
 refine⟨"tuple",_,PyProof.Rows.slot_tuple_getitem.lookup,ht.typeIs,?_⟩
 exact HT.ki ht hs pl pu (by rw [hlen]; exact hw) ⟨.ref a,H,I,rfl,q⟩
end
end L2
namespace DL
open PySem PySem.Spec PyProof.Rows L2
def GB (g:DE) (tl th:A6):DE:=λL S k=>g L S λx S1=>tl L S1 λlo S2=>th L S2 λhi S3=>match x with
 | .tup xs=>k (.tup (jq xs lo hi)) S3
 | _=>False
theorem xA {xs:List D} {lo hi:Ks Int} (h:HT.cI xs.length 0 lo=0/\HT.cI xs.length xs.length hi=xs.length):jq xs lo hi=xs:=by
 unfold jq;rw [h.1,h.2];simp
theorem wq {X:Cx} {e:Kt} {g:DE} {lo hi:Ks Kt} {tl th:A6} {p2 pos:Pos} (he:EJ X e g) (hl:OJ X lo tl) (hu:OJ X hi th):EJ X (.Subscript e (.Slice lo hi none p2) pos) (GB g tl th):=
 ⟨PE.imp (pG (zd.or AS Br) he.h hl.h hu.h) fun σ H Q ⟨L,S,k,hL,hS,h,n⟩=>up.go hL hS h λd S1 v H1 h1 k1 hL1 hS1 i1=>by
  refine⟨L,S1,_,hL1,hS1,h1,λlo' S2 H2 h2 k2 hS2=>⟨L,S2,_,hL1.kp k2,hS2,h2,λhi' S3 H3 h3 k3 hS3=>?_⟩⟩
  cases d with
  | tup xs=>
   obtain⟨a,vs,rfl,t,j⟩:=bw.mp i1;have j3:=j.kp (k2.trans k3)
   by_cases hw:HT.cI xs.length 0 lo'=0/\HT.cI xs.length xs.length hi'=xs.length
   ·refine .inr ⟨a,vs,rfl,(k2.trans k3).tup t,by rw [<- j.length]; exact hw,?_⟩
    have h3:k (.tup (jq xs lo' hi')) S3:=h3;rw [xA hw] at h3;exact n _ S3 _ _ h3 (k1.trans (k2.trans k3)) hS3 (bw.mpr ⟨a,vs,rfl,(k2.trans k3).tup t,j3⟩)
   ·refine .inl ⟨a,vs,rfl,(k2.trans k3).tup t,by rw [<- j.length]; exact hw,λp hp=>?_⟩
    have k4:Kp H3 (br H3 p (.tup (nW vs lo' hi'))):=Kp.new hp;refine n _ S3 _ _ h3 (k1.trans (k2.trans (k3.trans k4))) (hS3.new hp) (bw.mpr ⟨p,_,rfl,gZ.of bo,?_⟩);unfold jq nW;rw [j.length];exact((j3.drop _).take _).kp k4
  | _=>exact(show False from h3).elim⟩
def vb (mg:Str->Ks Kq) (x:Str) (n:Int):Prop:=∃ t,mg x=some (.int n t)
theorem pD {X:Cx} {x:Str} {n:Int} {pos:Pos} (g:vb X.mg x n) (hg:Gl X x) (hd:(x == ("__debug__":Str))=false:=by decide):EJ X (.Name x pos) (dC (.int n)):=by
 obtain⟨t,hm⟩:=g;exact⟨CI (oC (v:=.int n) hg hm ⟨t,rfl⟩ hd) λH=>isInt.mpr rfl⟩
end DL
set_option linter.all false
namespace DT
abbrev Mx:=Nat->Nat->Rat
def sm:Nat->(Nat->Rat)->Rat
 | 0,_=>0
 | n+1,f=>sm n f+f n
def cl (M:Mx) (a:Nat) (u:Nat->Rat):Mx:=λr c=>if c=a then u r else M r c
end DT
namespace DL
open PySem PySem.Spec PyProof.Rows L2
def IH (K:Fg) (q:Kr) (ns:List Int):Prop:=∃ o its n,K.lookup q=some o/\o.cls=.type "tuple"/\o.data=.seq its n/\its.size<=sizeLine/\aW (ns.map V.int) its.toList
end DL
namespace PySem
open Sem (wp)
open Builtin DL
section
variable {prog:Ku} {w:Kw}
def wI (c:KB) (d:Kr) (i n ep:Nat):KD:={cls:=.type c,dict:=none,data:=.fields #[.ref d,.int i 0,.int n 0,.int ep 0],slots:=#[]}
theorem Jl (it d:Kr) (es:Kz KC) (i ep:Nat) (e:KC) (hx:es[i]?=some e):
  MeetsIn prog w (Builtin.«dict_keyiterator.__next__» ⟨[.ref it],[]⟩) (λ_ R s=>s.heap.get? it=some (wI "dict_keyiterator" d i es.size ep)/\s.heap.get? d=some (p5 es ep)/\
   R (.ok (.ret e.key)) {s with heap:=s.heap.update it (Obj.mapFields (·.setIfInBounds 1 (rawInt ((i:Int)+1))))}):=
 .of_wp λA R s h=>by
  obtain⟨hp,g,dr,tk,os⟩:=s;obtain⟨h1,h2,h⟩:=h
  wp_walk
  have z:(if (i:Int) < 0 then none else es[(i:Int).toNat]?)=some e:=by
   rw [if_neg (by omega),Ki]; exact hx
  rw [z]
  wp_walk
  exact⟨_,rfl,h⟩
theorem ze {h:Kx} {it:Kr} (f:KD->KD) (o o':KD):Heap.ExtBut it h (((h.update it f).push o).push o'):=λb u nb e=>
 pp _ (pp _ ((Heap.get?_update_other _ _ (Ne.symm nb)).trans e))
theorem Jo (it d:Kr) (es:Kz KC) (i ep:Nat) (hx:es[i]?=none):
  MeetsIn prog w (Builtin.«dict_keyiterator.__next__» ⟨[.ref it],[]⟩) (λA R s=>A.handled=none/\s.heap.get? it=some (wI "dict_keyiterator" d i es.size ep)/\s.heap.get? d=some (p5 es ep)/\
   (∀ h' e,Heap.ExtBut it s.heap h'->(∃ o,h'.get? e=some o/\o.cls=.type "StopIteration")->R (.error (.ref e)) {s with heap:=h'})):=
 .of_wp λA R s h=>by
  obtain⟨hp,g,dr,tk,os⟩:=s;obtain⟨h0,h1,h2,h⟩:=h
  wp_walk
  have z:(if (i:Int) < 0 then none else es[(i:Int).toNat]?)=none:=by
   rw [if_neg (by omega),Ki]; exact hx
  rw [z]
  wp_walk
  unfold raiseNew;refine gt (wpAny_handled ?_);rw [show A.in1.handled=none from h0]
  exact gt (JB (wpAny_throw (h _ _ (ze _ _ _) ⟨_,JC _ rfl,rfl⟩)))
theorem Je (it d:Kr) (es:Kz KC) (i ep:Nat) (e:KC) (hx:es[i]?=some e):
  MeetsIn prog w (Builtin.«dict_valueiterator.__next__» ⟨[.ref it],[]⟩) (λ_ R s=>s.heap.get? it=some (wI "dict_valueiterator" d i es.size ep)/\s.heap.get? d=some (p5 es ep)/\
   R (.ok (.ret e.val)) {s with heap:=s.heap.update it (Obj.mapFields (·.setIfInBounds 1 (rawInt ((i:Int)+1))))}):=
 .of_wp λA R s h=>by
  obtain⟨hp,g,dr,tk,os⟩:=s;obtain⟨h1,h2,h⟩:=h
  wp_walk
  have z:(if (i:Int) < 0 then none else es[(i:Int).toNat]?)=some e:=by
   rw [if_neg (by omega),Ki]; exact hx
  rw [z]
  wp_walk
  exact⟨_,rfl,h⟩
theorem Jt (it d:Kr) (es:Kz KC) (i ep:Nat) (hx:es[i]?=none):
  MeetsIn prog w (Builtin.«dict_valueiterator.__next__» ⟨[.ref it],[]⟩) (λA R s=>A.handled=none/\s.heap.get? it=some (wI "dict_valueiterator" d i es.size ep)/\s.heap.get? d=some (p5 es ep)/\
   (∀ h' e,Heap.ExtBut it s.heap h'->(∃ o,h'.get? e=some o/\o.cls=.type "StopIteration")->R (.error (.ref e)) {s with heap:=h'})):=
 .of_wp λA R s h=>by
  obtain⟨hp,g,dr,tk,os⟩:=s;obtain⟨h0,h1,h2,h⟩:=h
  wp_walk
  have z:(if (i:Int) < 0 then none else es[(i:Int).toNat]?)=none:=by
   rw [if_neg (by omega),Ki]; exact hx
  rw [z]
  wp_walk
  unfold raiseNew;refine gt (wpAny_handled ?_);rw [show A.in1.handled=none from h0]
  exact gt (JB (wpAny_throw (h _ _ (ze _ _ _) ⟨_,JC _ rfl,rfl⟩)))
theorem Jq (d:Kr) (es:Kz KC) (ep:Nat) (hd:(d == sysModules)=false):
  MeetsIn prog w (Builtin.«dict.__iter__» ⟨[.ref d],[]⟩) (λ_ R s=>s.heap.get? d=some (p5 es ep)/\R (.ok (.ret (.ref s.heap.objs.size))) {s with heap:=s.heap.push (wI "dict_keyiterator" d 0 es.size ep)}):=
 .of_wp λA R s h=>by
  obtain⟨hp,g,dr,tk,os⟩:=s;obtain⟨h2,h⟩:=h
  wp_walk
  exact⟨_,rfl,h⟩
section
variable {A:Kv} {E:Kq->Ko->Prop} {s:Ko} {it d v:Kr} {es:Kz KC} {i ep:Nat} {e:KC} {ok ov:Kq}
theorem qV {Q:Kq->Ko->Prop} (hd:(d == sysModules)=false) (h2:s.heap.get? d=some (p5 es ep)) (h:Q (.ref s.heap.objs.size) {s with heap:=s.heap.push (wI "dict_keyiterator" d 0 es.size ep)}):
  wpAny (model prog w) A (pyIter (.ref d)) Q E s:=
 have T:s.TypeIs (.ref d) "dict":=⟨_,h2,rfl⟩
 wpAny_pyIter_slot T F.slot_dict_iter (call_meetsIn F.slot_dict_iter T F.entry_dict_iter (F.args_dict_iter_1 _) (Jq d es ep hd) ⟨h2,"dict_keyiterator",_,⟨_,JC _ rfl,rfl⟩,F.slot_dict_keyiterator_next.lookup,h⟩)
theorem ox {T id:KB} {f:Builtin} {φ} {Q:Ks Kq->Ko->Prop} (hs:Slot T "__next__" id) (hT:s.TypeIs (.ref it) T) (he:entryFor table id=some f) (ha:argsOk id ⟨[.ref it],[]⟩) (hm:MeetsIn prog w (f ⟨[.ref it],[]⟩) φ)
  (h:φ A (wants (λu s'=>Q (some u) s') λe s'=>(∃ a o,e=.ref a/\s'.heap.get? a=some o/\o.cls=.type "StopIteration")/\Q none s') s):wpAny (model prog w) A (pyNext (.ref it)) Q E s:=by
 unfold pyNext;refine gt (wpAny_attempt (Kh (name:=Str.ofString "__next__") hT hs (J4 (call_meetsIn hs hT he ha hm h) (λu s' q=>JB q) λe s' q=>?_)))
 obtain⟨⟨a,o,rfl,g,c⟩,q⟩:=q;exact gt (wpAny_isInstance (T:="StopIteration") (b:=true) ⟨_,g,c⟩ isSubtype_stop (JB q))
inductive sW where
 | k | v
def sW.nm:sW->KB
 | .k=>"dict_keyiterator"
 | .v=>"dict_valueiterator"
def sW.of (e:KC):sW->Kq
 | .k=>e.key
 | .v=>e.val
theorem EM (c:sW) {h:Kx} {it d:Kr} {i n ep:Nat} (h1:h.get? it=some (wI c.nm d i n ep)):(h.update it (Obj.mapFields (·.setIfInBounds 1 (rawInt ((i:Int)+1))))).get? it=some (wI c.nm d (i+1) n ep):=
 Heap.get?_update_self _ h1 rfl
theorem B_ (c:sW) {Q:Ks Kq->Ko->Prop} (h1:s.heap.get? it=some (wI c.nm d i es.size ep)) (h2:s.heap.get? d=some (p5 es ep)) (hx:es[i]?=some e)
  (h:∀ h',h'.get? it=some (wI c.nm d (i+1) es.size ep)->(∀ b o,b≠it->s.heap.get? b=some o->h'.get? b=some o)->Q (some (sW.of e c)) {s with heap:=h'}):wpAny (model prog w) A (pyNext (.ref it)) Q E s:=by
 have far:∀ b o,b≠it->s.heap.get? b=some o->(s.heap.update it (Obj.mapFields (·.setIfInBounds 1 (rawInt ((i:Int)+1))))).get? b=some o:=λb o nb x=>(Heap.get?_update_other _ _ (Ne.symm nb)).trans x
 have z:=h _ (EM c h1) far;cases c with
 | k=>exact ox F.slot_dict_keyiterator_next ⟨_,h1,rfl⟩ F.entry_dict_keyiterator_next (F.args_dict_keyiterator_next_1 _) (Jl it d es i ep e hx) ⟨h1,h2,z⟩
 | v=>exact ox F.slot_dict_valueiterator_next ⟨_,h1,rfl⟩ F.entry_dict_valueiterator_next (F.args_dict_valueiterator_next_1 _) (Je it d es i ep e hx) ⟨h1,h2,z⟩
theorem zD (c:sW) {Q:Ks Kq->Ko->Prop} (hh:A.handled=none) (h1:s.heap.get? it=some (wI c.nm d i es.size ep)) (h2:s.heap.get? d=some (p5 es ep)) (hx:es[i]?=none)
  (h:∀ h',(∀ b o,b≠it->s.heap.get? b=some o->h'.get? b=some o)->Q none {s with heap:=h'}):wpAny (model prog w) A (pyNext (.ref it)) Q E s:=by
 cases c with
 | k=>exact ox F.slot_dict_keyiterator_next ⟨_,h1,rfl⟩ F.entry_dict_keyiterator_next (F.args_dict_keyiterator_next_1 _) (Jo it d es i ep hx) ⟨hh,h1,h2,λh' e x z9=>by obtain⟨o,y1,y2⟩:=z9; exact⟨⟨e,o,rfl,y1,y2⟩,h h' x⟩⟩
 | v=>exact ox F.slot_dict_valueiterator_next ⟨_,h1,rfl⟩ F.entry_dict_valueiterator_next (F.args_dict_valueiterator_next_1 _) (Jt it d es i ep hx) ⟨hh,h1,h2,λh' e x z9=>by obtain⟨o,y1,y2⟩:=z9; exact⟨⟨e,o,rfl,y1,y2⟩,h h' x⟩⟩
theorem B' (c:sW) {n:Nat} {Q:Kq->Ko->Prop} (h1:s.heap.get? it=some (wI c.nm d i n ep)) (h:Q (.ref it) s):wpAny (model prog w) A (pyIter (.ref it)) Q E s:=by
 cases c with
 | k=>exact wpAny_pyIter_keyiter ⟨_,h1,rfl,rfl⟩ h
 | v=>exact wpAny_pyIter_valiter ⟨_,h1,rfl,rfl⟩ h
end
end
end PySem
namespace DL
open PySem PySem.Spec PyProof.Rows L2
def lP (k:List Int):D:=.tup (k.map .int)
def eP (kvs:List (List Int×D)) (k:List Int):Ks D:=(kvs.find? λp=>decide (p.1=k)).map (·.2)
def mV (kvs:List (List Int×D)) (k:List Int) (d:D):List (List Int×D):=if (eP kvs k).isSome then kvs.map (λp=>if p.1=k then(p.1,d) else p) else kvs++[(k,d)]
section
variable {K:Fg} {H H':Hp} {S:DH} {p:Kr}
theorem xY.step' {a:Kr} {o:DO} (z:xY K H a o) (k:Kp H H') (s:H' a=H a):xY K H' a o:=
 Hs.step (S:=λb=>if b=a then some o else none) (λb u e=>by
  by_cases q:b=a
  ·subst q; cases (if_pos rfl).symm.trans e; exact z
  ·cases (if_neg q).symm.trans e) k (λb u e=>by
  by_cases q:b=a
  ·subst q; exact s
  ·cases (if_neg q).symm.trans e) a o (if_pos rfl)
theorem Hs.setG {o u:HO} {g:FA} (h:Hs K H S) (e:H p=some u) (n:¬ Hr u) (r:og K (br H p o) p g):Hs K (br H p o) (put S p (.gen g)):=λa ob q=>by
 by_cases z:a=p
 ·subst z;rw [ak] at q;cases q;exact r
 ·rw [cj z] at q;exact xY.step' (h a ob q) (Kp.mut e n) (aO z)
theorem Hs.newG {o:HO} {g:FA} (h:Hs K H S) (e:H p=none) (r:og K (br H p o) p g):Hs K (br H p o) (put S p (.gen g)):=λa ob q=>by
 by_cases z:a=p
 ·subst z;rw [ak] at q;cases q;exact r
 ·rw [cj z] at q;exact xY.step' (h a ob q) (Kp.new e) (aO z)
theorem Hs.dT {kvs:List (List Int×D)} {ep:Nat} (h:Hs K H S) (e:S p=some (.gen (.dT kvs ep))):∃ xs,H p=some (.ext (mZ p xs ep))/\lM K H kvs xs:=h p _ e
theorem i5:∀ {k:List Int} {xs:List V},IsDs K H (k.map D.int) xs↔xs=k.map V.int
 | [],xs=>eJ
 | i::k,xs=>by
  rw [JP,JP,bC]
  constructor
  ·rintro⟨v,r,rfl,h1,h2⟩;rw [isInt.mp h1,i5.mp h2]
  ·rintro rfl;exact⟨_,_,rfl,isInt.mpr rfl,i5.mpr rfl⟩
theorem t9 {k:List Int} {v:V}:bB K H (lP k) v↔∃ b,v=.ref b/\gZ K H b (k.map V.int):=by
 unfold lP;rw [bw]
 constructor
 ·rintro⟨a,xs,e,t,j⟩;rw [i5.mp j] at t;exact⟨a,e,t⟩
 ·rintro⟨b,e,t⟩;exact⟨b,_,e,t,i5.mpr rfl⟩
variable {kvs:List (List Int×D)} {xs:List (List Int×Kr×Kq)}
theorem lM.get (r:lM K H kvs xs) (k:List Int):(eP kvs k=none/\atKey xs k=none)\/∃ d b u v,eP kvs k=some d/\atKey xs k=some (b,u)/\aV v u/\bB K H d v:=by
 induction r with
 | nil=>exact .inl ⟨rfl,rfl⟩
 | @cons p q ps qs h t ih=>
  obtain⟨h1,h2,v,h3,h4⟩:=h
  by_cases e:p.1=k
  ·exact .inr ⟨p.2,q.2.1,q.2.2,v,by simp [eP,JR,e],by simp [atKey,JR,h1.symm.trans e],h3,h4⟩
  ·have e':¬ q.1=k:=λz=>e (h1.trans z)
   have a1:eP (p::ps) k=eP ps k:=by simp [eP,JR,e]
   have a2:atKey (q::qs) k=atKey qs k:=by simp [atKey,JR,e']
   rw [a1,a2];exact ih
theorem lM.isSome (r:lM K H kvs xs) (k:List Int):(eP kvs k).isSome=(atKey xs k).isSome:=by
 rcases r.get k with ⟨a,b⟩ | ⟨d,b,u,v,a,c,_⟩
 ·rw [a,b]; rfl
 ·rw [a,c]; rfl
theorem lM.put (r:lM K H kvs xs) {k:List Int} {b:Kr} {d:D} {v:V} {u:Kq} (hb:gZ K H b (k.map V.int)) (rv:aV v u) (hd:bB K H d v):lM K H (mV kvs k d) (storedH xs k b u):=by
 unfold mV storedH;rw [r.isSome k]
 by_cases q:(atKey xs k).isSome=true
 ·rw [if_pos q,if_pos q];clear q
  induction r with
  | nil=>exact .nil
  | @cons p q ps qs h t ih=>
   rw [JP,JP];refine .cons ?_ ih;obtain⟨h1,h2,v',h3,h4⟩:=h;unfold putAt
   by_cases e:p.1=k
   ·rw [if_pos e,if_pos (h1.symm.trans e)]; exact⟨h1,h2,v,rv,hd⟩
   ·rw [if_neg e,if_neg (λz=>e (h1.trans z))]; exact⟨h1,h2,v',h3,h4⟩
 ·rw [if_neg q,if_neg q];exact Paired.snoc r ⟨rfl,hb,v,rv,hd⟩
theorem lM.length (r:lM K H kvs xs):kvs.length=xs.length:=Paired.length r
theorem lM.at_:∀ {kvs:List (List Int×D)} {xs:List (List Int×Kr×Kq)} {i:Nat} {p:List Int×D},lM K H kvs xs->kvs[i]?=some p->∃ q,xs[i]?=some q/\p.1=q.1/\gZ K H q.2.1 (p.1.map V.int)/\∃ v,aV v q.2.2/\bB K H p.2 v
 | _,_,0,_,.cons h _,e=>by cases e; exact⟨_,rfl,h⟩
 | _,_,i+1,_,.cons _ t,e=>lM.at_ (i:=i) t e
end
section
variable {X:Cx} {KE:List (Kr×KD)} {σ:L2.St} {H:Hp} {s:Ko} {a b:Kr} {kvs:List (List Int×D)} {xs:List (List Int×Kr×Kq)} {ep:Nat} {k:List Int}
theorem items_int {P:Ku} {w:Kw}:∀ {ks:List Int} {us:List Kq},aW (ks.map V.int) us->PySem.ItemsAre (intKind P w) ks us
 | [],_,r=>by rw [List.map_nil] at r; cases r; exact .nil
 | k::ks,_,r=>by
  rw [JP] at r;cases r with
  | cons h t=>
   obtain⟨tk,rfl⟩:=h;exact .cons (by simp [intKind,Value.isInt]) (items_int t)
theorem lU (I:aE X KE σ H s) (h:gZ X.K H b (k.map V.int)):(tupleKind (intKind X.prog X.w)).is s.heap k b:=by
 obtain⟨its,r,⟨o,h1,h2,n,h3⟩,_⟩:=I.tuple h;exact⟨o,its.toArray,n,h1,h2,h3,by simpa using items_int r⟩
theorem fN (I:aE X KE σ H s) (e:H a=some (.ext (mZ a xs ep))):(a == sysModules)=false/\xs.length<=sizeLine/\(xs.map (·.1)).Nodup/\s.heap.get? a=some (p5 (xs.map eT).toArray ep):=(I.hok a _ e).1
theorem wO (I:aE X KE σ H s) (e:H a=some (.ext (mZ a xs ep))) (r:lM X.K H kvs xs):s.heap.DictOfH (tupleKind (intKind X.prog X.w)) a xs:=by
 obtain⟨_,z,nd,g⟩:=fN I e;refine⟨_,_,ep,g,⟨rfl,rfl,rfl⟩,rfl,rfl,?_,nd⟩;clear z nd g e
 induction r with
 | nil=>intro x hx; exact nomatch hx
 | @cons p q ps qs h t ih=>
  intro x hx;rcases JJ.mp hx with e | hx
  ·subst e;rw [<- h.1];exact lU I h.2.1
  ·exact ih x hx
theorem vg {P:Ku} {w:Kw} {h:Kx} (hd:(a == sysModules)=false) (z:xs.length<=sizeLine) (m:h.DictOfH (tupleKind (intKind P w)) a xs):∃ ep,mZ a xs ep h:=by
 obtain⟨⟨c,d,dt,sl⟩,es,ep,g,⟨c1,c2,c3⟩,c4,c5,_,nd⟩:=m;have q:es=(xs.map eT).toArray:=by
  have:es.toList=xs.map eT:=c5;rw [<- this]
 refine⟨ep,hd,z,nd,?_⟩;rw [g];cases c1; cases c2; cases c3; cases c4
 rw [q]
 rfl
theorem mw {P:Ku} {w:Kw} {h:Kx} (m:mZ a xs ep h):dy P w H h a (.ext (mZ a xs ep)):=
 ⟨m,⟨_,m.2.2.2⟩,λh1 h2 p q=>⟨p.1,p.2.1,p.2.2.1,q _ p.2.2.2⟩⟩
theorem gu (xs:List (List Int×Kr×Kq)) (k:List Int) (b:Kr) (u:Kq):(storedH xs k b u).length<=xs.length+1:=by
 unfold storedH
 split
 ·rw [JG]; omega
 ·rw [JU]; exact JE _
theorem un1 {n:Nat} {A:Kv} (hr:cA n A):A.units+1 < cLine:=by have:=hr.un; omega
def zg (go gi:DE):DE:=λL S k=>go L S λd S1=>gi L S1 λe S2=>match d with
 | .ref a=>∃ kvs ep ks c,S2 a=some (.gen (.dT kvs ep))/\e=lP ks/\eP kvs ks=some c/\k c S2
 | _=>False
def Dv (K:Fg) (to ti:TE):TE:=fun σ H Q=>to σ H λx H1=>ti σ H1 λy H2=>∃ a b kvs xs ep ks p v,x=.ref a/\y=.ref b/\H2 a=some (.ext (mZ a xs ep))/\lM K H2 kvs xs/\gZ K H2 b (ks.map V.int)/\atKey xs ks=some p/\aV v p.2/\Q v H2
theorem yB {o i:Kt} {to ti:TE} {pos:Pos} {n:Nat} (hr:cA n X.A) (ho:PE X o to) (hi:PE X i ti) (hs:EF i):PE X (.Subscript o i pos) (Dv X.K to ti):=by
 intro KE s σ H Q I h;refine A7 PySem.F.slot_dict_getitem.lookup hs (be (ho KE s σ H _ I h) λu s1 ⟨x,H1,I1,rx,h1⟩=>be (hi KE s1 σ H1 _ I1 h1) λiv s2 z9=>?_)
 obtain⟨y,H2,I2,ry,a,b,kvs,xs,ep,ks,p,v,ex,ey,e1,r1,t1,z2,z3,q⟩:=z9;subst ex ey;obtain rfl:u=Value.ref a:=rx;cases (show iv=Value.ref b from ry)
 have dd:=wO I2 e1 r1;exact⟨dd.typeIs,wpAny_getItem_heap (tupleKind_room_in1 (un1 hr)) (lU I2 t1) dd z2 ⟨v,H2,I2.tok _,z3,q⟩⟩
theorem ow {o i:Kt} {go gi:DE} {pos:Pos} {n:Nat} (hr:cA n X.A) (ho:EJ X o go) (hi:EJ X i gi) (hs:EF i):EJ X (.Subscript o i pos) (zg go gi):=
 ⟨PE.imp (yB hr ho.h hi.h hs) fun σ H Q ⟨L,S,k,hL,hS,h,m⟩=>up.go hL hS h λd S1 x H1 h1 k1 hL1 hS1 i1=>up.go hL1 hS1 h1 λe S2 y H2 h2 k2 hL2 hS2 i2=>by
  cases d with
  | ref a=>
   obtain⟨kvs,ep,ks,c,g1,rfl,g3,h2⟩:=h2;obtain⟨xs,e1,r1⟩:=hS2.dT g1;obtain⟨b,rfl,t1⟩:=t9.mp i2;have ex:=aU.mp i1;subst ex;rcases r1.get ks with ⟨z,_⟩ | ⟨d,b',w,v,z1,z2,z3,z4⟩
   ·rw [g3] at z; cases z
   ·rw [g3] at z1;cases z1;exact⟨a,b,kvs,xs,ep,ks,_,v,rfl,rfl,e1,r1,t1,z2,z3,m c S2 v H2 h2 (k1.trans k2) hS2 z4⟩
  | _=>exact(show False from h2).elim⟩
def Gs (K:Fg):Cd:=λx y v H Q=>∃ a b kvs xs ep ks,x=.ref a/\y=.ref b/\H a=some (.ext (mZ a xs ep))/\lM K H kvs xs/\gZ K H b (ks.map V.int)/\xs.length < sizeLine/\∀ u ep',aV v u->Q (br H a (.ext (mZ a (storedH xs ks b u) ep')))
theorem AI {n:Nat} (hr:cA n X.A):Df X (Gs X.K):=by
 intro KE s σ H o i v ov iv u Q I ro ri rv h;obtain⟨a,b,kvs,xs,ep,ks,rfl,rfl,e1,r1,t1,z,q⟩:=h;cases (show ov=Value.ref a from ro)
 cases (show iv=Value.ref b from ri)
 have hd:=(fN I e1).1;refine wpAny_setItem_heap (hsz:=Nat.le_of_lt z) (tupleKind_room_in1 (un1 hr)) (lU I t1) (wO I e1 r1) λh' dd' hs=>?_
 have z':(storedH xs ks b u).length<=sizeLine:=by have:=gu xs ks b u; omega
 obtain⟨ep',m⟩:=vg hd z' dd';exact⟨_,wR I (by rw [e1]; exact True.intro) hs ⟨_,m.2.2.2⟩ (mw m),q u ep' rv⟩
def yK (go gi:DE):DG:=λd L S k=>go L S λo S1=>gi L S1 λi S2=>match o with
 | .ref a=>∃ kvs ep ks,S2 a=some (.gen (.dT kvs ep))/\i=lP ks/\kvs.length < sizeLine/\∀ ep',k L (put S2 a (.gen (.dT (mV kvs ks d) ep')))
 | _=>False
theorem oA {o i:Kt} {go gi:DE} {pos:Pos} {n:Nat} (hr:cA n X.A) (ho:EJ X o go) (hi:EJ X i gi)
  (ha:∀ v,assign (.Subscript o i pos) X.env v=(do
   let ov <- holding [v] (eval o X.env)
   let iv <- holding [v,ov] (eval i X.env)
   standAt pos
   holding [v,ov,iv] (setItem ov iv v)
   release [v,ov,iv] []):=by intro _; rfl):GJ X (.Subscript o i pos) (yK go gi):=
 ⟨PG.imp (zP ho.h hi.h (AI hr) ha) λv σ H Q ⟨d,L,S,k,i1,hL,hS,h,m⟩=>up.go hL hS h λc S1 u H1 h1 k1 hL1 hS1 j1=>up.go hL1 hS1 h1 λc2 S2 u2 H2 h2 k2 hL2 hS2 j2=>by
  cases c with
  | ref a=>
   obtain⟨kvs,ep,ks,g1,rfl,z,h2⟩:=h2;obtain⟨xs,e1,r1⟩:=hS2.dT g1;obtain⟨b,rfl,t1⟩:=t9.mp j2;have ex:=aU.mp j1;subst ex;refine⟨a,b,kvs,xs,ep,ks,rfl,rfl,e1,r1,t1,by rw [<- r1.length]; exact z,λw ep' rw'=>?_⟩
   have k3:Kp H2 (br H2 a (.ext (mZ a (storedH xs ks b w) ep'))):=Kp.mut e1 (λz=>z)
   exact m L _ σ _ (h2 ep') (k1.trans (k2.trans k3)) (hL2.kp k3) (hS2.setG e1 (λz=>z) ⟨_,bo,(r1.put t1 rw' (i1.kp (k1.trans k2))).kp k3⟩)
  | _=>exact(show False from h2).elim⟩
def Gz:DE:=λ_ S k=>∀ p,S p=none->∀ ep,k (.ref p) (put S p (.gen (.dT [] ep)))
theorem qw (h:Kx) (hb:sysModules < h.objs.size):mZ h.objs.size [] 0 (h.push {cls:=.type "dict",data:=.dict #[]}):=
 ⟨beq_eq_false_iff_ne.mpr (Ne.symm (JK hb)),Kd _,List.nodup_nil,JC _ rfl⟩
theorem wG {pos:Pos}:EJ X (.Dict [] [] pos) Gz:=⟨λKE s σ H Q I ⟨L,S,k,hL,hS,h,m⟩=>by
 have hn:=I.hok.fresh (JE s.heap.objs.size);refine wpAny_Dict_empty ⟨.ref s.heap.objs.size,_,I.laid (a:=s.heap.objs.size) (o:=.ext (mZ s.heap.objs.size [] 0)) (t':=s.toks) (λ_ _ q=>pp _ q) (JE _) (mw (qw s.heap I.big)),rfl,?_⟩
 exact m _ _ _ _ (h _ (hS.free hn) 0) (Kp.new hn) (hS.newG hn ⟨[],bo,.nil⟩) (aU.mpr rfl)⟩
end
end DL
namespace L2
open PySem PySem.Spec PyProof.Rows
theorem Bv {X:Cx} {KE:List (Kr×KD)} {σ:St} {H:Hp} {s:Ko} {a:Kr} {xs ys:List (List Int×Kr×Kq)} {ep ep' i:Nat} {x:List Int×Kr×Kq} (I:aE X KE σ H s) (e1:H a=some (.ext (DL.mZ a xs ep))) (e2:H a=some (.ext (DL.mZ a ys ep')))
  (hx:xs[i]?=some x):∃ y,ys[i]?=some y/\DL.eT y=DL.eT x:=by
 have g1:=(DL.fN I e1).2.2.2;have g2:=(DL.fN I e2).2.2.2;have z:=J1 (g1.symm.trans g2);have q:xs.map DL.eT=ys.map DL.eT:=by
  unfold DL.p5 at z;injection z with _ _ z _
  injection z with z _
  exact congrArg Array.toList z
 have w:(ys.map DL.eT)[i]?=some (DL.eT x):=by rw [<- q,J0,hx]; rfl
 rw [J0] at w;exact Option.map_eq_some_iff.mp w
def H_ (c:sW) (a:Kr) (ep n:Nat):It:=
 ⟨λi H => ∃ xs x v, H a = some (.ext (DL.mZ a xs ep)) ∧ xs[i]? = some x ∧ xs.length = n ∧ aV v (sW.of (DL.eT x) c),
  λi H v H'=>H'=H/\∀ xs,H a=some (.ext (DL.mZ a xs ep))->∃ x,xs[i]?=some x/\aV v (sW.of (DL.eT x) c),
  λi H=>∃ xs,H a=some (.ext (DL.mZ a xs ep))/\xs.length=n/\n<=i⟩
theorem xr {P:Ku} {w:Kw} {K:PySem.W.Frag} {tg:Kt} (c:sW) (a it:Kr) (ep n:Nat):qe P w K tg (H_ c a ep n) [it] it (λi h=>h.get? it=some (wI c.nm a i n ep)) where
 mem:=by simp
 obj:=λi h st b hb=>by
  have e:b=it:=by simpa using hb
  subst e;exact⟨_,st,λv z=>by cases z⟩
 keep:=λi h h' st k=>k it (by simp) _ st
 item:=by
  intro X hP hw hK hc i KE s σ H E I hf st hg;subst hP hw hK;obtain⟨xs,x,v,e1,hx,hn,rv⟩:=hg;have g:=(DL.fN I e1).2.2.2;have sz:(xs.map DL.eT).toArray.size=n:=by simp [hn]
  obtain⟨f0,f1,f2,f3,f4,f5⟩:=hf it (by simp)
  refine B_ c (e:=DL.eT x) (by rw [sz]; exact st) g (by simp [hx]) λh' st' kk=>?_
  have I1:aE X KE σ H {s with heap:=h'}:=I.turned (t':=s.toks) kk f0 f1 f3 f4 f5
  rw [sz] at st';refine⟨_,rfl,pC (s:={s with heap:=h'}) (n:=c.nm) st' rfl rfl (by cases c <;> decide) ⟨v,H,I1,rv,⟨rfl,λys ey=>?_⟩,st',λb hb=>(hf b hb).1⟩⟩
  obtain⟨y,y1,y2⟩:=Bv I e1 ey hx;exact⟨y,y1,by rw [y2]; exact rv⟩
 done:=by
  intro X hP hw hK hc i KE s σ H E I hf st hg;subst hP hw hK;obtain⟨xs,e1,hn,hi⟩:=hg;have g:=(DL.fN I e1).2.2.2;have sz:(xs.map DL.eT).toArray.size=n:=by simp [hn]
  obtain⟨f0,f1,f2,f3,f4,f5⟩:=hf it (by simp)
  exact zD c (I.ok.hd hc) (by rw [sz]; exact st) g (by simp; omega) λh' kk=>⟨rfl,I.turned (t':=s.toks) kk f0 f1 f3 f4 f5⟩
 self:=λ_ _ _ _ _ st h=>B' c st h
section
variable {X:Cx} {tg l o:Kt} {tl to:TE} {apos cpos:Pos}
def FX (tl:TE):TI:=fun σ H R=>tl σ H λx H1=>∃ a ep xs,x=.ref a/\H1 a=some (.ext (DL.mZ a xs ep))/\R (H_ .k a ep xs.length) H1
theorem Bp (hl:PE X l tl):PI X tg l (FX tl):=by
 intro KE s σ H R I h;refine be (hl KE s σ H _ I h) λv s1 z9=>?_
 obtain⟨x,H1,I1,r1,a,ep,xs,ex,e1,q⟩:=z9;subst ex;cases (show v=Value.ref a from r1)
 obtain⟨hd,_,_,g⟩:=DL.fN I1 e1;refine qV hd g ⟨s1.heap.objs.size,[s1.heap.objs.size],_,_,H1,rfl,I1.kept (t':=s1.toks) λb o e=>pp _ e,xr .k a _ ep xs.length,?_,λb hb=>?_,q⟩
 ·show(s1.heap.push _).get? _=_
  rw [JC _ rfl];simp [sW.nm]
 ·have e:b=s1.heap.objs.size:=by simpa using hb
  subst e;exact I1.fpOk (JE _) (I1.hok.fresh (JE _))
end
end L2
namespace DL
open PySem PySem.Spec PyProof.Rows L2
abbrev Ai:=Lo->DH->(List D->(DH->Prop)->DH->Prop)->Prop
structure ER (K:Fg) (H1:Hp) (J:It) (ds:List D) (ok:DH->Prop):Prop where
 go:∀ i d S2 H2,ds[i]?=some d->Kp H1 H2->Hs K H2 S2->ok S2->J.go i H2/\∀ x H',J.yld i H2 x H'->Kp H2 H'/\Hs K H' S2/\bB K H' d x
 stop:∀ S2 H2,Kp H1 H2->Hs K H2 S2->ok S2->J.stop ds.length H2
def IL (K:Fg) (g:Ai):TI:=fun σ H R=>∃ L S k,Lc K H L σ/\Hs K H S/\g L S k/\∀ ds ok S' H' J,k ds ok S'->Kp H H'->Lc K H' L σ->Hs K H' S'->ER K H' J ds ok->R J H'
structure IJ (X:Cx) (tg iter:Kt) (g:Ai):Prop where
 h:PI X tg iter (IL X.K g)
def zL (cap:List (Ks Nat)) (gi:Ai) (g:DG) (bd:DB):DE:=λL S k=>gi L S λds ok S1=>∀ p,S1 p=none->bK ok p g bd k ds [] (x6 cap L) (put S1 p (.lst []))
section
variable {K:Fg} {ok:DH->Prop} {gg:DG} {ge:DE} {gc:DT} {k:DK} {ds:List D} {L:Lo} {S:DH} {σ:L2.St} {H:Hp} {J:It} {p:Kr} {Q:V->Hp->Prop}
theorem rR (hL:Lc K H L σ) (hS:Hs K H S) (hp:H p=none) (h:bK ok p gg (m8 gc ge) k ds [] L (put S p (.lst [])))
  (n:∀ d S' v H',k d S'->Kp H H'->Hs K H' S'->bB K H' d v->Q v H') (G:ER K H J ds ok):
  ∃ W:Nat->Nat->L2.St->Hp->Prop,(∃ m,W 0 m σ (br H p (.lst [])))/\∀ i m σ' H',W i m σ' H'->
   (J.stop i H'/\Q (.ref p) H')\/(J.go i H'/\∃ N:L2.St->Hp->Prop,(∀ σ2 H2,N σ2 H2->∃ m',m' < m/\W (i+1) m' σ2 H2)/\∀ x H2,J.yld i H' x H2->DR K gg x σ' H2 fun σ3 H3=>sV K gc σ3 H3 λb H3'=>if b=true then up K ge σ3 H3' λv H4=>∃ ys,H4 p=some (.lst ys)/\ys.length < sizeLine/\N σ3 (br H4 p (.lst (ys++[v]))) else N σ3 H3'):=by
 refine⟨λi m σ1 H1=>m=ds.length - i/\i<=ds.length/\∃ acc L1 S1,Lc K H1 L1 σ1/\Hs K H1 S1/\Kp H H1/\bK ok p gg (m8 gc ge) k (ds.drop i) acc L1 S1,⟨ds.length,by simp,Kd _,[],L,_,hL.kp (Kp.new hp),hS.newL hp IsDs.nil,Kp.new hp,h⟩,?_⟩
 rintro i m σ1 H1 ⟨rfl,hi,acc,L1,S1,hL1,hS1,k1,w1⟩
 by_cases hlt:i < ds.length
 ·have e:ds.drop i=ds[i]::ds.drop (i+1):=Kb hlt;rw [e] at w1;obtain⟨o1,w1⟩:=w1;obtain⟨g1,y1⟩:=G.go i ds[i] S1 H1 (by simp [hlt]) k1 hS1 o1
  refine .inr ⟨g1,fun σ' H'=>i+1<=ds.length/\∃ acc L' S',Lc K H' L' σ'/\Hs K H' S'/\Kp H H'/\bK ok p gg (m8 gc ge) k (ds.drop (i+1)) acc L' S',fun σ' H' z9=>by obtain⟨q1,q2⟩:=z9; exact⟨ds.length - (i+1),by omega,rfl,q1,q2⟩,λx H' y=>?_⟩
  obtain⟨k0,hS0,ix⟩:=y1 x H' y;refine⟨ds[i],L1,S1,_,ix,hL1.kp k0,hS0,w1,λL2 S2 σ2 H2 q k2 hL2 hS2=>sV.go hL2 hS2 q λb S2' H2' h2 k2' hL2' hS2'=>?_⟩
  have kk:=((k1.trans k0).trans k2).trans k2';cases b with
  | true=>
   rw [if_pos rfl] at h2 ⊢;refine up.go hL2' hS2' h2 λd S3 v H3 h3 k3 hL3 hS3 i3=>?_
   obtain⟨z1,z2,z3⟩:=h3;obtain⟨xs,hl,j⟩:=hS3.lst z1;have k4:Kp H3 (br H3 p (.lst (xs++[v]))):=Kp.mut hl (λz=>z)
   exact⟨xs,hl,by rw [<- j.length]; exact z2,hlt,_,L2,_,hL3.kp k4,hS3.setL hl (j.append (IsDs.cons i3 IsDs.nil)),(kk.trans k3).trans k4,z3⟩
  | false=>
   rw [if_neg JH] at h2 ⊢;exact⟨hlt,acc,L2,_,hL2',hS2',kk,h2⟩
 ·have e:i=ds.length:=by omega
  subst e;rw [List.drop_length] at w1;obtain⟨o1,w1⟩:=w1;exact .inl ⟨G.stop S1 H1 k1 hS1 o1,n _ S1 _ H1 w1 k1 hS1 (aU.mpr rfl)⟩
end
section
variable {X:Cx} {tg iter elt c:Kt} {gi:Ai} {gg:DG} {g:DS} {ge:DE} {gc:DT} {body:List Ky} {pos:Pos} {scope:Scope} {cl:List (Str×Kr)} {N:List Str} {cap:List (Ks Nat)}
theorem vk {K:Fg}:∀ σ H Q,up K (zL cap gi gg (m8 gc ge)) σ H Q->sJ cap (IL K gi) (DR K gg) (sV K gc) (up K ge) σ H Q:=fun σ H Q ⟨L,S,k,hL,hS,h,n⟩=>
 ⟨L,S,_,hL,hS,h,λds ok S1 H1 J h1 k1 hL1 hS1 G D hD=>rR (hL1.cap cap) hS1 hD (h1 D (hS1.free hD)) (λd S' v H' q k3=>n d S' v H' q (k1.trans k3)) G⟩
theorem oP (hc:X.calm=true) (Sc:db X scope cl N cap) (hi:IJ X tg iter gi) (hg:∀ s0 H0 ex C,GJ (dZ X scope cl N s0 H0 ex C) tg gg) (hcnd:∀ s0 H0 ex C,TJ (dZ X scope cl N s0 H0 ex C) c gc) (he:∀ s0 H0 ex C,EJ (dZ X scope cl N s0 H0 ex C) elt ge)
  (hs:∀ x,foldedSetIterable iter X.env x=pure x:=by intro _; rfl):EJ X (.ListComp elt [⟨tg,iter,[c],0⟩] scope pos) (zL cap gi gg (m8 gc ge)):=
 ⟨PE.imp (mE hc Sc hi.h (λs0 H0 ex C=>(hg s0 H0 ex C).h) (λs0 H0 ex C=>(hcnd s0 H0 ex C).h) (λs0 H0 ex C=>(he s0 H0 ex C).h) hs) vk⟩
end
def Aj (c:sW) (kvs:List (List Int×D)):List D:=kvs.map λp=>match c with
 | .k=>lP p.1
 | .v=>p.2
def eN (kvs:List (List Int×D)):List D:=kvs.map λp=>.tup [lP p.1,p.2]
def IB (gi:DE) (f:List (List Int×D)->List D):Ai:=λL S k=>gi L S λd S1=>match d with
 | .ref a=>∃ kvs ep,S1 a=some (.gen (.dT kvs ep))/\k (f kvs) (λS=>S a=some (.gen (.dT kvs ep))) S1
 | _=>False
theorem xB (c:sW) {K:Fg} {H1:Hp} {a:Kr} {kvs:List (List Int×D)} {ep:Nat}:ER K H1 (H_ c a ep kvs.length) (Aj c kvs) (λS=>S a=some (.gen (.dT kvs ep))) where
 go:=λi d S2 H2 e k2 hS2 ok=>by
  obtain⟨xs,e1,r1⟩:=hS2.dT ok;unfold Aj at e;rw [J0] at e;obtain⟨p,hp,rfl⟩:=Option.map_eq_some_iff.mp e;obtain⟨q,hq,h1,h2,v,h3,h4⟩:=r1.at_ hp;cases c with
  | k=>
   refine⟨⟨xs,q,.ref q.2.1,e1,hq,r1.length.symm,rfl⟩,?_⟩;rintro x H' ⟨rfl,al⟩;obtain⟨q',hq',rv⟩:=al xs e1;rw [hq] at hq';cases hq';rw [aV.inj (show aV x (Value.ref q.2.1) from rv) (show aV (.ref q.2.1) (Value.ref q.2.1) from rfl)]
   exact⟨Kp.refl _,hS2,t9.mpr ⟨_,rfl,h2⟩⟩
  | v=>
   refine⟨⟨xs,q,v,e1,hq,r1.length.symm,h3⟩,?_⟩;rintro x H' ⟨rfl,al⟩;obtain⟨q',hq',rv⟩:=al xs e1;rw [hq] at hq';cases hq';rw [aV.inj (show aV x q.2.2 from rv) h3]
   exact⟨Kp.refl _,hS2,h4⟩
 stop:=λS2 H2 k2 hS2 ok=>by
  obtain⟨xs,e1,r1⟩:=hS2.dT ok;exact⟨xs,e1,r1.length.symm,by unfold Aj; rw [JG]; exact JE _⟩
section
variable {X:Cx} {tg o:Kt} {go:DE} {apos cpos:Pos}
theorem wd (ho:EJ X o go):IJ X tg o (IB go (Aj .k)):=⟨PI.imp (Bp ho.h) fun σ H R ⟨L,S,k,hL,hS,h,n⟩=>up.go hL hS h λd S1 v H1 h1 k1 hL1 hS1 i1=>by
  cases d with
  | ref a=>
   obtain⟨kvs,ep,g1,h1⟩:=h1;obtain⟨xs,e1,r1⟩:=hS1.dT g1;have ex:=aU.mp i1;subst ex;exact⟨a,ep,xs,rfl,e1,n _ _ _ _ _ h1 k1 hL1 hS1 (r1.length▸xB .k)⟩
  | _=>exact(show False from h1).elim⟩
end
section
variable {X:Cx} {o e f:Kt} {go ge gf:DE} {to te tf:TE} {apos cpos:Pos}
def CJ:bE:=λds S k=>match ds with
 | [.ref a,.ty c]=>∃ kvs ep,S a=some (.gen (.dT kvs ep))/\k (.bl (pX .dic c)) S
 | _=>False
theorem D_:bW X (.builtin "isinstance") (nX X.K CJ):=by
 intro KE s σ H xs us Q I rs h;obtain⟨ds,S,k,i,hS,r,n⟩:=h;unfold CJ at r
 split at r
 ·rename_i a c
  obtain⟨kvs,ep,g1,r⟩:=r;obtain⟨x,y,rfl,i1,i2⟩:=ku i;have e2:=yW.mp i2;have e1:=aU.mp i1;subst e2 e1;obtain⟨u,w',rfl,r1,r2⟩:=o9 rs;cases (show w'=Value.type c.name from r2)
  cases (show u=Value.ref a from r1)
  obtain⟨ys,e1,_⟩:=hS.dT g1;exact PySem.W.kia_one PySem.W.kitx_dict I.kIn ⟨_,(fN I e1).2.2.2,rfl⟩ (vR .dic c) (λz=>nomatch z) λtk=>⟨.bl (pX .dic c),H,I.tok tk,rfl,n _ _ _ _ r (Kp.refl H) hS (aT.mpr rfl)⟩
 ·exact r.elim
end
abbrev Ch:=Lo->DH->(List (D×D)->DH->Prop)->Prop
def Gg:Ch:=λ_ S k=>k [] S
def De (gk gv:DE) (t:Ch):Ch:=λL S k=>gk L S λx S1=>gv L S1 λy S2=>t L S2 λps S3=>k ((x,y)::ps) S3
abbrev Dk (K:Fg) (H:Hp):List (D×D)->List (V×V)->Prop:=Paired λd p=>bB K H d.1 p.1/\bB K H d.2 p.2
def IC (K:Fg) (t:Ch):L2.St->Hp->(List (V×V)->Hp->Prop)->Prop:=fun σ H Q=>∃ L S k,Lc K H L σ/\Hs K H S/\t L S k/\∀ ds S' ps H',k ds S'->Kp H H'->Hs K H' S'->Dk K H' ds ps->Q ps H'
structure PJ (X:Cx) (pos:Pos) (keys:List (Ks Kt)) (values:List Kt) (t:Ch):Prop where
 h:∀ (KE:List (Kr×KD)) (s:Ko) (σ:L2.St) (H:Hp) (Q:List (V×V)->Hp->Prop),aE X KE σ H s->IC X.K t σ H Q->
  wpAny (model X.prog X.w) X.A (evalPairs (pairTrees keys values X.env pos)) (λvs s'=>∃ ps H',aE X KE σ H' s'/\VV ps vs/\Q ps H') X.xe s
section
variable {X:Cx} {pos:Pos}
theorem zv:PJ X pos [] [] Gg:=⟨λKE s σ H Q I z9=>by obtain⟨L,S,k,hL,hS,h,n⟩:=z9; exact pairTrees_nil_walk ⟨[],H,I,.nil,n [] S [] H h (Kp.refl H) hS .nil⟩⟩
theorem iS {a b:Kt} {ks:List (Ks Kt)} {vs:List Kt} {ga gb:DE} {t:Ch} (ha:EJ X a ga) (hb:EJ X b gb) (hr:PJ X pos ks vs t):PJ X pos (some a::ks) (b::vs) (De ga gb t):=
 ⟨λKE s σ H Q I ⟨L,S,k,hL,hS,h,n⟩=>by
  refine pairTrees_cons_walk (be (ha.h KE s σ H (λx H1=>up X.K gb σ H1 λy H2=>IC X.K t σ H2 λps H3=>Q ((x,y)::ps) H3) I ?_) λu s1 ⟨x,H1,I1,rx,q1⟩=>be (hb.h KE s1 σ H1 _ I1 q1) λw2 s2 ⟨y,H2,I2,ry,q2⟩=>
   be (hr.h KE s2 σ H2 _ I2 q2) λws s3 ⟨ps,H3,I3,rel,q3⟩=>⟨(x,y)::ps,H3,I3,.cons ⟨rx,ry⟩ rel,q3⟩)
  exact up.go hL hS h λd S1 v H1 h1 k1 hL1 hS1 i1=>up.go hL1 hS1 h1 λe S2 u H2 h2 k2 hL2 hS2 i2=>⟨L,S2,_,hL2,hS2,h2,λds S3 ps H3 h3 k3 hS3 i3=>n _ S3 _ H3 h3 ((k1.trans k2).trans k3) hS3 (.cons ⟨i1.kp (k2.trans k3),i2.kp k3⟩ i3)⟩⟩
end
section
variable {prog:Ku} {w:Kw} {A:Kv} {E:Kq->Ko->Prop} {d:Kr}
theorem qT (hu:A.units < cLine):∀ (vs:List (Kq×Kq)) (ks acc:List (List Int×Kr×Kq)) (s:Ko) (Q:PUnit->Ko->Prop),Paired (λv k=>v.1=.ref k.2.1/\v.2=k.2.2) vs ks->
  (∀ k∈ks,(tupleKind (intKind prog w)).is s.heap k.1 k.2.1)->s.heap.DictOfH (tupleKind (intKind prog w)) d acc->acc.length+ks.length<=sizeLine->
  (∀ h' tk,h'.DictOfH (tupleKind (intKind prog w)) d (ks.foldl (λacc k=>storedH acc k.1 k.2.1 k.2.2) acc)->Heap.SameBut d s.heap h'->Q PUnit.unit {s with heap:=h',toks:=tk})->
  wpAny (model prog w) A (forIn vs PUnit.unit fun(x:Kq×Kq) (_:PUnit)=>(do dictSet d x.1 x.2; pure (ForInStep.yield PUnit.unit):Sem (ForInStep PUnit))) Q E s
 | _,_,acc,s,Q,.nil,_,hm,_,hQ=>by
  rw [List.forIn_nil];exact JB (hQ s.heap s.toks hm (Heap.SameBut.refl _ _))
 | (_,_)::vs,k::ks,acc,s,Q,.cons h t,hk,hm,hz,hQ=>by
  obtain⟨h1,h2⟩:=h;simp only at h1 h2
  subst h1 h2;rw [JQ] at hz;rw [List.forIn_cons];have hl:=gu acc k.1 k.2.1 k.2.2;refine gt (gt (wpAny_dictSet_heap (hsz:=by omega) (show (tupleKind (intKind prog w)).room A from hu) (hk k (by simp)) hm λh1 m1 s1=>JB (qT hu vs ks (storedH acc k.1 k.2.1 k.2.2) _ Q t (λq hq=>?_) m1 (by omega) λh' tk m' s'=>hQ h' tk m' (s1.trans s'))))
  obtain⟨o,es,ep,g,_,dt,_⟩:=hm;exact(tupleKind (intKind prog w)).keeps (hk q (by simp [hq])) g dt s1
end
def gN (acc kvs:List (List Int×D)):List (List Int×D):=kvs.foldl (λacc kv=>mV acc kv.1 kv.2) acc
theorem lM.merge {K:Fg} {H:Hp}:∀ {kvs:List (List Int×D)} {xs:List (List Int×Kr×Kq)} {acc:List (List Int×D)} {ys:List (List Int×Kr×Kq)},lM K H kvs xs->lM K H acc ys->lM K H (gN acc kvs) (xs.foldl (λacc k=>storedH acc k.1 k.2.1 k.2.2) ys)
 | _,_,_,_,.nil,r=>r
 | (k,d)::_,x::_,_,_,.cons h t,r=>by
  obtain⟨h1,h2,v,h3,h4⟩:=h;simp only at h1;subst h1
  rename_i t1 t2 a b
  exact lM.merge (kvs:=t1) (xs:=t2) (acc:=mV a x.1 d) (ys:=storedH b x.1 x.2.1 x.2.2) t (r.put h2 h3 h4)
theorem mY:∀ (ks acc:List (List Int×Kr×Kq)),(ks.foldl (λacc k=>storedH acc k.1 k.2.1 k.2.2) acc).length<=acc.length+ks.length
 | [],acc=>JE _
 | k::ks,acc=>by
  have h1:=mY ks (storedH acc k.1 k.2.1 k.2.2);have h2:=gu acc k.1 k.2.1 k.2.2;rw [List.foldl_cons,JQ];omega
theorem zW {K:Fg} {H:Hp}:∀ {kvs:List (List Int×D)} {ps:List (V×V)} {vs:List (Kq×Kq)},Dk K H (kvs.map λkv=>(lP kv.1,kv.2)) ps->VV ps vs->∃ xs,lM K H kvs xs/\Paired (λv (k:List Int×Kr×Kq)=>v.1=.ref k.2.1/\v.2=k.2.2) vs xs
 | [],_,_,r,q=>by rw [List.map_nil] at r; cases r; cases q; exact⟨[],.nil,.nil⟩
 | kv::kvs,_,_,r,q=>by
  rw [JP] at r;cases r with
  | @cons _ p _ _ h t=>
   cases q with
   | @cons _ b _ _ h' t'=>
    obtain⟨xs,a1,a2⟩:=zW t t';obtain⟨c,e,t1⟩:=t9.mp h.1;have h1:=h'.1;rw [e] at h1;exact⟨(kv.1,c,b.2)::xs,.cons ⟨rfl,t1,p.2,h'.2,h.2⟩ a1,.cons ⟨h1,rfl⟩ a2⟩
def EL (K:Fg) (t:L2.St->Hp->(List (V×V)->Hp->Prop)->Prop):TE:=fun σ H Q=>∀ p,H p=none->t σ (br H p (.ext (mZ p [] 0))) λps H2=>∃ ep,H2 p=some (.ext (mZ p [] ep))/\∃ kvs:List (List Int×D),Dk K H2 (kvs.map λkv=>(lP kv.1,kv.2)) ps/\kvs.length<=15/\
 ∀ xs ep',lM K H2 kvs xs->Q (.ref p) (br H2 p (.ext (mZ p (xs.foldl (λacc k=>storedH acc k.1 k.2.1 k.2.2) []) ep')))
theorem yS {X:Cx} {pos:Pos} {keys:List (Ks Kt)} {values:List Kt} {t:Ch} {n:Nat} (hr:cA n X.A) (h:PJ X pos keys values t) (hall:keys.all (·.isSome)=true:=by rfl) (hl:keys.length=values.length:=by rfl) (h0:keys≠[]:=by simp)
  (h15:keys.length<=15:=by decide):PE X (.Dict keys values pos) (EL X.K (IC X.K t)):=by
 intro KE s σ H Q I q;have hn:=I.hok.fresh (JE s.heap.objs.size);have hlen:=pairTrees_length keys values X.env pos hall hl;have I1:=I.laid (a:=s.heap.objs.size) (o:=.ext (mZ s.heap.objs.size [] 0)) (h':=s.heap.push {cls:=.type "dict",data:=.dict #[]}) (t':=s.toks) (λ_ _ q=>pp _ q) (JE _) (mw (qw s.heap I.big))
 rw [arm_eval_Dict,zip_pairTrees keys values X.env pos hall hl,dictDisplay_pairs _ (λe=>h0 (by rw [e] at hlen; exact Kn.mp hlen.symm)) (by omega)]
 refine gt (wpAny_standAt (gt ?_));unfold subDict;refine gt (wpAny_alloc (gt (JX ?_)));rw [if_pos (by omega)]
 refine gt (be (h.h KE _ σ _ _ I1 (q _ hn)) λws s2 z9=>?_)
 obtain⟨ps,H2,I2,rel,ep,e2,kvs,r2,lk,q2⟩:=z9;refine JX (gt ?_);obtain⟨xs,rx,rw'⟩:=zW r2 rel;have hd:=(fN I2 e2).1;have hz:xs.length<=15:=by rw [<- rx.length]; exact lk
 refine qT (Nat.lt_of_succ_lt (un1 hr)) ws xs [] s2 _ rw' (λx hx=>?_) (wO I2 e2 (kvs:=[]) .nil) (by rw [sizeLine_eq,List.length_nil]; omega) λh' tk dd' hs=>?_
 ·clear rw' hz q2;clear r2 lk
  induction rx with
  | nil=>exact nomatch hx
  | @cons p q ps qs h t ih=>
   rcases JJ.mp hx with e | hx
   ·subst e;rw [<- h.1];exact lU I2 h.2.1
   ·exact ih hx
 ·have z':(xs.foldl (λacc k=>storedH acc k.1 k.2.1 k.2.2) []).length<=sizeLine:=by have:=mY xs []; rw [List.length_nil] at this; rw [sizeLine_eq]; omega
  obtain⟨ep',m⟩:=vg hd z' dd';exact JB (JB (JB ⟨.ref s.heap.objs.size,_,wR (t':=tk) I2 (by rw [e2]; exact True.intro) hs ⟨_,m.2.2.2⟩ (mw m),rfl,q2 xs ep' rx⟩))
def GE (t:Ch):DE:=λL S k=>∀ p,S p=none->∀ ep,t L (put S p (.gen (.dT [] ep))) λds S2=>∃ ep' kvs,S2 p=some (.gen (.dT [] ep'))/\ds=kvs.map (λ(kv:List Int×D)=>(lP kv.1,kv.2))/\kvs.length<=15/\∀ ep2,k (.ref p) (put S2 p (.gen (.dT (gN [] kvs) ep2)))
theorem w9 {X:Cx} {pos:Pos} {keys:List (Ks Kt)} {values:List Kt} {t:Ch} {n:Nat} (hr:cA n X.A) (h:PJ X pos keys values t) (hall:keys.all (·.isSome)=true:=by rfl) (hl:keys.length=values.length:=by rfl) (h0:keys≠[]:=by simp)
  (h15:keys.length<=15:=by decide):EJ X (.Dict keys values pos) (GE t):=
 ⟨PE.imp (yS hr h hall hl h0 h15) fun σ H Q ⟨L,S,k,hL,hS,h,n⟩ p hp=>by
  refine⟨L,_,_,hL.kp (Kp.new hp),hS.newG (g:=.dT [] 0) hp ⟨[],bo,.nil⟩,h p (hS.free hp) 0,λds S2 ps H2 h2 k2 hS2 i2=>?_⟩
  obtain⟨ep',kvs,g2,rfl,lk,h2⟩:=h2;obtain⟨ys,e2,r2⟩:=hS2.dT g2;cases r2;refine⟨ep',e2,kvs,i2,lk,λxs ep2 rx=>?_⟩
  have k3:Kp H2 (br H2 p (.ext (mZ p (xs.foldl (λacc k=>storedH acc k.1 k.2.1 k.2.2) []) ep2))):=Kp.mut e2 (λz=>z)
  exact n _ _ _ _ (h2 ep2) (((Kp.new hp).trans k2).trans k3) (hS2.setG e2 (λz=>z) ⟨_,bo,(rx.merge .nil).kp k3⟩) (aU.mpr rfl)⟩
end DL
namespace PySem
open Sem (wp)
open Builtin DL
section
variable {prog:Ku} {w:Kw} {A:Kv} {E:Kq->Ko->Prop}
theorem sh:typeLookup (.type "list") "keys"=pure none:=by rw [typeLookup_type,builtinLookup_eq_fast]; kernel_rfl
theorem xX {a:Kr} {xs:Kz Kq} {k:Nat} {u:Tok} {s:Ko} {R:Result->Ko->Prop} (hx:s.heap.get? a=some {cls:=.type "list",dict:=none,data:=.seq xs k,slots:=#[]}) (hA:A.handled=none)
  (h:∀ h' tk e,Heap.NewAttrErr s.heap h' e (.ref a) "keys"->R (.error (.ref e)) {s with heap:=h',toks:=tk}):codeAny (model prog w) A (.call (.builtin "list.__getattribute__") ⟨[.ref a,.str "keys" u],[]⟩) R s:=
 have T:s.TypeIs (.ref a) "list":=⟨_,hx,rfl⟩
 codeAny_call_builtin F.slot_list_getattribute.plain am_entry_list_getattribute (F.slot_list_getattribute.check _ _ _ _ _ _ _ _ T (F.args_list_getattribute_2 _ _) (meets_getattribute_miss_list a xs k #[] "keys" _ sh (by decide) (by rw [sizeLine_eq]; decide) prog w A _ _ ⟨hx,hA,h⟩))
theorem x8 {a:Kr} {xs:Kz Kq} {k:Nat} {s:Ko} {Q:Ks Kq->Ko->Prop} (hx:s.heap.get? a=some {cls:=.type "list",dict:=none,data:=.seq xs k,slots:=#[]}) (hA:A.handled=none)
  (h:∀ h' tk,(∀ b o,s.heap.get? b=some o->h'.get? b=some o)->Q none {s with heap:=h',toks:=tk}):wpAny (model prog w) A (getAttr? (.ref a) "keys") Q E s:=by
 obtain⟨hp,g,d,tk,os⟩:=s;have hT:∀ tk',(⟨hp,g,d,tk',os⟩:Ko).TypeIs (.ref a) "list":=λ_=>⟨_,hx,rfl⟩
 have c1:=sub_AttributeError;have c2:=F.slot_list_getattribute.lookup;have c3:=F.slot_list_getattribute.bind (.ref a);have c4:=am_list_getattr_none;unfold getAttr? getAttrBy? getAttrBy
 repeat (any_goals (first | assumption | exact hT _ | wp_step))
 refine xX (s:=⟨hp,g,d,tk+1,os⟩) hx hA λh' tk' e ne=>?_
 obtain⟨t',u',he⟩:=ne.there;have z:=h h' tk' ne.keeps
 show wpAny _ _ (getattributeRaised _ _ _ _ _ _ _) _ _ _
 unfold getattributeRaised
 repeat (any_goals (first | assumption | wp_step))
theorem wK:entryFor table "dict.update.loop"=some Builtin.«dict.update.loop»:=entryFor_of_tree (by kernel_rfl)
theorem oB:plainId "dict.update.loop"=true:=by decide +kernel
theorem xy {d it l T:Kr} {its:Kz Kq} {i n:Nat} {key val:Kq} {s:Ko} {R:Result->Ko->Prop} {dd:Ks Kr} {sl:Kz (Ks Kq)} (hx:its[i]?=some (.ref T)) (st:s.heap.IsListIter it l i) (hl:s.heap.IsList l its)
  (hT:s.heap.get? T=some {cls:=.type "tuple",dict:=dd,data:=.seq #[key,val] n,slots:=sl}) (ne:T≠it)
  (h:∀ h',h'.IsListIter it l (i+1)->Heap.SameBut it s.heap h'->wpAny (model prog w) A.in1 (dictSet d key val) (λ_ s'=>codeAny (model prog w) A (.builtin "dict.update.loop" ⟨[.ref d,.ref it,rawInt ((i:Int)+1),.none],[]⟩) R s') (λe s'=>R (.error e) s') {s with heap:=h'}):
  codeAny (model prog w) A (.builtin "dict.update.loop" ⟨[.ref d,.ref it,rawInt i,.none],[]⟩) R s:=by
 refine J2 wK ?_;rw [JV oB _];refine gt (m:=pyNext (.ref it)) (wpAny_pyNext_list_item st hl hx λh' st' sb=>?_)
 obtain⟨hp,g,dr,tk,os⟩:=s;have hT':Heap.get? h' T=some {cls:=.type "tuple",dict:=dd,data:=.seq #[key,val] n,slots:=sl}:=(sb.2 T ne).trans hT
 have z:=h h' st' sb;refine gt (JX (gt (wpAny_tryCatch ?_)))
 repeat (any_goals (first | assumption | (with_reducible show wpAny _ _ (dictSet _ _ _) _ _ _; refine J4 z (λ_ s' q=>JB ⟨plainId_quiet oB _,q⟩) λ_ _ q=>q) | wp_step))
abbrev ye (prog:Ku) (w:Kw):HeapKind prog w (List Int):=tupleKind (intKind prog w)
theorem tK {h h':Kx} {d it:Kr} {c:KB} {acc:List (List Int×Kr×Kq)} (m:h.DictOfH (ye prog w) d acc) (ci:∃ o,h.get? it=some o/\o.cls=.type c) (nt:(Value.type "tuple" == Value.type c)=false) (hd:d≠it)
  (k:∀ b o,b≠it->h.get? b=some o->h'.get? b=some o):h'.DictOfH (ye prog w) d acc:=by
 obtain⟨o,es,ep,g,e1,e2,e3,e4,nd⟩:=m;refine⟨o,es,ep,k _ _ hd g,e1,e2,e3,λx hx=>?_,nd⟩
 obtain⟨q,its,n,g1,g2,g3⟩:=e4 x hx;refine⟨q,its,n,k _ _ (λz=>?_) g1,g2,g3⟩
 obtain⟨q',y1,y2⟩:=ci;rw [z,y1] at g1;cases g1;rw [y2] at g2;rw [g2] at nt;simp at nt
theorem AH {d it l:Kr} {R:Result->Ko->Prop} (hu:A.units+1 < cLine) (hh:A.handled=none) (ts:List (Kr×List Int×Kr×Kq)) (hd:d≠it) (hl:l≠it) (hld:l≠d):
  ∀ (k i:Nat) (s:Ko) (acc:List (List Int×Kr×Kq)),ts.length - i=k->i<=ts.length->s.heap.IsListIter it l i->s.heap.IsList l (ts.map λt=>Value.ref t.1).toArray->
  (∀ t∈ts,(∃ dd n sl,s.heap.get? t.1=some {cls:=.type "tuple",dict:=dd,data:=.seq #[.ref t.2.2.1,t.2.2.2] n,slots:=sl})/\(ye prog w).is s.heap t.2.1 t.2.2.1)->
  s.heap.DictOfH (ye prog w) d acc->acc.length+(ts.length - i)<=sizeLine->
  (∀ h' tk,(∀ b o,b≠it->b≠d->s.heap.get? b=some o->h'.get? b=some o)->h'.DictOfH (ye prog w) d ((ts.drop i).foldl (λacc t=>storedH acc t.2.1 t.2.2.1 t.2.2.2) acc)->R (.ok (.ret .none)) {s with heap:=h',toks:=tk})->
  codeAny (model prog w) A (.builtin "dict.update.loop" ⟨[.ref d,.ref it,rawInt i,.none],[]⟩) R s:=by
 intro k
 induction k with
 | zero=>
  intro i s acc hk hi st hL hts hm hz hR;have e:i=ts.length:=by omega
  subst e;refine J2 wK ?_;rw [JV oB _];have ci:∃ o,s.heap.get? it=some o/\o.cls=.type "list_iterator":=let ⟨o,a,b,_⟩:=st; ⟨o,a,b⟩
  refine gt (m:=pyNext (.ref it)) (wpAny_pyNext_list_end (A:=A.in1) hh st hL (by simp) λh' eb=>?_)
  have z:=hR h' s.toks (λb o n1 _ x=>eb b o n1 x) (by rw [List.drop_length]; exact tK hm ci (by decide) hd eb)
  exact gt (JB (JB z))
 | succ k ih=>
  intro i s acc hk hi st hL hts hm hz hR;have hlt:i < ts.length:=by omega
  have mem:ts[i]∈ts:=List.getElem_mem hlt;obtain⟨⟨dd,n,sl,gT⟩,ik⟩:=hts _ mem;have ci:∃ o,s.heap.get? it=some o/\o.cls=.type "list_iterator":=let ⟨o,a,b,_⟩:=st; ⟨o,a,b⟩
  have cd:∃ o,s.heap.get? d=some o/\o.cls=.type "dict":=let ⟨o,_,_,a,b,_⟩:=hm; ⟨o,a,b.1⟩
  have tni:∀ {b:Kr} {o:KD},s.heap.get? b=some o->o.cls=.type "tuple"->b≠it:=λg c z=>by
   obtain⟨q,y1,y2⟩:=ci;rw [z,y1] at g;cases g;rw [y2] at c;simp at c
  have tnd:∀ {b:Kr} {o:KD},s.heap.get? b=some o->o.cls=.type "tuple"->b≠d:=λg c z=>by
   obtain⟨q,y1,y2⟩:=cd;rw [z,y1] at g;cases g;rw [y2] at c;simp at c
  have hlen:=gu acc ts[i].2.1 ts[i].2.2.1 ts[i].2.2.2;refine xy (T:=ts[i].1) (by simp [hlt]) st hL gT (tni gT rfl) λh1 st1 sb=>?_
  have kk:∀ b o,b≠it->s.heap.get? b=some o->h1.get? b=some o:=λb o n1 x=>(sb.2 b n1).trans x
  have isk:∀ t∈ts,(ye prog w).is h1 t.2.1 t.2.2.1:=λt ht=>by
   obtain⟨q,its,m,g1,g2,g3⟩:=(hts t ht).2;exact⟨q,its,m,kk _ _ (tni g1 g2) g1,g2,g3⟩
  have hm1:h1.DictOfH (ye prog w) d acc:=tK hm ci (by decide) hd kk
  refine wpAny_dictSet_heap (hsz:=by omega) (show (ye prog w).room A.in1 from hu) (isk _ mem) hm1 λh2 hm2 sb2=>?_
  have e:(rawInt ((i:Int)+1))=rawInt ((i+1:Nat):Int):=rfl;rw [e];have k2:∀ b o,b≠d->h1.get? b=some o->h2.get? b=some o:=λb o n1 x=>(sb2.2 b n1).trans x
  refine ih (i+1) _ _ (by omega) hlt (st1.at λo x=>k2 _ _ (Ne.symm hd) x) ((hL.at λo x=>kk _ _ hl x).at λo x=>k2 _ _ hld x) (λt ht=>?_) hm2 (by omega) λh' tk q1 q2=>?_
  ·obtain⟨⟨dd,n,sl,g⟩,_⟩:=hts t ht;obtain⟨o,es,ep,g',_,dt,_⟩:=hm1;exact⟨⟨dd,n,sl,k2 _ _ (tnd g rfl) (kk _ _ (tni g rfl) g)⟩,(ye prog w).keeps (isk t ht) g' dt sb2⟩
  ·refine hR h' tk (λb o n1 n2 x=>q1 b o n1 n2 (k2 b o n2 (kk b o n1 x))) ?_
   rw [Kb hlt,List.foldl_cons];exact q2
theorem pP {l:Kr} {s:Ko} {n:Nat} (hu:A.units+2 < cLine) (hh:A.handled=none) (hb:sysModules < s.heap.objs.size) (ts:List (Kr×List Int×Kr×Kq)) {Q:Kq->Ko->Prop}
  (gl:s.heap.get? l=some {cls:=.type "list",dict:=none,data:=.seq (ts.map λt=>Value.ref t.1).toArray n,slots:=#[]})
  (hts:∀ t∈ts,(∃ dd n sl,s.heap.get? t.1=some {cls:=.type "tuple",dict:=dd,data:=.seq #[.ref t.2.2.1,t.2.2.2] n,slots:=sl})/\(ye prog w).is s.heap t.2.1 t.2.2.1) (hz:ts.length<=sizeLine)
  (h:∀ h' tk,(∀ b o,s.heap.get? b=some o->h'.get? b=some o)->h'.DictOfH (ye prog w) s.heap.objs.size (ts.foldl (λacc t=>storedH acc t.2.1 t.2.2.1 t.2.2.2) [])->Q (.ref s.heap.objs.size) {s with heap:=h',toks:=tk}):
  wpAny (model prog w) A (call (.type "dict") [.ref l]) Q E s:=by
 refine callType_codes (Q₁:=λob s1=>ob=.ref s.heap.objs.size/\s1={s with heap:=s.heap.push {cls:=.type "dict",data:=.dict #[]}}) F.kt_called_dict (F.kt_typeCall_dict_1 _) F.entry_dict_init (kt_code_dict_new _ ⟨rfl,rfl⟩) ?_
 rintro ob s1 ⟨rfl,rfl⟩;have hl:l < s.heap.objs.size:=JD gl;have gl1:(s.heap.push {cls:=.type "dict",data:=.dict #[]}).get? l=some {cls:=.type "list",dict:=none,data:=.seq (ts.map λt=>Value.ref t.1).toArray n,slots:=#[]}:=pp _ gl
 have gd1:(s.heap.push {cls:=.type "dict",data:=.dict #[]}).get? s.heap.objs.size=some (p5 #[] 0):=JC _ rfl
 refine⟨⟨_,gd1,rfl⟩,F.args_dict_init_2 _ _,?_⟩;generalize hH:s.heap.push {cls:=.type "dict",data:=.dict #[]}=H1 at gl1 gd1
 have kH:∀ b o,s.heap.get? b=some o->H1.get? b=some o:=λb o x=>by rw [<- hH]; exact pp _ x
 obtain⟨hp,g,dr,tk,os⟩:=s;have T1:(⟨H1,g,dr,tk,os⟩:Ko).TypeIs (.ref hp.objs.size) "dict":=⟨_,gd1,rfl⟩
 have hT2:(⟨H1,g,dr,tk,os⟩:Ko).TypeIs (.ref l) "list":=⟨_,gl1,rfl⟩
 refine gt (m:=Dict.selfAndRest "__init__" _) ?_
 unfold Dict.selfAndRest;refine gt (wpAny_notOrdered_dict T1 ?_)
 show wpAny _ _ (pure (hp.objs.size,[Value.ref l])) _ _ _
 refine JB ?_
 show wpAny _ _ (Dict.updateFrom "dict.__init__" hp.objs.size (.ref l) [] .none) _ _ _
 unfold Dict.updateFrom;refine gt (wpAny_typeOf hT2 ?_);rw [if_pos (by decide)]
 refine gt (x8 (s:=⟨H1,g,dr,tk,os⟩) gl1 hh λh' tk' kk=>?_)
 rw [if_pos (show (none:Ks Kq).isNone=true from rfl)]
 refine gt (wpAny_rule (gt ?_));have gl2:=kk _ _ gl1;have gd2:=kk _ _ gd1;have iL:h'.IsList l (ts.map λt=>Value.ref t.1).toArray:=⟨_,gl2,rfl,_,rfl⟩
 refine wpAny_pyIter_list (s:=⟨h',g,dr,tk',os⟩) iL (JB ⟨plainId_quiet oB _,?_⟩);have z1:hp.objs.size < h'.objs.size:=JD gd2;refine AH (A:=A.in1) (by show A.units+1+1 < cLine; omega) hh ts (JK z1) (JK (Nat.lt_trans hl z1)) (JK hl) ts.length 0 ⟨h'.push {cls:=.type "list_iterator",data:=.fields #[.ref l,.int 0 0]},g,dr,tk',os⟩ [] rfl (Kd _) ⟨_,JC _ rfl,rfl,rfl⟩ (iL.push _) (λt ht=>?_) ?_ (by rw [List.length_nil]; omega) λh2 tk2 q1 q2=>⟨rfl,h h2 tk2 (λb o x=>?_) q2⟩
 ·obtain⟨⟨dd,n',sl,g1⟩,o,its,m,g2,g3⟩:=hts t ht;have up:∀ b o,hp.get? b=some o->(h'.push {cls:=.type "list_iterator",data:=.fields #[.ref l,.int 0 0]}).get? b=some o:=λb o x=>pp _ (kk _ _ (kH _ _ x))
  exact⟨⟨dd,n',sl,up _ _ g1⟩,o,its,m,up _ _ g2,g3⟩
 ·exact⟨_,#[],0,pp _ gd2,⟨rfl,rfl,rfl⟩,rfl,rfl,(by intro x hx; simp at hx),List.nodup_nil⟩
 ·have b1:b < hp.objs.size:=JD x;exact q1 b o (JK (Nat.lt_trans b1 z1)) (JK b1) (pp _ (kk _ _ (kH _ _ x)))
theorem tw (c:Int):∀ l:List KC,(l.map (·.hash)).Nodup->(l.filter (·.hash == c)).length<=1
 | [],_=>Kd _
 | e::l,h=>by
  rw [JP,J9] at h;rw [List.filter_cons]
  by_cases q:(e.hash == c)=true
  ·rw [if_pos q];have z:l.filter (·.hash == c)=[]:=by
    rw [List.filter_eq_nil_iff];intro x hx y;refine h.1 (JF.mpr ⟨x,hx,?_⟩);simp only [beq_iff_eq] at q y
    rw [q,y]
   rw [z];exact JE _
  ·rw [if_neg q];exact tw c l h.2
theorem sB {id:KB} {o:Kr} {es:Kz KC} {ep:Nat} {s:Ko} {Q:Kz KC->Ko->Prop} (g:s.heap.get? o=some (p5 es ep)) (hk:∀ e∈es.toList,∃ b q,e.key=.ref b/\s.heap.get? b=some q/\q.cls=.type "tuple") (hn:(es.toList.map (·.hash)).Nodup) (h:Q es s):
  wpAny (model prog w) A (Dict.entriesForEmpty id o) Q E s:=by
 unfold Dict.entriesForEmpty;refine gt (wpAny_dictEntries g rfl ?_);refine gt ?_;rw [<- Array.forIn_toList];refine wpAny_forIn_list _ (λbh _ s'=>s'=s/\∀ e∈bh,e∈es.toList) _ ?_ ?_ es.toList _ ⟨rfl,λe he=>he⟩
 ·rintro e bh _ s' ⟨rfl,hr⟩;have me:=hr e (by simp)
  obtain⟨b,q,kb,gb,cb⟩:=hk e me;have one:¬ (es.filter (·.hash == e.hash)).size > 1:=by
   have z:=tw e.hash es.toList hn;rw [<- Kk,Array.toList_filter];omega
  rw [kb];have T:s'.TypeIs (.ref b) "tuple":=⟨q,gb,cb⟩
  refine gt (gt (wpAny_specialOf T F.slot_tuple_eq.lookup (JB ?_)));rw [if_pos (by decide),if_neg one]
  exact JB ⟨rfl,λx hx=>hr x (by simp [hx])⟩
 ·rintro _ s' ⟨rfl,_⟩;exact JB h
theorem y7 {d o:Kr} {es:Kz KC} {ep:Nat} {s:Ko} {Q:Unit->Ko->Prop} (ne:d≠o) (ho:(o == sysModules)=false) (gd:s.heap.get? d=some (p5 #[] 0)) (go:s.heap.get? o=some (p5 es ep))
  (hk:∀ e∈es.toList,∃ b q,e.key=.ref b/\s.heap.get? b=some q/\q.cls=.type "tuple") (hn:(es.toList.map (·.hash)).Nodup) (hz:es.size<=sizeLine) (h:∀ h' ep',h'.get? d=some (p5 es ep')->Heap.SameBut d s.heap h'->Q () {s with heap:=h'}):
  wpAny (model prog w) A (Dict.mergeDict "dict.__init__" d o) Q E s:=by
 have nb:(d == o)=false:=by simpa using ne
 unfold Dict.mergeDict Dict.showsAll;rw [if_neg (by rw [nb]; exact JH),if_neg (by rw [ho]; exact JH)]
 refine gt (JB (gt (wpAny_dictEntries go rfl ?_)));cases hes:es.toList with
 | nil=>
  have e0:es=#[]:=by cases es; simp at hes; rw [hes]
  subst e0;have z:=h s.heap 0 gd (Heap.SameBut.refl _ _);dsimp only;rw [if_neg (by simp)]
  refine gt (wpAny_dictEpoch go rfl (gt (wpAny_dictEntries go rfl ?_)));rw [Std.Legacy.Range.forIn_eq_forIn_range'];exact gt (JB (JB z))
 | cons e r=>
  obtain⟨b,q,kb,gb,cb⟩:=hk e (by rw [hes]; simp)
  have few:(es.size<=8 && es.all λe=>(keyPart e.key).isSome)=false:=by
   have:(es.all λe=>(keyPart e.key).isSome)=false:=by
    rw [<- Array.all_toList,hes,List.all_cons,kb]
    rfl
   rw [this,Bool.and_false]
  dsimp only;rw [if_pos (by rw [few]; rfl)]
  refine gt (wpAny_dictEntries gd rfl ?_);rw [if_pos (by rfl)]
  refine gt (sB go (by rw [hes]; rw [hes] at hk; exact hk) hn ?_)
  have ne0:(!es.isEmpty)=true:=by
   cases es;simp at hes;rw [hes]
   rfl
  rw [if_pos ne0];have up:(s.heap.update d (Obj.mapDictKeys λ_=>es)).get? d=_:=Heap.get?_update_self (Obj.mapDictKeys λ_=>es) gd rfl
  refine gt (wpAny_updateDictKeysTo gd rfl ?_ (Nat.le_succ_of_le hz));exact JB (h _ _ up (Heap.SameBut.update ..))
theorem pL {o:Kr} {es:Kz KC} {ep:Nat} {s:Ko} {Q:Kq->Ko->Prop} (ho:(o == sysModules)=false) (go:s.heap.get? o=some (p5 es ep))
  (hk:∀ e∈es.toList,∃ b q,e.key=.ref b/\s.heap.get? b=some q/\q.cls=.type "tuple") (hn:(es.toList.map (·.hash)).Nodup) (hz:es.size<=sizeLine)
  (h:∀ h' ep',h'.get? s.heap.objs.size=some (p5 es ep')->(∀ b q,s.heap.get? b=some q->h'.get? b=some q)->Q (.ref s.heap.objs.size) {s with heap:=h'}):wpAny (model prog w) A (call (.type "dict") [.ref o]) Q E s:=by
 refine callType_codes (Q₁:=λob s1=>ob=.ref s.heap.objs.size/\s1={s with heap:=s.heap.push {cls:=.type "dict",data:=.dict #[]}}) F.kt_called_dict (F.kt_typeCall_dict_1 _) F.entry_dict_init (kt_code_dict_new _ ⟨rfl,rfl⟩) ?_
 rintro ob s1 ⟨rfl,rfl⟩;have lo:o < s.heap.objs.size:=JD go;have go1:=pp {cls:=.type "dict",data:=.dict #[]} go
 have gd1:(s.heap.push {cls:=.type "dict",data:=.dict #[]}).get? s.heap.objs.size=some (p5 #[] 0):=JC _ rfl
 have T1:({s with heap:=s.heap.push {cls:=.type "dict",data:=.dict #[]}}:Ko).TypeIs (.ref s.heap.objs.size) "dict":=⟨_,gd1,rfl⟩
 have T2:({s with heap:=s.heap.push {cls:=.type "dict",data:=.dict #[]}}:Ko).TypeIs (.ref o) "dict":=⟨_,go1,rfl⟩
 refine⟨T1,F.args_dict_init_2 _ _,gt (m:=Dict.selfAndRest "__init__" _) ?_⟩
 unfold Dict.selfAndRest;refine gt (wpAny_notOrdered_dict T1 (JB (a:=(s.heap.objs.size,[Value.ref o])) ?_))
 show wpAny _ _ (Dict.updateFrom "dict.__init__" s.heap.objs.size (.ref o) [] .none) _ _ _
 unfold Dict.updateFrom;refine gt (wpAny_typeOf T2 ?_);rw [if_neg (by decide)]
 refine gt ?_;unfold Dict.merge;refine gt ?_;unfold Dict.readDirectly;refine gt (wpAny_isInstance T2 isSubtype_dict_dict ?_);rw [if_neg (by decide)]
 refine gt (wpAny_specialOf T2 F.slot_dict_iter.lookup (JB ?_));rw [if_pos (by decide)]
 refine gt (JB (y7 (Nat.ne_of_gt lo) ho gd1 go1 (λe he=>?_) hn hz λh' ep' g sb=>?_))
 ·obtain⟨b,q,x1,x2,x3⟩:=hk e he;exact⟨b,q,x1,pp _ x2,x3⟩
 ·exact gt (JB (JB ⟨rfl,h h' ep' g λb q x=>(sb.2 b (JK (JD x))).trans (pp _ x)⟩))
end
end PySem
namespace DL
open PySem PySem.Spec PyProof.Rows L2
theorem rh {X:Cx} {KE:List (Kr×KD)} {σ:L2.St} {H:Hp} {s:Ko} (I:aE X KE σ H s):∀ {kvs:List (List Int×D)} {xs:List V} {us:List Kq},IsDs X.K H (eN kvs) xs->aW xs us->
  ∃ ts:List (Kr×List Int×Kr×Kq),us=ts.map (λt=>Value.ref t.1)/\lM X.K H kvs (ts.map (·.2))/\
   ∀ t∈ts,(∃ dd n sl,s.heap.get? t.1=some {cls:=.type "tuple",dict:=dd,data:=.seq #[.ref t.2.2.1,t.2.2.2] n,slots:=sl})/\(ye X.prog X.w).is s.heap t.2.1 t.2.2.1
 | [],xs,us,i,r=>by
  have e:xs=[]:=eJ.mp i;subst e;cases r;exact⟨[],rfl,.nil,λt ht=>nomatch ht⟩
 | kv::kvs,xs,us,i,r=>by
  obtain⟨v,vs,rfl,h1,h2⟩:=bC.mp (show IsDs X.K H (.tup [lP kv.1,kv.2]::eN kvs) xs from i)
  cases r with
  | @cons _ u _ us r1 r2=>
   obtain⟨ts,e,q1,q2⟩:=rh I h2 r2;obtain⟨T,ys,rfl,t1,j⟩:=bw.mp h1;obtain⟨y1,y2,rfl,j1,j2⟩:=ku j;obtain⟨b,rfl,tb⟩:=t9.mp j1;cases (show u=Value.ref T from r1)
   obtain⟨its,rv,⟨⟨cls,dd,data,sl⟩,g1,g2,n,g3⟩,_⟩:=I.tuple t1;obtain⟨w1,w2,rfl,rw1,rw2⟩:=o9 rv;cases (show w1=Value.ref b from rw1)
   simp only at g2 g3
   subst g2 g3;refine⟨(T,kv.1,b,w2)::ts,by rw [e]; rfl,.cons ⟨rfl,tb,y2,rw2,j2⟩ q1,λt ht=>?_⟩
   rcases JJ.mp ht with e2 | ht2
   ·subst e2;exact⟨⟨dd,n,sl,g1⟩,lU I tb⟩
   ·exact q2 t ht2
theorem xN (ts:List (Kr×List Int×Kr×Kq)):∀ acc,ts.foldl (λacc t=>storedH acc t.2.1 t.2.2.1 t.2.2.2) acc=(ts.map (·.2)).foldl (λacc k=>storedH acc k.1 k.2.1 k.2.2) acc:=by
 induction ts with
 | nil=>intro acc; rfl
 | cons t ts ih=>intro acc; exact ih _
def Cs:bE:=λds S k=>match ds with
 | [.ref a]=>(∃ kvs ep,S a=some (.gen (.dT kvs ep))/\(kvs.map λp=>qC p.1).Nodup/\∀ p,S p=none->∀ ep',k (.ref p) (put S p (.gen (.dT kvs ep'))))\/
   ∃ kvs,S a=some (.lst (eN kvs))/\∀ p,S p=none->∀ ep',k (.ref p) (put S p (.gen (.dT (gN [] kvs) ep')))
 | _=>False
theorem Fk {X:Cx} {n:Nat} (hr:cA n X.A):bW X (.type "dict") (nX X.K Cs):=by
 intro KE s σ H xs us Q I rs h;obtain⟨ds,S,k,i,hS,r,m⟩:=h;unfold Cs at r
 split at r
 ·rename_i a
  obtain⟨v,rfl,j⟩:=cr i;have ex:=aU.mp j;subst ex;obtain⟨u,rfl,ru⟩:=qQ rs;cases (show u=Value.ref a from ru)
  have hn:=I.hok.fresh (JE s.heap.objs.size);have hb:(s.heap.objs.size == sysModules)=false:=beq_eq_false_iff_ne.mpr (Ne.symm (JK I.big));have hun:=hr.un;rcases r with ⟨kvs,ep,g1,nd,r⟩ | ⟨kvs,g1,r⟩
  ·obtain⟨ys,e1,r1⟩:=hS.dT g1;obtain⟨hd,z,ndk,g⟩:=fN I e1;have hash:(ys.map λy=>qC y.1)=kvs.map λp=>qC p.1:=by
    clear e1 z ndk g nd g1 r
    induction r1 with
    | nil=>rfl
    | cons h t ih=>exact congr (congrArg List.cons (congrArg qC h.1.symm)) ih
   refine pL hd g (λe he=>?_) ?_ (by simp; omega) λh' ep' g' kk=>?_
   ·simp only [JF] at he;obtain⟨y,hy,rfl⟩:=he;have dd:=wO I e1 r1;obtain⟨_,_,_,_,_,_,_,al,_⟩:=dd;obtain⟨q,its,n',q1,q2,_⟩:=al y hy;exact⟨y.2.1,q,rfl,q1,q2⟩
   ·show((ys.map eT).map (·.hash)).Nodup
    rw [J7,show((λx:KC=>x.hash) ∘ eT)=λy:List Int×Kr×Kq=>qC y.1 from rfl,hash]
    exact nd
   ·have new:mZ s.heap.objs.size ys ep' h':=⟨hb,z,ndk,g'⟩;refine⟨.ref s.heap.objs.size,_,I.laid (o:=.ext (mZ s.heap.objs.size ys ep')) (t':=s.toks) kk (JE _) (mw new),rfl,?_⟩;exact m _ _ _ _ (r _ (hS.free hn) ep') (Kp.new hn) (hS.newG hn ⟨ys,bo,r1.kp (Kp.new hn)⟩) (aU.mpr rfl)
  ·obtain⟨vs,hl,jl⟩:=hS.lst g1;obtain⟨z,its,c,rv,gl⟩:=(show dy X.prog X.w H s.heap a (.lst vs) from I.hok a _ hl)
   obtain⟨ts,rfl,q1,q2⟩:=rh I jl rv;have hz:ts.length<=sizeLine:=by
    have:=rv.length;rw [JG] at this;omega
   refine pP (by omega) hr.hd I.big ts gl q2 hz λh' tk kk dd=>?_
   rw [xN] at dd;have z':((ts.map (·.2)).foldl (λacc k=>storedH acc k.1 k.2.1 k.2.2) []).length<=sizeLine:=by have:=mY (ts.map (·.2)) []; rw [JG,List.length_nil] at this; omega
   obtain⟨ep',new⟩:=vg hb z' dd;refine⟨.ref s.heap.objs.size,_,I.laid (o:=.ext (mZ s.heap.objs.size _ ep')) (t':=tk) kk (JE _) (mw new),rfl,?_⟩;exact m _ _ _ _ (r _ (hS.free hn) ep') (Kp.new hn) (hS.newG hn ⟨_,bo,(q1.merge .nil).kp (Kp.new hn)⟩) (aU.mpr rfl)
 ·exact r.elim
def F2:D2:=λd e S k=>match d,e with
 | .ref a,.ref c=>∃ xs ys b,S a=some (.lst xs)/\S c=some (.lst ys)/\((xs.length=ys.length/\gD (gY 7) xs ys=some b)\/(xs.length≠ys.length/\b=false))/\k (.bl b) S
 | d,e=>∃ b,gY 8 d e=some b/\k (.bl b) S
theorem yo {X:Cx} {KE:List (Kr×KD)} {σ:L2.St} {H:Hp} {s:Ko} {S:DH} {a c:Kr} {xs ys:List D} (I:aE X KE σ H s) (hS:Hs X.K H S) (h1:S a=some (.lst xs)) (h2:S c=some (.lst ys)) (hl:xs.length≠ys.length) (A:Kv) (hu:A.units < cLine):
  SeqAt.RcAt A s (.ref a) (.ref c) false:=by
 obtain⟨v1,g1,j1⟩:=hS.lst h1;obtain⟨v2,g2,j2⟩:=hS.lst h2;obtain⟨u1,r1,p1,_⟩:=I.list (eQ.of g1);obtain⟨u2,r2,p2,_⟩:=I.list (eQ.of g2);refine SeqAt.RcAt.lists_lengths p1.isList p2.isList ?_ hu;have e1:=j1.length.trans r1.length;have e2:=j2.length.trans r2.length;simp only [JI,bne_iff_ne,ne_eq];omega
theorem ym {X:Cx} {n:Nat} (hr:cA n X.A):cS X (compareOp .Eq) (fh X.K F2):=by
 intro KE s σ H x y v u Q I rx ry h;obtain⟨d,e,S,k,i1,i2,hS,r,m⟩:=h;have hu:=hr.units;unfold F2 at r
 split at r
 ·obtain⟨xs,ys,b,h1,h2,h3,w⟩:=r;rcases h3 with ⟨h3,h4⟩ | ⟨h3,rfl⟩
  ·exact qE hr KE s σ H x y v u Q I rx ry ⟨_,_,S,k,i1,i2,hS,⟨xs,ys,b,h1,h2,h3,h4,w⟩,m⟩
  ·have e1:=aU.mp i1;have e2:=aU.mp i2;subst e1 e2;cases rx;cases ry;exact(yo I hS h1 h2 h3 X.A (by omega)) X.prog X.w X.xe _ ⟨.bl false,H,I,rfl,eV m hS w (aT.mpr rfl)⟩
 ·rename_i hn
  obtain⟨b,h1,w⟩:=r;refine qE hr KE s σ H x y v u Q I rx ry ⟨_,_,S,k,i1,i2,hS,?_,m⟩;unfold E6
  split
  ·rename_i a c
   exact(hn a c rfl rfl).elim
  ·exact⟨b,h1,w⟩
def DC:D2:=λd e S k=>match d,e with
 | .non,.tup _=>k (.bl true) S
 | .tup _,.non=>k (.bl true) S
 | d,e=>C3 d e S k
theorem Ha {X:Cx} {n:Nat} (hr:cA n X.A):cS X (compareOp .NotEq) (fh X.K DC):=by
 intro KE s σ H x y v u Q I rx ry h;obtain⟨d,e,S,k,i1,i2,hS,r,m⟩:=h;have hu:=hr.units;unfold DC at r
 split at r
 ·obtain⟨a,vs,rfl,t,j⟩:=bw.mp i2;have e1:=b7.mp i1;subst e1;cases rx;cases ry;obtain⟨its,_,p,_⟩:=I.tuple t;exact SeqAt.RcNeAt.none_tuple p (by omega) X.prog X.w X.xe _ ⟨.bl true,H,I,rfl,eV m hS r (aT.mpr rfl)⟩
 ·obtain⟨a,vs,rfl,t,j⟩:=bw.mp i1;have e1:=b7.mp i2;subst e1;cases rx;cases ry;obtain⟨its,_,p,_⟩:=I.tuple t;exact SeqAt.RcNeAt.tuple_none p (by omega) X.prog X.w X.xe _ ⟨.bl true,H,I,rfl,eV m hS r (aT.mpr rfl)⟩
 ·exact tv hr KE s σ H x y v u Q I rx ry ⟨_,_,S,k,i1,i2,hS,r,m⟩
def C4 (kvs':List (List Int×D)):List (List Int×D)->KA->Prop
 | [],r=>r=true
 | p::ps,r=>(eP kvs' p.1=none/\r=false)\/∃ d e r',eP kvs' p.1=some d/\gY 6 p.2 d=some e/\C4 kvs' ps r'/\r=(e && r')
def Jj (kvs kvs':List (List Int×D)) (r:KA):Prop:=(kvs.length≠kvs'.length/\r=false)\/(kvs.length=kvs'.length/\C4 kvs' kvs r)
section
variable {X:Cx} {KE:List (Kr×KD)} {σ:L2.St} {H:Hp} {s:Ko}
def Jp (S:DH) (x y:D):Prop:=∃ a c kvs ep kvs' ep',x=.ref a/\y=.ref c/\a≠c/\S a=some (.gen (.dT kvs ep))/\S c=some (.gen (.dT kvs' ep'))/\Jj kvs kvs' true
end
end DL
namespace PySem
open Builtin DL
abbrev Sx:=Nat×Tok
end PySem
namespace ST
open PySem PySem.SetTable
def IX (mask:Nat) (p:Probe):Probe:=
 if p.more > 0 then {p with j:=p.j+1,more:=p.more - 1} else {p with j:=(leap mask p.i p.perturb).1,more:=runEnd mask (leap mask p.i p.perturb).1 - (leap mask p.i p.perturb).1,i:=(leap mask p.i p.perturb).1,perturb:=(leap mask p.i p.perturb).2}
def IU (mask i pt:Nat):Probe:={j:=i,more:=runEnd mask i - i,i:=i,perturb:=pt,dummy:=none}
def sq (mask:Nat) (h:Int):Nat->Probe
 | 0=>IU mask (bits h % (mask+1)) (bits h)
 | n+1=>IX mask (sq mask h n)
def lp (mask:Nat) (h:Int):Nat->Nat×Nat
 | 0=>(bits h % (mask+1),bits h)
 | n+1=>leap mask (lp mask h n).1 (lp mask h n).2
def IW (mask:Nat):Prop:=mask=7\/mask=31\/mask=127
def Jx (xs:Kz Nat):Prop:=∀ i j:Nat,i < j->∀ a b:Nat,xs[i]?=some a->xs[j]?=some b->a < b
def On (t:SetTable) (j:Nat):Prop:=∃ i:Nat,t.place[i]?=some j
def IY (t:SetTable) (h:Int) (j:Nat):Prop:=∃ n,(sq t.mask h n).j=j/\∀ m,m < n->On t (sq t.mask h m).j
structure TI (t:SetTable) (hs:List Int):Prop where
 dm:t.dummies=#[]
 ris:Jx t.place
 sz:t.place.size=hs.length
 le:∀ j,On t j->j < t.mask+1
 msk:IW t.mask
 way:∀ q∈t.place.toList.zip hs,IY t q.2 q.1
def Ji (t:SetTable):Prop:=t.place.size*5 < t.mask*3
end ST
namespace ST
open PySem PySem.SetTable PySem.Spec
section
variable {prog:Ku} {w:Kw} {K:Type} [DecidableEq K] {knd:KeyKind prog w K} {A:Kv} {E:Kq->Ko->Prop} {s:Ko}
def ent (knd:KeyKind prog w K) (x:List K×Kr):Int×Kq:=(tupleKeyHash knd x.1,.ref x.2)
structure HF (knd:KeyKind prog w K) (h:Kx) (a:Kr) (o:KD) (es:Kz (Int×Kq)) (ep:Nat) (t:SetTable) (xs:List (List K×Kr)):Prop where
 get:h.get? a=some o
 ex:o.ExactSet
 data:o.data=.set es ep t
 ent:es.toList=xs.map (ent knd)
 is:∀ x∈xs,IsTupleKey knd h x.1 x.2
 ti:TI t (xs.map λx=>tupleKeyHash knd x.1)
 lax:Ji t
end
end ST
namespace ST
open PySem PySem.SetTable PySem.Spec PyProof.Rows
def Gy {α:Type} [DecidableEq α] (a:List α) (k:α):List α:=if k∈a then a else a++[k]
def dd {α:Type} [DecidableEq α] (l:List α):List α:=l.foldl Gy []
section
variable {prog:Ku} {w:Kw} {K:Type} [DecidableEq K] {knd:KeyKind prog w K} {A:Kv} {R:Result->Ko->Prop} {I:Kr} {fp wr:List Kr} {G:Kz GenState->Kz GenState->Prop} {n:Nat} {P:Nat->Kq->Prop} {St:Nat->Ko->Prop}
def Holds (knd:KeyKind prog w K) (h:Kx) (S:Kr) (V:Kr->Prop) (l:List (List K)):Prop:=∃ o es ep t xs,HF knd h S o es ep t xs/\xs.length=(dd l).length/\(∀ k,k∈xs.map (·.1)↔k∈dd l)/\∀ x∈xs,V x.2
end
end ST
namespace DL
open PySem PySem.Spec PyProof.Rows L2
theorem Ax:bootBuiltins "range"=some (.type "range"):=by decide +kernel
inductive FE (K:Fg) (n:Str) (st:Ky) (f:Kr) (cd:Kq):Prop where
 | mk {oc kV doc pm ct:Kq} {od an:Ks Kr} {osl:Kz (Ks Kq)} (l:K.lookup f=some ⟨oc,od,.func (PySem.W.fnOf n n (eC st) (cP st) (aj st) .none kV doc pm an cd ct),osl⟩):FE K n st f cd
structure DI (K:Fg) (n:Str) (st:Ky) (f:Kr) (cd:Kq):Prop where
 a:PySem.W.nsIn K mainGlobals n=some (some (.ref f))
 x:FE K n st f cd
 e:PySem.W.codeIn K cd n=true
 k:PySem.W.keepIn K (.ref f)=true
def Bd (n:Str) (st:Ky) (ps:List Str):Prop:=∀ (kV doc pm:Kq) (an:Ks Kr) (cdv ct:Kq) (us:List Kq),us.length=ps.length->bindArgs (PySem.W.fnOf n n (eC st) (cP st) (aj st) .none kV doc pm an cdv ct) ⟨us,[]⟩=pure (ps.zip us)
theorem lc {us:List Kq} {n:Nat} (h:us.length=n+1):∃ u r,us=u::r/\r.length=n:=by
 cases us with
 | nil=>cases h
 | cons u r=>exact⟨u,r,rfl,Nat.succ.inj h⟩
theorem Jf {n a1:Str} {st:Ky} (h:∀ (kV doc pm:Kq) (an:Ks Kr) (cdv ct u1:Kq),bindArgs (PySem.W.fnOf n n (eC st) (cP st) (aj st) .none kV doc pm an cdv ct) ⟨[u1],[]⟩=pure (List.zip [a1] [u1])):Bd n st [a1]:=λ_ _ _ _ _ _ us hl=>by obtain⟨u1,us,rfl,h1⟩:=lc hl; cases Kn.mp h1; exact h _ _ _ _ _ _ u1
theorem Js {n a1 a2:Str} {st:Ky} (h:∀ (kV doc pm:Kq) (an:Ks Kr) (cdv ct u1 u2:Kq),bindArgs (PySem.W.fnOf n n (eC st) (cP st) (aj st) .none kV doc pm an cdv ct) ⟨[u1,u2],[]⟩=pure (List.zip [a1,a2] [u1,u2])):Bd n st [a1,a2]:=λ_ _ _ _ _ _ us hl=>by obtain⟨u1,us,rfl,h1⟩:=lc hl; obtain⟨u2,us,rfl,h2⟩:=lc h1; cases Kn.mp h2; exact h _ _ _ _ _ _ u1 u2
theorem IS {n a1 a2 a3:Str} {st:Ky} (h:∀ (kV doc pm:Kq) (an:Ks Kr) (cdv ct u1 u2 u3:Kq),bindArgs (PySem.W.fnOf n n (eC st) (cP st) (aj st) .none kV doc pm an cdv ct) ⟨[u1,u2,u3],[]⟩=pure (List.zip [a1,a2,a3] [u1,u2,u3])):Bd n st [a1,a2,a3]:=λ_ _ _ _ _ _ us hl=>by obtain⟨u1,us,rfl,h1⟩:=lc hl; obtain⟨u2,us,rfl,h2⟩:=lc h1; obtain⟨u3,us,rfl,h3⟩:=lc h2; cases Kn.mp h3; exact h _ _ _ _ _ _ u1 u2 u3
inductive Bs (P:Ku) (w:Kw) (base:Kx):Prop where
 | mk:Bs P w base
section
variable {P:Ku} {w:Kw} {K:Fg} {mg:Str->Ks Kq} {base h:Kx} {n:Str} {st:Ky} {f:Kr} {cd:Kq} {ps:List Str} {k:Nat}
theorem DI.own {F:bE} (d:DI K n st f cd) (_:Bs P w base) (X:K.In h) (G:h.Ns mainGlobals mg) (ok:∀ fd,xJ K n n st f fd->fd.code=cd->aQ P w K mg base b8 k f fd ps (ce K F))
  (hb:Bd n st ps:=by first | exact Jf λ_ _ _ _ _ _ _=>rfl | exact Js λ_ _ _ _ _ _ _ _=>rfl | exact IS λ_ _ _ _ _ _ _ _ _=>rfl | exact bd4 λ_ _ _ _ _ _ _ _ _ _=>rfl | exact bd5 λ_ _ _ _ _ _ _ _ _ _ _=>rfl | exact bd6 λ_ _ _ _ _ _ _ _ _ _ _ _=>rfl | exact bd7 λ_ _ _ _ _ _ _ _ _ _ _ _ _=>rfl):bc P w K mg base n k F:=by
 obtain⟨lk⟩:=d.x;have Fn:=A0 lk d.e d.k;exact bc.mk' Fn (ok _ Fn rfl) (PySem.W.mg_of X G d.a) (Fn.binds hb)
theorem DI.fn (d:DI K n st f cd) (hb:∀ (kV doc pm:Kq) (an:Ks Kr) (ct v:Kq),bindArgs (PySem.W.fnOf n n (eC st) (cP st) (aj st) .none kV doc pm an cd ct) ⟨[v],[]⟩=pure [(("script":Str),v)]:=by exact λ_ _ _ _ _ _=>rfl):∃ fd:FuncData,xJ K n n st f fd/\fd.code=cd/\∀ (s:Ko) (v:Kq),BindsTo s fd ⟨[v],[]⟩ [("script",v)]:=by
 obtain⟨lk⟩:=d.x;exact⟨_,A0 lk d.e d.k,rfl,λs v=>.of_eq (hb _ _ _ _ _ v)⟩
end
end DL
namespace L2
open PySem PySem.Spec PyProof.Rows
inductive A3 (h:Kx):Kr->Kr->Prop
 | one {a b:Kr} {o:KD} {vs:Kz Kq}:h.get? a=some o->o.data=.fields vs->vs[2]?=some (.ref b)->A3 h a b
 | step {a b c:Kr} {o:KD} {vs:Kz Kq}:h.get? a=some o->o.data=.fields vs->vs[2]?=some (.ref b)->A3 h b c->A3 h a c
end L2
namespace L2
open PySem PySem.Spec PyProof.Rows Builtin Builtin.Str
section
variable {prog:Ku} {w:Kw} {A:Kv} {E:Kq->Ko->Prop} {s:Ko} {x y:Str} {t u:Tok} {Q:Kq->Ko->Prop}
theorem xQ (hy:(y.length == 0)=false) (hsz:x.length<=sizeLine) (hsz2:(partsBetween x (occurrences x y 0 x.length (x.length+1)) y.length).length<=sizeLine)
  (hq:∀ l k,l.map (·.1)=Txt.split x y->Q (.ref s.heap.objs.size) {s with toks:=k,heap:=s.heap.push {cls:=.type "list",data:=.seq (strValues l).toArray}}):
  wpAny (model prog w) A (call (.builtin "str.split") [.str x t,.str y u]) Q E s:=by
 cases h1:(decide (x.length < y.length) || decide (strKind x < strKind y))
 ·cases hf:(occurrences x y 0 x.length (x.length+1)).isEmpty
  ·refine call_meets F.slot_str_split (typeIs_str _ _ _) F.entry_str_split (F.args_str_split_2 _ _) (meets_str_split_sep x y t u h1 hy hf hsz hsz2) ?_
   show wants Q E _ {s with toks:=_,heap:=s.heap.push {cls:=.type "list",data:=.seq (strsFrom s.toks (partsBetween x (occurrences x y 0 x.length (x.length+1)) y.length)).toArray}}
   rw [strsFrom_eq];exact hq (numbered s.toks _) _ ((numbered_texts _ _).trans ((if_neg (ne_true_of_eq_false h1)).trans (if_neg (ne_true_of_eq_false hf))).symm)
  ·exact call_meets F.slot_str_split (typeIs_str _ _ _) F.entry_str_split (F.args_str_split_2 _ _) (meets_str_split_not_found x y t u h1 hy hf)
    (hq [(x,t)] s.toks ((if_neg (ne_true_of_eq_false h1)).trans (if_pos hf)).symm)
 ·exact call_meets F.slot_str_split (typeIs_str _ _ _) F.entry_str_split (F.args_str_split_2 _ _) (meets_str_split_cannot_occur x y t u h1)
   (hq [(x,t)] s.toks (if_pos h1).symm)
theorem qg (hy:(y.length == 0)=false) (hsz:x.length<=sizeLine)
  (h:∀ ta tb tc k,Q (.ref s.heap.objs.size) {s with toks:=k,heap:=s.heap.push {cls:=.type "tuple",data:=.seq [.str (Txt.partition x y).1 ta,.str (Txt.partition x y).2.1 tb,.str (Txt.partition x y).2.2 tc].toArray}}):
  wpAny (model prog w) A (call (.builtin "str.partition") [.str x t,.str y u]) Q E s:=by
 refine call_meets F.slot_str_partition (typeIs_str _ _ _) F.entry_str_partition (F.args_str_partition_2 _ _) (meets_str_partition x y t u hy hsz) ?_;have h':=h;unfold Txt.partition at h'
 revert h'
 cases occurrences x y 0 x.length 1 with
 | nil=>intro h'; exact h' _ _ _ _
 | cons i r=>intro h'; exact h' _ _ _ _
theorem tu:∀ (l:List (Str×Tok)),aW ((l.map (·.1)).map V.str) (strValues l)
 | []=>.nil
 | p::l=>.cons ⟨p.2,rfl⟩ (tu l)
theorem oN:∀ {zs:List Str} {us:List Kq},aW (zs.map V.str) us->∃ l:List (Str×Tok),us=strValues l/\l.map (·.1)=zs
 | [],_,.nil=>⟨[],rfl,rfl⟩
 | z::zs,_,.cons r h=>by
  obtain⟨t,rfl⟩:=r;obtain⟨l,rfl,e⟩:=oN h;exact⟨(z,t)::l,rfl,by rw [JP,e]⟩
end
end L2
namespace DL
open PySem PySem.Spec PyProof.Rows L2
abbrev DM:=Str->List D->DH->DK->Prop
def Gc (K:Fg) (r:DM):V->List V->Hp->VK->Prop:=λx vs H Q=>∃ z ds S k,x=.str z/\IsDs K H ds vs/\Hs K H S/\r z ds S k/\∀ d' S' v H',k d' S'->Kp H H'->Hs K H' S'->bB K H' d' v->Q v H'
def wC (r:DM) (go:DE) (ga:DA):DE:=λL S k=>go L S λd S1=>match d with
 | .str x=>ga L S1 λds S2=>r x ds S2 k
 | _=>False
section
variable {X:Cx} {o e:Kt} {es:List Kt} {go:DE} {ga:DA} {r:DM} {name:Str} {id:KB} {apos cpos:Pos}
theorem cC (slot:Slot "str" name id) (hty:typeOf (.builtin id)=pure (.type "method_descriptor")) (hm:Cn X id (Gc X.K r)) (ho:EJ X o go) (ha:AJ X (e::es) ga)
  (hbase:attributeBase o name X.env (eval o X.env)=eval o X.env:=by rfl)
  (hfew:((backTo cpos (starEach (e::es) X.env)).all (λx=>!x.1) && (backToKw cpos (keywordEach [] X.env)).all (λx=>x.1.isSome)
   && decide ((e::es).length+([]:List Keyword).length+(if ([]:List Keyword).isEmpty then 0 else 1) < 30))=true:=by rfl)
  (hline:(apos.endLine == cpos.line)=true:=by rfl) (hs:starEach (e::es) X.env=(false,eval e X.env)::starEach es X.env:=by rfl) (hplain:(backTo cpos (starEach es X.env)).any (·.1)=false:=by rfl):
  EJ X (.Call (.Attribute o name apos) (e::es) [] cpos) (wC r go ga):=
 ⟨PE.imp (CL PySem.F.plainAttrs_str slot hty hm ho.h ha.h hbase hfew hline hs hplain) fun σ H Q ⟨L,S,k,hL,hS,h,n⟩=>up.go hL hS h λd S1 v H1 h1 k1 hL1 hS1 i1=>by
  cases d with
  | str z=>
   have q1:=aY.mp i1;subst q1;exact⟨rfl,q9.go hL1 hS1 h1 λds S2 vs H2 h2 k2 hL2 hS2 i2=>⟨z,ds,S2,k,rfl,i2,hS2,h2,λd' S' v H' q k3 z1 z2=>n d' S' v H' q (k1.trans (k2.trans k3)) z1 z2⟩⟩
  | _=>exact(show False from h1).elim⟩
def zV:DM:=λx ds S k=>match ds with
 | [.str y]=>(y.length == 0)=false/\x.length<=sizeLine/\(Builtin.Str.partsBetween x (Builtin.Str.occurrences x y 0 x.length (x.length+1)) y.length).length<=sizeLine/\(Txt.split x y).length<=sizeLine/\
   ∀ p,S p=none->k (.ref p) (put S p (.lst ((Txt.split x y).map .str)))
 | _=>False
theorem oV {K:Fg} {H:Hp}:∀ (l:List Str),IsDs K H (l.map D.str) (l.map V.str)
 | []=>by unfold IsDs; rfl
 | z::l=>bC.mpr ⟨_,_,rfl,aY.mpr rfl,oV l⟩
theorem oQ {K:Fg} {H:Hp}:∀ {l:List Str} {vs:List V},IsDs K H (l.map D.str) vs->vs=l.map V.str
 | [],_,h=>by unfold IsDs at h; exact h
 | z::l,_,h=>by
  obtain⟨v,r,rfl,h1,h2⟩:=bC.mp h;rw [aY.mp h1,oQ h2]
  rfl
theorem oI:Cn X "str.split" (Gc X.K zV):=by
 intro KE s σ H x xs v us Q I rx rs h;obtain⟨z,ds,S,k,rfl,i,hS,r,n⟩:=h;unfold zV at r
 split at r
 ·rename_i y
  obtain⟨hy,h1,h2,h3,w⟩:=r;obtain⟨v1,rfl,i1⟩:=cr i;have e1:=aY.mp i1;subst e1;obtain⟨t,rfl⟩:=rx;obtain⟨u,rfl,t2,rfl⟩:=rs.one;refine xQ hy h1 h2 λl tk hl=>?_
  have hf:H s.heap.objs.size=none:=I.hok.fresh (JE _);have hv:=tu l;rw [hl] at hv;refine⟨.ref s.heap.objs.size,br H s.heap.objs.size (.lst ((Txt.split z y).map V.str)),I.laid (t':=tk) (λb u e=>pp _ e) (JE _) ?_,rfl,n _ _ _ _ (w _ (hS.free hf)) (Kp.new hf) (hS.newL hf (oV _)) (aU.mpr rfl)⟩
  exact⟨by rw [JG]; exact h3,strValues l,0,hv,JC _ rfl⟩
 ·exact r.elim
def wy:DM:=λx ds S k=>match ds with
 | [.ref a]=>∃ zs:List Str,S a=some (.lst (zs.map .str))/\JoinOk x zs=true/\k (.str (Txt.join x zs)) S
 | _=>False
theorem iX:Cn X "str.join" (Gc X.K wy):=by
 intro KE s σ H x xs v us Q I rx rs h;obtain⟨z,ds,S,k,rfl,i,hS,r,n⟩:=h;unfold wy at r
 split at r
 ·rename_i a
  obtain⟨zs,ha,hj,w⟩:=r;obtain⟨v1,rfl,i1⟩:=cr i;have e1:=aU.mp i1;subst e1;obtain⟨t,rfl⟩:=rx;obtain⟨u,rfl,rfl⟩:=rs.one;obtain⟨ys,hH,j⟩:=hS.lst ha;have e2:=oQ j;subst e2;obtain⟨_,its,m,r2,_,hl⟩:=I.lstM hH;obtain⟨l,rfl,e3⟩:=oN r2;exact PySem.SC.join ⟨_,hl,rfl,_,rfl⟩ e3 hj λt' tk=>⟨.str _,H,I.tok tk,⟨t',rfl⟩,eV n hS w (aY.mpr rfl)⟩
 ·exact r.elim
def Cy:DM:=λx ds S k=>match ds with
 | [.str y]=>(y.length == 0)=false/\x.length<=sizeLine/\k (.tup [.str (Txt.partition x y).1,.str (Txt.partition x y).2.1,.str (Txt.partition x y).2.2]) S
 | _=>False
theorem wm:Cn X "str.partition" (Gc X.K Cy):=by
 intro KE s σ H x xs v us Q I rx rs h;obtain⟨z,ds,S,k,rfl,i,hS,r,n⟩:=h;unfold Cy at r
 split at r
 ·rename_i y
  obtain⟨hy,h1,w⟩:=r;obtain⟨v1,rfl,i1⟩:=cr i;have e1:=aY.mp i1;subst e1;obtain⟨t,rfl⟩:=rx;obtain⟨u,rfl,t2,rfl⟩:=rs.one;refine qg hy h1 λta tb tc tk=>?_
  have hf:H s.heap.objs.size=none:=I.hok.fresh (JE _);have k2:Kp H (br H s.heap.objs.size (.tup [.str (Txt.partition z y).1,.str (Txt.partition z y).2.1,.str (Txt.partition z y).2.2])):=Kp.new hf;refine⟨.ref s.heap.objs.size,_,I.laid (t':=tk) (λb u e=>pp _ e) (JE _) (show dy X.prog X.w _ _ _ (.tup [.str (Txt.partition z y).1,.str (Txt.partition z y).2.1,.str (Txt.partition z y).2.2]) from⟨JT rfl,_,.cons ⟨ta,rfl⟩ (.cons ⟨tb,rfl⟩ (.cons ⟨tc,rfl⟩ .nil)),IsTup.new _ _⟩),rfl,n _ _ _ _ w k2 (hS.new hf) (bw.mpr ⟨_,_,rfl,gZ.of bo,oV [_,_,_]⟩)⟩
 ·exact r.elim
def sd:DM:=λx ds S k=>match ds with
 | [.str y]=>k (.bl (Txt.startswith x y)) S
 | _=>False
theorem uC:Cn X "str.startswith" (Gc X.K sd):=by
 intro KE s σ H x xs v us Q I rx rs h;obtain⟨z,ds,S,k,rfl,i,hS,r,n⟩:=h;unfold sd at r
 split at r
 ·rename_i y
  obtain⟨v1,rfl,i1⟩:=cr i;have e1:=aY.mp i1;subst e1;obtain⟨t,rfl⟩:=rx;obtain⟨u,rfl,t2,rfl⟩:=rs.one;exact PySem.SC.startswith ⟨.bl _,H,I,rfl,eV n hS r (aT.mpr rfl)⟩
 ·exact r.elim
end
end DL
namespace L2
open PySem PySem.Spec PyProof.Rows
section
variable {X:Cx}
def ID:V->Ks Int->Ks Int->Hp->VK->Prop:=λx lo hi H Q=>∃ z,x=.str z/\z.length<=sizeLine/\Q (.str (Txt.slice z lo hi)) H
theorem xc {v:Kq} {o:Ks Int} (h:IsPart v o):∃ p:Ks (Int×Tok),v=partValue p/\p.map (·.1)=o:=by
 cases h with
 | none=>exact⟨none,rfl,rfl⟩
 | int i t=>exact⟨some (i,t),rfl,rfl⟩
theorem Ev:zd X ID:=by
 intro KE s σ H x v vl vu lo hi sl Q I rx hs pl pu h;obtain⟨z,rfl,hz,q⟩:=h;obtain⟨t,rfl⟩:=rx;obtain⟨l,rfl,el⟩:=xc pl;obtain⟨u,rfl,eu⟩:=xc pu;subst el eu;refine⟨"str",_,F.slot_str_getitem.lookup,typeIs_str _ _ _,wpAny_getItem_str_slice (l:=l) (u:=u) (st:=none) hs rfl ?_⟩
 exact post_val_or_str ⟨J5 (Txt.slice_le z _ _) hz,λt' k=>⟨.str _,H,I.tok k,⟨t',rfl⟩,q⟩⟩
end
end L2
namespace DL
open PySem PySem.Spec PyProof.Rows L2
section
variable {X:Cx}
def Ee:D2:=λd e S k=>match d,e with
 | .str x,.int i=>∃ c,x.length<=sizeLine/\L2.atI x.cps.toList i=some c/\k (.str ⟨#[c]⟩) S
 | d,e=>E_ d e S k
theorem aP:xR X (fh X.K Ee):=by
 intro value slice KE s σ H x y v u Q I rx ry h hs;obtain⟨d,e,S,k,i1,i2,hS,r,n⟩:=h;unfold Ee at r
 split at r
 ·obtain⟨c,h1,h2,w⟩:=r;have e1:=aY.mp i1;have e2:=isInt.mp i2;subst e1 e2;exact ix_str value slice KE s σ H _ _ v u Q I rx ry ⟨_,_,c,rfl,rfl,h1,h2,eV n hS w (aY.mpr rfl)⟩ hs
 ·exact cy value slice KE s σ H x y v u Q I rx ry ⟨d,e,S,k,i1,i2,hS,r,n⟩ hs
def FZ (g:DE) (tl th:A6):DE:=λL S k=>g L S λx S1=>tl L S1 λlo S2=>th L S2 λhi S3=>match x with
 | .str x=>x.length<=sizeLine/\k (.str (Txt.slice x lo hi)) S3
 | _=>False
theorem sT {e:Kt} {g:DE} {lo hi:Ks Kt} {tl th:A6} {p2 pos:Pos} (he:EJ X e g) (hl:OJ X lo tl) (hu:OJ X hi th):EJ X (.Subscript e (.Slice lo hi none p2) pos) (FZ g tl th):=
 ⟨PE.imp (pG Ev he.h hl.h hu.h) fun σ H Q ⟨L,S,k,hL,hS,h,n⟩=>up.go hL hS h λd S1 v H1 h1 k1 hL1 hS1 i1=>by
  refine⟨L,S1,_,hL1,hS1,h1,λlo' S2 H2 h2 k2 hS2=>⟨L,S2,_,hL1.kp k2,hS2,h2,λhi' S3 H3 h3 k3 hS3=>?_⟩⟩
  cases d with
  | str x=>
   have e1:=aY.mp i1;subst e1;exact⟨x,rfl,h3.1,n _ _ _ _ h3.2 (k1.trans (k2.trans k3)) hS3 (aY.mpr rfl)⟩
  | _=>exact(show False from h3).elim⟩
def yA (neg:KA):D2:=λd e S k=>match d,e with
 | .str y,.str x=>k (.bl (if neg then !Txt.contains x y else Txt.contains x y)) S
 | _,_=>False
theorem GU:cS X (compareOp .In) (fh X.K (yA false)):=by
 intro KE s σ H x y v u Q I rx ry h;obtain⟨d,e,S,k,i1,i2,hS,r,n⟩:=h;unfold yA at r
 split at r
 ·have e1:=aY.mp i1;have e2:=aY.mp i2;subst e1 e2;obtain⟨t1,rfl⟩:=rx;obtain⟨t2,rfl⟩:=ry;exact P.in_str ⟨.bl _,H,I,rfl,eV n hS r (aT.mpr rfl)⟩
 ·exact r.elim
theorem Hc:cS X (compareOp .NotIn) (fh X.K (yA true)):=by
 intro KE s σ H x y v u Q I rx ry h;obtain⟨d,e,S,k,i1,i2,hS,r,n⟩:=h;unfold yA at r
 split at r
 ·have e1:=aY.mp i1;have e2:=aY.mp i2;subst e1 e2;obtain⟨t1,rfl⟩:=rx;obtain⟨t2,rfl⟩:=ry;exact P.notIn_str ⟨.bl _,H,I,rfl,eV n hS r (aT.mpr rfl)⟩
 ·exact r.elim
def CY:bE:=λds S k=>match ds with
 | [.str x]=>x.length<=sizeLine/\k (.int (x.length:Nat)) S
 | ds=>yh ds S k
theorem jQ:bW X (.builtin "len") (nX X.K CY):=by
 intro KE s σ H xs us Q I rs h;obtain⟨ds,S,k,i,hS,r,n⟩:=h;unfold CY at r
 split at r
 ·obtain⟨x,rfl,i1⟩:=cr i;have e1:=aY.mp i1;subst e1;obtain⟨u,rfl,t,rfl⟩:=rs.one;have:=oO;exact P.len_str (by have:=r.1; omega) ⟨.int _,H,I.tok _,⟨_,rfl⟩,eV n hS r.2 (isInt.mpr rfl)⟩
 ·exact cM KE s σ H xs us Q I rs ⟨_,S,k,i,hS,r,n⟩
def Cw:bE:=λds S k=>match ds with
 | [.str x]=>∃ m,PySem.intText? x=some m/\x.length<=640/\k (.int m) S
 | ds=>EN ds S k
theorem vT:bW X (.type "int") (nX X.K Cw):=by
 intro KE s σ H xs us Q I rs h;obtain⟨ds,S,k,i,hS,r,n⟩:=h;unfold Cw at r
 split at r
 ·obtain⟨x,rfl,i1⟩:=cr i;have e1:=aY.mp i1;subst e1;obtain⟨u,rfl,t,rfl⟩:=rs.one;obtain⟨m,hm,hl,w⟩:=r;exact PySem.W.KIN.call_text hm hl ⟨.int m,H,I.tok _,⟨_,rfl⟩,eV n hS w (isInt.mpr rfl)⟩
 ·exact yO KE s σ H xs us Q I rs ⟨_,S,k,i,hS,r,n⟩
def Aw:D2:=λd e S k=>match d,e with
 | .str x,.int j=>MulOk x j/\k (.str (Txt.mul x j)) S
 | d,e=>G1 d e S k
theorem Fi:cS X (binaryOp .Mult) (fh X.K Aw):=by
 intro KE s σ H x y v u Q I rx ry h;obtain⟨d,e,S,k,i1,i2,hS,r,n⟩:=h;unfold Aw at r
 split at r
 ·have e1:=aY.mp i1;have e2:=isInt.mp i2;subst e1 e2;obtain⟨t1,rfl⟩:=rx;obtain⟨t2,rfl⟩:=ry;exact SB.mul r.1 λt' tk=>⟨.str _,H,I.tok tk,⟨t',rfl⟩,eV n hS r.2 (aY.mpr rfl)⟩
 ·exact dY KE s σ H x y v u Q I rx ry ⟨d,e,S,k,i1,i2,hS,r,n⟩
end
end DL
namespace L2
open PySem PySem.Spec PyProof.Rows
def G' (x:Str):It:=⟨λi _=>i < x.cps.size,λi H v H'=>H'=H/\∃ c,x.cps[i]?=some c/\v=.str ⟨#[c]⟩,λi _=>x.cps.size<=i⟩
theorem xU {P:Ku} {w:Kw} {K:PySem.W.Frag} {tg:Kt} (x:Str) (t:Tok) (it:Kr):qe P w K tg (G' x) [it] it (λi h=>h.IsStrIter it "str_ascii_iterator" x t i) where
 mem:=by simp
 obj:=λi h st b hb=>by
  have e:b=it:=by simpa using hb
  subst e;obtain⟨o,e,c,d⟩:=st;exact⟨o,e,λv z=>by rw [d] at z; cases z⟩
 keep:=λi h h' st k=>let ⟨o,ho,r⟩:=st; ⟨o,k it (by simp) o ho,r⟩
 item:=by
  intro X hP hw hK hc i KE s σ H E I hf st hg;subst hP hw hK;obtain⟨f0,f1,f2,f3,f4,f5⟩:=hf it (by simp)
  have hg:i < x.cps.size:=hg;refine wpAny_pyNext_ascii_item st (c:=x.cps[i]) (by simp [hg]) λh' st' sb=>?_
  have I1:aE X KE σ H {s with heap:=h',toks:=s.toks+1}:=I.turned (t':=s.toks+1) (λb o hb e=>(sb.2 b hb).trans e) f0 f1 f3 f4 f5
  obtain⟨o,e,c,d⟩:=id st';exact⟨_,rfl,pC (s:={s with heap:=h',toks:=s.toks+1}) e c d (by decide) ⟨.str ⟨#[x.cps[i]]⟩,H,I1,⟨_,rfl⟩,⟨rfl,x.cps[i],by simp [hg],rfl⟩,st',λb hb=>(hf b hb).1⟩⟩
 done:=by
  intro X hP hw hK hc i KE s σ H E I hf st hg;subst hP hw hK;obtain⟨f0,f1,f2,f3,f4,f5⟩:=hf it (by simp)
  have hg:x.cps.size<=i:=hg;exact wpAny_pyNext_ascii_end (I.ok.hd hc) st (by simp [hg]) λh' eb=>⟨rfl,I.turned (t':=s.toks) (λb o hb e=>eb b o hb e) f0 f1 f3 f4 f5⟩
 self:=λ_ _ _ _ _ st h=>wpAny_pyIter_striter_ascii st h
theorem xI {P:Ku} {w:Kw} {K:PySem.W.Frag} {tg:Kt} (x:Str) (t:Tok) (it:Kr):qe P w K tg (G' x) [it] it (λi h=>h.IsStrIter it "str_iterator" x t i) where
 mem:=by simp
 obj:=λi h st b hb=>by
  have e:b=it:=by simpa using hb
  subst e;obtain⟨o,e,c,d⟩:=st;exact⟨o,e,λv z=>by rw [d] at z; cases z⟩
 keep:=λi h h' st k=>let ⟨o,ho,r⟩:=st; ⟨o,k it (by simp) o ho,r⟩
 item:=by
  intro X hP hw hK hc i KE s σ H E I hf st hg;subst hP hw hK;obtain⟨f0,f1,f2,f3,f4,f5⟩:=hf it (by simp)
  have hg:i < x.cps.size:=hg;refine wpAny_pyNext_wide_item st (c:=x.cps[i]) (by simp [hg]) λh' st' sb=>?_
  have I1:aE X KE σ H {s with heap:=h',toks:=s.toks+1}:=I.turned (t':=s.toks+1) (λb o hb e=>(sb.2 b hb).trans e) f0 f1 f3 f4 f5
  obtain⟨o,e,c,d⟩:=id st';exact⟨_,rfl,pC (s:={s with heap:=h',toks:=s.toks+1}) e c d (by decide) ⟨.str ⟨#[x.cps[i]]⟩,H,I1,⟨_,rfl⟩,⟨rfl,x.cps[i],by simp [hg],rfl⟩,st',λb hb=>(hf b hb).1⟩⟩
 done:=by
  intro X hP hw hK hc i KE s σ H E I hf st hg;subst hP hw hK;obtain⟨f0,f1,f2,f3,f4,f5⟩:=hf it (by simp)
  have hg:x.cps.size<=i:=hg;exact wpAny_pyNext_wide_end (I.ok.hd hc) st (by simp [hg]) λh' eb=>⟨rfl,I.turned (t':=s.toks) (λb o hb e=>eb b o hb e) f0 f1 f3 f4 f5⟩
 self:=λ_ _ _ _ _ st h=>wpAny_pyIter_striter_wide st h
def HY (tl:TE):TI:=fun σ H R=>tl σ H λv H1=>∃ x,v=.str x/\R (G' x) H1
theorem y4 {X:Cx} {tg l:Kt} {tl:TE} (hl:PE X l tl):PI X tg l (HY tl):=by
 intro KE s σ H R I h;refine be (hl KE s σ H _ I h) λv s1 ⟨y,H1,I1,r1,q1⟩=>?_
 obtain⟨x,e,q⟩:=q1;subst e;obtain⟨t,rfl⟩:=r1;have fin:∀ b∈[s1.heap.objs.size],ni X KE H1 b:=λb hb=>by
  have e:b=s1.heap.objs.size:=by simpa using hb
  subst e;exact I1.fpOk (JE _) (I1.hok.fresh (JE _))
 cases ha:x.cps.all (· < 128)
 ·refine wpAny_pyIter_wide ha ⟨s1.heap.objs.size,[s1.heap.objs.size],_,_,H1,rfl,I1.kept (t':=s1.toks) λb o e=>pp _ e,xI x t _,⟨_,JC _ rfl,rfl,rfl⟩,fin,q⟩
 ·refine wpAny_pyIter_ascii ha ⟨s1.heap.objs.size,[s1.heap.objs.size],_,_,H1,rfl,I1.kept (t':=s1.toks) λb o e=>pp _ e,xU x t _,⟨_,JC _ rfl,rfl,rfl⟩,fin,q⟩
end L2
namespace DL
open PySem PySem.Spec PyProof.Rows L2
def GT (x:Str):List D:=x.cps.toList.map λc=>.str ⟨#[c]⟩
def uW (cap:List (Ks Nat)) (gi:DE) (g:DG) (bd:DB):DE:=λL S k=>gi L S λd S1=>match d with
 | .str x=>∀ p,S1 p=none->bK (λ_=>True) p g bd k (GT x) [] (x6 cap L) (put S1 p (.lst []))
 | _=>False
section
variable {X:Cx} {pos:Pos}
theorem CN {K:Fg} {x:Str} {H:Hp}:∀ (i:Nat) (d:D) (S1:DH) (H1:Hp),(GT x)[i]?=some d->Kp H H1->Hs K H1 S1->True->(G' x).go i H1/\∀ v H',(G' x).yld i H1 v H'->H'=H1/\bB K H1 d v:=λi d S1 H1 hd _ _ _=>by
 unfold GT at hd;rw [J0] at hd;cases e:x.cps.toList[i]? with
 | none=>rw [e] at hd; cases hd
 | some c=>
  rw [e] at hd;cases hd;have e':x.cps[i]?=some c:=by simpa using e
  refine⟨?_,λv H' ⟨h1,c',h2,h3⟩=>⟨h1,?_⟩⟩
  ·show i < x.cps.size
   obtain⟨h,_⟩:=Array.getElem?_eq_some_iff.mp e';exact h
  ·rw [e'] at h2;cases h2;exact aY.mpr h3
theorem yE {x:Str}:(GT x).length=x.cps.size:=by unfold GT; simp
theorem yU {elt tg iter:Kt} {scope:Scope} {cl:List (Str×Kr)} {N:List Str} {cap:List (Ks Nat)} {gg:DG} {ge gi:DE} (hc:X.calm=true) (Sc:db X scope cl N cap) (hi:EJ X iter gi) (hg:∀ s0 H0 ex C,GJ (dZ X scope cl N s0 H0 ex C) tg gg) (he:∀ s0 H0 ex C,EJ (dZ X scope cl N s0 H0 ex C) elt ge)
  (hs:∀ x,foldedSetIterable iter X.env x=pure x:=by intro _; rfl):EJ X (.ListComp elt [⟨tg,iter,[],0⟩] scope pos) (uW cap gi gg (jx ge)):=
 ⟨PE.imp (wz hc Sc (y4 hi.h) (λs0 H0 ex C=>(hg s0 H0 ex C).h) (λs0 H0 ex C=>(he s0 H0 ex C).h) hs) fun σ H Q ⟨L,S,k,hL,hS,h,n⟩=>up.go hL hS h λd S1 v H1 h1 k1 hL1 hS1 i1=>by
  cases d with
  | str x=>
   have e1:=aY.mp i1;subst e1;exact⟨x,rfl,λD hD=>ic (hL1.cap cap) hS1 hD (h1 D (hS1.free hD)) (λd S' v H' q k3=>n d S' v H' q (k1.trans k3)) CN λS2 H2 _ _ _=>by rw [yE]; exact JE _⟩
  | _=>exact(show False from h1).elim⟩
theorem Ei {elt tg iter c:Kt} {scope:Scope} {cl:List (Str×Kr)} {N:List Str} {cap:List (Ks Nat)} {gg:DG} {ge gi:DE} {gc:DT} (hc:X.calm=true) (Sc:db X scope cl N cap) (hi:EJ X iter gi) (hg:∀ s0 H0 ex C,GJ (dZ X scope cl N s0 H0 ex C) tg gg) (hcn:∀ s0 H0 ex C,TJ (dZ X scope cl N s0 H0 ex C) c gc) (he:∀ s0 H0 ex C,EJ (dZ X scope cl N s0 H0 ex C) elt ge)
  (hs:∀ x,foldedSetIterable iter X.env x=pure x:=by intro _; rfl):EJ X (.ListComp elt [⟨tg,iter,[c],0⟩] scope pos) (uW cap gi gg (m8 gc ge)):=
 ⟨PE.imp (mE hc Sc (y4 hi.h) (λs0 H0 ex C=>(hg s0 H0 ex C).h) (λs0 H0 ex C=>(hcn s0 H0 ex C).h) (λs0 H0 ex C=>(he s0 H0 ex C).h) hs) fun σ H Q ⟨L,S,k,hL,hS,h,n⟩=>up.go hL hS h λd S1 v H1 h1 k1 hL1 hS1 i1=>by
  cases d with
  | str x=>
   have e1:=aY.mp i1;subst e1;exact⟨x,rfl,λD hD=>gx (hL1.cap cap) hS1 hD (h1 D (hS1.free hD)) (λd S' v H' q k3=>n d S' v H' q (k1.trans k3)) CN λS2 H2 _ _ _=>by rw [yE]; exact JE _⟩
  | _=>exact(show False from h1).elim⟩
end
end DL
namespace L2
open PySem PySem.Spec PyProof.Rows
section
variable {X:Cx} {o e:Kt} {es:List Kt} {to:TE} {t:TA} {r:V->List V->Hp->VK->Prop} {T id:KB} {name:Str} {apos cpos:Pos} {ty:V->Hp->Prop}
def HE (ty:V->Hp->Prop) (r:V->List V->Hp->VK->Prop) (to:TE) (t:TA):TE:=fun σ H Q=>to σ H λx H1=>ty x H1/\t σ H1 λxs H2=>r x xs H2 Q
theorem EH (hT:∀ KE σ H (s:Ko) x v,aE X KE σ H s->aV x v->ty x H->s.TypeIs v T/\∀ a,v=.ref a->∃ ob,s.heap.get? a=some ob/\ob.dict=none)
  (pa:PlainAttrs T) (slot:Slot T name id) (hty:typeOf (.builtin id)=pure (.type "method_descriptor")) (hm:Cn X id r) (ho:PE X o to) (ha:PA X (e::es) t)
  (hbase:attributeBase o name X.env (eval o X.env)=eval o X.env:=by rfl)
  (hfew:((backTo cpos (starEach (e::es) X.env)).all (λx=>!x.1) && (backToKw cpos (keywordEach [] X.env)).all (λx=>x.1.isSome)
   && decide ((e::es).length+([]:List Keyword).length+(if ([]:List Keyword).isEmpty then 0 else 1) < 30))=true:=by rfl)
  (hline:(apos.endLine == cpos.line)=true:=by rfl) (hs:starEach (e::es) X.env=(false,eval e X.env)::starEach es X.env:=by rfl) (hplain:(backTo cpos (starEach es X.env)).any (·.1)=false:=by rfl):
  PE X (.Call (.Attribute o name apos) (e::es) [] cpos) (HE ty r to t):=by
 intro KE s σ H Q I h;refine wpAny_Call_method_late hbase hfew hline rfl (be (ho KE s σ H _ I h) λv s1 z9=>?_)
 obtain⟨x,H1,I1,r1,ty,q1⟩:=z9;obtain⟨h1,h2⟩:=hT _ _ _ _ _ _ I1 r1 ty;refine⟨T,id,pa,slot,hty,h1,h2,?_⟩;have hA:=ha cpos KE s1 σ H1 _ I1 q1;rw [hs] at hA ⊢;refine Calls.callWith_builtin (by show(false || (backTo cpos (starEach es X.env)).any (·.1))=false; rw [hplain] <;> rfl) (Calls.evalArgs_plain ?_)
 exact be hA λus s2 z9=>by obtain⟨vs,H2,I2,r2,q2⟩:=z9; exact hm KE s2 σ H2 x vs v us Q I2 r1 r2 q2
end
end L2
namespace DL
open PySem PySem.Spec PyProof.Rows L2
def CZ (mg:Str->Ks Kq) (x y:Str):Prop:=∃ t,mg x=some (.str y t)
theorem Ec {X:Cx} {x y:Str} {pos:Pos} (g:CZ X.mg x y) (hg:Gl X x) (hd:(x == ("__debug__":Str))=false:=by decide):EJ X (.Name x pos) (dC (.str y)):=by
 obtain⟨t,hm⟩:=g;exact⟨CI (oC (v:=.str y) hg hm ⟨t,rfl⟩ hd) λH=>aY.mpr rfl⟩
def lQ (K:Fg) (d:D) (u:Kq):Prop:=∃ v,aV v u/\∀ H,bB K H d v
theorem lQ.int {K:Fg} {i:Int} {t:Tok}:lQ K (.int i) (.int i t):=⟨.int i,⟨t,rfl⟩,λ_=>isInt.mpr rfl⟩
theorem lQ.tup {K:Fg} {q:Kr} {ns:List Int} (h:IH K q ns):lQ K (.tup (ns.map D.int)) (.ref q):=by
 obtain⟨o,its,m,a,b,c,e,f⟩:=h;exact⟨.ref q,rfl,λH=>bw.mpr ⟨q,_,rfl,.inr ⟨o,its,m,a,b,c,e,f⟩,mD _⟩⟩
inductive u9 (K:Fg) (w:Kw):List KC->List (Str×D)->Prop
 | nil:u9 K w [] []
 | cons {h:Int} {k:Str} {t:Tok} {u:Kq} {d:D} {es:List KC} {tab:List (Str×D)} (hh:h=hashStr w k) (h1:lQ K d u) (r:u9 K w es tab):u9 K w (⟨h,.str k t,u⟩::es) ((k,d)::tab)
def As (K:Fg) (mg:Str->Ks Kq) (w:Kw) (x:Str) (tab:List (Str×D)):Prop:=∃ p o es ep,mg x=some (.ref p)/\K.lookup p=some o/\o.ExactDict/\o.data=.dict es ep/\(p == sysModules)=false/\u9 K w es.toList tab/\(tab.map (·.1)).Nodup
theorem u9.kvs {K:Fg} {w:Kw} (prog:Ku):∀ {es:List KC} {tab:List (Str×D)},u9 K w es tab->∃ kvs:List (Str×Kq),Pairs (strKind prog w) es kvs/\kvs.map (·.1)=tab.map (·.1)/\(∀ e∈es,∃ k,(strKind prog w).is k e.key=true/\e.hash=(strKind prog w).hash k)/\∀ k,match tab.lookup k with
   | some d=>∃ u,valueAt kvs k=some u/\lQ K d u
   | none=>valueAt kvs k=none
 | _,_,.nil=>⟨[],.nil,rfl,(λ_ h=>by cases h),λk=>rfl⟩
 | _,_,.cons (k:=k) (t:=t) (u:=u) (d:=d) (tab:=tab) hh h1 r=>by
  obtain⟨kvs,a,b,c,e⟩:=r.kvs prog;refine⟨(k,u)::kvs,.cons (strKind_is _ _ _ _) rfl a,by rw [JP,JP,b],?_,?_⟩
  ·intro e he;rcases JJ.mp he with rfl | he
   ·exact⟨k,strKind_is _ _ _ _,hh⟩
   ·exact c e he
  ·intro k';have e:=e k';rw [List.lookup_cons];unfold valueAt at*
   rw [JR]
   by_cases z:k=k'
   ·subst z;simp only [beq_self_eq_true,decide_true];exact⟨u,rfl,h1⟩
   ·have z1:(k' == k)=false:=beq_eq_false_iff_ne.mpr (Ne.symm z);have z2:decide (k=k')=false:=Kc z;simp only [z1,z2];exact e
section
variable {X:Cx} {x:Str} {tab:List (Str×D)} {p:Kr}
def Jd (p:Kr):V->Hp->Prop:=λv _=>v=.ref p
def Db (tab:List (Str×D)):bE:=λds S k=>match ds with
 | [.str w]=>k ((tab.lookup w).getD .non) S
 | [.str w,d]=>k ((tab.lookup w).getD d) S
 | _=>False
def HR (K:Fg) (p:Kr) (tab:List (Str×D)):V->List V->Hp->VK->Prop:=λv vs H Q=>v=.ref p/\nX K (Db tab) vs H Q
theorem C_ {o:KD} {es:Kz KC} {ep:Nat} (h1:X.K.lookup p=some o) (h2:o.ExactDict) (h3:o.data=.dict es ep) (h0:(p == sysModules)=false) (h4:u9 X.K X.w es.toList tab) (h5:(tab.map (·.1)).Nodup):
  Cn X "dict.get" (HR X.K p tab):=by
 intro KE s σ H v vs u us Q I rx rs h;obtain⟨rfl,ds,S,k,i,hS,r,n⟩:=h;cases rx;obtain⟨kvs,a,b,c,d⟩:=h4.kvs X.prog;have hd:s.heap.DictOf (strKind X.prog X.w) p kvs:=⟨o,es,ep,I.kIn p o h1,h2,h3,λe he=>c e (Array.mem_toList_iff.mpr he),a,by rw [b]; exact h5⟩
 unfold Db at r
 split at r
 ·rename_i w
  obtain⟨v1,rfl,i1⟩:=cr i;have e1:=aY.mp i1;subst e1;obtain⟨u1,rfl,t1,rfl⟩:=rs.one;refine call_meetsIn F.slot_dict_get hd.typeIs F.entry_dict_get (F.args_dict_get_2 _ _) (meets_dict_get (strKind X.prog X.w) p (strKind_is _ _ w t1) h0) ⟨_,hd.mapOf,?_⟩;have dw:=d w
  show EP X KE σ Q _ _
  cases hl:tab.lookup w with
  | none=>
   rw [hl] at dw r
   rw [dw];exact⟨.non,H,I.tok _,rfl,eV n hS r (b7.mpr rfl)⟩
  | some d0=>
   rw [hl] at dw r
   obtain⟨u,e,v,rv,iv⟩:=dw;rw [e];exact⟨v,H,I.tok _,rv,eV n hS r (iv H)⟩
 ·rename_i w d2
  obtain⟨v1,v2,rfl,i1,i2⟩:=ku i;have e1:=aY.mp i1;subst e1;obtain⟨u1,u2,rfl,⟨t1,rfl⟩,r2⟩:=o9 rs;refine call_meetsIn F.slot_dict_get hd.typeIs F.entry_dict_get (F.args_dict_get_3 _ _ _) (meets_dict_get_default (strKind X.prog X.w) p (strKind_is _ _ w t1) h0 _) ⟨_,hd.mapOf,?_⟩;have dw:=d w
  show EP X KE σ Q _ _
  cases hl:tab.lookup w with
  | none=>
   rw [hl] at dw r
   rw [dw];exact⟨v2,H,I.tok _,r2,eV n hS r i2⟩
  | some d0=>
   rw [hl] at dw r
   obtain⟨u,e,v,rv,iv⟩:=dw;rw [e];exact⟨v,H,I.tok _,rv,eV n hS r (iv H)⟩
 ·exact r.elim
theorem we {e:Kt} {es:List Kt} {ta:DA} {p1 apos cpos:Pos} (g:As X.K X.mg X.w x tab) (hg:Gl X x) (ha:AJ X (e::es) ta) (hd:(x == ("__debug__":Str))=false:=by decide)
  (hbase:attributeBase (.Name x p1) "get" X.env (eval (.Name x p1) X.env)=eval (.Name x p1) X.env:=by rfl)
  (hfew:((backTo cpos (starEach (e::es) X.env)).all (λx=>!x.1) && (backToKw cpos (keywordEach [] X.env)).all (λx=>x.1.isSome)
   && decide ((e::es).length+([]:List Keyword).length+(if ([]:List Keyword).isEmpty then 0 else 1) < 30))=true:=by rfl)
  (hline:(apos.endLine == cpos.line)=true:=by rfl) (hs:starEach (e::es) X.env=(false,eval e X.env)::starEach es X.env:=by rfl) (hplain:(backTo cpos (starEach es X.env)).any (·.1)=false:=by rfl):
  EJ X (.Call (.Attribute (.Name x p1) "get" apos) (e::es) [] cpos) (gm (Db tab) ta):=by
 obtain⟨p,o,es',ep,hm,h1,h2,h3,h0,h4,h5⟩:=g;refine⟨PE.imp (EH (ty:=Jd p) (λKE σ H s x v I rv z=>?_) PySem.F.plainAttrs_dict PySem.F.slot_dict_get PySem.F.type_dict_get (C_ h1 h2 h3 h0 h4 h5) (oC (v:=.ref p) hg hm rfl hd) ha.h hbase hfew hline hs hplain) fun σ H Q ⟨L,S,k,hL,hS,h,n⟩=>?_⟩
 ·have z:x=.ref p:=z;subst z;cases rv;exact⟨⟨o,I.kIn p o h1,h2.1⟩,λa e=>by cases e; exact⟨o,I.kIn p o h1,h2.2.1⟩⟩
 ·refine⟨rfl,q9.go hL hS h λds S1 vs H1 h1 k1 hL1 hS1 i1=>⟨rfl,ds,S1,k,i1,hS1,h1,λd' S' v H' q k3 z1 z2=>n d' S' v H' q (k1.trans k3) z1 z2⟩⟩
end
end DL
namespace ZS
open PySem PySem.W PyProof.Rows
abbrev pl (p:Kz Nat) (i:Nat):Nat:=p.getD i 0
structure Od (n:Nat) (c:Nat->Nat->KA):Prop where
 tr:∀ i j k,i < n->j < n->k < n->c i j=true->c j k=true->c i k=true
 tot:∀ i j,i < n->j < n->i≠j->c i j=false->c j i=true
 asy:∀ i j,i < n->j < n->c i j=true->c j i=false
structure Pm (n:Nat) (p:Kz Nat):Prop where
 sz:p.size=n
 pm:p.toList.Perm (List.range n)
theorem t8 {p:Kz Nat} {i:Nat} (h:i < p.size):p[i]?=some (pl p i):=by
 unfold pl;rw [Array.getD_eq_getD_getElem?,getElem?_pos p i h]
 rfl
section
variable {n:Nat} {c:Nat->Nat->KA} {p:Kz Nat}
theorem Pm.lt (h:Pm n p) {i:Nat} (hi:i < n):pl p i < n:=by
 have e:=t8 (p:=p) (i:=i) (by rw [h.sz]; exact hi)
 have m:pl p i∈p.toList:=by
  rw [<- Array.getElem?_toList] at e;exact List.mem_of_getElem? e
 exact List.mem_range.mp (h.pm.mem_iff.mp m)
theorem Pm.ne (h:Pm n p) {i j:Nat} (hi:i < n) (hj:j < n) (ij:i≠j):pl p i≠pl p j:=λe=>by
 have nd:p.toList.Nodup:=h.pm.nodup_iff.mpr List.nodup_range;have ei:=t8 (p:=p) (i:=i) (by rw [h.sz]; exact hi)
 have ej:=t8 (p:=p) (i:=j) (by rw [h.sz]; exact hj)
 rw [<- Array.getElem?_toList] at ei ej
 rw [e,<- ej] at ei;exact ij ((List.getElem?_inj (by rw [Kk,h.sz]; exact hi) nd).mp ei)
def Up (c:Nat->Nat->KA) (p:Kz Nat) (b:Nat):Prop:=∀ i j,i < j->j < b->c (pl p i) (pl p j)=true
def Dn (c:Nat->Nat->KA) (p:Kz Nat) (b:Nat):Prop:=∀ i j,i < j->j < b->c (pl p j) (pl p i)=true
theorem Up.one:Up c p 1:=λi j h1 h2=>by omega
theorem Up.more (o:Od n c) (h:Pm n p) {b:Nat} (b1:1<=b) (bn:b < n) (u:Up c p b) (x:c (pl p b) (pl p (b - 1))=false):Up c p (b+1):=λi j ij jb=>by
 by_cases e:j < b
 ·exact u i j ij e
 ·have e:j=b:=by omega
  subst e;have y:=o.tot _ _ (h.lt bn) (h.lt (by omega)) (h.ne bn (by omega) (by omega)) x
  by_cases f:i=j - 1
  ·rw [f]; exact y
  ·exact o.tr _ _ _ (h.lt (by omega)) (h.lt (by omega)) (h.lt bn) (u i (j - 1) (by omega) (by omega)) y
theorem Dn.more (o:Od n c) (h:Pm n p) {b:Nat} (b1:1<=b) (bn:b < n) (u:Dn c p b) (x:c (pl p b) (pl p (b - 1))=true):Dn c p (b+1):=λi j ij jb=>by
 by_cases e:j < b
 ·exact u i j ij e
 ·have e:j=b:=by omega
  subst e
  by_cases f:i=j - 1
  ·rw [f]; exact x
  ·exact o.tr _ _ _ (h.lt bn) (h.lt (by omega)) (h.lt (by omega)) x (u i (j - 1) (by omega) (by omega))
theorem Pm.rev (h:Pm n p) {a b:Nat}:Pm n (kas_rev p a b):=⟨by unfold kas_rev; rw [mirror_size,h.sz],(Array.perm_iff_toList_perm.mp (mirror_perm p a b _)).trans h.pm⟩
theorem Pm.bub (h:Pm n p) {a b:Nat}:Pm n (bubble p a b):=⟨by rw [bubble_size,h.sz],(Array.perm_iff_toList_perm.mp (bubble_perm p a b)).trans h.pm⟩
theorem zh (h:Pm n p) {b i:Nat} (bn:b<=n) (ib:i < b):pl (kas_rev p 0 b) i=pl p (b - 1 - i):=by
 have e:=getElem?_mirror_all (xs:=p) (i:=0) (j:=b) (by rw [h.sz]; exact bn) i
 rw [if_pos ⟨Kd _,ib⟩] at e;unfold pl kas_rev;rw [Array.getD_eq_getD_getElem?,Array.getD_eq_getD_getElem?,e]
 congr 2
 omega
theorem Dn.rev (h:Pm n p) {b:Nat} (bn:b<=n) (d:Dn c p b):Up c (kas_rev p 0 b) b:=λi j ij jb=>by
 rw [zh h bn (by omega),zh h bn jb]
 exact d _ _ (by omega) (by omega)
variable {cmp:Nat->Nat->(KA->Ko->Prop)->Ko->Prop} {s:Ko}
def CA (n:Nat) (c:Nat->Nat->KA) (cmp:Nat->Nat->(KA->Ko->Prop)->Ko->Prop) (s:Ko):Prop:=∀ i j (C:KA->Ko->Prop),i < n->j < n->C (c i j) s->cmp i j C s
theorem vp (o:Od n c) (h:Pm n p) (an:CA n c cmp s) {Q:Nat->Ko->Prop}:∀ (f b:Nat),1<=b->b+f<=n->Up c p b->(∀ m,b<=m->m<=b+f->Up c p m->(m=b+f\/c (pl p m) (pl p (m - 1))=true)->Q m s)->(kas_asc p f b).kasWp cmp Q s
 | 0,b,_,_,u,q=>q b (JE _) (JE _) u (.inl rfl)
 | f+1,b,b1,bn,u,q=>by
  refine an _ _ _ (h.lt (by omega)) (h.lt (by omega)) ?_
  show KasT.kasWp cmp (if c (pl p b) (pl p (b - 1))=true then KasT.ret b else kas_asc p f (b+1)) Q s
  cases x:c (pl p b) (pl p (b - 1)) with
  | true=>
   rw [if_pos rfl];exact q b (JE _) (by omega) u (.inr x)
  | false=>
   rw [if_neg JH];refine vp o h an f (b+1) (by omega) (by omega) (u.more o h b1 (by omega) x) λm m1 m2 um e=>q m (by omega) (by omega) um ?_
   rcases e with e | e
   ·exact .inl (by omega)
   ·exact .inr e
theorem xh (o:Od n c) (h:Pm n p) (an:CA n c cmp s) {Q:Kz Nat×Nat×Nat->Ko->Prop}:∀ (f b:Nat),1<=b->b+f<=n->Dn c p b->(∀ m,b<=m->m<=b+f->Dn c p m->Q (p,m,0) s)->(kas_desc f p b 0).kasWp cmp Q s
 | 0,b,_,_,u,q=>q b (JE _) (JE _) u
 | f+1,b,b1,bn,u,q=>by
  refine an _ _ _ (h.lt (by omega)) (h.lt (by omega)) ?_
  dsimp only;cases x:c (pl p b) (pl p (b - 1)) with
  | true=>
   rw [if_pos rfl,if_neg (by omega)]
   exact xh o h an f (b+1) (by omega) (by omega) (u.more o h b1 (by omega) x) λm m1 m2 um=>q m (by omega) (by omega) um
  | false=>
   rw [if_neg JH];refine an _ _ _ (h.lt (by omega)) (h.lt (by omega)) ?_
   dsimp only;rw [o.tot _ _ (h.lt (by omega)) (h.lt (by omega)) (h.ne (by omega) (by omega) (by omega)) x,if_pos rfl]
   exact q b (JE _) (by omega) u
theorem BZ (o:Od n c) (h:Pm n p) (an:CA n c cmp s) {Q:Nat×Kz Nat->Ko->Prop} {b:Nat} (b1:1<=b) (bn:b<=n) (d:Dn c p b) (q:∀ m p',Pm n p'->1<=m->m<=n->Up c p' m->Q (m,p') s):(kas_tail3 b n p).kasWp cmp Q s:=by
 unfold kas_tail3;rw [KasT.kasWp_bind];exact vp o h.rev an (n - b) b b1 (by omega) (d.rev h bn) λm m1 m2 um _=>q m _ h.rev (by omega) (by omega) um
theorem BO (o:Od n c) (h:Pm n p) (an:CA n c cmp s) {Q:Nat×Kz Nat->Ko->Prop} {b:Nat} (bn:b+1<=n) (d:Dn c p (b+1)) (q:∀ m p',Pm n p'->1<=m->m<=n->Up c p' m->Q (m,p') s):(kas_descPart b n p).kasWp cmp Q s:=by
 unfold kas_descPart;rw [KasT.kasWp_bind];refine xh o h an _ (b+1) (by omega) (by omega) d λm m1 m2 dm=>?_
 show KasT.kasWp cmp (if 0 > 0 then _ else kas_tail3 m n p) Q s
 rw [if_neg (by omega)]
 exact BZ o h an (by omega) (by omega) dm q
theorem Aq (o:Od n c) (h:Pm n p) (an:CA n c cmp s) {Q:Nat×Kz Nat->Ko->Prop} (n1:1<=n) (q:∀ m p',Pm n p'->1<=m->m<=n->Up c p' m->Q (m,p') s):(kas_count n p).kasWp cmp Q s:=by
 unfold kas_count;rw [KasT.kasWp_bind];refine vp o h an (n - 1) 1 (by omega) (by omega) Up.one λm m1 m2 um e=>?_
 by_cases x:m=n
 ·rw [if_pos (by rw [x]; exact beq_self_eq_true n)]
  exact q m p h m1 (by omega) um
 ·rw [if_neg (by simpa using x)]
  by_cases y:m > 1
  ·rw [if_pos y];refine an _ _ _ (h.lt (by omega)) (h.lt (by omega)) ?_
   dsimp only;rw [um 0 (m - 1) (by omega) (by omega),if_pos rfl]
   exact q m p h m1 (by omega) um
  ·rw [if_neg y];have e1:m=1:=by omega
   subst e1;have z:c (pl p 1) (pl p (1 - 1))=true:=e.resolve_left (by omega)
   exact BO o h an (by omega) (Dn.more o h (JE 1) (by omega) (λi j h1 h2=>by omega) z) q
theorem pf (o:Od n c) (h:Pm n p) (an:CA n c cmp s) {Q:Nat->Ko->Prop} {k:Nat} (kn:k < n) (u:Up c p k):∀ (f l r:Nat),l<=r->r<=k->r - l<=f->(∀ i,i < l->c (pl p i) (pl p k)=true)->(∀ i,r<=i->i < k->c (pl p k) (pl p i)=true)->
  (∀ l,l<=k->(∀ i,i < l->c (pl p i) (pl p k)=true)->(∀ i,l<=i->i < k->c (pl p k) (pl p i)=true)->Q l s)->(kas_place p k f l r).kasWp cmp Q s
 | 0,l,r,h1,h2,h3,a,b,q=>q l (by omega) a λi i1 i2=>b i (by omega) i2
 | f+1,l,r,h1,h2,h3,a,b,q=>by
  show KasT.kasWp cmp (if l ≥ r then KasT.ret l else _) Q s
  by_cases x:l ≥ r
  ·rw [if_pos x];exact q l (by omega) a λi i1 i2=>b i (by omega) i2
  ·rw [if_neg x];have hm:(l+r) / 2 < r:=by omega
   have hl:l<=(l+r) / 2:=by omega
   generalize (l+r) / 2=m at*
   refine an _ _ _ (h.lt kn) (h.lt (by omega)) ?_
   show KasT.kasWp cmp (if c (pl p k) (pl p m)=true then _ else _) Q s
   cases y:c (pl p k) (pl p m) with
   | true=>
    rw [if_pos rfl];refine pf o h an kn u f l m hl (by omega) (by omega) a (λi i1 i2=>?_) q
    by_cases z:i=m
    ·rw [z]; exact y
    ·exact o.tr _ _ _ (h.lt kn) (h.lt (by omega)) (h.lt (by omega)) y (u m i (by omega) i2)
   | false=>
    rw [if_neg JH];have y':=o.tot _ _ (h.lt kn) (h.lt (i:=m) (by omega)) (h.ne kn (by omega) (by omega)) y
    refine pf o h an kn u f (m+1) r (by omega) h2 (by omega) (λi i1=>?_) b q
    by_cases z:i=m
    ·rw [z]; exact y'
    ·exact o.tr _ _ _ (h.lt (by omega)) (h.lt (by omega)) (h.lt kn) (u i m (by omega) (by omega)) y'
theorem yZ (h:Pm n p) {k l i:Nat} (kn:k < n) (lk:l<=k):pl (bubble p k (k - l)) i=if i=l then pl p k else if l < i/\i<=k then pl p (i - 1) else pl p i:=by
 have e:=getElem?_bubble (xs:=p) (src:=k) (by rw [h.sz]; exact kn) (k - l) (by omega) i
 rw [show k - (k - l)=l by omega] at e
 unfold pl;rw [Array.getD_eq_getD_getElem?,e]
 split
 ·rw [Array.getD_eq_getD_getElem?]
 ·split
  ·rw [Array.getD_eq_getD_getElem?]
  ·rw [Array.getD_eq_getD_getElem?]
theorem yg (o:Od n c) (an:CA n c cmp s) {Q:Kz Nat->Ko->Prop} (q:∀ p',Pm n p'->Up c p' n->Q p' s):∀ (f:Nat) (p:Kz Nat) (k:Nat),Pm n p->Up c p k->k+f=n->(kas_bin f p k).kasWp cmp Q s
 | 0,p,k,h,u,e=>q p h (by rw [<- e]; exact u)
 | f+1,p,k,h,u,e=>by
  show KasT.kasWp cmp ((kas_place p k k 0 k).bind λl=>kas_bin f (bubble p k (k - l)) (k+1)) Q s
  rw [KasT.kasWp_bind];refine pf o h an (by omega) u k 0 k (Kd _) (JE _) (by omega) (λi hi=>by omega) (λi h1 h2=>by omega) λl lk a b=>?_
  refine yg o an q f _ (k+1) h.bub (λi j ij jk=>?_) (by omega)
  rw [yZ h (by omega) lk,yZ h (by omega) lk]
  by_cases i1:i=l
  ·rw [if_pos i1,if_neg (by omega),if_pos (by omega)]
   exact b _ (by omega) (by omega)
  ·rw [if_neg i1]
   by_cases i2:l < i/\i<=k
   ·rw [if_pos i2,if_neg (by omega),if_pos (by omega)]
    exact u _ _ (by omega) (by omega)
   ·rw [if_neg i2]
    by_cases j1:j=l
    ·rw [if_pos j1];exact a i (by omega)
    ·rw [if_neg j1]
     by_cases j2:l < j/\j<=k
     ·rw [if_pos j2];exact u _ _ (by omega) (by omega)
     ·rw [if_neg j2];exact u _ _ ij (by omega)
theorem Bo (o:Od n c) (an:CA n c cmp s) {Q:Kz Nat->Ko->Prop} (n1:1<=n) (q:∀ p',Pm n p'->Up c p' n->Q p' s):(kas_sort n).kasWp cmp Q s:=by
 have h:Pm n (List.toArray (List.range n)):=⟨by simp,by simp⟩
 unfold kas_sort;rw [KasT.kasWp_bind];refine Aq o h an n1 λm p' h' m1 mn u=>?_
 show KasT.kasWp cmp (if m < n then kas_bin (n - max m 1) p' (max m 1) else KasT.ret p') Q s
 by_cases x:m < n
 ·rw [if_pos x,show max m 1=m by omega]
  exact yg o an q (n - m) p' m h' u (by omega)
 ·rw [if_neg x];have:m=n:=by omega
  exact q p' h' (by rw [<- this]; exact u)
end
theorem xz (a:Kr):Builtin.«list.sort» ⟨[.ref a],[]⟩=Builtin.«list.sort» ⟨[.ref a],[(Str.ofString "reverse",.bool false)]⟩:=by
 rw [list_sort_plain,list_sort_rev]
 rfl
def lx (x y:Int×Int):KA:=decide (x.1 < y.1) || (decide (x.1=y.1) && decide (x.2 < y.2))
theorem lx_iff {x y:Int×Int}:lx x y=true↔x.1 < y.1\/(x.1=y.1/\x.2 < y.2):=by
 unfold lx;rw [Bool.or_eq_true,J6,Kj,Kj,Kj]
def lH (h:Kx) (v:Kq) (k:Int×Int):Prop:=∃ b o t u m,v=.ref b/\h.get? b=some o/\o.cls=.type "tuple"/\o.data=.seq #[.int k.1 t,.int k.2 u] m
abbrev kf (h:Kx):List Kq->List (Int×Int)->Prop:=Paired (lH h)
section
variable {prog:Ku} {w:Kw} {A:Kv} {E:Kq->Ko->Prop} {s:Ko}
theorem Co {v v':Kq} {k k':Int×Int} {Q:KA->Ko->Prop} (h1:lH s.heap v k) (h2:lH s.heap v' k') (q:Q (lx k k') s):wpAny (model prog w) A (keyLt' (tuples' true) v v') Q E s:=by
 obtain⟨b,o,t,u,m,rfl,e1,c1,d1⟩:=h1;obtain⟨b',o',t',u',m',rfl,e2,c2,d2⟩:=h2;refine kat_lt e1 d1 e2 d2 (kat_cons (wpAny_eqBool_int (kat_go (λx=>?_) λx=>?_)))
 ·have x1:k.1=k'.1:=by simpa using x
  refine kat_yes (kat_cons (wpAny_eqBool_int (kat_go (λy=>?_) λy=>?_)))
  ·have y1:k.2=k'.2:=by simpa using y
   refine kat_yes (kat_nil ?_);have e:lx k k'=false:=by
    rw [Bool.eq_false_iff,ne_eq,lx_iff];omega
   rw [e] at q;exact q
  ·have y1:k.2≠k'.2:=by simpa using y
   refine kat_no ?_
   show wpAny _ _ (oneLt' false _ _) _ _ _
   refine kat_one _ _ (lt_int ?_)
   show Q _ s
   have e:lx k k'=decide (k.2 < k'.2):=by
    rw [Bool.eq_iff_iff,lx_iff,Kj];omega
   rw [<- e];exact q
 ·have x1:k.1≠k'.1:=by simpa using x
  refine kat_no ?_
  show wpAny _ _ (oneLt' true _ _) _ _ _
  refine oneLt_int ?_;have e:lx k k'=decide (k.1 < k'.1):=by
   rw [Bool.eq_iff_iff,lx_iff,Kj];omega
  rw [<- e];exact q
theorem kf.firsts {h:Kx}:∀ {vs:List Kq} {ks:List (Int×Int)},kf h vs ks->∃ fs:List Kq,KatTups h vs fs/\fs.length=vs.length/\∀ v∈fs,∃ i t,v=.int i t
 | _,_,.nil=>⟨[],KatTups.nil,rfl,λ_ h=>nomatch h⟩
 | _,_,.cons r t=>by
  obtain⟨b,o,t1,u,m,rfl,e,c,d⟩:=r;obtain⟨fs,a1,a2,a3⟩:=kf.firsts t;refine⟨_::fs,KatTups.cons e c d rfl a1,by rw [JQ,JQ,a2],λv hv=>?_⟩
  rcases JJ.mp hv with rfl | hv
  ·exact⟨_,_,rfl⟩
  ·exact a3 v hv
theorem pF {vs:List Kq} {ks:List (Int×Int)} {Q:SortKind->Ko->Prop} (t:kf s.heap vs ks) (h:0 < vs.length) (q:Q (tuples' true) s):wpAny (model prog w) A (keyKind' vs.toArray) Q E s:=by
 obtain⟨fs,a1,a2,a3⟩:=t.firsts;refine kat_kind (T:=.type "int") a1 (by omega) (λv hv=>?_) rfl q
 obtain⟨i,t,rfl⟩:=a3 v hv;exact Looks.of_pure rfl
theorem kf.at {h:Kx} {vs:List Kq} {ks:List (Int×Int)} (t:kf h vs ks) {i:Nat} (hi:i < vs.length):lH h (vs.getD i .none) (ks.getD i (0,0)):=by
 induction t generalizing i with
 | nil=>simp at hi
 | cons r t ih=>
  cases i with
  | zero=>exact r
  | succ i=>exact ih (by simpa using hi)
theorem GO {ks:List (Int×Int)} (nd:ks.Nodup):Od ks.length λi j=>lx (ks.getD i (0,0)) (ks.getD j (0,0)) where
 tr i j k hi hj hk a b:=by
  rw [lx_iff] at*
  omega
 asy i j hi hj a:=by
  rw [Bool.eq_false_iff,ne_eq];rw [lx_iff] at*
  omega
 tot i j hi hj ij a:=by
  rw [Bool.eq_false_iff,ne_eq] at a;rw [lx_iff] at*
  have ne:ks.getD i (0,0)≠ks.getD j (0,0):=λe=>by
   rw [List.getD_eq_getElem?_getD,List.getD_eq_getElem?_getD,JY hi,JY hj] at e;exact ij ((List.getElem_inj nd).mp e)
  by_cases z:(ks.getD i (0,0)).1=(ks.getD j (0,0)).1
  ·have:(ks.getD i (0,0)).2≠(ks.getD j (0,0)).2:=λy=>ne (Prod.ext z y)
   omega
  ·omega
theorem kf.pick {h:Kx} {vs:List Kq} {ks:List (Int×Int)} (t:kf h vs ks):∀ (l:List Nat),(∀ i∈l,i < vs.length)->kf h (l.map λi=>vs.getD i .none) (l.map λi=>ks.getD i (0,0))
 | [],_=>.nil
 | i::l,hl=>.cons (t.at (hl i JL)) (t.pick l λj hj=>hl j (JM _ hj))
theorem vM {α:Type} (d:α) (ks:List α):(List.range ks.length).map (λi=>ks.getD i d)=ks:=by
 apply List.ext_getElem?;intro i;rw [J0]
 by_cases h:i < ks.length
 ·rw [List.getElem?_range h,JY h];simp [h]
 ·rw [List.getElem?_eq_none (by simpa using h),List.getElem?_eq_none (by omega)]
  rfl
theorem xL {vs:List Kq} {ks:List (Int×Int)} {Q:SortSt->Ko->Prop} (t:kf s.heap vs ks) (nd:ks.Nodup) (h2:2<=vs.length) (h64:vs.length < 64)
  (q:∀ st' out ks',(arrOf st').map (·.2)=List.toArray out->failedOf st'=none->kf s.heap out ks'->ks'.Perm ks->ks'.Pairwise (λa b=>lx a b=true)->out.length=vs.length->(∀ v∈out,v∈vs)->Q st' s):
  wpAny (model prog w) A ((sortRuns').run (SortSt.mk' (tuples' true) (vs.toArray.zip vs.toArray) #[] 7 none)) (λr s'=>Q r.2 s') E s:=by
 have hl:ks.length=vs.length:=t.length.symm;refine kat_run (G:=λp s'=>s'=s/\Pm vs.length p/\Up (λi j=>lx (ks.getD i (0,0)) (ks.getD j (0,0))) p vs.length) rfl h2 h64 (λp st' s' hs har hf ⟨e,pm,up⟩=>?_) (Bo (n:=vs.length) (c:=λi j=>lx (ks.getD i (0,0)) (ks.getD j (0,0))) (by rw [<- hl]; exact GO nd) (λi j C hi hj hC=>?_) (by omega) λp' a b=>⟨rfl,a,b⟩)
 ·subst e;have lt:∀ i∈p.toList,i < vs.length:=λi hi=>List.mem_range.mp (pm.pm.mem_iff.mp hi)
  refine q st' (p.toList.map λi=>vs.getD i .none) (p.toList.map λi=>ks.getD i (0,0)) (kat_snds rfl har) hf (t.pick _ lt) ?_ ?_ (by rw [JG,Kk,hs]) (λv hv=>?_)
  ·have e:=(pm.pm.map λi=>ks.getD i (0,0))
   rw [<- hl,vM] at e;exact e
  ·rw [List.pairwise_map];rw [List.pairwise_iff_getElem];intro i j hi hj ij;have hi':i < p.size:=by simpa using hi
   have hj':j < p.size:=by simpa using hj
   have:=up i j ij (by rw [<- hs]; exact hj')
   have e1:=t8 hi';have e2:=t8 hj';rw [getElem?_pos p i hi'] at e1;rw [getElem?_pos p j hj'] at e2;rw [Array.getElem_toList,Array.getElem_toList,J1 e1,J1 e2];exact this
  ·obtain⟨i,hi,rfl⟩:=JF.mp hv;have:=lt i hi;rw [List.getD_eq_getElem?_getD,JY this];exact List.getElem_mem this
 ·exact Co (t.at hi) (t.at hj) hC
end
theorem kf.mono {h h':Kx} (k:∀ b o,o.cls=.type "tuple"->h.get? b=some o->h'.get? b=some o) {vs:List Kq} {ks:List (Int×Int)} (t:kf h vs ks):kf h' vs ks:=L2.Paired.mapP t λv x ⟨b,o,t,u,m,e,g,c,d⟩=>⟨b,o,t,u,m,e,k b o c g,c,d⟩
theorem kf.rev {h:Kx}:∀ {vs:List Kq} {ks:List (Int×Int)},kf h vs ks->kf h vs.reverse ks.reverse:=by
 have app:∀ {vs us:List Kq} {ks js:List (Int×Int)},kf h vs ks->kf h us js->kf h (vs++us) (ks++js):=λa b=>by
  induction a with
  | nil=>exact b
  | cons r t ih=>exact .cons r ih
 intro vs ks t
 induction t with
 | nil=>exact .nil
 | cons r t ih=>
  rw [List.reverse_cons,List.reverse_cons];exact app ih (.cons r .nil)
def AU (b:KA) (ks:List (Int×Int)):Prop:=if b=true then ks.Pairwise (λx y=>lx y x=true) else ks.Pairwise (λx y=>lx x y=true)
def way (b:KA) {α:Type} (l:List α):List α:=if b=true then l.reverse else l
theorem BA (b:KA) (vs:List Kq):(if b=true then(vs.toArray.zip vs.toArray).reverse else vs.toArray.zip vs.toArray)=(way b vs).toArray.zip (way b vs).toArray:=by
 cases b
 ·rfl
 ·have e:∀ l:List Kq,(l.zip l).reverse=l.reverse.zip l.reverse:=λl=>by
   have z:∀ l:List Kq,l.zip l=l.map λx=>(x,x):=λl=>by
    induction l with
    | nil=>rfl
    | cons x r ih=>rw [List.zip_cons_cons,ih]; rfl
   rw [z,z,List.map_reverse]
  show(vs.toArray.zip vs.toArray).reverse=vs.reverse.toArray.zip vs.reverse.toArray
  rw [List.zip_toArray,List.zip_toArray,List.reverse_toArray,e]
theorem rS {h:Kx} {b:KA} {vs:List Kq} {ks:List (Int×Int)} (t:kf h vs ks):kf h (way b vs) (way b ks):=by cases b; exact t; exact t.rev
theorem ke {α:Type} (b:KA) (l:List α):(way b l).length=l.length:=by cases b; rfl; exact List.length_reverse
theorem eI {α:Type} (b:KA) (l:List α):(way b l).Perm l:=by cases b; exact List.Perm.refl _; exact List.reverse_perm l
theorem Cg {b:KA} {ks:List (Int×Int)} (h:ks.Pairwise (λx y=>lx x y=true)):AU b (way b ks):=by
 cases b
 ·exact h
 ·show(ks.reverse).Pairwise _
  rw [List.pairwise_reverse];exact h
theorem wv (b:KA) (out:List Kq):(if b=true then(List.toArray out).reverse else List.toArray out)=List.toArray (way b out):=by
 cases b
 ·rfl
 ·exact List.reverse_toArray
section
variable {prog:Ku} {w:Kw} {A:Kv} {E:Kq->Ko->Prop} {s:Ko}
theorem xm {a:Kr} {vs:List Kq} {ks:List (Int×Int)} {n:Nat} {b:KA} {P:PySem.Fin->Ko->Prop} (ho:s.heap.get? a=some (seqObj "list" vs.toArray n)) (t:kf s.heap vs ks) (nd:ks.Nodup) (h64:vs.length < 64)
  (h:∀ out ks',kf s.heap out ks'->ks'.Perm ks->AU b ks'->(∀ v∈out,v∈vs)->P (.done (.ret .none)) {s with heap:=sortedHeap s.heap a vs out.toArray}):
  wpAny (model prog w) A (Builtin.«list.sort» ⟨[.ref a],[(Str.ofString "reverse",.bool b)]⟩) P E s:=by
 have la:a < s.heap.objs.size:=JD ho;have small:vs.length<=sizeLine:=by rw [sizeLine_eq]; omega
 have sb:=Heap.SameBut.update s.heap a (Obj.mapSeq λ_=>(#[]:Kz Kq))
 obtain⟨ep,g1⟩:∃ ep,(s.heap.update a (Obj.mapSeq λ_=>(#[]:Kz Kq))).get? a=some (seqObj "list" #[] ep):=⟨_,get?_update_seq ho λ_=>#[]⟩
 have t6:kf (((s.heap.update a (Obj.mapSeq λ_=>(#[]:Kz Kq))).push (seqObj "tuple" vs.toArray 0)).push (seqObj "list" #[] 0)) vs ks:=t.mono λc o hc g=>by
  have ne:c≠a:=λe=>by
   rw [e,ho] at g;cases g;exact absurd hc (by simp)
  exact pp _ (pp _ ((sb.2 c ne).trans g))
 have g6:(((s.heap.update a (Obj.mapSeq λ_=>(#[]:Kz Kq))).push (seqObj "tuple" vs.toArray 0)).push (seqObj "list" #[] 0)).get? a=some (seqObj "list" #[] ep):=pp _ (pp _ g1)
 have back:∀ {out:List Kq} {ks':List (Int×Int)},kf (((s.heap.update a (Obj.mapSeq λ_=>(#[]:Kz Kq))).push (seqObj "tuple" vs.toArray 0)).push (seqObj "list" #[] 0)) out ks'->(∀ v∈out,v∈vs)->kf s.heap out ks':=λ{out ks'} q sub=>by
  induction q with
  | nil=>exact .nil
  | cons r q ih=>
   rename_i v k l1 l2
   refine .cons ?_ (ih λv hv=>sub v (JM _ hv))
   obtain⟨c,o,t1,u1,m1,rfl,e1,c1,d1⟩:=r;have hm:=sub _ JL;have old:∃ o',s.heap.get? c=some o'/\o'.cls=.type "tuple":=by
    clear sub ih q h nd h64 small sb g1 t6 g6 e1 c1 d1 ho la
    induction t with
    | nil=>cases hm
    | cons r t ih=>
     rcases JJ.mp hm with e | e
     ·obtain⟨c',o',_,_,_,e',g',c2,_⟩:=r;cases e.trans e';exact⟨o',g',c2⟩
     ·exact ih e
   obtain⟨o',g',c'⟩:=old;have ne:c≠a:=λe=>by
    rw [e,ho] at g';cases g';exact absurd c' (by simp)
   have:=pp (seqObj "list" #[] 0) (pp (seqObj "tuple" vs.toArray 0) ((sb.2 c ne).trans g'))
   rw [this] at e1;cases e1;exact⟨c,o,t1,u1,m1,rfl,g',c1,d1⟩
 rw [list_sort_rev];refine gt (listItems_at ho rfl (gt (listUpdate_at ho rfl (gt (seqEpoch_at g1 rfl (gt (wpAny_newTuple (gt (wpAny_newList (JX ?_) (Kd _))) small)))) (by rw [JI]; exact small) (Kd _))))
 show wpAny (model prog w) A _ P E {s with heap:=((s.heap.update a (Obj.mapSeq λ_=>(#[]:Kz Kq))).push (seqObj "tuple" vs.toArray 0)).push (seqObj "list" #[] 0)}
 dsimp only;have lz:vs.toArray.size=vs.length:=JI;rw [BA b vs];have done:∀ out ks',kf s.heap out ks'->ks'.Perm ks->ks'.Pairwise (λx y=>lx x y=true)->(∀ v∈out,v∈vs)->P (.done (.ret .none)) {s with heap:=sortedHeap s.heap a vs (if b=true then(List.toArray out).reverse else List.toArray out)}:=λout ks' q1 q2 q3 q4=>by
  rw [wv];exact h _ _ (rS q1) ((eI b ks').trans q2) (Cg q3) λv hv=>q4 v ((eI b out).mem_iff.mp hv)
 have few:∀ out:List Kq,out.length=vs.length->(if b=true then(List.toArray out).reverse else List.toArray out).size<=sizeLine+1:=λout e=>by
  rw [wv,JI,ke,e];omega
 by_cases h2:vs.length < 2
 ·have h2':vs.toArray.size < 2:=by rw [lz]; exact h2
  simp only [if_pos h2'];have z:((way b vs).toArray.zip (way b vs).toArray).map (·.2)=List.toArray (way b vs):=by
   simp only [List.zip_toArray,List.map_toArray]
   congr 1
   exact List.map_snd_zip (JE _)
  have fin:=done (way b vs) (way b ks) (rS t) (eI b ks) (by
   have l2:(way b ks).length < 2:=by rw [ke,<- t.length]; exact h2
   match way b ks,l2 with
   | [],_=>exact List.Pairwise.nil
   | [x],_=>exact List.pairwise_singleton _ _
   | _::_::_,l2=>exact absurd l2 (by simp)) λv hv=>(eI b vs).mem_iff.mp hv
  have fw:=few (way b vs) (ke b vs);rw [<- z] at fin fw
  cases b
  ·refine gt (JB ?_);rw [StateT.run_pure];refine gt (JB (gt (seqEpoch_at g6 rfl (gt (listUpdate_at g6 rfl ?_ (Kd _) fw)))));simp only [bne_self_eq_false,Bool.false_eq_true,if_false];exact JB fin
  ·refine gt (wpAny_rule (gt (JB ?_)));rw [StateT.run_pure];refine gt (JB (gt (seqEpoch_at g6 rfl (gt (listUpdate_at g6 rfl ?_ (Kd _) fw)))));simp only [bne_self_eq_false,Bool.false_eq_true,if_false];exact JB fin
 ·have h2':¬ vs.toArray.size < 2:=by rw [lz]; exact h2
  simp only [if_neg h2'];have nd':(way b ks).Nodup:=(eI b ks).nodup_iff.mpr nd;have w2:2<=(way b vs).length:=by rw [ke]; omega
  have w64:(way b vs).length < 64:=by rw [ke]; exact h64
  have go:=λE'=>xL (prog:=prog) (w:=w) (A:=A) (E:=E') (s:={s with heap:=((s.heap.update a (Obj.mapSeq λ_=>(#[]:Kz Kq))).push (seqObj "tuple" vs.toArray 0)).push (seqObj "list" #[] 0)}) (vs:=way b vs) (ks:=way b ks)
   (Q:=λst' s'=>∃ out ks',(arrOf st').map (·.2)=List.toArray out/\failedOf st'=none/\kf s.heap out ks'/\ks'.Perm ks/\ks'.Pairwise (λx y=>lx x y=true)/\out.length=vs.length/\(∀ v∈out,v∈vs)/\s'={s with heap:=((s.heap.update a (Obj.mapSeq λ_=>(#[]:Kz Kq))).push (seqObj "tuple" vs.toArray 0)).push (seqObj "list" #[] 0)}) (rS t6) nd' w2 w64 (λst' out ks' q1 q2 q3 q4 q5 q6 q7=>⟨out,ks',q1,q2,back q3 (λv hv=>(eI b vs).mem_iff.mp (q7 v hv)),q4.trans (eI b ks),q5,by rw [q6,ke],(λv hv=>(eI b vs).mem_iff.mp (q7 v hv)),rfl⟩)
  cases b
  ·refine gt (pF t6 (by omega) (gt (J4 (go _) ?_ λ_ _ e=>e)))
   rintro⟨⟨⟩,st'⟩ s' ⟨out,ks',q1,q2,q3,q4,q5,q6,q7,rfl⟩;refine gt (seqEpoch_at g6 rfl (gt (listUpdate_at g6 rfl ?_ (Kd _) (by rw [q1]; exact few out q6))))
   rw [q1,q2];simp only [bne_self_eq_false,Bool.false_eq_true,if_false];exact JB (done out ks' q3 q4 q5 q7)
  ·refine gt (wpAny_rule (gt (pF t6 (by omega) (gt (J4 (go _) ?_ λ_ _ e=>e)))))
   rintro⟨⟨⟩,st'⟩ s' ⟨out,ks',q1,q2,q3,q4,q5,q6,q7,rfl⟩;refine gt (seqEpoch_at g6 rfl (gt (listUpdate_at g6 rfl ?_ (Kd _) (by rw [q1]; exact few out q6))))
   rw [q1,q2];simp only [bne_self_eq_false,Bool.false_eq_true,if_false];exact JB (done out ks' q3 q4 q5 q7)
end
end ZS
namespace PySem
theorem uy {prog:Ku} {w:Kw} {A:Kv} {E:Kq->Ko->Prop} {s:Ko} {T:KB} {r d:Kr} {n:Nat} {P:Nat->Kq->Prop} {OK:Kx->Prop} {Q:List Kq->Ko->Prop} (K:PySem.W.KdlSrc prog w T r d n P OK) (hh:A.handled=none) (hok:OK s.heap) (hz:n<=sizeLine)
  (h:∀ h' tk acc,(∀ b o,s.heap.get? b=some o->h'.get? b=some o)->s.heap.objs.size < h'.objs.size->ItemsOf P acc n->Q acc.toList {s with heap:=h',toks:=tk}):wpAny (model prog w) A (collect (.ref r)) Q E s:=by
 obtain⟨l1,l2⟩:=K.there _ hok;unfold collect;have code:∀ {R:Result->Ko->Prop},(∀ h' tk acc c',(∀ b o,s.heap.get? b=some o->h'.get? b=some o)->h'.get? s.heap.objs.size=some {cls:=.type "list",dict:=none,data:=.seq acc c',slots:=#[]}->ItemsOf P acc n->R (.ok (.ret (.ref s.heap.objs.size))) {s with heap:=h',toks:=tk})->codeAny (model prog w) A (.builtin "proto.collect" ⟨[.ref r],[]⟩) R s:=λ{R} hR=>by
  refine J2 F.entry_proto_collect ?_;rw [JV F.plain_proto_collect _];refine gt (JZ (JB ⟨plainId_quiet F.plain_list_iadd _,J2 F.entry_list_iadd ?_⟩));rw [JV F.plain_list_iadd _];have g:(s.heap.push {cls:=.type "list",data:=.seq ([]:List Kq).toArray}).get? s.heap.objs.size=some {cls:=.type "list",data:=.seq #[] 0}:=JC _ rfl
  exact PySem.W.kdl_extend (R:=R) (s:={s with heap:=s.heap.push {cls:=.type "list",data:=.seq ([]:List Kq).toArray}}) K hh (K.keep _ _ hok λb _ o e=>pp _ e) s.heap.objs.size (Nat.ne_of_gt l1) (Nat.ne_of_gt l2) _ 0 g (λh' tk acc c' kk gn itm=>hR h' tk acc c' (λb o e=>kk b o (JK (JD e)) (pp _ e)) gn itm) hz
 refine gt (wpAny_runValue (code λh' tk acc c' kk gn itm=>?_))
 show wpAny _ A (load s.heap.objs.size >>= _) _ _ _
 exact gt (wpAny_load gn (JB (h h' tk acc kk (JD gn) itm)))
end PySem
namespace L2
open PySem PySem.Spec PyProof.Rows ZS
theorem Eo {P:Ku} {w:Kw} {a:Kr} {es:Kz KC} {ep:Nat}:PySem.W.KdlSrc P w "dict" a a es.size (λi v=>∃ e,es[i]?=some e/\v=sW.of e .k) (λh=>(a == sysModules)=false/\h.get? a=some (DL.p5 es ep)) where
 type:=λs ok=>⟨_,ok.2,rfl⟩
 there:=λh ok=>⟨JD ok.2,JD ok.2⟩
 keep:=λh h' ok k=>⟨ok.1,k a (.inl rfl) _ ok.2⟩
 notList:=by decide
 notTuple:=by decide
 hint:=λA E s Q ok q=>PySem.W.kdl_hint_dict ⟨_,ok.2,rfl⟩ q
 iter:=λA s hh ok=>⟨wI "dict_keyiterator" a 0 es.size ep,_,λE Q q=>qV ok.1 ok.2 q,walks_dx .k hh s.heap.objs.size a (JK (JD ok.2)) es ep,⟨JC _ rfl,pp _ ok.2⟩⟩
section
variable {prog:Ku} {w:Kw} {A:Kv} {E:Kq->Ko->Prop} {s:Ko}
theorem tS {a:Kr} {ys:List (List Int×Kr×Kq)} {ks:List (Int×Int)} {ep:Nat} {b kw:KA} {Q:Kq->Ko->Prop} (hk:kw=false->b=false) (hh:A.handled=none) (h0:(a == sysModules)=false) (g:s.heap.get? a=some (DL.p5 (ys.map DL.eT).toArray ep)) (t:kf s.heap (ys.map λy=>.ref y.2.1) ks) (nd:ks.Nodup) (h64:ys.length < 64)
  (q:∀ h' tk l out ks' e,s.heap.objs.size<=l->(∀ c o,s.heap.get? c=some o->h'.get? c=some o)->h'.get? l=some (seqObj "list" (List.toArray out) e)->kf s.heap out ks'->ks'.Perm ks->AU b ks'->(∀ v∈out,v∈ys.map λy=>Value.ref y.2.1)->Q (.ref l) {s with heap:=h',toks:=tk}):
  wpAny (model prog w) A (call (.builtin "sorted") [.ref a] (if kw=true then [(Str.ofString "reverse",.bool b)] else [])) Q E s:=by
 have sz:(ys.map DL.eT).toArray.size=ys.length:=by simp
 have small:ys.length<=sizeLine:=by rw [sizeLine_eq]; omega
 have coll:∀ {R:List Kq->Ko->Prop},(∀ h' tk,(∀ c o,s.heap.get? c=some o->h'.get? c=some o)->s.heap.objs.size < h'.objs.size->R (ys.map λy=>.ref y.2.1) {s with heap:=h',toks:=tk})->wpAny (model prog w) A.in1 (collect (.ref a)) R E s:=λ{R} hR=>by
  refine uy (Eo (a:=a) (es:=(ys.map DL.eT).toArray) (ep:=ep)) hh ⟨h0,g⟩ (by rw [sz]; exact small) λh' tk acc kk l1 itm=>?_
  have ev:acc.toList=ys.map λy=>Value.ref y.2.1:=by
   obtain⟨l1,l2⟩:=itm;apply List.ext_getElem?;intro i;rw [Array.getElem?_toList,J0];cases q1:acc[i]? with
   | none=>
    have:acc.size<=i:=by simpa using q1
    rw [l1,sz] at this;rw [List.getElem?_eq_none this]
    rfl
   | some v=>
    obtain⟨e,he,rfl⟩:=l2 i v q1;simp only [List.getElem?_toArray,J0] at he;obtain⟨y,hy,rfl⟩:=Option.map_eq_some_iff.mp he;rw [hy]
    rfl
  rw [ev];exact hR h' tk kk l1
 have go:∀ (h1:Kx) (tk:Nat) (kk:∀ c o,s.heap.get? c=some o->h1.get? c=some o) (l1:s.heap.objs.size < h1.objs.size) {P:PySem.Fin->Ko->Prop},(∀ (h':Kx) (l:Kr) (out:List Kq) (ks':List (Int×Int)) (e:Nat),s.heap.objs.size<=l->l=h1.objs.size->(∀ c o,s.heap.get? c=some o->h'.get? c=some o)->h'.get? l=some (seqObj "list" (List.toArray out) e)->kf s.heap out ks'->ks'.Perm ks->AU b ks'->(∀ v∈out,v∈ys.map λy=>Value.ref y.2.1)->P (.done (.ret .none)) {s with heap:=h',toks:=tk})->
   wpAny (model prog w) A.in1.in1 (Builtin.«list.sort» ⟨[.ref h1.objs.size],[(Str.ofString "reverse",.bool b)]⟩) P E {s with heap:=h1.push (seqObj "list" (ys.map λy=>Value.ref y.2.1).toArray 0),toks:=tk}:=λh1 tk kk l1 {P} hP=>by
  have gl:(h1.push (seqObj "list" (ys.map λy=>Value.ref y.2.1).toArray 0)).get? h1.objs.size=some (seqObj "list" (ys.map λy=>Value.ref y.2.1).toArray 0):=JC _ rfl
  have kp:∀ c o,s.heap.get? c=some o->(h1.push (seqObj "list" (ys.map λy=>Value.ref y.2.1).toArray 0)).get? c=some o:=λc o e=>pp _ (kk c o e)
  refine xm (s:={s with heap:=h1.push (seqObj "list" (ys.map λy=>Value.ref y.2.1).toArray 0),toks:=tk}) gl (t.mono λc o _ e=>kp c o e) nd (by rw [JG]; exact h64) λout ks' t' p' o' sub=>?_
  obtain⟨e',g'⟩:=sortedHeap_at (out:=List.toArray out) gl;refine hP _ _ out ks' e' (Nat.le_of_lt l1) rfl (λc o e=>?_) g' ?_ p' o' sub
  ·have lc:=JD (kk c o e);rw [sortedHeap_old (JK lc) (by rw [size_push']; exact Nat.lt_succ_of_lt lc)]
   exact kp c o e
  ·clear p' o' g' hP
   induction t' with
   | nil=>exact .nil
   | cons r t' ih=>
    refine .cons ?_ (ih λv hv=>sub v (JM _ hv))
    obtain⟨c,o,t1,u1,m1,rfl,e1,c1,d1⟩:=r;have hm:=sub _ JL;have old:∃ o',s.heap.get? c=some o':=by
     clear coll ih sub;generalize (ys.map λy=>Value.ref y.2.1)=vs at t hm
     clear e1 gl kp nd q
     induction t with
     | nil=>cases hm
     | cons r t ih=>
      rcases JJ.mp hm with e | e
      ·obtain⟨c',o',_,_,_,e',g',_⟩:=r;cases e.trans e';exact⟨o',g'⟩
      ·exact ih e
    obtain⟨o',g'⟩:=old;have:=kp c o' g';rw [show (h1.push (seqObj "list" (ys.map λy=>Value.ref y.2.1).toArray 0)).get? c=some o from e1] at this
    cases this;exact⟨c,o,t1,u1,m1,rfl,g',c1,d1⟩
 cases kw with
 | false=>
  have:=hk rfl;subst this;refine Calls.call_function_entry kind_sorted plain_sorted entry_sorted (args_sorted1 _) ?_;unfold Builtin.«sorted»;refine gt (m:=checkCount "sorted" 1 1 _) (JB (gt (coll λh1 tk kk l1=>gt (wpAny_newList (gt (JX (wpAny_call_entry slot_list_sort ⟨_,JC _ rfl,rfl⟩ entry_list_sort ?_ (args_list_sort _)))) (by rw [JG]; exact small)))))
  show wpAny _ _ (Builtin.«list.sort» ⟨[.ref h1.objs.size],[]⟩) _ _ _
  rw [xz];exact go h1 tk kk l1 λh' l out ks' e l1 l2 k2 g2 t2 p2 o2 s2=>⟨_,rfl,JB ⟨_,rfl,by subst l2; exact q h' tk _ out ks' e l1 k2 g2 t2 p2 o2 s2⟩⟩
 | true=>
  refine call_function_entry_kw kind_sorted plain_sorted entry_sorted (args_sorted_rev _ _) ?_;unfold Builtin.«sorted»;refine gt (m:=checkCount "sorted" 1 1 _) (JB (gt (coll λh1 tk kk l1=>gt (wpAny_newList (gt (JX (wpAny_call_entry_kw slot_list_sort ⟨_,JC _ rfl,rfl⟩ entry_list_sort ?_ (args_list_sort_rev _ _)))) (by rw [JG]; exact small)))))
  exact go h1 tk kk l1 λh' l out ks' e l1 l2 k2 g2 t2 p2 o2 s2=>⟨_,rfl,JB ⟨_,rfl,by subst l2; exact q h' tk _ out ks' e l1 k2 g2 t2 p2 o2 s2⟩⟩
end
end L2
namespace DL
open PySem PySem.Spec PyProof.Rows L2 ZS
abbrev yQ (k:Int×Int):D:=.tup [.int k.1,.int k.2]
def pI (b:KA):bE:=λds S k=>match ds with
 | [.ref a]=>∃ kvs ep ks,S a=some (.gen (.dT kvs ep))/\kvs.map (·.1)=ks.map (λk:Int×Int=>[k.1,k.2])/\ks.length < 64/\∀ ks',ks'.Perm ks->AU b ks'->∀ p,S p=none->k (.ref p) (put S p (.lst (ks'.map yQ)))
 | _=>False
section
variable {X:Cx} {KE:List (Kr×KD)} {σ:L2.St} {H:Hp} {s:Ko}
theorem yP (I:aE X KE σ H s):∀ {kvs:List (List Int×D)} {xs:List (List Int×Kr×Kq)} {ks:List (Int×Int)},lM X.K H kvs xs->kvs.map (·.1)=ks.map (λk:Int×Int=>[k.1,k.2])->kf s.heap (xs.map λy=>.ref y.2.1) ks/\xs.map (·.1)=ks.map (λk:Int×Int=>[k.1,k.2])/\∀ v∈xs.map λy=>Value.ref y.2.1,∃ c k,v=.ref c/\lH s.heap v k/\gZ X.K H c [.int k.1,.int k.2]
 | _,_,[],.nil,_=>⟨.nil,rfl,λ_ h=>nomatch h⟩
 | _,_,_::_,.nil,e=>by cases e
 | _,_,[],.cons _ _,e=>by cases e
 | (n::kvs),(x::xs),k::ks,.cons r t,e=>by
  obtain⟨r1,r2,_⟩:=r;rw [JP,JP] at e;injection e with e1 e2
  obtain⟨a1,a2,a3⟩:=yP I t e2;rw [e1] at r2;have r2:gZ X.K H x.2.1 [.int k.1,.int k.2]:=r2;obtain⟨its,rv,⟨o,g,c,m,dd⟩,_⟩:=I.tuple r2;obtain⟨t1,t2,rfl⟩:∃ t1 t2,its=[.int k.1 t1,.int k.2 t2]:=by
   cases rv with
   | cons ra rb=>
    cases rb with
    | cons rb rc=>
     cases rc;obtain⟨t1,rfl⟩:=ra;obtain⟨t2,rfl⟩:=rb;exact⟨t1,t2,rfl⟩
  have pv:lH s.heap (.ref x.2.1) k:=⟨x.2.1,o,t1,t2,m,rfl,g,c,by simpa using dd⟩
  refine⟨.cons pv a1,?_,λv hv=>?_⟩
  ·rw [JP,JP,a2,<- r1,e1]
  ·rcases JJ.mp hv with rfl | hv
   ·exact⟨x.2.1,k,rfl,pv,r2⟩
   ·exact a3 v hv
theorem xK {h:Kx} {v:Kq} {k k':Int×Int} (a:lH h v k) (b:lH h v k'):k=k':=by
 obtain⟨c,o,t,u,m,rfl,g,_,d⟩:=a;obtain⟨c',o',t',u',m',e,g',_,d'⟩:=b;cases e;rw [g] at g';cases g';rw [d] at d';injection d' with d1 d2
 have d1:=congrArg Array.toList d1;simp only [List.cons.injEq,and_true] at d1;obtain⟨x,y⟩:=d1;injection x with x1 x2
 injection y with y1 y2
 exact Prod.ext x1 y1
theorem z6:∀ {out:List Kq} {ks:List (Int×Int)},kf s.heap out ks->(∀ v∈out,∃ c k,v=.ref c/\lH s.heap v k/\gZ X.K H c [.int k.1,.int k.2])->∃ vs:List V,aW vs out/\IsDs X.K H (ks.map yQ) vs
 | _,_,.nil,_=>⟨[],.nil,IsDs.nil⟩
 | _,_,.cons r t,h=>by
  obtain⟨vs,a,b⟩:=z6 t λv hv=>h v (JM _ hv)
  obtain⟨c,k,rfl,p,q⟩:=h _ JL;have e:=xK r p;subst e;exact⟨.ref c::vs,.cons rfl a,IsDs.cons (bw.mpr ⟨c,_,rfl,q,IsDs.cons (isInt.mpr rfl) (IsDs.cons (isInt.mpr rfl) IsDs.nil)⟩) b⟩
theorem t_ {b kw:KA} (hk:kw=false->b=false) (hc:X.calm=true) (I:aE X KE σ H s) {ds:List D} {xs:List V} {us:List Kq} {S:DH} {k:DK} {Q:VK} (i:IsDs X.K H ds xs) (rs:aW xs us) (hS:Hs X.K H S) (r:pI b ds S k) (n:∀ d' S' v H',k d' S'->Kp H H'->Hs X.K H' S'->bB X.K H' d' v->Q v H'):
  wpAny (model X.prog X.w) X.A (call (.builtin "sorted") us (if kw=true then [(Str.ofString "reverse",.bool b)] else [])) (EP X KE σ Q) X.xe s:=by
 unfold pI at r
 split at r
 ·rename_i a
  obtain⟨kvs,ep,ks,z,ek,h64,w⟩:=r;obtain⟨v1,rfl,i1⟩:=cr i;have e1:=aU.mp i1;subst e1;obtain⟨u,rfl,rfl⟩:=rs.one;obtain⟨ys,e,rk⟩:og X.K H a (.dT kvs ep):=hS a _ z;obtain⟨h0,hz,nd,g⟩:=fN I e;obtain⟨p1,p2,p3⟩:=yP I rk ek;have ndk:ks.Nodup:=by
   rw [p2] at nd;exact(List.pairwise_map.mp nd).imp λne q=>ne (by rw [q])
  have l64:ys.length < 64:=by
   have:=congrArg List.length p2;rw [JG,JG] at this;omega
  refine tS hk (I.ok.hd hc) h0 g p1 ndk l64 λh' tk l out ks' e' hl kk gl t' pm od sub=>?_
  obtain⟨vs,rv,iv⟩:=z6 t' λv hv=>p3 v (sub v hv)
  have hf:H l=none:=I.hok.fresh hl;have small:vs.length<=sizeLine:=by
   have a1:=iv.length;have a2:=pm.length_eq;rw [JG] at a1;rw [sizeLine_eq];omega
  exact⟨.ref l,br H l (.lst vs),I.laid (t':=tk) kk hl ⟨small,out,e',rv,gl⟩,rfl,n _ _ _ _ (w ks' pm od l (hS.free hf)) (Kp.new hf) (hS.newL hf iv) (aU.mpr rfl)⟩
 ·exact r.elim
theorem BY (hc:X.calm=true):bW X (.builtin "sorted") (nX X.K (pI false)):=by
 intro KE s σ H xs us Q I rs h;obtain⟨ds,S,k,i,hS,r,n⟩:=h;exact t_ (b:=false) (kw:=false) (λ_=>rfl) hc I i rs hS r n
def DU (t:DA):DE:=λL S k=>t L S λds S1=>pI true ds S1 k
theorem zX {x:Str} {p pos kp:Pos} {e ed:Kt} {t:DA} (hg:Gl X x) (hm:X.mg x=none) (hv:bootBuiltins x=some (.builtin "sorted")) (ha:AJ X [e] t) (hd:EJ X ed (dC (.bl true))) (hc:X.calm=true:=by rfl) (hn:x≠"__name__":=by decide) (hdb:(x == ("__debug__":Str))=false:=by decide)
  (he:backTo pos (starEach [e] X.env)=(false,eval e X.env)::backTo pos (starEach [] X.env):=by rfl) (hpl:(backTo pos (starEach [e] X.env)).any (·.1)=false:=by rfl):
  EJ X (.Call (.Name x p) [e] [⟨some "reverse",ed,kp⟩] pos) (DU t):=
 ⟨PE.imp (pe_callKB (r:=λxs d H Q=>d=.bl true/\nX X.K (pI true) xs H Q) (λKE s σ H xs us d u Q I r1 r2 h=>by
   obtain⟨rfl,ds,S,k,i,hS,r,n⟩:=h;cases (show u=Value.bool true from r2)
   exact t_ (b:=true) (kw:=true) (λz=>by cases z) hc I i r1 hS r n) hg hm hv ha.h hd.h hn hdb he hpl) fun σ H Q ⟨L,S,k,hL,hS,h,n⟩=>q9.go hL hS h λds S1 vs H1 h1 k1 hL1 hS1 i1=>⟨L,S1,λd S2=>d=.bl true/\S2=S1,hL1,hS1,⟨rfl,rfl⟩,λd S2 v H2 ⟨e1,e2⟩ k2 hS2 i2=>by
  subst e1 e2;exact⟨aT.mp i2,ds,S2,k,i1.kp k2,hS2,h1,λd' S' v H' q k3 z1 z2=>n d' S' v H' q (k1.trans (k2.trans k3)) z1 z2⟩⟩⟩
end
end DL
namespace L2
open PySem PySem.Spec PyProof.Rows
theorem uo (l:Kr) (xs:Kz Kq) (n:Nat) (dct:Ks Kr) (sl:Kz (Ks Kq)) (t:Tok):
  Meets (Builtin.«enumerate.__new__» ⟨[.type "enumerate",.ref l],[("start",.int 1 t)]⟩) (λ_ R s=>s.heap.get? l=some ⟨.type "list",dct,.seq xs n,sl⟩/\
   R (.ok (.ret (.ref (A1 s.heap "list_iterator" l).objs.size))) {s with heap:=(A1 s.heap "list_iterator" l).push {cls:=.type "enumerate",data:=.fields #[.none,.bool false,.ref s.heap.objs.size,rawInt 1,.none,.none]}}):=
 .of_wp λprog w A R s h=>by
  obtain⟨hp,g,d,tk,os⟩:=s;obtain⟨hl,h⟩:=h;have hsub:=sub_enumerate;have hT:Heap.IsList (Shared.heap ⟨hp,g,d,tk,os⟩) l xs:=⟨_,hl,rfl,n,rfl⟩
  wp_walk using AutoSeq1.wpAny_loadPart' hl
  refine wpAny_stack_any λ_=>JB ?_
  split
  ·rename_i c _ _ _ _ _
   cases (c == Value.type "enumerate") <;> (wp_walk using AutoSeq1.wpAny_loadPart' hl,wpAny_pyIter_list hT; exact⟨_,rfl,h⟩)
  ·wp_walk using AutoSeq1.wpAny_loadPart' hl,wpAny_pyIter_list hT
   exact⟨_,rfl,h⟩
theorem zI (self l v:Kq) (hk:List (Str×Kq)) (T:KB) (hl:typeLookup (.type T) "__init__"=pure (some (.builtin "object.__init__"))) {newId:KB} (hm:Bind.madeBy (.type T)=pure (some newId)) (hne:(some newId != some "object.__new__")=true):
  Meets (Builtin.«object.__init__» ⟨[self,l],[("start",v)]⟩) (λ_ R s=>s.TypeIs self T/\R (.ok (.ret .none)) s):=by
 refine Meets.of_wp λprog w A R s hs=>?_
 obtain⟨hT,hq⟩:=hs
 repeat (any_goals (first | assumption | wp_step))
 exact⟨_,rfl,hq⟩
section
variable {prog:Ku} {w:Kw} {A:Kv} {E:Kq->Ko->Prop} {s:Ko}
theorem tG (self l v:Kq):argsOk "object.__init__" ⟨[self,l],[("start",v)]⟩:=by unfold argsOk; kernel_rfl
theorem va {l:Kr} {xs:Kz Kq} {n:Nat} {dct:Ks Kr} {sl:Kz (Ks Kq)} {t:Tok} {Q:Kq->Ko->Prop} (hL:s.heap.get? l=some ⟨.type "list",dct,.seq xs n,sl⟩)
  (h:∀ h',IsEnum h' (s.heap.objs.size+1) s.heap.objs.size 1 .none->h'.IsListIter s.heap.objs.size l 0->(∀ c o,s.heap.get? c=some o->h'.get? c=some o)->Q (.ref (s.heap.objs.size+1)) {s with heap:=h'}):
  wpAny (model prog w) A (call (.type "enumerate") [.ref l] [("start",.int 1 t)]) Q E s:=by
 have ft:=F.called_enumerate;obtain⟨c,tl,hmro⟩:=ft.mro;have hmade:=ft.made;have hsub:=ft.sub;have h1:=ft.notType;have h2:=ft.canCreate;have hct:checkTypeCall "enumerate" ⟨[.ref l],[("start",.int 1 t)]⟩=pure ():=by kernel_rfl
 have hcn:checkBuiltinCall "enumerate.__new__" ⟨[.type "enumerate",.ref l],[("start",.int 1 t)]⟩=pure ():=by kernel_rfl
 refine wpAny_call (codeAny_of_tree ?_)
 show wpAny _ _ (callAny (.type "enumerate") _) _ _ _
 refine JB ⟨Code.quiet_builtin _ (by decide +kernel),J2 F.entry_type_call ?_⟩
 rw [Around.under_plain (weight_type_call_type "enumerate" [.ref l] [("start",.int 1 t)]) (units_type_call_type "enumerate" [.ref l] [("start",.int 1 t)])]
 repeat (any_goals (first | assumption | wp_step))
 have z1:(A1 s.heap "list_iterator" l).objs.size=s.heap.objs.size+1:=Kf ..
 have g5:=JC (A1 s.heap "list_iterator" l) (o:={cls:=.type "enumerate",data:=.fields #[.none,.bool false,.ref s.heap.objs.size,rawInt 1,.none,.none]}) rfl
 have fin:wants (λobj s₁=>s₁.TypeIs obj "enumerate"/\Q obj s₁) E (.ok (.ret (.ref (A1 s.heap "list_iterator" l).objs.size))) {s with heap:=(A1 s.heap "list_iterator" l).push {cls:=.type "enumerate",data:=.fields #[.none,.bool false,.ref s.heap.objs.size,rawInt 1,.none,.none]}}:=by
  show _/\_
  rw [z1] at g5 ⊢;exact⟨⟨_,g5,rfl⟩,h _ g5 ⟨_,pp _ (JC _ rfl),rfl,rfl⟩ λc o x=>pp _ (pp _ x)⟩
 refine codeAny_mono (codeAny_call_builtin ft.plain F.entry_enumerate_new (wpAny_of_eq hcn (uo l xs n dct sl t prog w A.in1 _ s ⟨hL,fin⟩))) λr s₁ hr=>?_
 cases r with
 | error e=>exact hr
 | ok fl=>
  cases fl with
  | ret obj=>
   obtain⟨hT,hq⟩:=hr;have hli:=ft.init.lookup;have hbi:=ft.init.bind obj
   repeat (any_goals (first | assumption | wp_step))
   refine codeAny_mono (codeAny_call_builtin ft.init.plain F.entry_object_init (ft.init.check _ _ _ _ _ _ _ _ hT (tG obj _ _) (zI obj (.ref l) (.int 1 t) [] "enumerate" ft.init.lookup ft.made (by decide) prog w A.in1 (wants (λr s₂=>r=.none/\Q obj s₂) E) s₁ ⟨hT,rfl,hq⟩))) λr₂ s₂ hr₂=>?_
   cases r₂ with
   | error e=>exact hr₂
   | ok fl₂=>
    cases fl₂ with
    | ret r=>
     obtain⟨rfl,hq⟩:=hr₂
     repeat (any_goals (first | assumption | wp_step))
    | _=>exact hr₂.elim
  | _=>exact hr.elim
end
theorem zn {P:Ku} {w:Kw} {A:Kv} {it:Kr} {fp:List Kr} {n:Nat} {R:Nat->Kq->Prop} {St:Nat->Kx->Prop} (D:Draws P w A it fp n R St):Draws P w A it fp (n+1) (λj x=>∃ i,j=i+1/\R i x) (λj h=>∃ i,j=i+1/\St i h) where
 live:=λj h ⟨i,_,st⟩=>D.live i h st
 frame:=λj h h' ⟨i,e,st⟩ q=>⟨i,e,D.frame i h h' st q⟩
 item:=λj s Q E hj ⟨i,e,st⟩ hQ=>D.item i s Q E (by omega) st λx h' tk p st' sb=>hQ x h' tk ⟨i,e,p⟩ ⟨i+1,by omega,st'⟩ sb
 done := fun s Q E ⟨i, e, st⟩ hE => D.done s Q E (by have : i = n := by omega
                                                     subst this; exact st) hE
def zE (K:PySem.W.Frag) (b:KA) (a:Kr):It:=
 ⟨λi H => ∃ xs x, wb b K H a xs ∧ xs[i]? = some x,
  λi H v H'=>∃ T x,v=.ref T/\H T=none/\H'=br H T (.tup [.int ((i+1:Nat):Int),x])/\∀ xs,wb b K H a xs->xs[i]?=some x,
  λi H=>∃ xs,wb b K H a xs/\xs.length=i⟩
def Jb (b:KA) (e it a:Kr) (i:Nat) (h:Kx):Prop:=(∃ old,IsEnum h e it ((i+1:Nat):Int) old)/\FL b it a i h
theorem vn {P:Ku} {w:Kw} {K:PySem.W.Frag} {es:List Kt} {k:Nat} {pos:Pos} (b:KA) {e it a:Kr} (h1:e≠it) (h2:e≠a) (h3:it≠a):
  qe P w K (.Tuple es k pos) (zE K b a) [e,it] e (Jb b e it a) where
 mem:=by simp
 obj:=λi h st c hc=>by
  obtain⟨⟨old,he⟩,hi⟩:=st;have hc':c=e\/c=it:=by simpa using hc
  rcases hc' with rfl | rfl
  ·exact⟨_,he,λv q=>by cases q⟩
  ·exact(dD (P:=P) (w:=w) b c a).obj _ _ hi
 keep:=λi h h' st q=>by
  obtain⟨⟨old,he⟩,hi⟩:=st;exact⟨⟨old,q e (by simp) _ he⟩,(dD (P:=P) (w:=w) b it a).at_ _ _ _ hi λo x=>q it (by simp) o x⟩
 item:=by
  intro X hP hw hK hc i KE s σ H E I hf st hg;subst hP hw hK;obtain⟨xs,x,q1,hx⟩:=hg;obtain⟨its,rv,p⟩:=I.sqB q1;obtain⟨u,hu,ru⟩:=rv.get hx;obtain⟨⟨old,he⟩,hi⟩:=st;have hn:H s.heap.objs.size=none:=I.hok.fresh (JE _);have helt:e < s.heap.objs.size:=JD he;have hilt:it < s.heap.objs.size:=by obtain⟨o,z,_⟩:=(dD (P:=X.prog) (w:=X.w) b it a).obj _ _ hi; exact JD z
  have hlt:i < its.toArray.size:=by
   have:=J3.mp hu;obtain⟨z,_⟩:=this
   simpa using z
  refine wpAny_pyNext_enum_itemD (zn (rL b it a its.toArray (show X.A.in1.handled=none from I.ok.hd hc) h3)) he ⟨i,rfl,hi,p⟩ (Nat.succ_lt_succ hlt) h1 (by simp [h1,h2]) λx' h' tk ⟨i',ei,hx'⟩ ho hst hT hsz hk=>?_
  have ei:i=i':=by omega
  subst ei;obtain⟨i2,e2,hst',_⟩:=hst;have e2:i2=i+1:=by omega
  subst e2;have ex:x'=u:=by
   have z:its[i]?=some x':=by simpa using hx'
   rw [hu] at z;exact(J1 z).symm
  subst ex;have I1:aE X KE σ (br H s.heap.objs.size (.tup [.int ((i+1:Nat):Int),x])) {s with heap:=h',toks:=tk+1}:=
   I.turnedNew (t':=tk+1) [e,it] (λc o hb y=>hk c o (λq=>hb (by simp [q])) (λq=>hb (by simp [q])) y) hf (JE _) ⟨JT rfl,[.int ((i+1:Nat):Int) tk,x'],.cons ⟨tk,rfl⟩ (.cons ru .nil),⟨_,hT,rfl,_,rfl⟩⟩
  refine⟨_,rfl,wpAny_letOwnedTupleGo_enum (s:={s with heap:=h',toks:=tk+1}) ho λh2' g1 g2=>?_⟩
  refine⟨.ref s.heap.objs.size,br H s.heap.objs.size (.tup [.int ((i+1:Nat):Int),x]),?_,rfl,⟨_,x,rfl,hn,rfl,λxs' e1=>by rw [I.sqB_inj e1 q1]; exact hx⟩,⟨⟨x',by simpa using g1⟩,?_⟩,λc hb=>?_⟩
  ·refine I1.turnedL (t':=tk+1) [e] (λc o hb y=>g2.extBut _ _ (λq=>hb (by simp [q])) y) λc hb=>?_
   have z:c=e:=by simpa using hb
   subst z;obtain⟨f0,f1,f2,f3,f4,f5⟩:=hf c (by simp)
   exact⟨by rw [aO (JK helt)]; exact f0,f1,f2,f3,f4,f5⟩
  ·exact(dD (P:=X.prog) (w:=X.w) b it a).at_ _ _ _ hst' λo z=>g2.extBut _ _ (Ne.symm h1) z
  ·have hc':c=e\/c=it:=by simpa using hb
   rw [aO (by rcases hc' with rfl | rfl; exact JK helt; exact JK hilt)]
   exact(hf c hb).1
 done:=by
  intro X hP hw hK hc i KE s σ H E I hf st hg;subst hP hw hK;obtain⟨xs,q1,hx⟩:=hg;obtain⟨its,rv,p⟩:=I.sqB q1;obtain⟨⟨old,he⟩,hi⟩:=st;have l1:=rv.length;have ez:i=its.toArray.size:=by simp; omega
  subst ez;refine wpAny_pyNext_enum_endD (zn (rL b it a its.toArray (show X.A.in1.handled=none from I.ok.hd hc) h3)) he ⟨_,rfl,hi,p⟩ λh' kk=>⟨rfl,I.turnedL (t':=s.toks) [it] (λc o hb y=>kk c o (λq=>hb (by simp [q])) y) λc hb=>hf c ?_⟩
  have z:c=it:=by simpa using hb
  subst z;simp
 self:=λ_ _ _ _ _ st h=>by
  obtain⟨⟨old,he⟩,_⟩:=st;exact wpAny_pyIter_enum he h
def DP (K:PySem.W.Frag) (ta:TA) (td:TE):TI:=fun σ H R=>ta σ H λvs H1=>td σ H1 λd H2=>∃ a,d=.int 1/\vs=[.ref a]/\(∃ xs,wb true K H2 a xs)/\R (zE K true a) H2
theorem mK {M:Model} {A:Kv} {E:Kq->Ko->Prop} {s:Ko} {env:Env} {pos:Pos} {T:KB} {e:Kt} {bh:List Kt} {kws:List Keyword} {Q:Kq->Ko->Prop}
  (h:wpAny M A (spliced (backTo pos (starEach (e::bh) env))) (λvs s₁=>wpAny M A (evalAll ((backToKw pos (keywordEach kws env)).map (·.2)))
   (λkvs s₂=>wpAny M A (call (.type T) vs (((backToKw pos (keywordEach kws env)).filterMap (·.1)).zip kvs)) Q E s₂) E s₁) E s)
  (he:backTo pos (starEach (e::bh) env)=(false,eval e env)::backTo pos (starEach bh env):=by rfl)
  (hplain:(backTo pos (starEach (e::bh) env)).any (·.1)=false:=by rfl)
  (hall:(backToKw pos (keywordEach kws env)).all (·.1.isSome)=true:=by rfl)
  (hkw:(backToKw pos (keywordEach kws env)).any (·.1.isNone)=false:=by rfl):
  wpAny M A (callWith pos (.type T) [] (backTo pos (starEach (e::bh) env)) (backToKw pos (keywordEach kws env))) Q E s:=by
 unfold callWith;rw [he] at h hplain ⊢
 refine gt (JX (evalArgs_kwB hall (J4 h (λvs s₁ h₁=>J4 h₁ (λkvs s₂ h₂=>gt (wpAny_standAt ?_)) λ_ _ x=>x) λ_ _ x=>x)))
 simp only [hplain,hkw,Bool.or_false];exact gt (JB (gt (J4 h₂ (λr s₂ hr=>gt (JX (wpAny_point (JB hr)))) λ_ _ x=>x)))
theorem zS {X:Cx} {a ed:Kt} {ta:TA} {td:TE} {p pos tp kp:Pos} {es:List Kt} {k:Nat} (hg:Gl X "enumerate") (hm:X.mg "enumerate"=none) (ha:PA X [a] ta) (hd:PE X ed td)
  (he:backTo pos (starEach [a] X.env)=(false,eval a X.env)::backTo pos (starEach [] X.env):=by rfl) (hpl:(backTo pos (starEach [a] X.env)).any (·.1)=false:=by rfl):
  PI X (.Tuple es k tp) (.Call (.Name "enumerate" p) [a] [⟨some "start",ed,kp⟩] pos) (DP X.K ta td):=by
 intro KE s σ H R I h;refine wpAny_Call_Name_kw (j4 I hg hm qR ?_);refine mK (be (ha pos KE s σ H _ I h) λus s1 ⟨vs,H1,I1,r1,q1⟩=>kws_cons (be (hd KE s1 σ H1 _ I1 q1) λu s2 ⟨d,H2,I2,r2,q2⟩=>kws_nil ?_)) he hpl
 obtain⟨a1,rfl,rfl,⟨xs,e1⟩,q⟩:=q2;obtain⟨t,rfl⟩:=r2;cases r1 with
 | cons r rr=>
  cases rr;cases r;obtain⟨its,rv,p1⟩:=I2.sqB e1;have al:=vF p1;obtain⟨⟨c,dct,dt,sl⟩,hl,hc,n,hdt⟩:=p1;obtain rfl:c=.type "list":=hc
  obtain rfl:dt=.seq its.toArray n:=hdt;refine va (t:=t) hl λh' c1 c2 c3=>?_
  refine wpAny_pyIter_enum (s:={s2 with heap:=h'}) c1 ?_
  have fr:∀ j,H2 (s2.heap.objs.size+j)=none:=λj=>I2.hok.fresh (Nat.le_add_right _ _)
  refine⟨_,[s2.heap.objs.size+1,s2.heap.objs.size],_,_,H2,rfl,I2.kept (t':=s2.toks) c3,vn true (Nat.succ_ne_self _) (Nat.ne_of_gt (Nat.lt_succ_of_lt al)) (Nat.ne_of_gt al),⟨⟨_,c1⟩,c2⟩,λc hb=>?_,q⟩
  have hb':c=s2.heap.objs.size+1\/c=s2.heap.objs.size:=by simpa using hb
  rcases hb' with rfl | rfl
  ·exact I2.fpOk (Nat.le_add_right _ _) (fr 1)
  ·exact I2.fpOk (JE _) (fr 0)
end L2
namespace DL
open PySem PySem.Spec PyProof.Rows L2
def Dm (ta:DA) (g:DG) (b:DS):DS:=λM L S=>ta L S λds S1=>match ds with
 | [.ref a]=>∃ xs,S1 a=some (.lst xs)/\fJ (λS=>S a=some (.lst xs)) g b M (jR 1 xs) L S1
 | _=>False
section
variable {X:Cx} {a ed:Kt} {es:List Kt} {kt:Nat} {tp p pos pos' kp:Pos} {gg:DG} {ta:DA} {g:DS} {body:List Ky}
theorem An {K:Fg} {H1:Hp} {xs:List D} {a:Kr}:
  (∀ i d S2 H2,(jR 1 xs)[i]?=some d->Kp H1 H2->Hs K H2 S2->S2 a=some (.lst xs)->(zE K true a).go i H2/\∀ x H',(zE K true a).yld i H2 x H'->Kp H2 H'/\Hs K H' S2/\bB K H' d x)/\
  ∀ S2 H2,Kp H1 H2->Hs K H2 S2->S2 a=some (.lst xs)->(zE K true a).stop (jR 1 xs).length H2:=by
 refine⟨λi c S2 H2 e k2 hS2 o2=>?_,λS2 H2 k2 hS2 o2=>?_⟩
 ·obtain⟨ys,w1,u1⟩:=hS2.lst o2;obtain⟨d,f1,rfl⟩:=mC e;obtain⟨v1,g1,r1⟩:=u1.get f1;refine⟨⟨ys,v1,eQ.of w1,g1⟩,?_⟩;rintro x H' ⟨T,x',rfl,hT,rfl,al⟩;have l1:=al ys (eQ.of w1);rw [g1] at l1;cases l1;have kn:Kp H2 (br H2 T (.tup [.int ((i+1:Nat):Int),v1])):=Kp.new hT;exact⟨kn,hS2.new hT,bw.mpr ⟨T,[.int ((i+1:Nat):Int),v1],rfl,gZ.of bo,IsDs.cons (isInt.mpr (by rw [Nat.add_comm])) (IsDs.cons (r1.kp kn) IsDs.nil)⟩⟩
 ·obtain⟨ys,w1,u1⟩:=hS2.lst o2;refine⟨ys,eQ.of w1,?_⟩;rw [<- u1.length,nB]
theorem vH (hp:PassesOwn (model X.prog X.w) X.A X.env X.xe) (hc:X.calm=true) (hgl:Gl X "enumerate") (hm:X.mg "enumerate"=none) (ha:AJ X [a] ta) (hd:EJ X ed (dC (.int 1))) (hg:GJ X (.Tuple es kt tp) gg) (hb:xt X body g)
  (he:backTo pos' (starEach [a] X.env)=(false,eval a X.env)::backTo pos' (starEach [] X.env):=by rfl) (hpl:(backTo pos' (starEach [a] X.env)).any (·.1)=false:=by rfl) (hs:∀ x,foldedSetIterable (.Call (.Name "enumerate" p) [a] [⟨some "start",ed,kp⟩] pos') X.env x=pure x:=by intro _; rfl):
  SJ X (.For (.Tuple es kt tp) (.Call (.Name "enumerate" p) [a] [⟨some "start",ed,kp⟩] pos') body [] pos) (Dm ta gg g):=
 ⟨PS.imp (pN hp hc (zS hgl hm ha.h hd.h he hpl) hg.h hb.h hs) λN σ H ⟨L,S,M,hL,hS,h,r⟩=>q9.go hL hS h λds S1 vs H1 h1 k1 hL1 hS1 i1=>⟨L,S1,λd S2=>d=.int 1/\S2=S1,hL1,hS1,⟨rfl,rfl⟩,λd S2 v H2 ⟨e1,e2⟩ k2 hS2 i2=>by
  subst e1 e2
  split at h1
  ·rename_i a1
   obtain⟨v1,rfl,j1⟩:=cr (i1.kp k2);have e1:=aU.mp j1;subst e1;obtain⟨xs,z,h1⟩:=h1;obtain⟨ys,w1,_⟩:=hS2.lst z;obtain⟨z1,z2⟩:=An (K:=X.K) (H1:=H2) (xs:=xs) (a:=a1);exact⟨a1,isInt.mp i2,rfl,⟨ys,eQ.of w1⟩,qy (hL1.kp k2) hS2 h1 (r.kp (k1.trans k2)) z1 z2⟩
  ·exact h1.elim⟩⟩
end
end DL
namespace PySem
open Builtin Builtin.Str
namespace F
theorem lri_nolen:typeLookup (.type "list_reverseiterator") "__len__"=pure none:=by rw [typeLookup_type,builtinLookup_eq_fast]; kernel_rfl
theorem lri_hint:typeLookup (.type "list_reverseiterator") "__length_hint__"=pure (some (.builtin "list_reverseiterator.__length_hint__")):=by rw [typeLookup_type,builtinLookup_eq_fast]; kernel_rfl
theorem lri_sub:isSubtype (.type "list_reverseiterator") (.type "list_reverseiterator")=pure true:=by rw [isSubtype_type]; kernel_rfl
end F
section
variable {prog:Ku} {w:Kw} {A:Kv} {E:Kq->Ko->Prop} {s:Ko}
theorem Bu {I:Kr} {Q:KA->Ko->Prop} (hT:s.TypeIs (.ref I) "list_reverseiterator") (q:Q false s):wpAny (model prog w) A (Builtin.List.listLengthHint (.ref I)) Q E s:=by
 unfold Builtin.List.listLengthHint;refine gt (wpAny_specialOf hT F.lri_nolen ?_)
 show wpAny _ A (specialOf (Value.ref I) (Str.ofString "__length_hint__") >>= _) _ _ _
 refine gt (wpAny_specialOf hT F.lri_hint ?_);have e:splitId "list_reverseiterator.__length_hint__"=some ("list_reverseiterator","__length_hint__"):=by decide +kernel
 generalize hid:("list_reverseiterator.__length_hint__":KB)=id0 at e ⊢
 wp_delta
 rw [e];subst hid;exact gt (wpAny_isInstance (b:=true) hT F.lri_sub (JB q))
theorem tI {I l:Kr} {items:Kz Kq} {Q:List Kq->Ko->Prop} (hh:A.handled=none) (hne:l≠I) (hit:s.heap.IsRevIter I l ((items.size:Int) - 1)) (hl:s.heap.IsList l items) (hz:items.size<=sizeLine)
  (h:∀ h' tk,(∀ b o,b≠I->s.heap.get? b=some o->h'.get? b=some o)->Q items.toList.reverse {s with heap:=h',toks:=tk}):wpAny (model prog w) A (collect (.ref I)) Q E s:=by
 have lI:I < s.heap.objs.size:=by obtain⟨o,ho,_⟩:=hit; exact JD ho
 have ll:l < s.heap.objs.size:=by obtain⟨o,ho,_⟩:=hl; exact JD ho
 have W:=(Walks.listRev (prog:=prog) (w:=w) (A:=A.in1) hh I l hne items).toS;have st0:0<=items.size/\s.heap.IsRevIter I l ((items.size:Int) - 1 - ((0:Nat):Int))/\s.heap.IsList l items:=⟨Kd _,by simpa using hit,hl⟩
 have kp:∀ b o,s.heap.get? b=some o->(s.heap.push {cls:=.type "list",data:=.seq ([]:List Kq).toArray}).get? b=some o:=λb o e=>pp _ e
 have st1:0<=items.size/\(s.heap.push {cls:=.type "list",data:=.seq ([]:List Kq).toArray}).IsRevIter I l ((items.size:Int) - 1 - ((0:Nat):Int))/\(s.heap.push {cls:=.type "list",data:=.seq ([]:List Kq).toArray}).IsList l items:=⟨Kd _,st0.2.1.at λo e=>kp I o e,hl.at λo e=>kp l o e⟩
 have hT:Shared.TypeIs {s with heap:=s.heap.push {cls:=.type "list",data:=.seq ([]:List Kq).toArray}} (.ref I) "list_reverseiterator":=Heap.IsRevIter.typeIs (s:={s with heap:=s.heap.push {cls:=.type "list",data:=.seq ([]:List Kq).toArray}}) st1.2.1
 have same:Builtin.List.listSameRef (.ref s.heap.objs.size) (.ref I)=false:=by
  have:s.heap.objs.size≠I:=Nat.ne_of_gt lI;simp [Builtin.List.listSameRef,this]
 unfold collect;refine gt (wpAny_runValue (J2 F.entry_proto_collect ?_));rw [JV F.plain_proto_collect _];refine gt (JZ (JB ⟨plainId_quiet F.plain_list_iadd _,J2 F.entry_list_iadd ?_⟩));rw [JV F.plain_list_iadd _]
 show wpAny _ A.in1 (Builtin.List.listExtendWith (.ref s.heap.objs.size) (.ref I) (.ref s.heap.objs.size)) _ _ _
 unfold Builtin.List.listExtendWith;refine gt (wpAny_typeOf hT ?_);rw [if_neg (by rw [same]; decide)]
 refine gt (W.self 0 _ _ _ st1 (gt (JX (Bu hT ?_))));rw [if_neg (by decide)]
 refine JB ⟨plainId_quiet F.plain_extend_loop _,codeAny_extend_loopS W hz _ (by simp only [JJ,JS,or_false,not_or]; exact⟨Nat.ne_of_gt lI,Nat.ne_of_gt ll⟩) _ items.size 0 _ _ _ rfl (Kd _) st1 (JC _ rfl) (ItemsOf.nil _) λs' acc' c' hm hS' hacc=>?_⟩
 show wpAny _ A (load s.heap.objs.size >>= _) _ _ s'
 refine gt (wpAny_load hS' (JB ?_));have ev:acc'.toList=items.toList.reverse:=by
  obtain⟨l1,l2⟩:=hacc;apply List.ext_getElem?;intro i;rw [Array.getElem?_toList];cases q1:acc'[i]? with
  | none=>
   have:acc'.size<=i:=by simpa using q1
   rw [List.getElem?_eq_none (by rw [List.length_reverse,Kk]; omega)]
  | some v=>
   have hi:i < items.size:=by
    obtain⟨z,_⟩:=Array.getElem?_eq_some_iff.mp q1;omega
   have:=l2 i v q1;rw [List.getElem?_reverse (by rw [Kk]; exact hi),Array.getElem?_toList,Kk,this]
 rw [ev];obtain⟨hh',gg,dd,tt,oo⟩:=s';obtain⟨m1,m2,m3,m4,m5⟩:=hm;simp only at m2 m3 m4
 subst m2 m3 m4;exact h hh' tt λb o hb e=>m1 b o (by simp only [JJ,JS,or_false,not_or]; exact⟨JK (JD e),hb⟩) (kp b o e)
theorem AE {x:Str} {t:Tok} {I l:Kr} {ls:List (Str×Tok)} {Q:Kq->Ko->Prop} (hh:A.handled=none) (hne:l≠I) (hit:s.heap.IsRevIter I l (((strValues ls).toArray.size:Int) - 1)) (hl:s.heap.IsList l (strValues ls).toArray) (hz:ls.length<=sizeLine) (hj:JoinOk x (ls.map (·.1)).reverse=true)
  (h:∀ h' tk t',(∀ b o,b≠I->s.heap.get? b=some o->h'.get? b=some o)->Q (.str (Txt.join x (ls.map (·.1)).reverse) t') {s with heap:=h',toks:=tk}):
  wpAny (model prog w) A (call (.builtin "str.join") [.str x t,.ref I]) Q E s:=by
 refine wpAny_call (codeAny_call_builtin F.slot_str_join.plain F.entry_str_join (F.slot_str_join.check _ _ _ _ _ _ _ _ (typeIs_str _ _ _) (F.args_str_join_2 _ _) ?_));rw [join_tree_other];refine gt (wpAny_typeOf hit.typeIs ?_)
 show wpAny _ A.in1 ((pyIter (.ref I)).tryCatch _ >>= λit=>collect it >>= λitems=>joinTail x items) _ _ s
 refine gt (wpAny_tryCatch (wpAny_pyIter_revIter hit (gt (tI hh hne hit hl (by simpa [strValues] using hz) λh' tk kk=>?_))))
 have er:(strValues ls).toArray.toList.reverse=strValues ls.reverse:=by
  simp [strValues]
 rw [er];have hj':JoinOk x (ls.reverse.map (·.1))=true:=by rw [List.map_reverse]; exact hj
 have g:∀ m:List (Str×Tok),tooLong ((m.map (·.1)).toArray.foldl (·+·.length+x.length) 0)=false->Gives (joinTail x (strValues m)) (joinMade x m):=λm hm=>by
  have g0:=gives_joinTail x m hm
  match m,hm,g0 with
  | [],_,g0=>exact g0
  | [_],_,g0=>exact g0
  | _::_::_,_,g0=>exact g0
 unfold JoinOk at hj';rw [Bool.not_eq_true'] at hj';refine g _ hj' prog w A (wants Q E) _ (post_join ls.reverse ⟨joinFit_length hj',λt' tk'=>?_⟩)
 rw [List.map_reverse];exact h h' tk' t' kk
end
end PySem
namespace L2
open PySem PySem.Spec PyProof.Rows
def Ff (to:TE) (t:TA):TE:=fun σ H Q=>to σ H λx H1=>∃ z,x=.str z/\t σ H1 λvs H2=>∃ (a:Kr) (zs:List Str),vs=[.ref a]/\H2 a=some (.lst (zs.map V.str))/\JoinOk z zs.reverse=true/\Q (.str (Txt.join z zs.reverse)) H2
theorem yG {X:Cx} {o e:Kt} {to:TE} {t:TA} {apos cpos p pos:Pos} (hc:X.calm=true) (hg:Gl X "reversed") (hm:X.mg "reversed"=none) (ho:PE X o to) (ha:PA X [e] t)
  (hbase:attributeBase o "join" X.env (eval o X.env)=eval o X.env:=by rfl)
  (hfew:((backTo cpos (starEach [.Call (.Name "reversed" p) [e] [] pos] X.env)).all (λx=>!x.1) && (backToKw cpos (keywordEach [] X.env)).all (λx=>x.1.isSome)
   && decide ([Expr.Call (.Name "reversed" p) [e] [] pos].length+([]:List Keyword).length+(if ([]:List Keyword).isEmpty then 0 else 1) < 30))=true:=by rfl)
  (hline:(apos.endLine == cpos.line)=true:=by rfl) (hs:backTo cpos (starEach [.Call (.Name "reversed" p) [e] [] pos] X.env)=[(false,eval (.Call (.Name "reversed" p) [e] [] pos) X.env)]:=by rfl) (hs1:starEach [e] X.env=[(false,eval e X.env)]:=by rfl):
  PE X (.Call (.Attribute o "join" apos) [.Call (.Name "reversed" p) [e] [] pos] [] cpos) (Ff to t):=by
 intro KE s σ H Q I h;refine wpAny_Call_method_late hbase hfew hline hs (be (ho KE s σ H _ I h) λv s1 ⟨x,H1,I1,r1,z,ex,q1⟩=>?_)
 subst ex;obtain⟨t1,rfl⟩:=r1;refine⟨"str","str.join",F.plainAttrs_str,F.slot_str_join,F.type_str_join,typeIs_str _ _ _,(λ_ e=>nomatch e),?_⟩
 refine Calls.callWith_builtin rfl (Calls.evalArgs_plain (Calls.spliced_cons (Call_ (j4 I1 hg hm Boot.reversed (PyProof.Rows.callWith_type1 (be (ha pos KE s1 σ H1 _ I1 q1) λus s2 ⟨vs,H2,I2,r2,q2⟩=>?_) (by rw [hs1]; rfl) rfl)))))
 obtain⟨a,zs,rfl,hH,hj,q⟩:=q2;obtain⟨u,rfl,rfl⟩:=r2.one;obtain⟨hz,its,m,rv,hl,g⟩:=I2.lstM hH;obtain⟨ls,rfl,e3⟩:=oN rv;subst e3;have gl:s2.heap.IsList a (strValues ls).toArray:=⟨_,g,rfl,_,rfl⟩;refine call_reversed_list gl ?_;refine Calls.spliced_nil ?_;have la:a < s2.heap.objs.size:=JD g;refine AE (s:={s2 with heap:=s2.heap.push (revObj a (((strValues ls).toArray.size:Int) - 1))}) (I2.ok.hd hc) (JK la) ⟨_,JC _ rfl,rfl,rfl⟩ (gl.at λo e=>pp _ e) (by simpa using hz) hj λh' tk t' kk=>?_
 exact⟨.str _,H2,I2.kept (t':=tk) λb o e=>kk b o (JK (JD e)) (pp _ e),⟨t',rfl⟩,q⟩
end L2
namespace DL
open PySem PySem.Spec PyProof.Rows L2
def Fh (go:DE) (ga:DA):DE:=λL S k=>go L S λd S1=>match d with
 | .str x=>ga L S1 λds S2=>∃ (a:Kr) (zs:List Str),ds=[.ref a]/\S2 a=some (.lst (zs.map D.str))/\JoinOk x zs.reverse=true/\k (.str (Txt.join x zs.reverse)) S2
 | _=>False
theorem Ay {X:Cx} {o e:Kt} {go:DE} {ga:DA} {apos cpos p pos:Pos} (hc:X.calm=true) (hg:Gl X "reversed") (hm:X.mg "reversed"=none) (ho:EJ X o go) (ha:AJ X [e] ga)
  (hbase:attributeBase o "join" X.env (eval o X.env)=eval o X.env:=by rfl)
  (hfew:((backTo cpos (starEach [.Call (.Name "reversed" p) [e] [] pos] X.env)).all (λx=>!x.1) && (backToKw cpos (keywordEach [] X.env)).all (λx=>x.1.isSome)
   && decide ([Expr.Call (.Name "reversed" p) [e] [] pos].length+([]:List Keyword).length+(if ([]:List Keyword).isEmpty then 0 else 1) < 30))=true:=by rfl)
  (hline:(apos.endLine == cpos.line)=true:=by rfl) (hs:backTo cpos (starEach [.Call (.Name "reversed" p) [e] [] pos] X.env)=[(false,eval (.Call (.Name "reversed" p) [e] [] pos) X.env)]:=by rfl) (hs1:starEach [e] X.env=[(false,eval e X.env)]:=by rfl):
  EJ X (.Call (.Attribute o "join" apos) [.Call (.Name "reversed" p) [e] [] pos] [] cpos) (Fh go ga):=
 ⟨PE.imp (yG hc hg hm ho.h ha.h hbase hfew hline hs hs1) fun σ H Q ⟨L,S,k,hL,hS,h,n⟩=>up.go hL hS h λd S1 v H1 h1 k1 hL1 hS1 i1=>by
  cases d with
  | str z=>
   have q1:=aY.mp i1;subst q1;refine⟨z,rfl,q9.go hL1 hS1 h1 λds S2 vs H2 h2 k2 hL2 hS2 i2=>?_⟩
   obtain⟨a,zs,rfl,z1,hj,w⟩:=h2;obtain⟨v1,rfl,j1⟩:=cr i2;have e1:=aU.mp j1;subst e1;obtain⟨ys,hH,j⟩:=hS2.lst z1;have e2:=oQ j;subst e2;exact⟨a,zs,rfl,hH,hj,n _ _ _ _ w (k1.trans k2) hS2 (aY.mpr rfl)⟩
  | _=>exact(show False from h1).elim⟩
end DL
namespace PySem
open Sem (wp)
open Builtin DL
section
variable {prog:Ku} {w:Kw} {A:Kv} {E:Kq->Ko->Prop}
theorem Gr (p q:Kr) (a b c d:Int) (t1 t2 t3 t4:Tok) (n n':Nat) (dd dd':Ks Kr) (sl sl':Kz (Ks Kq)):
  MeetsIn prog w (Builtin.«tuple.__ge__» ⟨[.ref p,.ref q],[]⟩) (λA R s=>A.units+1 < cLine/\s.heap.get? p=some ⟨.type "tuple",dd,.seq #[.int a t1,.int b t2] n,sl⟩/\s.heap.get? q=some ⟨.type "tuple",dd',.seq #[.int c t3,.int d t4] n',sl'⟩/\
   R (.ok (.ret (.bool !(decide (a < c) || (decide (a=c) && decide (b < d)))))) s):=
 .of_wp λA R s h=>by
  obtain⟨hp,g,dr,tk,os⟩:=s;obtain⟨hu,h1,h2,h⟩:=h;have f:=AutoSeq1.sub_tuple_tuple;have stp:∀ {x y:Int} {u v:Tok} {Q:KA->Ko->Prop} {s:Ko},Q (x == y) s->wpAny (model prog w) A.in1 (eqBool (.int x u) (.int y v)) Q (λe s'=>R (.error e) s') s:=λh=>wpAny_eqBool_int h
  have gtp:∀ {x y:Int} {u v:Tok} {Q:Kq->Ko->Prop} {s:Ko},Q (.bool (decide (x ≥ y))) s->wpAny (model prog w) A.in1 (richCompare .GtE (.int x u) (.int y v)) Q (λe s'=>R (.error e) s') s:=λh=>PyProof.Rows.ge_int h
  by_cases e1:a=c
  ·subst e1
   by_cases e2:b=d
   ·subst e2
    repeat (any_goals (first | assumption | (with_reducible refine stp ?_) | (with_reducible refine gtp ?_) | wp_step))
    refine⟨_,rfl,?_⟩;simp only [Int.lt_irrefl,decide_false,Bool.and_false,Bool.or_false] at h;exact h
   ·have e3:(b == d)=false:=by simpa using e2
    repeat (any_goals (first | assumption | (with_reducible refine stp ?_) | (with_reducible refine gtp ?_) | wp_step))
    refine⟨_,rfl,?_⟩;have e4:(!(decide (a < a) || (decide (a=a) && decide (b < d))))=decide (b ≥ d):=by
     rw [Bool.eq_iff_iff];simp
    rw [e4] at h;exact h
  ·have e3:(a == c)=false:=by simpa using e1
   repeat (any_goals (first | assumption | (with_reducible refine stp ?_) | (with_reducible refine gtp ?_) | wp_step))
   refine⟨_,rfl,?_⟩;have e4:(!(decide (a < c) || (decide (a=c) && decide (b < d))))=decide (a ≥ c):=by
    rw [Bool.eq_iff_iff];simp [e1]
   rw [e4] at h;exact h
end
end PySem
namespace DL
open PySem PySem.Spec PyProof.Rows L2
def FH:D2:=λd e S k=>match d,e with
 | .tup [.int a,.int b],.tup [.int c,.int f]=>k (.bl !(ZS.lx (a,b) (c,f))) S
 | d,e=>IK d e S k
theorem tZ {X:Cx} {KE:List (Kr×KD)} {σ:L2.St} {H:Hp} {s:Ko} (I:aE X KE σ H s) {a b:Int} {v:V} (i:bB X.K H (.tup [.int a,.int b]) v):∃ p dd t1 t2 n sl,v=.ref p/\s.heap.get? p=some ⟨.type "tuple",dd,.seq #[.int a t1,.int b t2] n,sl⟩:=by
 obtain⟨p,vs,rfl,q,j⟩:=bw.mp i;obtain⟨x,y,rfl,j1,j2⟩:=ku j;rw [isInt.mp j1,isInt.mp j2] at q;obtain⟨its,rv,⟨o,g,c,m,dd⟩,_⟩:=I.tuple q;cases rv with
 | cons ra rb=>
  cases rb with
  | cons rb rc=>
   cases rc;obtain⟨t1,rfl⟩:=ra;obtain⟨t2,rfl⟩:=rb;obtain⟨oc,od,odt,osl⟩:=o;obtain rfl:oc=.type "tuple":=c
   obtain rfl:odt=.seq [Value.int a t1,Value.int b t2].toArray m:=dd;exact⟨p,od,t1,t2,m,osl,rfl,g⟩
theorem Gu {X:Cx} {n:Nat} (hr:cA n X.A):cS X (compareOp .GtE) (fh X.K FH):=by
 intro KE s σ H x y v u Q I rx ry h;obtain⟨d,e,S,k,i1,i2,hS,r,nn⟩:=h;have hu:=hr.units;unfold FH at r
 split at r
 ·rename_i a b c f
  obtain⟨p,dd,t1,t2,m,sl,rfl,g1⟩:=tZ I i1;obtain⟨q,dd',t3,t4,m',sl',rfl,g2⟩:=tZ I i2;cases rx;cases ry;have T1:s.TypeIs (.ref p) "tuple":=⟨_,g1,rfl⟩
  exact wpAny_richCompare_same_room (op:=.GtE) T1 ⟨_,g2,rfl⟩ F.slot_tuple_ge (call_meetsIn F.slot_tuple_ge T1 F.entry_tuple_ge (F.args_tuple_ge_2 _ _) (Gr p q a b c f t1 t2 t3 t4 m m' dd dd' sl sl') ⟨by show X.A.units+1 < cLine; omega,g1,g2,(by intro z; cases z),.bl _,H,I,rfl,eV nn hS r (aT.mpr rfl)⟩) (by omega)
 ·exact yT KE s σ H x y v u Q I rx ry ⟨d,e,S,k,i1,i2,hS,r,nn⟩
section
variable {X:Cx} {KE:List (Kr×KD)} {σ:L2.St} {H:Hp} {s:Ko}
def Ja (S:DH) (x y:D):Prop:=∃ a c xs ys,x=.ref a/\y=.ref c/\a≠c/\S a=some (.lst xs)/\S c=some (.lst ys)/\xs.length=ys.length/\∀ (i:Nat) x y,xs[i]?=some x->ys[i]?=some y->gY 7 x y=some true
def E1 (S:DH) (x y:D):Prop:=gY 7 x y=some true\/Jp S x y\/Ja S x y
theorem yi (I:aE X KE σ H s) {S:DH} {a c:Kr} {ds es:List D} (hS:Hs X.K H S) (h1:S a=some (.lst ds)) (h2:S c=some (.lst es)) (hl:ds.length=es.length) (A:Kv) (hu:A.units+12 < cLine) (h:∀ (i:Nat) x y,ds[i]?=some x->es[i]?=some y->gY 7 x y=some true):
  SeqAt.RcAt A s (.ref a) (.ref c) true:=by
 obtain⟨xs,q1,j1⟩:=hS.lst h1;obtain⟨ys,q2,j2⟩:=hS.lst h2;obtain⟨us,r1,p1,_⟩:=I.list (eQ.of q1);obtain⟨ws,r2,p2,_⟩:=I.list (eQ.of q2);have l1:=j1.length;have l2:=j2.length;have l3:=r1.length;have l4:=r2.length;have hsz:us.toArray.size=ws.toArray.size:=by simp only [JI]; omega
 have he:∀ j (h1:j < us.toArray.size) (h2:j < ws.toArray.size),SeqAt.EqAt A.in1 s us.toArray[j] ws.toArray[j] ((λ_=>true) j):=λj h1 h2=>by
  simp only [JI] at h1 h2
  obtain⟨d,e,x,y,q1,q2,d1,d2,rx,ry⟩:=lK j1 j2 r1 r2 h1 h2;have:=(mM I 7 A.in1 d e x y _ _ true (by show A.units+1+7 < cLine; omega) (h j d e q1 q2) d1 d2 rx ry).1
  simpa using this
 have e:(List.range us.toArray.size).all (λ_=>true)=true:=by simp
 have z:=SeqAt.RcAt.lists p1.isList p2.isList hsz (by omega) he
 rw [e] at z;exact z
theorem zu (I:aE X KE σ H s) {S:DH} {a c:Kr} {ds es:List D} (hS:Hs X.K H S) (h1:S a=some (.lst ds)) (h2:S c=some (.lst es)) (hl:ds.length=es.length) (A:Kv) (hu:A.units+14 < cLine) (h:∀ (i:Nat) x y,ds[i]?=some x->es[i]?=some y->E1 S x y):
  SeqAt.RcNeAt A s (.ref a) (.ref c) false:=by
 obtain⟨xs,q1,j1⟩:=hS.lst h1;obtain⟨ys,q2,j2⟩:=hS.lst h2;obtain⟨us,r1,p1,_⟩:=I.list (eQ.of q1);obtain⟨ws,r2,p2,_⟩:=I.list (eQ.of q2);have l1:=j1.length;have l2:=j2.length;have l3:=r1.length;have l4:=r2.length;have hsz:us.toArray.size=ws.toArray.size:=by simp only [JI]; omega
 have hA:A.in1.units=A.units+1:=rfl;have he:∀ j (h1:j < us.toArray.size) (h2:j < ws.toArray.size),SeqAt.EqAt A.in1 s us.toArray[j] ws.toArray[j] ((λ_=>true) j):=λj h1 h2=>by
  simp only [JI] at h1 h2
  obtain⟨d,e,x,y,q1,q2,d1,d2,rx,ry⟩:=lK j1 j2 r1 r2 h1 h2;rcases h j d e q1 q2 with hh | ⟨a',c',kvs,ep,kvs',ep',rfl,rfl,ne,z1,z2,z3⟩ | ⟨a',c',xs',ys',rfl,rfl,ne,z1,z2,z3,z4⟩
  ·have:=(mM I 7 A.in1 d e x y _ _ true (by omega) hh d1 d2 rx ry).1
   simpa using this
  ·have e1:=aU.mp d1;have e2:=aU.mp d2;subst e1 e2;have rx:us[j]=.ref a':=rx;have ry:ws[j]=.ref c':=ry;have:=SeqAt.EqAt.of_refs ne (rc_dx (A:=A.in1) I hS (by omega) z1 z2 z3)
   simpa [rx,ry] using this
  ·have e1:=aU.mp d1;have e2:=aU.mp d2;subst e1 e2;have rx:us[j]=.ref a':=rx;have ry:ws[j]=.ref c':=ry;have:=SeqAt.EqAt.of_refs ne (yi I hS z1 z2 z3 A.in1 (by omega) z4)
   simpa [rx,ry] using this
 have e:(List.range us.toArray.size).all (λ_=>true)=true:=by simp
 have z:=SeqAt.RcNeAt.lists p1.isList p2.isList hsz (by omega) he
 rw [e] at z;exact z
end
def G_:D2:=λd e S k=>match d,e with
 | .ref a,.ref c=>(∃ xs ys,S a=some (.lst xs)/\S c=some (.lst ys)/\xs.length=ys.length/\(∀ (i:Nat) x y,xs[i]?=some x->ys[i]?=some y->E1 S x y)/\k (.bl false) S)\/Gp (.ref a) (.ref c) S k
 | d,e=>Gp d e S k
theorem y3 {X:Cx} {n:Nat} (hr:cA n X.A):cS X (compareOp .NotEq) (fh X.K G_):=by
 intro KE s σ H x y v u Q I rx ry h;obtain⟨d,e,S,k,i1,i2,hS,r,m⟩:=h;unfold G_ at r
 split at r
 ·rcases r with r | r
  ·obtain⟨xs,ys,h1,h2,h3,h4,w⟩:=r;have e1:=aU.mp i1;have e2:=aU.mp i2;subst e1 e2;cases rx;cases ry;exact(zu I hS h1 h2 h3 X.A (by have:=hr.un; omega) h4) X.prog X.w X.xe _ ⟨.bl false,H,I,rfl,eV m hS w (aT.mpr rfl)⟩
  ·exact o_neL hr KE s σ H x y v u Q I rx ry ⟨_,_,S,k,i1,i2,hS,r,m⟩
 ·exact o_neL hr KE s σ H x y v u Q I rx ry ⟨_,_,S,k,i1,i2,hS,r,m⟩
def CQ:bE:=λds S k=>match ds with
 | [.str x]=>k (.str x) S
 | ds=>Ih ds S k
theorem pO {X:Cx}:bW X (.type "str") (nX X.K CQ):=by
 intro KE s σ H xs us Q I rs h;obtain⟨ds,S,k,i,hS,r,n⟩:=h;unfold CQ at r
 split at r
 ·obtain⟨x,rfl,i1⟩:=cr i;have e1:=aY.mp i1;subst e1;obtain⟨u,rfl,t,rfl⟩:=rs.one;exact P.str_of_str ⟨.str _,H,I,⟨t,rfl⟩,eV n hS r (aY.mpr rfl)⟩
 ·exact b_str KE s σ H xs us Q I rs ⟨_,S,k,i,hS,r,n⟩
end DL
namespace L2
open PySem PySem.Spec PyProof.Rows
def Fy (lo c:Int) (n:Nat):It:=⟨λi _=>i < n,λi H x H'=>H'=H/\x=.int (lo+i*c),λi _=>n<=i⟩
theorem zo {P:Ku} {w:Kw} {K:PySem.W.Frag} {tg:Kt} (it:Kr) (lo c:Int) (n:Nat):qe P w K tg (Fy lo c n) [it] it (λi h=>IsRangeIter h it (lo+(i:Nat)*c) ((n:Int) - (i:Nat)) c) where
 mem:=by simp
 obj:=λi h st b hb=>by
  have e:b=it:=by simpa using hb
  subst e;exact⟨_,st,λv z=>by
   have z':Data.fields _=Data.cell v:=z;cases z'⟩
 keep:=λi h h' st k=>k it (by simp) _ st
 item:=by
  intro X hP hw hK hc i KE s σ H E I hf st hg;subst hP hw hK;obtain⟨f0,f1,f2,f3,f4,f5⟩:=hf it (by simp)
  have W:=Walks.range (prog:=X.prog) (w:=X.w) (I.ok.hd hc) it lo c n;refine W.item i s _ _ hg st λv h' tk hv st' kk=>?_
  obtain⟨t,rfl⟩:=hv;have I1:aE X KE σ H {s with heap:=h',toks:=tk}:=I.turned (λb o hb e=>kk b o (by simpa using hb) e) f0 f1 f3 f4 f5
  exact⟨_,rfl,pC (s:={s with heap:=h',toks:=tk}) (n:="range_iterator") st' rfl rfl (by decide) ⟨.int (lo+i*c),H,I1,⟨t,rfl⟩,⟨rfl,rfl⟩,st',λb hb=>(hf b hb).1⟩⟩
 done:=by
  intro X hP hw hK hc i KE s σ H E I hf st hg;subst hP hw hK;obtain⟨f0,f1,f2,f3,f4,f5⟩:=hf it (by simp)
  exact wpAny_pyNext_range_end (I.ok.hd hc) st (by have:n<=i:=hg; omega) λh' eb=>⟨rfl,I.turned (t':=s.toks) (λb o hb e=>eb b o hb e) f0 f1 f3 f4 f5⟩
 self:=λ_ _ _ _ _ st h=>wpAny_pyIter_rangeiter st h
def uG (a b c:Int):Nat:=(Builtin.Range.rangeSize a b c).toNat
theorem vE {a b c:Int} (hc:0 < c):Builtin.Range.rangeSize a b c=((uG a b c:Nat):Int)/\(a<=b->(uG a b c:Int)<=b - a)/\(b<=a->uG a b c=0):=by
 unfold uG Builtin.Range.rangeSize;simp only [show (c > 0) from hc,if_true]
 split
 ·rename_i h
  have h1:0<=(b - a - 1) / c:=Int.ediv_nonneg (by omega) (by omega)
  have h2:(b - a - 1) / c<=b - a - 1:=Int.ediv_le_self _ (by omega)
  refine⟨?_,λ_=>?_,λ_=>?_⟩ <;> omega
 ·exact⟨by simp,λ_=>by simp; omega,λ_=>by simp⟩
theorem xC {a b c:Int} (hc:0 < c) (hc':c < 2 ^ 30) (ha:-(2 ^ 60)<=a) (ha':a < 2 ^ 60) (hb:-(2 ^ 60)<=b) (hb':b < 2 ^ 60):Builtin.Range.small a b c=true:=by
 obtain⟨q1,q2,q3⟩:=vE (a:=a) (b:=b) hc;have q4:(uG a b c:Int) < 2 ^ 61:=by
  rcases Int.le_total a b with h | h
  ·have:=q2 h; omega
  ·rw [q3 h]; omega
 unfold Builtin.Range.small;rw [q1];simp only [Builtin.Range.rangeFitsLong,J6,Bool.or_eq_true,Kj,beq_iff_eq,show(c > 0) from hc,if_true]
 exact⟨⟨⟨⟨⟨by omega,by omega⟩,by omega,by omega⟩,by omega,by omega⟩,by omega,by omega⟩,.inr ⟨by omega,by omega⟩⟩
section
variable {X:Cx} {tg:Kt}
theorem xw {KE:List (Kr×KD)} {σ:St} {H:Hp} {s:Ko} {R:It->Hp->Prop} {E:Kq->Ko->Prop} {lo hi c:Int} {t u v:Tok} {tk:Nat} (I:aE X KE σ H s) (hc:0 < c) (hc':c < 2 ^ 30) (h1:-(2 ^ 60)<=lo) (h2:lo < 2 ^ 60) (h3:-(2 ^ 60)<=hi) (h4:hi < 2 ^ 60)
  (q:R (Fy lo c (uG lo hi c)) H):wpAny (model X.prog X.w) X.A (pyIter (.ref s.heap.objs.size)) (Ij X KE σ tg R) E {s with heap:=s.heap.push {cls:=.type "range",data:=.fields #[.int lo t,.int hi u,.int c v]},toks:=tk}:=by
 refine wpAny_pyIter_range (IsRange.new ..) (xC hc hc' h1 h2 h3 h4) ?_;have I1:aE X KE σ H {s with heap:=s.heap.push {cls:=.type "range",data:=.fields #[.int lo t,.int hi u,.int c v]},toks:=tk}:=I.kept λb o e=>pp _ e
 refine⟨(s.heap.push {cls:=.type "range",data:=.fields #[.int lo t,.int hi u,.int c v]}).objs.size,[(s.heap.push {cls:=.type "range",data:=.fields #[.int lo t,.int hi u,.int c v]}).objs.size],_,_,H,rfl,
  I1.kept (t':=tk) λb o e=>pp _ e,zo _ lo c (uG lo hi c),?_,λb hb=>?_,q⟩
 ·have e1:lo+((0:Nat):Int)*c=lo:=by simp
  have e2:((uG lo hi c:Nat):Int) - ((0:Nat):Int)=Builtin.Range.rangeSize lo hi c:=by rw [(vE hc).1]; simp
  show IsRangeIter _ _ (lo+((0:Nat):Int)*c) (((uG lo hi c:Nat):Int) - ((0:Nat):Int)) c
  rw [e1,e2];exact JC _ rfl
 ·have e:b=(s.heap.push {cls:=.type "range",data:=.fields #[.int lo t,.int hi u,.int c v]}).objs.size:=by simpa using hb
  subst e;exact I1.fpOk (JE _) (I1.hok.fresh (JE _))
def Ea (ta:TA):TI:=fun σ H R=>ta σ H λvs H1=>∃ i j c:Int,vs=[.int i,.int j,.int c]/\(0 < c/\c < 2 ^ 30/\-(2 ^ 60)<=i/\i < 2 ^ 60/\-(2 ^ 60)<=j/\j < 2 ^ 60)/\R (Fy i c (uG i j c)) H1
theorem u6 {a b c:Kt} {ta:TA} {p pos:Pos} (hg:Gl X "range") (hm:X.mg "range"=none) (ha:PA X [a,b,c] ta) (hs:starEach [a,b,c] X.env=[(false,eval a X.env),(false,eval b X.env),(false,eval c X.env)]:=by rfl) (hs2:starEach [b,c] X.env=[(false,eval b X.env),(false,eval c X.env)]:=by rfl):
  PI X tg (.Call (.Name "range" p) [a,b,c] [] pos) (Ea ta):=by
 intro KE s σ H R I h;refine Call_ (j4 I hg hm boot_range (PyProof.Rows.callWith_type1 (be (ha pos KE s σ H _ I h) λus s1 ⟨vs,H1,I1,r1,q1⟩=>?_) (by rw [hs,hs2]) (by rw [hs2]; rfl)))
 obtain⟨i,j,c,e,⟨c1,c2,q1,q2,q3,q4⟩,q⟩:=q1;subst e;cases r1 with
 | cons r rr=>
  cases rr with
  | cons r' rr=>
   cases rr with
   | cons r'' rr=>
    cases rr;obtain⟨t,rfl⟩:=r;obtain⟨t',rfl⟩:=r';obtain⟨t'',rfl⟩:=r'';exact call_range_3 (by omega) (xw I1 c1 c2 q1 q2 q3 q4 q) (.inl (PyProof.noPylong_small (by omega)))
end
end L2
namespace DL
open PySem PySem.Spec PyProof.Rows L2
def ju (i j c:Int):List D:=(List.range (uG i j c)).map λk:Nat=>.int (i+(k:Int)*c)
theorem xT {K:Fg} {H:Hp} {i j c:Int}:(∀ n d (S1:DH) H1,(ju i j c)[n]?=some d->Kp H H1->Hs K H1 S1->(λ_=>True:DH->Prop) S1->(Fy i c (uG i j c)).go n H1/\∀ x H',(Fy i c (uG i j c)).yld n H1 x H'->H'=H1/\bB K H1 d x)/\
  ∀ (S1:DH) H1,Kp H H1->Hs K H1 S1->(λ_=>True:DH->Prop) S1->(Fy i c (uG i j c)).stop (ju i j c).length H1:=by
 refine⟨λn d S1 H1 e _ _ _=>?_,λ_ _ _ _ _=>?_⟩
 ·unfold ju at e;rw [J0] at e;cases q:(List.range (uG i j c))[n]? with
  | none=>rw [q] at e; cases e
  | some z=>
   rw [q] at e;cases e;obtain⟨hz1,hz2⟩:=J3.mp q;rw [List.length_range] at hz1;rw [List.getElem_range] at hz2;subst hz2;exact⟨hz1,λx H' y=>⟨y.1,by rw [y.2]; exact isInt.mpr rfl⟩⟩
 ·show uG i j c<=(ju i j c).length
  unfold ju;rw [JG,List.length_range];exact JE _
theorem vt {i j c:Int} (hc:0 < c) (h:j<=i):ju i j c=[]:=by
 unfold ju;rw [(vE hc).2.2 h]
 rfl
def A9 (ta:DA) (g:DG) (b:DS):DS:=λM L S=>ta L S λds S1=>match ds with
 | [.int i,.int j,.int c]=>(0 < c/\c < 2 ^ 30/\-(2 ^ 60)<=i/\i < 2 ^ 60/\-(2 ^ 60)<=j/\j < 2 ^ 60)/\fJ (λ_=>True) g b M (ju i j c) L S1
 | _=>False
section
variable {X:Cx} {a b c tg:Kt} {p pos pos':Pos} {body:List Ky} {ta:DA} {gg:DG} {g:DS}
theorem uz (hp:PassesOwn (model X.prog X.w) X.A X.env X.xe) (hc:X.calm=true) (hgl:Gl X "range") (hm:X.mg "range"=none) (ha:AJ X [a,b,c] ta) (hg:GJ X tg gg) (hb:xt X body g)
  (hs1:starEach [a,b,c] X.env=[(false,eval a X.env),(false,eval b X.env),(false,eval c X.env)]:=by rfl) (hs2:starEach [b,c] X.env=[(false,eval b X.env),(false,eval c X.env)]:=by rfl) (hs:∀ x,foldedSetIterable (.Call (.Name "range" p) [a,b,c] [] pos') X.env x=pure x:=by intro _; rfl):
  SJ X (.For tg (.Call (.Name "range" p) [a,b,c] [] pos') body [] pos) (A9 ta gg g):=
 ⟨PS.imp (pN hp hc (u6 hgl hm ha.h hs1 hs2) hg.h hb.h hs) λN σ H ⟨L,S,M,hL,hS,h,r⟩=>q9.go hL hS h λds S1 vs H1 h1 k1 hL1 hS1 i1=>by
  split at h1
  ·obtain⟨v1,r1,rfl,j1,i2⟩:=bC.mp i1;obtain⟨v2,v3,rfl,j2,j3⟩:=ku i2;have e1:=isInt.mp j1;have e2:=isInt.mp j2;have e3:=isInt.mp j3;subst e1;subst e2;subst e3;obtain⟨hh,h1⟩:=h1;obtain⟨z1,z2⟩:=xT (K:=X.K) (H:=H1);exact⟨_,_,_,rfl,hh,lv hL1 hS1 h1 (r.kp k1) z1 z2⟩
  ·exact h1.elim⟩
end
end DL
namespace My
abbrev FN (K:PySem.W.Frag) (n:PySem.Str) (st:PySem.Stmt) (f:PySem.Addr) (fd:PySem.FuncData):=L2.xJ K n n st f fd
variable {P:Ku} {w:Kw} {K:Fg} {mg:Str->Ks Kq} {base:Kx} {f:Kr} {fd:FuncData}
open PySem PySem.Spec PyProof.Rows L2 DL HM
set_option maxHeartbeats 4000000
def cH (i : Nat) : Ky := PySem.Challenge.pw_hingedraw_k91_texts_written_and_read.main.body.getD i (.Pass ⟨0, 0, 0, 0⟩)
abbrev et:Ky:=cH 9
abbrev sM:Ky:=cH 10
abbrev uY:Ky:=cH 11
abbrev sG:Ky:=cH 12
abbrev vQ:Ky:=cH 13
abbrev fS:Ky:=cH 14
abbrev iM:Ky:=cH 15
abbrev cB:Ky:=cH 16
abbrev mT:Ky:=cH 17
abbrev k7:Ky:=cH 19
abbrev k8:Ky:=cH 6
abbrev gU:Ky:=cH 7
abbrev jV:Ky:=cH 20
abbrev jw:Ky:=cH 21
abbrev dL:Ky:=cH 23
abbrev nN:Ky:=cH 6
abbrev jM:Ky:=cH 7
abbrev dM:Ky:=cH 8
abbrev kQ:Ky:=cH 28
abbrev cX:Ky:=cH 31
abbrev oD:Ky:=cH 32
abbrev kU:Ky:=cH 33
abbrev mP:Ky:=cH 34
abbrev m9:Ky:=cH 35
abbrev mo:Ky:=cH 36
abbrev iR:Ky:=cH 37
abbrev iy:Ky:=cH 43
abbrev eM:Ky:=cH 44
abbrev gP:Ky:=cH 45
abbrev i7:Ky:=cH 46
abbrev nE:Ky:=cH 47
abbrev kC:Ky:=cH 48
abbrev fA:Ky:=cH 49
abbrev iJ:Ky:=cH 50
abbrev fL:Ky:=cH 52
abbrev iH:Ky:=cH 53
abbrev eO:Ky:=cH 54
abbrev gW:Ky:=cH 55
abbrev kO:Ky:=cH 56
abbrev jg:Ky:=cH 57
abbrev mQ:Ky:=cH 58
abbrev j6:Ky:=cH 59
abbrev fC:Ky:=cH 60
abbrev mO:Ky:=cH 26
abbrev jJ:Ky:=cH 61
abbrev ip:Ky:=cH 62
abbrev ja:Ky:=cH 63
abbrev iF:Ky:=cH 51
abbrev im:Ky:=cH 64
abbrev fI:Ky:=cH 66
abbrev iK:Ky:=cH 67
abbrev jS:Ky:=cH 68
abbrev fE:Ky:=cH 69
abbrev ii:Ky:=cH 70
abbrev iw:Ky:=cH 73
abbrev eL:Ky:=cH 74
abbrev gQ:Ky:=cH 81
abbrev iZ:Ky:=cH 85
abbrev iC:Ky:=cH 86
abbrev iU:Ky:=cH 78
abbrev jW:Ky:=cH 79
abbrev di:Ky:=cH 80
abbrev dS:Ky:=cH 84
abbrev jr:Ky:=cH 82
abbrev i8:Ky:=cH 83
abbrev jc:Ky:=cH 87
abbrev fM:Ky:=cH 88
abbrev jO:Ky:=cH 89
abbrev jA:Ky:=cH 90
abbrev dO:Ky:=cH 91
abbrev dj:Ky:=cH 92
abbrev dG:Ky:=cH 93
abbrev zj:Ky:=cH 94
theorem mv:bootBuiltins "abs"=some (.builtin "abs"):=by decide +kernel
theorem aS:bootBuiltins "isinstance"=some (.builtin "isinstance"):=by decide +kernel
theorem wW:bootBuiltins "bool"=some (.type "bool"):=by decide +kernel
theorem kZ:bootBuiltins "int"=some (.type "int"):=by decide +kernel
theorem bJ:bootBuiltins "len"=some (.builtin "len"):=by decide +kernel
theorem cx:bootBuiltins "tuple"=some (.type "tuple"):=by decide +kernel
theorem nw:bootBuiltins "str"=some (.type "str"):=by decide +kernel
theorem Ax:bootBuiltins "range"=some (.type "range"):=by decide +kernel
theorem E7:bootBuiltins "all"=some (.builtin "all"):=by decide +kernel
theorem qI:bootBuiltins "sorted"=some (.builtin "sorted"):=by decide +kernel
theorem xi:bootBuiltins "dict"=some (.type "dict"):=by decide +kernel
theorem yI:bootBuiltins "max"=some (.builtin "max"):=by decide +kernel
theorem D6:bootBuiltins "min"=some (.builtin "min"):=by decide +kernel
theorem B3:bootBuiltins "list"=some (.type "list"):=by decide +kernel
theorem yC {y:Int} {A B:Prop} (h1:y≠0->A) (h2:y=0->B):if (!decide (y=0))=true then A else B:=by
 by_cases h:y=0
 ·rw [if_neg (by simp [h])]; exact h2 h
 ·rw [if_pos (by simp [h])]; exact h1 h
theorem aF {p:Prop} [Decidable p] {A B:Prop} (h1:p->A) (h2:¬ p->B):if decide p=true then A else B:=by
 by_cases h:p
 ·rw [if_pos (by simp [h])]; exact h1 h
 ·rw [if_neg (by simp [h])]; exact h2 h
theorem hZ {p:Prop} [Decidable p] {A B:Prop} (h1:¬ p->A) (h2:p->B):if (!decide p)=true then A else B:=by
 by_cases h:p
 ·rw [if_neg (by simp [h])]; exact h2 h
 ·rw [if_pos (by simp [h])]; exact h1 h
theorem cw {c:KA} {A B:Prop} (h1:c=true->A) (h2:c=false->B):if c=true then A else B:=by
 cases c
 ·exact BI (h2 rfl)
 ·exact vS (h1 rfl)
theorem iW {c:KA} {A B:Prop} (h1:c=false->A) (h2:c=true->B):if (!c)=true then A else B:=by
 cases c
 ·exact vS (h1 rfl)
 ·exact BI (h2 rfl)
theorem oz {ds:List D} {i:Int} (h0:0<=i) (h1:i < (ds.length:Int)):∃ d,L2.atI ds i=some d/\d∈ds:=by
 obtain⟨n,rfl⟩:=Int.eq_ofNat_of_zero_le h0;have hn:n < ds.length:=by omega
 exact⟨ds[n],e_ (by simp [hn]),List.getElem_mem hn⟩
theorem ua {ok:DH->Prop} {g:DG} {b:DS} {M:lX} {P:D->Prop} (Iv:Lo->DH->Prop) (hok:∀ L S,Iv L S->ok S)
  (hs:∀ d L S N,P d->Iv L S->(∀ L' S',Iv L' S'->N L' S')->g d L S λL1 S1=>b {M with nx:=N,ct:=N,bk:=M.nx} L1 S1) (hd:∀ L S,Iv L S->M.nx L S):∀ r,(∀ d∈r,P d)->∀ L S,Iv L S->fJ ok g b M r L S
 | [],_,L,S,i=>⟨hok L S i,hd L S i⟩
 | d::r,hp,L,S,i=>⟨hok L S i,hs d L S _ (hp d JL) i λL' S' i'=>ua Iv hok hs hd r (λe he=>hp e (JM _ he)) L' S' i'⟩
instance {n:Nat} {x:Int}:Decidable (Bt n x):=inferInstanceAs (Decidable (x.natAbs < 2 ^ n))
theorem few {ds:List D} (h:Nat.ble ds.length sizeLine=true:=by rfl):ds.length<=sizeLine:=JT h
def nY (S:DH) (a:Kr):Prop:=∃ n b,S a=some (.lst [.int n,.bl b])/\(b=false->0<=n/\n < 2147483647)
def Dr (a:Kr) (S S':DH):Prop:=nY S' a/\∀ b o,b≠a->S b=some o->S' b=some o
theorem Dr.trans {a:Kr} {S S1 S2:DH} (h1:Dr a S S1) (h2:Dr a S1 S2):Dr a S S2:=⟨h2.1,λb o n e=>h2.2 b o n (h1.2 b o n e)⟩
theorem nY.ne {a p:Kr} {S:DH} (h:nY S a) (hp:S p=none):p≠a:=by
 obtain⟨n,b,e,_⟩:=h;intro z;subst z;rw [e] at hp;cases hp
theorem nY.new {a p:Kr} {S:DH} {o:DO} (h:nY S a) (hp:S p=none):nY (put S p o) a:=by
 have z:=h.ne hp;obtain⟨n,b,e,q⟩:=h;exact⟨n,b,by rw [cj (Ne.symm z)]; exact e,q⟩
theorem Dr.new {a p:Kr} {S:DH} {o:DO} (h:nY S a) (hp:S p=none):Dr a S (put S p o):=
 ⟨h.new hp,λb u n e=>by rw [cj (v8 e hp)]; exact e⟩
theorem xH {x:Int} (h1:0<=x) (h2:x < 2147483648):Bt 31 x:=by
 unfold Bt;omega
def N (u a b:Rat):D:=.tup [fr a,fr (ss b*u)]
structure Fd (u:Rat):Prop where
 pos:0 < u
 no:AA u
 sz:Sz 7 u
structure Sm (n:Nat) (a b:Rat):Prop where
 a:Sz n a
 b:Sz n b
theorem FT {q:Rat}:D.tup [.int (if q.num < 0 then -q.num else q.num),.int (q.den:Int)]=fr (ab q):=by
 show _=D.tup [.int (ab q).num,.int ((ab q).den:Int)]
 rw [Fq,EB]
theorem zU {n:Nat} {t b:Int} (h:b≠0) (hb:Bt n b):Bt n ((Int.gcd t b:Nat):Int):=by
 refine hb.le ?_;have h1:Int.gcd t b ∣ b.natAbs:=by
  have:=Int.gcd_dvd_right t b;exact(by have:=Int.natAbs_dvd_natAbs.mpr this; simpa using this)
 have:=Nat.le_of_dvd (by omega) h1
 omega
def bM:bE:=λds S k=>match ds with
 | [.int a,.int b]=>k (.int ((Int.gcd a b:Nat):Int)) S
 | _=>False
theorem cD:ao ["one","other","rest"] ["one","other"] (aj et):=cG
theorem lB (Fn:FN K "common_divisor" et f fd) (eU:mg "abs"=none):
  aQ P w K mg base b8 1 f fd ["one","other"] (ce K bM):=by
 refine Fn.okJ cD (λds S k h=>?_) (λcdv A outer s H E hr=>⟨_,(ag (jf PassesOwn.never (au kR (af 1) ae (ar _)) (ag (am (i:=2) cD.nd (aB kA (af 0) (af 1))) (ag (am (i:=0) cD.nd (af 1)) (ah (am (i:=1) cD.nd (af 2)))))) (ah (ai (aA rf rfl eU mv (aG 0 ac))))),λds S k h=>?_⟩)
 ·unfold bM at h
  split at h
  ·rfl
  ·exact h.elim
 ·unfold bM at h
  split at h
  ·rename_i a b
   refine⟨λm L S'=>S'=S/\∃ x y r,L=[some (.int x),some (.int y),r]/\m=y.natAbs/\Int.gcd x y=Int.gcd a b,⟨_,rfl,a,b,_,rfl,rfl,rfl⟩,?_⟩
   rintro m L S' ⟨rfl,x,y,r,rfl,rfl,e⟩;refine yC (λhy=>⟨λL' S''=>∃ m',m' < y.natAbs/\S''=S'/\∃ x y r,L'=[some (.int x),some (.int y),r]/\m'=y.natAbs/\Int.gcd x y=Int.gcd a b,λ_ _ z=>z,hy,?_⟩) (λhy=>?_)
   ·exact⟨_,wg x y hy,rfl,y,x.fmod y,_,rfl,rfl,(tD x y).trans e⟩
   ·subst hy;have e2:=uw x;rw [e] at e2
    show k (.int (if x < 0 then -x else x)) S'
    rw [<- e2];exact h
  ·exact h.elim
def iD:bE:=λds S k=>match ds with
 | [.int t,.int b]=>b≠0/\Bt 8000 b/\k (fr (Rat.divInt t b)) S
 | _=>False
theorem pz {S:DH} {k:DK} {t b:Int} {q:Rat} (e:Rat.divInt t b=q) (h0:b≠0) (hb:Bt 8000 b) (h:k (fr q) S):iD [.int t,.int b] S k:=by subst e; exact⟨h0,hb,h⟩
theorem pd:ao ["top","bottom","shared"] ["top","bottom"] (aj sM):=cG
theorem y8 (Fn:FN K "ratio" sM f fd) (a7:bc P w K mg base "common_divisor" 1 bM):
  aQ P w K mg base b8 2 f fd ["top","bottom"] (ce K iD):=by
 refine Fn.okJ pd (λds S k h=>?_) (λcdv A outer s H E hr=>⟨_,(ag (ay (au dW (af 1) ae (ar _)) (ah ba) az) (ag (am (i:=2) pd.nd (dq a7 hr (aG 0 (aG 1 ac)))) (ag (ay (au uE (af 1) ae (ar _)) (ah (am (i:=2) pd.nd (rj qM (af 2)))) az) (ah (ai (aC (aa (aB jp (af 0) (af 2)) (aa (aB jp (af 1) (af 2)) ac)))))))),λds S k h=>?_⟩)
 ·unfold iD at h
  split at h
  ·rfl
  ·exact h.elim
 ·unfold iD at h
  split at h
  ·rename_i t b
   obtain⟨h0,hb,q⟩:=h;have hg:=zU (t:=t) h0 hb;have hs:=zO (t:=t) h0;have e1:=sI (t:=t) h0;have e2:=rX (t:=t) h0;have qq:k (.tup [.int (t.fdiv (yf t b)),.int (b.fdiv (yf t b))]) S:=by rw [e1,e2]; exact q
   unfold yf at qq hs
   refine aF (λz=>absurd z h0) (λ_=>aF (λhl=>?_) (λhl=>?_))
   ·rw [if_pos hl] at qq hs
    exact⟨Bx hs hg.neg,Bx hs hg.neg,few,qq⟩
   ·rw [if_neg hl] at qq hs
    exact⟨Bx hs hg,Bx hs hg,few,qq⟩
  ·exact h.elim
def Am:bE:=λds S k=>∃ p q:Rat,ds=[fr p,fr q]/\Sz 4000 p/\Sz 4000 q/\k (fr (p+q)) S
theorem B0:ao ["one","other"] ["one","other"] (aj uY):=cG
theorem Cj (Fn:FN K "plus" uY f fd) (fk:bc P w K mg base "ratio" 2 iD):
  aQ P w K mg base b8 3 f fd ["one","other"] (ce K Am):=by
 refine Fn.okJ B0 (λds S k h=>?_) (λcdv A outer s H E hr=>⟨_,(ah (ai (dq fk hr (aa (aB bv (aB dY (dz 0) (dz 1)) (aB dY (dz 1) (dz 0))) (aa (aB dY (dz 0) (dz 1)) ac))))),λds S k h=>?_⟩)
 ·obtain⟨_,_,rfl,_⟩:=h
  rfl
 ·obtain⟨p,q,rfl,hp,hq,w⟩:=h;exact⟨uI hp.num hq.den,uI hq.num hp.den,uI hp.den hq.den,pz (ET p q) (fX p q) ((hp.den.mul hq.den).mono (by decide)) w⟩
def xk:bE:=λds S k=>∃ p q:Rat,ds=[fr p,fr q]/\Sz 4000 p/\Sz 4000 q/\k (fr (p*q)) S
theorem Ae:ao ["one","other"] ["one","other"] (aj sG):=cG
theorem zC (Fn:FN K "times" sG f fd) (fk:bc P w K mg base "ratio" 2 iD):
  aQ P w K mg base b8 3 f fd ["one","other"] (ce K xk):=by
 refine Fn.okJ Ae (λds S k h=>?_) (λcdv A outer s H E hr=>⟨_,(ah (ai (dq fk hr (aa (aB dY (dz 0) (dz 1)) (aa (aB dY (dz 0) (dz 1)) ac))))),λds S k h=>?_⟩)
 ·obtain⟨_,_,rfl,_⟩:=h
  rfl
 ·obtain⟨p,q,rfl,hp,hq,w⟩:=h;exact⟨uI hp.num hq.num,uI hp.den hq.den,pz (vO p q) (fX p q) ((hp.den.mul hq.den).mono (by decide)) w⟩
def yj:bE:=λds S k=>∃ p q:Rat,ds=[fr p,fr q]/\q≠0/\Sz 4000 p/\Sz 4000 q/\k (fr (p / q)) S
theorem Bm:ao ["one","other"] ["one","other"] (aj vQ):=cG
theorem BB (Fn:FN K "over" vQ f fd) (fk:bc P w K mg base "ratio" 2 iD):
  aQ P w K mg base b8 3 f fd ["one","other"] (ce K yj):=by
 refine Fn.okJ Bm (λds S k h=>?_) (λcdv A outer s H E hr=>⟨_,(ah (ai (dq fk hr (aa (aB dY (dz 0) (dz 1)) (aa (aB dY (dz 0) (dz 1)) ac))))),λds S k h=>?_⟩)
 ·obtain⟨_,_,rfl,_⟩:=h
  rfl
 ·obtain⟨p,q,rfl,h0,hp,hq,w⟩:=h;exact⟨uI hp.num hq.den,uI hp.den hq.num,pz (AK p q) (Int.mul_ne_zero (sK p) (ir h0)) ((hp.den.mul hq.num).mono (by decide)) w⟩
def fY:bE:=λds S k=>∃ q:Rat,ds=[fr q]/\k (fr (ab q)) S
theorem nV:ao ["one"] ["one"] (aj fS):=cG
theorem n_ (Fn:FN K "without_sign" fS f fd) (eU:mg "abs"=none):
  aQ P w K mg base b8 1 f fd ["one"] (ce K fY):=by
 refine Fn.okJ nV (λds S k h=>?_) (λcdv A outer s H E hr=>⟨_,(ah (ai (aC (aa (aA rf rfl eU mv (aa (dz 0) ac)) (aa (dz 0) ac))))),λds S k h=>?_⟩)
 ·obtain⟨_,rfl,_⟩:=h
  rfl
 ·obtain⟨q,rfl,w⟩:=h;rw [<- FT] at w;exact⟨few,w⟩
set_option maxHeartbeats 4000000
def lu:bE:=λds S k=>∃ n:Int,ds=[.int n]/\0<=n/\Bt 4000 n/\k (.int (jo n)) S
theorem c6:ao ["number","guess","better"] ["number"] (aj iM):=cG
theorem qb (Fn:FN K "whole_root" iM f fd):
  aQ P w K mg base b8 1 f fd ["number"] (ce K lu):=by
 refine Fn.okJ c6 (λds S k h=>?_) (λcdv A outer s H E hr=>⟨_,(ag (ay (au dW (af 0) ae (ar _)) (ah (ai ae)) az) (ag (am (i:=1) c6.nd (aB GZ ae (aB jp (aB bv (Bi (af 0)) ae) ae))) (ag (am (i:=2) c6.nd (aB jp (aB bv (af 1) (aB jp (af 0) (af 1))) ae)) (ag (jf PassesOwn.never (au uE (af 2) (af 1) (ar _)) (ag (am (i:=1) c6.nd (af 2)) (ah (am (i:=2) c6.nd (aB jp (aB bv (af 1) (aB jp (af 0) (af 1))) ae))))) (ah (ai (af 1))))))),λds S k h=>?_⟩)
 ·obtain⟨_,rfl,_⟩:=h
  rfl
 ·obtain⟨n,rfl,h0,hb,q⟩:=h;refine aF (λe=>?_) (λe=>?_)
  ·subst e;rw [Au] at q;exact q
  ·have hbits:Builtin.Int.intBits n<=4000:=intBits_le_iff.mpr hb;have h1:1<=n:=by omega
   have hn:n.natAbs < 2 ^ Builtin.Int.intBits n:=intBits_le_iff.mp (JE _);have G:=Gd.first h1 hn hbits;have hc:xq 1 ((((Builtin.Int.intBits n:Nat):Int)+1).fdiv 2):=by
    have e2:=qO (((Builtin.Int.intBits n:Nat):Int)+1) (b:=2) (by decide)
    exact⟨by rw [e2]; omega,by rw [e2]; omega,by decide⟩
   have two:∀ x:Int,qB x 2:=λx=>⟨by decide,by decide +kernel⟩
   have dv:∀ g:Int,Gd n g->qB n g:=λg G=>Bx (by have:=G.pos; omega) G.bt
   refine⟨two _,hc,dv _ G,two _,λm L S'=>S'=S/\∃ g,L=[some (.int n),some (.int g),some (.int ((g+n.fdiv g).fdiv 2))]/\m=g.toNat/\Gd n g,⟨_,rfl,_,rfl,rfl,G⟩,?_⟩
   rintro m L S' ⟨rfl,g,rfl,rfl,G⟩;refine aF (λhl=>⟨λL' S''=>∃ m',m' < g.toNat/\S''=S'/\∃ g,L'=[some (.int n),some (.int g),some (.int ((g+n.fdiv g).fdiv 2))]/\m'=g.toNat/\Gd n g,λ_ _ z=>z,dv _ (G.next h1 hl),two _,?_⟩) (λhl=>?_)
   ·have G2:=G.next h1 hl;exact⟨_,by have:=G2.pos; have:=G.pos; omega,rfl,_,rfl,rfl,G2⟩
   ·rw [<- G.last h1 hl] at q;exact q
def CH (n:Int):D:=if jo n*jo n=n then .int (jo n) else .non
def dX:bE:=λds S k=>∃ n:Int,ds=[.int n]/\0<=n/\Bt 4000 n/\k (CH n) S
theorem dF:ao ["number","root"] ["number"] (aj cB):=cG
theorem iz (Fn:FN K "square_root_or_none" cB f fd) (iO:bc P w K mg base "whole_root" 1 lu):
  aQ P w K mg base b8 2 f fd ["number"] (ce K dX):=by
 refine Fn.okJ dF (λds S k h=>?_) (λcdv A outer s H E hr=>⟨_,(ag (am (i:=1) dF.nd (dq iO hr (aG 0 ac))) (ah (ai (oX (au dW (aB dY (af 1) (af 1)) (af 0) (ar _)) (af 1) ji)))),λds S k h=>?_⟩)
 ·obtain⟨_,rfl,_⟩:=h
  rfl
 ·obtain⟨n,rfl,h0,hb,q⟩:=h;have b2:=EZ h0 hb;refine⟨n,rfl,h0,hb,uI b2 b2,aF (λe=>?_) (λe=>?_)⟩
  ·rw [CH,if_pos e] at q;exact q
  ·rw [CH,if_neg e] at q;exact q
def mG:bE:=λds S k=>∃ q:Rat,ds=[fr q]/\0<=q/\Sz 4000 q/\(∀ r,0<=r->r*r=q->k (fr r) S)/\(AA q->k .non S)
theorem kS:ao ["one","top","bottom"] ["one"] (aj mT):=cG
theorem ve (Fn:FN K "root_in" mT f fd) (bQ:bc P w K mg base "square_root_or_none" 2 dX):
  aQ P w K mg base b8 3 f fd ["one"] (ce K mG):=by
 refine Fn.okJ kS (λds S k h=>?_) (λcdv A outer s H E hr=>⟨_,(ag (am (i:=1) kS.nd (dq bQ hr (aa (dz 0) ac))) (ag (ay (au Dc (af 1) ji (ar _)) (ah (ai ji)) az) (ag (am (i:=2) kS.nd (dq bQ hr (aa (dz 0) ac))) (ag (ay (au Dc (af 2) ji (ar _)) (ah (ai ji)) az) (ah (ai (aC (aG 1 (aG 2 ac))))))))),λds S k h=>?_⟩)
 ·obtain⟨_,rfl,_⟩:=h
  rfl
 ·obtain⟨q,rfl,h0,hs,h1,h2⟩:=h;have n0:=vc h0
  by_cases e:jo q.num*jo q.num=q.num
  ·by_cases e2:jo (q.den:Int)*jo (q.den:Int)=(q.den:Int)
   ·obtain⟨r,r0,rr⟩:=v9 h0 e e2;obtain⟨e3,e4⟩:=uK r0 rr;have w:=h1 r r0 rr;refine⟨q.num,rfl,n0,hs.num,?_⟩;rw [show CH q.num=.int (jo q.num) from if_pos e]
    refine⟨(q.den:Int),rfl,by omega,hs.den,?_⟩
    rw [show CH (q.den:Int)=.int (jo (q.den:Int)) from if_pos e2,e3,e4]
    exact⟨few,w⟩
   ·refine⟨q.num,rfl,n0,hs.num,?_⟩;rw [show CH q.num=.int (jo q.num) from if_pos e]
    refine⟨(q.den:Int),rfl,by omega,hs.den,?_⟩
    rw [show CH (q.den:Int)=.non from if_neg e2]
    refine h2 λr rr=>e2 ?_
    have:=congrArg (λz:Rat=>(z.den:Int)) rr
    simp only [vC,Int.natCast_mul] at this;exact Ad this
  ·refine⟨q.num,rfl,n0,hs.num,?_⟩;rw [show CH q.num=.non from if_neg e]
   refine h2 λr rr=>e ?_
   have:=congrArg Rat.num rr;rw [vA] at this;exact Ad this
def f_:bE:=λds S k=>∃ x q,ds=[.tup [x,fr q]]/\k (.bl (decide (q=0))) S
theorem tj:ao ["one"] ["one"] (aj k7):=cG
theorem tJ (Fn:FN K "is_plain" k7 f fd):
  aQ P w K mg base b8 1 f fd ["one"] (ce K f_):=by
 refine Fn.okJ tj (λds S k h=>?_) (λcdv A outer s H E hr=>⟨_,(ah (ai (ca dW (aD oM (dz 0) ae Zf) ae (ar _)))),λds S k h=>?_⟩)
 ·obtain⟨_,_,rfl,_⟩:=h
  rfl
 ·obtain⟨x,q,rfl,w⟩:=h;have e:decide (q.num=0)=decide (q=0):=by
   by_cases h0:q=0
   ·subst h0; rfl
   ·rw [Kc h0,Kc (ir h0)]
  rw [<- e] at w;exact w
set_option maxHeartbeats 4000000
def bs (u b d:Rat):Rat:=pick b d*pick b d*u
set_option maxHeartbeats 4000000
def iP:bE:=λds S k=>match ds with
 | [.int _]=>k (.bl true) S
 | _=>False
theorem ul:ao ["thing"] ["thing"] (aj k8):=cG
theorem uj (Fn:FN K "is_whole" k8 f fd) (aw:mg "isinstance"=none) (mq:mg "bool"=none) (eK:mg "int"=none):
  aQ P w K mg base b8 1 f fd ["thing"] (ce K iP):=by
 refine Fn.okJ ul (λds S k h=>?_) (λcdv A outer s H E hr=>⟨_,(ah (ai (dU (aA eR rfl aw aS (aG 0 (aa (g7 (n:=.int) rfl eK kZ) ac))) (dI (yN (aA eR rfl aw aS (aG 0 (aa (g7 (n:=.bool) rfl mq wW) ac)))))))),λds S k h=>?_⟩)
 ·unfold iP at h
  split at h
  ·rfl
  ·exact h.elim
 ·unfold iP at h
  split at h
  ·exact⟨_,rfl,_,rfl,h⟩
  ·exact h.elim
def gS:bE:=λds S k=>∃ q:Rat,ds=[fr q]/\k (.bl true) S
theorem oU:ao ["thing"] ["thing"] (aj gU):=cG
theorem oT (Fn:FN K "is_fraction" gU f fd) (i6:bc P w K mg base "is_whole" 1 iP) (a7:bc P w K mg base "common_divisor" 1 bM) (aM:mg "len"=none) (aw:mg "isinstance"=none) (aL:mg "tuple"=none):
  aQ P w K mg base b8 2 f fd ["thing"] (ce K gS):=by
 refine Fn.okJ oU (λds S k h=>?_) (λcdv A outer s H E hr=>⟨_,(ag (ay (WJ.pt (b_ (aZ (aK (aA eR rfl aw aS (aG 0 (aa (g7 (n:=.tup) rfl aL cx) ac))))) (bI (au kR (aA cM rfl aM bJ (aG 0 ac)) ae (ar _))))) (ah (ai cn)) az) (ag (ay (WJ.pt (b_ (aZ (aK (dq i6 hr (aa (dz 0) ac)))) (bI (aZ (aK (dq i6 hr (aa (dz 0) ac))))))) (ah (ai cn)) az) (ah (ai (dU (ca yT (dz 0) ae (ar _)) (dI (ca dW (dq a7 hr (aa (dz 0) (aa (dz 0) ac))) ae (ar _)))))))),λds S k h=>?_⟩)
 ·obtain⟨_,rfl,_⟩:=h
  rfl
 ·obtain⟨q,rfl,w⟩:=h;have hd:=q.den_nz;refine⟨_,rfl,aF (λ_=>?_) (λz=>absurd (show (1:Int)<=(q.den:Int) by omega) z)⟩
  have e:decide ((((Int.gcd q.num (q.den:Int)):Nat):Int)=1)=true:=by rw [B4]; rfl
  rw [<- e] at w;exact w
def nG:bE:=λds S k=>∃ u a b:Rat,ds=[N u a b]/\Fd u/\Sm 300 a b/\k (.bl true) S
theorem sA:ao ["thing"] ["thing"] (aj jV):=cG
theorem sN (Fn:FN K "is_number" jV f fd) (b6:bc P w K mg base "is_fraction" 2 gS) (fv:bc P w K mg base "root_in" 3 mG) (bP:bc P w K mg base "without_sign" 1 fY) (bz:bc P w K mg base "is_plain" 1 f_) (aM:mg "len"=none) (aw:mg "isinstance"=none) (aL:mg "tuple"=none):
  aQ P w K mg base b8 4 f fd ["thing"] (ce K nG):=by
 refine Fn.okJ sA (λds S k h=>?_) (λcdv A outer s H E hr=>⟨_,(ag (ay (WJ.pt (b_ (aZ (aK (aA eR rfl aw aS (aG 0 (aa (g7 (n:=.tup) rfl aL cx) ac))))) (bI (au kR (aA cM rfl aM bJ (aG 0 ac)) ae (ar _))))) (ah (ai cn)) az) (ag (ay (WJ.pt (b_ (aZ (aK (dq b6 hr (aa (dz 0) ac)))) (bI (aZ (aK (dq b6 hr (aa (dz 0) ac))))))) (ah (ai cn)) az) (ah (ai (Cv (dq bz hr (aG 0 ac)) (dI (ca Dc (dq fv hr (aa (dq bP hr (aa (dz 0) ac)) ac)) ji (ar _)))))))),λds S k h=>?_⟩)
 ·obtain⟨_,_,_,rfl,_⟩:=h
  rfl
 ·obtain⟨u,a,b,rfl,hu,h1,w⟩:=h;have ed:ab (ss b*u)=b*b*u:=yY hu.pos;refine⟨_,rfl,a,rfl,_,rfl,fr a,ss b*u,rfl,aF (λ_=>w) (λe=>?_)⟩
  have b0:b≠0:=λz=>e ((wc hu.pos).mpr z)
  refine⟨_,rfl,_,rfl,yM _,((h1.b.ss.mul hu.sz).ab).mono (by decide),λr r0 rr=>?_,λno=>w⟩
  rw [ed] at rr;exact absurd (show (r / b)*(r / b)=u by grind) (hu.no _)
set_option maxHeartbeats 4000000
def bg (S S':DH):Prop:=∀ b o,S b=some o->S' b=some o
theorem bg.refl (S:DH):bg S S:=λ_ _ h=>h
theorem bg.trans {S S1 S2:DH} (a:bg S S1) (b:bg S1 S2):bg S S2:=λc o h=>b c o (a c o h)
theorem bg.new {S:DH} {p:Kr} {o:DO} (h:S p=none):bg S (put S p o):=λb u e=>by
 unfold put
 split
 ·rename_i z; subst z; rw [h] at e; cases e
 ·exact e
theorem bg.put {S S1:DH} {p:Kr} {o:DO} (e:bg S S1) (h:S p=none):bg S (put S1 p o):=λb u z=>by
 unfold DL.put
 split
 ·rename_i y; subst y; rw [h] at z; cases z
 ·exact e b u z
theorem bg.none {S S1:DH} {p:Kr} (e:bg S S1) (h:S1 p=none):S p=none:=by
 cases q:S p with
 | none=>rfl
 | some o=>rw [e p o q] at h; cases h
abbrev Q:=Rat×Rat
def qs (x y:Q):Q:=(x.1 - y.1,x.2 - y.2)
abbrev Sq (n:Nat) (x:Q):Prop:=Sm n x.1 x.2
def Pq (u:Rat) (x y:Q):D:=.tup [N u x.1 x.2,N u y.1 y.2]
def nL:bE:=λds S k=>∃ u a b c d:Rat,ds=[N u a b,N u c d]/\0 < u/\Sz 7 u/\Sz 300 b/\Sz 300 d/\k (.bl true) S
theorem sx:ao ["one","other"] ["one","other"] (aj jw):=cG
theorem sS (Fn:FN K "one_field" jw f fd) (bz:bc P w K mg base "is_plain" 1 f_) (fv:bc P w K mg base "root_in" 3 mG) (v_:bc P w K mg base "over" 3 yj) (bP:bc P w K mg base "without_sign" 1 fY):
  aQ P w K mg base b8 4 f fd ["one","other"] (ce K nL):=by
 refine Fn.okJ sx (λds S k h=>?_) (λcdv A outer s H E hr=>⟨_,(ag (ay (WJ.pt (b_ (aK (dq bz hr (aG 0 ac))) (bI (aK (dq bz hr (aG 1 ac)))))) (ah (ai cn)) az) (ah (ai (ca xb (dq fv hr (aa (dq v_ hr (aa (dq bP hr (aa (dz 0) ac)) (aa (dq bP hr (aa (dz 1) ac)) ac))) ac)) ji (ar _))))),λds S k h=>?_⟩)
 ·obtain⟨_,_,_,_,_,rfl,_⟩:=h
  rfl
 ·obtain⟨u,a,b,c,d,rfl,u0,hu,hb,hd,w⟩:=h;refine⟨fr a,ss b*u,rfl,aF (λ_=>w) (λe=>⟨fr c,ss d*u,rfl,aF (λ_=>w) (λe2=>?_)⟩)⟩
  have d0:d≠0:=λz=>e2 ((wc u0).mpr z)
  have eb:ab (ss b*u)=b*b*u:=yY u0;have ed:ab (ss d*u)=d*d*u:=yY u0;have s1:Sz 607 (ab (ss b*u)):=(hb.ss.mul hu).ab;have s2:Sz 607 (ab (ss d*u)):=(hd.ss.mul hu).ab;have ne:ab (ss d*u)≠0:=by rw [ed]; grind
  refine⟨_,rfl,_,rfl,_,_,rfl,ne,s1.mono (by decide),s2.mono (by decide),_,rfl,AL (yM _) (yM _),(s1.div s2 ne).mono (by decide),λr r0 rr=>w,λno=>?_⟩
  rw [eb,ed] at no;exact absurd (zK u0 d0) (no _)
def W (x y:Rat):D:=.tup [fr x,fr y]
def gr:bE:=λds S k=>∃ x y z v:Rat,ds=[W x y,W z v]/\Sz 900 x/\Sz 900 y/\Sz 900 z/\Sz 900 v/\k (fr (x*z+y*v)) S
theorem kT:ao ["one","other"] ["one","other"] (aj dL):=cG
theorem kL (Fn:FN K "product_of_ways" dL f fd) (uJ:bc P w K mg base "plus" 3 Am) (ou:bc P w K mg base "times" 3 xk):
  aQ P w K mg base b8 4 f fd ["one","other"] (ce K gr):=by
 refine Fn.okJ kT (λds S k h=>?_) (λcdv A outer s H E hr=>⟨_,(ah (ai (dq uJ hr (aa (dq ou hr (aa (dz 0) (aa (dz 1) ac))) (aa (dq ou hr (aa (dz 0) (aa (dz 1) ac))) ac))))),λds S k h=>?_⟩)
 ·obtain⟨_,_,_,_,rfl,_⟩:=h
  rfl
 ·obtain⟨x,y,z,v,rfl,hx,hy,hz,hv,w⟩:=h;exact⟨x,z,rfl,hx.mono (by decide),hz.mono (by decide),y,v,rfl,hy.mono (by decide),hv.mono (by decide),_,_,rfl,(hx.mul hz).mono (by decide),(hy.mul hv).mono (by decide),w⟩
set_option maxHeartbeats 4000000
def oG:D->KA
 | .int _=>true
 | _=>false
def cv:D->KA
 | .tup [.int a,.int b]=>decide (1<=b) && decide (((Int.gcd a b:Nat):Int)=1)
 | _=>false
def en:D->KA
 | .tup [.int a,.int b]=>cv (.tup [.int a,.int b]) && decide (0 < a)
 | _=>false
def bY (n:Nat):D->KA
 | .int i=>decide (0<=i) && decide (i < (n:Int))
 | _=>false
def ui:D->D->KA
 | .int a,.int b=>!decide (a=b)
 | _,_=>false
def w_:D->KA
 | .int v=>decide (0<=v) && decide (v<=1)
 | _=>false
def v7:D->KA
 | .tup (.str w::_)=>w == "fix"
 | _=>false
def oF (as:List D):D->KA
 | .int i=>match as[i.toNat]? with
  | some x=>v7 x
  | none=>false
 | _=>false
def Bz:List D->KA
 | [x,y]=>cv x && cv y
 | _=>false
def sn (as:List D):List D->KA
 | [c,l]=>bY as.length c && (oF as c && en l)
 | _=>false
def wU (n:Nat):List D->KA
 | [i,j,s,t,v]=>(bY n i && bY n j && ui i j) && (en s && en t && w_ v)
 | _=>false
def w5 (n:Nat):List D->KA
 | [i,j,a,l]=>(bY n i && bY n j && ui i j) && (cv a && cv l)
 | _=>false
def lw (as:List D):D->KA
 | .tup (.str w::r)=>if (w == "fix")=true then Bz r else if (w == "crank")=true then sn as r else if (w == "pair")=true then wU as.length r else(w == "like") && w5 as.length r
 | _=>false
def cY (all:List D):Nat->List D->KA
 | _,[]=>true
 | k,d::r=>lw (all.take k) d && cY all (k+1) r
def xg:D->KA
 | .tup ds=>decide (1<=(ds.length:Int)) && decide ((ds.length:Int)<=7) && cY ds 0 ds
 | _=>false
def yd (S:DH) (d:D):Prop:=∃ t,Fu S d=some t
def El (S:DH) (d:D):Prop:=yd S d/\(∀ ds,d=.tup ds->∀ x∈ds,yd S x)/\∀ a,d=.ref a->∃ ds,S a=some (.lst ds)
def St (S:DH) (d:D):Prop:=yd S d/\∀ ds,d=.tup ds->∀ x∈ds,El S x
def Th (S:DH) (d:D):Prop:=yd S d/\∀ ds,d=.tup ds->∀ x∈ds,St S x
theorem AM {S:DH} {d:D} {t:Ty} (h:Fu S d=some t):oG d=(match t with | .int=>true | _=>false):=by
 cases d with
 | ref a=>
  have h:GL (S a)=some t:=h;cases z:S a with
  | none=>rw [z] at h; cases h
  | some o=>rw [z] at h; cases o <;> cases h <;> rfl
 | _=>cases h <;> rfl
theorem ka {d:D} (h:oG d=true):∃ i,d=.int i:=by
 cases d with
 | int i=>exact⟨i,rfl⟩
 | _=>exact absurd (show false=true from h) JH
theorem sr {S:DH} {d:D} {t:Ty} (h:Fu S d=some t) (n:∀ ds,d≠.tup ds):pX t .tup=false:=by
 cases d with
 | ref a=>
  have h:GL (S a)=some t:=h;cases z:S a with
  | none=>rw [z] at h; cases h
  | some o=>rw [z] at h; cases o <;> cases h <;> rfl
 | tup ds=>exact absurd rfl (n ds)
 | _=>cases h <;> rfl
theorem uT (d:D):(∃ ds,d=.tup ds)\/∀ ds,d≠.tup ds:=by
 cases d with
 | tup ds=>exact .inl ⟨ds,rfl⟩
 | _=>exact .inr λds h=>by cases h
theorem D' {ds:List D} (h:(ds.length:Int)=2):∃ x y,ds=[x,y]:=by
 match ds,h with
 | [x,y],_=>exact⟨x,y,rfl⟩
 | [],h=>cases h
 | [_],h=>exact absurd h (by simp)
 | _::_::_::r,h=>simp only [JQ] at h; omega
theorem Ho {ds:List D} (h:(ds.length:Int)=5):∃ a b c d e,ds=[a,b,c,d,e]:=by
 match ds,h with
 | [a,b,c,d,e],_=>exact⟨a,b,c,d,e,rfl⟩
 | [],h=>simp at h
 | [_],h=>simp at h
 | [_,_],h=>simp at h
 | [_,_,_],h=>simp at h
 | [_,_,_,_],h=>simp at h
 | _::_::_::_::_::_::r,h=>simp only [JQ] at h; omega
theorem zH {ds:List D} (h:¬ (ds.length:Int)=2):cv (.tup ds)=false:=by
 match ds,h with
 | [],_=>rfl
 | [x],_=>cases x <;> rfl
 | [_,_],h=>exact absurd rfl h
 | x::y::_::r,_=>cases x <;> first | rfl | (cases y <;> rfl)
theorem BW {a b:Int}:cv (.tup [.int a,.int b])=(decide (1<=b) && decide (((Int.gcd a b:Nat):Int)=1)):=rfl
theorem zA {d:D} (n:∀ ds,d≠.tup ds):cv d=false:=by
 cases d with
 | tup ds=>exact absurd rfl (n ds)
 | _=>rfl
theorem A8 {x y:D} (h:oG x=false):cv (.tup [x,y])=false:=by
 cases x with
 | int i=>cases h
 | _=>rfl
theorem BX {x y:D} (h:oG y=false):cv (.tup [x,y])=false:=by
 cases x with
 | int i=>
  cases y with
  | int j=>cases h
  | _=>rfl
 | _=>rfl
theorem Cm {d:D} (h:cv d=true):∃ a b,d=.tup [.int a,.int b]:=by
 unfold cv at h
 split at h
 ·exact⟨_,_,rfl⟩
 ·cases h
theorem v6 {d:D} (h:cv d=false):en d=false:=by
 unfold en
 split
 ·rw [h]; rfl
 ·rfl
theorem Bn {r:List D} (h:¬ (r.length:Int)=2):Bz r=false:=by
 match r,h with
 | [],_=>rfl
 | [_],_=>rfl
 | [_,_],h=>exact absurd rfl h
 | _::_::_::_,_=>rfl
theorem x9 {as r:List D} (h:¬ (r.length:Int)=2):sn as r=false:=by
 match r,h with
 | [],_=>rfl
 | [_],_=>rfl
 | [_,_],h=>exact absurd rfl h
 | _::_::_::_,_=>rfl
theorem zl {n:Nat} {r:List D} (h:¬ (r.length:Int)=4):w5 n r=false:=by
 match r,h with
 | [],_=>rfl
 | [_],_=>rfl
 | [_,_],_=>rfl
 | [_,_,_],_=>rfl
 | [_,_,_,_],h=>exact absurd rfl h
 | _::_::_::_::_::_,_=>rfl
theorem AV {n:Nat} {r:List D} (h:¬ (r.length:Int)=5):wU n r=false:=by
 match r,h with
 | [],_=>rfl
 | [_],_=>rfl
 | [_,_],_=>rfl
 | [_,_,_],_=>rfl
 | [_,_,_,_],_=>rfl
 | [_,_,_,_,_],h=>exact absurd rfl h
 | _::_::_::_::_::_::_,_=>rfl
def eF:bE:=λds S k=>∃ d,ds=[d]/\yd S d/\k (.bl (oG d)) S
theorem rJ:ao ["thing"] ["thing"] (aj nN):=cG
theorem rE (Fn:FN K "is_whole" nN f fd) (aw:mg "isinstance"=none) (mq:mg "bool"=none) (eK:mg "int"=none):
  aQ P w K mg base b8 1 f fd ["thing"] (ce K eF):=by
 refine Fn.okJ rJ (λds S k h=>?_) (λcdv A outer s H E hr=>⟨_,(ah (ai (dU (aA eR rfl aw aS (aG 0 (aa (g7 (n:=.int) rfl eK kZ) ac))) (dI (yN (aA eR rfl aw aS (aG 0 (aa (g7 (n:=.bool) rfl mq wW) ac)))))))),λds S k h=>?_⟩)
 ·obtain⟨_,rfl,_⟩:=h
  rfl
 ·obtain⟨d,rfl,⟨t,ht⟩,q⟩:=h;rw [AM ht] at q;refine⟨t,ht,?_⟩;cases t <;> first | exact q | exact⟨_,ht,q⟩
def dQ:bE:=λds S k=>∃ d,ds=[d]/\yd S d/\(∀ ds,d=.tup ds->∀ x∈ds,yd S x)/\k (.bl (cv d)) S
theorem n6:ao ["thing"] ["thing"] (aj jM):=cG
theorem oa (Fn:FN K "is_fraction" jM f fd) (bf:bc P w K mg base "is_whole" 1 eF) (a7:bc P w K mg base "common_divisor" 1 bM) (aM:mg "len"=none) (aw:mg "isinstance"=none) (aL:mg "tuple"=none):
  aQ P w K mg base b8 2 f fd ["thing"] (ce K dQ):=by
 refine Fn.okJ n6 (λds S k h=>?_) (λcdv A outer s H E hr=>⟨_,(ag (ay (WJ.pt (b_ (aZ (aK (aA eR rfl aw aS (aG 0 (aa (g7 (n:=.tup) rfl aL cx) ac))))) (bI (au kR (aA cM rfl aM bJ (aG 0 ac)) ae (ar _))))) (ah (ai cn)) az) (ag (ay (WJ.pt (b_ (aZ (aK (dq bf hr (aa (dz 0) ac)))) (bI (aZ (aK (dq bf hr (aa (dz 0) ac))))))) (ah (ai cn)) az) (ah (ai (dU (ca yT (dz 0) ae (ar _)) (dI (ca dW (dq a7 hr (aa (dz 0) (aa (dz 0) ac))) ae (ar _)))))))),λds S k h=>?_⟩)
 ·obtain⟨_,rfl,_⟩:=h
  rfl
 ·obtain⟨d,rfl,⟨t,ht⟩,ha,q⟩:=h;refine⟨t,ht,?_⟩;rcases uT d with ⟨ds,rfl⟩ | n
  ·cases ht;refine hZ (λhl=>?_) (λhl=>?_)
   ·rw [zH hl] at q;exact q
   ·obtain⟨x,y,rfl⟩:=D' hl;refine⟨x,rfl,ha _ rfl x (by simp),iW (λh1=>?_) (λh1=>⟨y,rfl,ha _ rfl y (by simp),iW (λh2=>?_) (λh2=>?_)⟩)⟩
    ·rw [A8 h1] at q;exact q
    ·rw [BX h2] at q;exact q
    ·obtain⟨a,rfl⟩:=ka h1;obtain⟨b,rfl⟩:=ka h2;rw [BW] at q;refine aF (λh3=>?_) (λh3=>?_)
     ·rw [decide_eq_true h3,Bool.true_and] at q;exact q
     ·rw [Kc h3,Bool.false_and] at q;exact q
  ·rw [sr ht n];rw [zA n] at q;exact q
def dN:bE:=λds S k=>∃ d,ds=[d]/\yd S d/\(∀ ds,d=.tup ds->∀ x∈ds,yd S x)/\k (.bl (en d)) S
theorem kD:ao ["thing"] ["thing"] (aj dM):=cG
theorem kI (Fn:FN K "is_above_nought" dM f fd) (aX:bc P w K mg base "is_fraction" 2 dQ):
  aQ P w K mg base b8 3 f fd ["thing"] (ce K dN):=by
 refine Fn.okJ kD (λds S k h=>?_) (λcdv A outer s H E hr=>⟨_,(ah (ai (dU (dq aX hr (aG 0 ac)) (dI (ca t7 (dz 0) ae (ar _)))))),λds S k h=>?_⟩)
 ·obtain⟨_,rfl,_⟩:=h
  rfl
 ·obtain⟨d,rfl,ht,ha,q⟩:=h;refine⟨d,rfl,ht,ha,cw (λh=>?_) (λh=>?_)⟩
  ·obtain⟨a,b,rfl⟩:=Cm h;have q:k (.bl (cv (.tup [.int a,.int b]) && decide (0 < a))) S:=q;rw [h,Bool.true_and] at q;exact q
  ·rw [v6 h] at q;exact q
def kW:bE:=λds S k=>∃ (d:D) (n:Nat),ds=[d,.int (n:Nat)]/\yd S d/\k (.bl (bY n d)) S
theorem ux:ao ["thing","many"] ["thing","many"] (aj kQ):=cG
theorem sY (Fn:FN K "is_joint" kQ f fd) (bf:bc P w K mg base "is_whole" 1 eF):
  aQ P w K mg base b8 2 f fd ["thing","many"] (ce K kW):=by
 refine Fn.okJ ux (λds S k h=>?_) (λcdv A outer s H E hr=>⟨_,(ah (ai (dU (dq bf hr (aG 0 ac)) (dI (uh zm uE ae (af 0) (af 1)))))),λds S k h=>?_⟩)
 ·obtain⟨_,_,rfl,_⟩:=h
  rfl
 ·obtain⟨d,n,rfl,ht,q⟩:=h;refine⟨d,rfl,ht,cw (λh=>?_) (λh=>?_)⟩
  ·obtain⟨i,rfl⟩:=ka h;have q:k (.bl (decide (0<=i) && decide (i < (n:Int)))) S:=q;refine aF (λh0=>?_) (λh0=>?_)
   ·rw [decide_eq_true h0,Bool.true_and] at q;exact q
   ·rw [Kc h0,Bool.false_and] at q;exact q
  ·have e:bY n d=false:=by cases d <;> first | rfl | cases h
   rw [e] at q;exact q
theorem nv {n:Nat} {d:D} (h:bY n d=true):∃ i:Nat,d=.int (i:Nat)/\i < n:=by
 cases d with
 | int i=>
  have h:(decide (0<=i) && decide (i < (n:Int)))=true:=h;rw [J6] at h;obtain⟨j,rfl⟩:=Int.eq_ofNat_of_zero_le (of_decide_eq_true h.1);exact⟨j,rfl,by have:=of_decide_eq_true h.2; omega⟩
 | _=>cases h
def cV:bE:=λds S k=>∃ (d e:D) (n:Nat),ds=[d,e,.int (n:Nat)]/\yd S d/\yd S e/\k (.bl (bY n d && bY n e && ui d e)) S
theorem jX:ao ["one","other","many"] ["one","other","many"] (aj cX):=cG
theorem jB (Fn:FN K "are_unlike_joints" cX f fd) (dk:bc P w K mg base "is_joint" 2 kW):
  aQ P w K mg base b8 3 f fd ["one","other","many"] (ce K cV):=by
 refine Fn.okJ jX (λds S k h=>?_) (λcdv A outer s H E hr=>⟨_,(ah (ai (dU (dq dk hr (aG 0 (aG 2 ac))) (dU (dq dk hr (aG 1 (aG 2 ac))) (dI (ca kR (af 0) (af 1) (ar _))))))),λds S k h=>?_⟩)
 ·obtain⟨_,_,_,rfl,_⟩:=h
  rfl
 ·obtain⟨d,e,n,rfl,hd,he,q⟩:=h;refine⟨d,n,rfl,hd,cw (λh1=>⟨e,n,rfl,he,cw (λh2=>?_) (λh2=>?_)⟩) (λh1=>?_)⟩
  ·rw [h1,h2] at q;obtain⟨i,rfl,_⟩:=nv h1;obtain⟨j,rfl,_⟩:=nv h2;exact q
  ·rw [h1,h2] at q;exact q
  ·rw [h1] at q;exact q
def pj (x:D):Prop:=∃ (w:Str) (r:List D),x=.tup (.str w::r)
def tE:bE:=λds S k=>∃ (w:D) (r:List D),ds=[.tup (w::r)]/\(∀ x∈w::r,El S x)/\k (.bl (Bz r)) S
theorem yc:ao ["step"] ["step"] (aj oD):=cG
theorem x_ (Fn:FN K "is_fix" oD f fd) (aX:bc P w K mg base "is_fraction" 2 dQ) (aM:mg "len"=none):
  aQ P w K mg base b8 3 f fd ["step"] (ce K tE):=by
 refine Fn.okJ yc (λds S k h=>?_) (λcdv A outer s H E hr=>⟨_,(ah (ai (dU (ca dW (aA cM rfl aM bJ (aG 0 ac)) ae (ar _)) (dU (dq aX hr (aa (dz 0) ac)) (dI (dq aX hr (aa (dz 0) ac))))))),λds S k h=>?_⟩)
 ·obtain⟨_,_,rfl,_⟩:=h
  rfl
 ·obtain⟨w,r,rfl,hE,q⟩:=h;refine aF (λhl=>?_) (λhl=>?_)
  ·obtain⟨x,y,rfl⟩:=D' (ds:=r) (by simp only [JQ] at hl; omega)
   have hx:=hE x (by simp)
   have hy:=hE y (by simp)
   have q:k (.bl (cv x && cv y)) S:=q;refine⟨x,rfl,hx.1,hx.2.1,cw (λh=>⟨y,rfl,hy.1,hy.2.1,?_⟩) (λh=>?_)⟩
   ·rw [h] at q; exact q
   ·rw [h] at q; exact q
  ·rw [Bn (by simp only [JQ] at hl; omega)] at q
   exact q
set_option maxHeartbeats 4000000
theorem C1 (w:D):(∃ u,w=.str u)\/∀ u,w≠.str u:=by
 cases w with
 | str u=>exact .inl ⟨u,rfl⟩
 | _=>exact .inr λu h=>by cases h
theorem zi {as r:List D} {w:D} (n:∀ u,w≠.str u):lw as (.tup (w::r))=false:=by
 cases w with
 | str u=>exact absurd rfl (n u)
 | _=>rfl
theorem zT {as:List D} {i:Nat} {u:Str} {rr:List D} (hi:i < as.length) (e:as[i]=.tup (.str u::rr)):oF as (.int (i:Nat))=(u == "fix"):=by
 show(match as[((i:Nat):Int).toNat]? with | some x=>v7 x | none=>false)=_
 rw [Ki,JY hi,e]
 rfl
def pA:bE:=λds S k=>∃ (w:D) (r as:List D),ds=[.tup (w::r),.tup as]/\(∀ x∈w::r,El S x)/\(∀ x∈as,pj x)/\k (.bl (sn as r)) S
theorem uf:ao ["step","ahead"] ["step","ahead"] (aj kU):=cG
theorem uD (Fn:FN K "is_crank" kU f fd) (dk:bc P w K mg base "is_joint" 2 kW) (bj:bc P w K mg base "is_above_nought" 3 dN) (aM:mg "len"=none):
  aQ P w K mg base b8 4 f fd ["step","ahead"] (ce K pA):=by
 refine Fn.okJ uf (λds S k h=>?_) (λcdv A outer s H E hr=>⟨_,(ag (ay (WJ.pt (b_ (au kR (aA cM rfl aM bJ (aG 0 ac)) ae (ar _)) (bI (aZ (aK (dq dk hr (aa (aD cy (af 0) ae Zf) (aa (aA cM rfl aM bJ (aG 1 ac)) ac)))))))) (ah (ai cn)) az) (ah (ai (dU (ca (tm hr) (aD cy (aD cy (af 1) (aD cy (af 0) ae Zf) Zf) ae Zf) aH (ar _)) (dI (dq bj hr (aa (aD cy (af 0) ae Zf) ac))))))),λds S k h=>?_⟩)
 ·obtain⟨_,_,_,rfl,_⟩:=h
  rfl
 ·obtain⟨w,r,as,rfl,hE,hR,q⟩:=h;refine hZ (λhl=>vS ?_) (λhl=>?_)
  ·rw [x9 (by simp only [JQ] at hl; omega)] at q
   exact q
  ·obtain⟨c,l,rfl⟩:=D' (ds:=r) (by simp only [JQ] at hl; omega)
   have hc:=hE c (by simp)
   have hll:=hE l (by simp)
   have q:k (.bl (bY as.length c && (oF as c && en l))) S:=q;refine⟨c,rfl,c,as.length,rfl,hc.1,iW (λh=>?_) (λh=>?_)⟩
   ·rw [h,Bool.false_and] at q;exact q
   ·rw [h,Bool.true_and] at q;obtain⟨i,rfl,hi⟩:=nv h;obtain⟨u,rr,e⟩:=hR _ (List.getElem_mem hi);rw [zT hi e] at q;refine⟨_,rfl,.tup (.str u::rr),L2.e_ (by rw [JY hi,e]),.str u,bq,cw (λh2=>⟨l,rfl,l,rfl,hll.1,hll.2.1,?_⟩) (λh2=>?_)⟩
    ·rw [h2,Bool.true_and] at q; exact q
    ·rw [h2,Bool.false_and] at q; exact q
def rz:bE:=λds S k=>∃ (w:D) (r as:List D),ds=[.tup (w::r),.tup as]/\(∀ x∈w::r,El S x)/\k (.bl (wU as.length r)) S
theorem vq:ao ["step","ahead"] ["step","ahead"] (aj mP):=cG
theorem uV (Fn:FN K "is_pair" mP f fd) (bp:bc P w K mg base "are_unlike_joints" 3 cV) (bj:bc P w K mg base "is_above_nought" 3 dN) (bf:bc P w K mg base "is_whole" 1 eF) (aM:mg "len"=none):
  aQ P w K mg base b8 4 f fd ["step","ahead"] (ce K rz):=by
 refine Fn.okJ vq (λds S k h=>?_) (λcdv A outer s H E hr=>⟨_,(ag (ay (WJ.pt (b_ (au kR (aA cM rfl aM bJ (aG 0 ac)) ae (ar _)) (bI (aZ (aK (dq bp hr (aa (aD cy (af 0) ae Zf) (aa (aD cy (af 0) ae Zf) (aa (aA cM rfl aM bJ (aG 1 ac)) ac))))))))) (ah (ai cn)) az) (ag (ay (WJ.pt (b_ (aZ (aK (dq bj hr (aa (aD cy (af 0) ae Zf) ac)))) (bI (aZ (aK (dq bj hr (aa (aD cy (af 0) ae Zf) ac))))))) (ah (ai cn)) az) (ah (ai (dU (dq bf hr (aa (aD cy (af 0) ae Zf) ac)) (dI (uh zm zm ae (aD cy (af 0) ae Zf) ae))))))),λds S k h=>?_⟩)
 ·obtain⟨_,_,_,rfl,_⟩:=h
  rfl
 ·obtain⟨w,r,as,rfl,hE,q⟩:=h;refine hZ (λhl=>vS ?_) (λhl=>?_)
  ·rw [AV (by simp only [JQ] at hl; omega)] at q
   exact q
  ·obtain⟨i,j,s',t,v,rfl⟩:=Ho (ds:=r) (by simp only [JQ] at hl; omega)
   have hi:=hE i (by simp)
   have hj:=hE j (by simp)
   have hs:=hE s' (by simp)
   have ht:=hE t (by simp)
   have hv:=hE v (by simp)
   have q:k (.bl ((bY as.length i && bY as.length j && ui i j) && (en s' && en t && w_ v))) S:=q;refine⟨i,rfl,j,rfl,i,j,as.length,rfl,hi.1,hj.1,iW (λh=>?_) (λh=>?_)⟩
   ·rw [h,Bool.false_and] at q;exact q
   rw [h,Bool.true_and] at q;refine⟨s',rfl,s',rfl,hs.1,hs.2.1,iW (λh1=>vS ?_) (λh1=>⟨t,rfl,t,rfl,ht.1,ht.2.1,iW (λh2=>?_) (λh2=>?_)⟩)⟩
   ·rw [h1] at q; exact q
   ·rw [h1,h2] at q; exact q
   ·rw [h1,h2] at q;refine⟨v,rfl,v,rfl,hv.1,cw (λh3=>?_) (λh3=>?_)⟩
    ·obtain⟨n,rfl⟩:=ka h3;have q:k (.bl (decide (0<=n) && decide (n<=1))) S:=q;refine⟨_,rfl,aF (λh0=>?_) (λh0=>?_)⟩
     ·rw [decide_eq_true h0,Bool.true_and] at q;exact q
     ·rw [Kc h0,Bool.false_and] at q;exact q
    ·have e:w_ v=false:=by cases v <;> first | rfl | cases h3
     rw [e] at q;exact q
def re:bE:=λds S k=>∃ (w:D) (r as:List D),ds=[.tup (w::r),.tup as]/\(∀ x∈w::r,El S x)/\k (.bl (w5 as.length r)) S
theorem vL:ao ["step","ahead"] ["step","ahead"] (aj m9):=cG
theorem uQ (Fn:FN K "is_like" m9 f fd) (bp:bc P w K mg base "are_unlike_joints" 3 cV) (aX:bc P w K mg base "is_fraction" 2 dQ) (aM:mg "len"=none):
  aQ P w K mg base b8 4 f fd ["step","ahead"] (ce K re):=by
 refine Fn.okJ vL (λds S k h=>?_) (λcdv A outer s H E hr=>⟨_,(ag (ay (WJ.pt (b_ (au kR (aA cM rfl aM bJ (aG 0 ac)) ae (ar _)) (bI (aZ (aK (dq bp hr (aa (aD cy (af 0) ae Zf) (aa (aD cy (af 0) ae Zf) (aa (aA cM rfl aM bJ (aG 1 ac)) ac))))))))) (ah (ai cn)) az) (ah (ai (dU (dq aX hr (aa (aD cy (af 0) ae Zf) ac)) (dI (dq aX hr (aa (aD cy (af 0) ae Zf) ac))))))),λds S k h=>?_⟩)
 ·obtain⟨_,_,_,rfl,_⟩:=h
  rfl
 ·obtain⟨w,r,as,rfl,hE,q⟩:=h;refine hZ (λhl=>vS ?_) (λhl=>?_)
  ·rw [zl (by simp only [JQ] at hl; omega)] at q
   exact q
  ·obtain⟨_,i,j,s',t,e⟩:=Ho hl;cases e;have hi:=hE i (by simp)
   have hj:=hE j (by simp)
   have hs:=hE s' (by simp)
   have ht:=hE t (by simp)
   have q:k (.bl ((bY as.length i && bY as.length j && ui i j) && (cv s' && cv t))) S:=q;refine⟨i,rfl,j,rfl,i,j,as.length,rfl,hi.1,hj.1,iW (λh=>?_) (λh=>?_)⟩
   ·rw [h,Bool.false_and] at q;exact q
   rw [h,Bool.true_and] at q;refine⟨s',rfl,s',rfl,hs.1,hs.2.1,cw (λh1=>⟨t,rfl,t,rfl,ht.1,ht.2.1,?_⟩) (λh1=>?_)⟩
   ·rw [h1] at q; exact q
   ·rw [h1] at q; exact q
def q_:bE:=λds S k=>∃ (d:D) (as:List D),ds=[d,.tup as]/\St S d/\(∀ x∈as,pj x)/\k (.bl (lw as d)) S
theorem vD:ao ["step","ahead"] ["step","ahead"] (aj mo):=cG
theorem vf (Fn:FN K "is_step" mo f fd) (oW:bc P w K mg base "is_fix" 3 tE) (kF:bc P w K mg base "is_crank" 4 pA) (my:bc P w K mg base "is_pair" 4 rz) (mz:bc P w K mg base "is_like" 4 re) (aM:mg "len"=none) (aw:mg "isinstance"=none) (aL:mg "tuple"=none):
  aQ P w K mg base b8 5 f fd ["step","ahead"] (ce K q_):=by
 refine Fn.okJ vD (λds S k h=>?_) (λcdv A outer s H E hr=>⟨_,(ag (ay (WJ.pt (b_ (aZ (aK (aA eR rfl aw aS (aG 0 (aa (g7 (n:=.tup) rfl aL cx) ac))))) (bI (au dW (aA cM rfl aM bJ (aG 0 ac)) ae (ar _))))) (ah (ai cn)) az) (ag (ay (au (tm hr) (aD cy (af 0) ae Zf) aH (ar _)) (ah (ai (dq oW hr (aG 0 ac)))) az) (ag (ay (au (tm hr) (aD cy (af 0) ae Zf) aH (ar _)) (ah (ai (dq kF hr (aG 0 (aG 1 ac))))) az) (ag (ay (au (tm hr) (aD cy (af 0) ae Zf) aH (ar _)) (ah (ai (dq my hr (aG 0 (aG 1 ac))))) az) (ah (ai (dU (ca (tm hr) (aD cy (af 0) ae Zf) aH (ar _)) (dI (dq mz hr (aG 0 (aG 1 ac))))))))))),λds S k h=>?_⟩)
 ·obtain⟨_,_,rfl,_⟩:=h
  rfl
 ·obtain⟨d,as,rfl,⟨⟨t,ht⟩,hE⟩,hR,q⟩:=h;refine⟨t,ht,?_⟩;rcases uT d with ⟨ds,rfl⟩ | n
  ·cases ht;have hE:=hE _ rfl;cases ds with
   | nil=>exact q
   | cons w r=>
    have hw:=hE w JL;rcases C1 w with ⟨u,rfl⟩ | nu
    ·have q:k (.bl (if (u == "fix")=true then Bz r else if (u == "crank")=true then sn as r else if (u == "pair")=true then wU as.length r else(u == "like") && w5 as.length r)) S:=q
     refine⟨_,bq,cw (λh1=>?_) (λh1=>⟨_,bq,cw (λh2=>?_) (λh2=>⟨_,bq,cw (λh3=>?_) (λh3=>⟨_,bq,cw (λh4=>?_) (λh4=>?_)⟩)⟩)⟩)⟩
     ·rw [if_pos h1] at q;exact⟨_,r,rfl,hE,q⟩
     ·rw [if_neg (by rw [h1]; exact JH),if_pos h2] at q
      exact⟨_,r,as,rfl,hE,hR,q⟩
     ·rw [if_neg (by rw [h1]; exact JH),if_neg (by rw [h2]; exact JH),if_pos h3] at q
      exact⟨_,r,as,rfl,hE,q⟩
     ·rw [if_neg (by rw [h1]; exact JH),if_neg (by rw [h2]; exact JH),if_neg (by rw [h3]; exact JH),h4,Bool.true_and] at q
      exact⟨_,r,as,rfl,hE,q⟩
     ·rw [if_neg (by rw [h1]; exact JH),if_neg (by rw [h2]; exact JH),if_neg (by rw [h3]; exact JH),h4,Bool.false_and] at q
      exact q
    ·rw [zi nu] at q;obtain⟨⟨t,ht⟩,_,hr'⟩:=hw;cases w with
     | str u=>exact absurd rfl (nu u)
     | ref a=>exact⟨_,bq,hr' a rfl,_,bq,hr' a rfl,_,bq,hr' a rfl,_,bq,hr' a rfl,q⟩
     | rl ds=>cases ht
     | ty c=>cases ht
     | _=>exact⟨_,bq,_,bq,_,bq,_,bq,q⟩
  ·rw [sr ht n];have e:lw as d=false:=by
    cases d with
    | tup ds=>exact absurd rfl (n ds)
    | _=>rfl
   rw [e] at q;exact q
theorem uX {as:List D} {d:D} (h:lw as d=true):pj d:=by
 unfold lw at h
 split at h
 ·exact⟨_,_,rfl⟩
 ·cases h
theorem vK {ms r:List D} {s:D} {j:Nat} (h:ms.drop j=s::r):ms[j]?=some s/\ms.drop (j+1)=r:=by
 have h0:(ms.drop j)[0]?=some s:=by rw [h]; rfl
 rw [List.getElem?_drop,Nat.add_zero] at h0;refine⟨h0,?_⟩;have h1:=congrArg (List.drop 1) h;rw [List.drop_drop] at h1;exact h1
theorem EA {ds:List D} {j:Nat} (h:j<=ds.length):DL.jq ds none (some (j:Nat))=ds.take j:=by
 unfold DL.jq;have h1:HT.cI ds.length 0 none=0:=rfl;have h2:HT.cI ds.length ds.length (some ((j:Nat):Int))=j:=by unfold HT.cI; simp; rw [if_neg (by omega),Nat.min_eq_left h]
 rw [h1,h2];simp
theorem uO {ds:List D} {j:Nat} {s:D} (h:∀ x∈ds.take j,pj x) (g:ds[j]?=some s) (hs:pj s):∀ x∈ds.take (j+1),pj x:=λx hx=>by
 obtain⟨hj,e⟩:=J3.mp g;rw [List.take_succ_eq_append_getElem hj] at hx;rcases List.mem_append.mp hx with h1 | h1
 ·exact h x h1
 ·simp only [JJ,JS,or_false] at h1;rw [h1,e]; exact hs
def ma:bE:=λds S k=>∃ d:D,ds=[d]/\Th S d/\k (.bl (xg d)) S
theorem gF:ao ["thing","number","step"] ["thing"] (aj iR):=cG
theorem qi (Fn:FN K "is_machine" iR f fd) (ny:bc P w K mg base "is_step" 5 q_) (aM:mg "len"=none) (aw:mg "isinstance"=none) (aL:mg "tuple"=none) (du:mg "enumerate"=none) (i_:vb mg "MOST_STEPS" 7):
  aQ P w K mg base b8 6 f fd ["thing"] (ce K ma):=by
 refine Fn.okJ gF (λds S k h=>?_) (λcdv A outer s H E hr=>⟨_,(ag (ay (WJ.pt (b_ (aZ (aK (aA eR rfl aw aS (aG 0 (aa (g7 (n:=.tup) rfl aL cx) ac))))) (bI (aZ (xu zm zm ae (aA cM rfl aM bJ (aG 0 ac)) (pD i_ rfl)))))) (ah (ai cn)) az) (ag (uM PassesOwn.never rfl rfl du (aG 0 ac) (si (n:=2) rfl (fz (aN (i:=1) gF.nd) (fz (aN (i:=2) gF.nd) po))) (ah (ay (aZ (aK (dq ny hr (aG 2 (aa (wq (af 0) eH (cZ (af 1))) ac))))) (ah (ai cn)) az))) (ah (ai cn)))),λds S k h=>?_⟩)
 ·obtain⟨_,rfl,_⟩:=h
  rfl
 ·obtain⟨d,rfl,⟨⟨t,ht⟩,hE⟩,q⟩:=h;refine⟨t,ht,?_⟩;rcases uT d with ⟨ds,rfl⟩ | n
  ·cases ht;have hE:=hE _ rfl;have q:k (.bl (decide (1<=(ds.length:Int)) && decide ((ds.length:Int)<=7) && cY ds 0 ds)) S:=q;refine aF (λh1=>?_) (λh1=>?_)
   ·rw [decide_eq_true h1,Bool.true_and] at q;refine hZ (λh2=>?_) (λh2=>?_)
    ·rw [Kc h2,Bool.false_and] at q;exact q
    ·rw [decide_eq_true h2,Bool.true_and] at q;refine⟨(ds,none),rfl,?_⟩;refine eY (λr L S'=>∃ (j:Nat) (rs:List D) (l1 l2:Ks D),L=[some (.tup ds),l1,l2]/\S'=S/\r=jR j rs/\ds.drop j=rs/\(∀ x∈ds.take j,pj x)/\cY ds 0 ds=cY ds j rs) (λ_ _ _ _=>trivial) ?_ ?_ _ _ _ ⟨0,ds,none,none,rfl,rfl,rfl,rfl,(λ_ z=>by cases z),rfl⟩
     ·rintro d r L S1 N1 ⟨j,rs,l1,l2,rfl,rfl,er,hd,hR,hm⟩ hN;cases rs with
      | nil=>cases er
      | cons s rs=>
       cases er;obtain⟨g0,g1⟩:=vK hd;have hj:j < ds.length:=(J3.mp g0).1;have hm:cY ds 0 ds=(lw (ds.take j) s && cY ds (j+1) rs):=hm;refine⟨(_,none),rfl,rfl,rfl,?_⟩;refine⟨s,ds.take j,congrArg (λl=>[s,D.tup l]) (EA (Nat.le_of_lt hj)),hE s (List.mem_of_getElem? g0),hR,iW (λh=>?_) (λh=>?_)⟩
       ·rw [hm,h,Bool.false_and] at q;exact q
       ·rw [h,Bool.true_and] at hm;exact hN _ _ ⟨j+1,rs,_,_,rfl,rfl,rfl,g1,uO hR g0 (uX h),hm⟩
     ·rintro L S1 ⟨j,rs,l1,l2,rfl,rfl,er,hd,hR,hm⟩;cases rs with
      | cons s rs=>cases er
      | nil=>
       rw [hm] at q;exact q
   ·rw [Kc h1,Bool.false_and,Bool.false_and] at q;exact q
  ·rw [sr ht n];have e:xg d=false:=by
    cases d with
    | tup ds=>exact absurd rfl (n ds)
    | _=>rfl
   rw [e] at q;exact q
set_option maxHeartbeats 4000000
abbrev bT (x:Str):List Nat:=x.cps.toList
abbrev tx (l:List Nat):Str:=⟨l.toArray⟩
theorem jy (x:Str):tx (bT x)=x:=by cases x; simp [tx,bT]
theorem eX {x y:Str} (h:bT x=bT y):x=y:=by rw [<- jy x,<- jy y,h]
theorem bF (x:Str):(bT x).length=x.length:=by simp [bT,Str.length]
theorem cF (x y:Str):bT (x++y)=bT x++bT y:=by
 show(x.cps++y.cps).toList=_
 simp
theorem sw (s:KB):bT (Str.ofString s)=s.toList.map Char.toNat:=signs_ofString s
theorem zw {x y:Str} {k:Nat}:StrLaws.At x y x.length k↔((bT x).drop k).take y.length=bT y/\k+y.length<=x.length:=by
 unfold StrLaws.At;rw [StrLaws.subAt_eq,beq_iff_eq,and_comm]
theorem oJ {x y:Str} {n:Nat}:∀ {a:Nat} {c1 c2:List Nat} {f1 f2:Nat},StrLaws.ChainG x y n a c1 f1->StrLaws.ChainG x y n a c2 f2->(∀ k,f1<=k->¬ StrLaws.At x y n k)->(∀ k,f2<=k->¬ StrLaws.At x y n k)->c1=c2
 | a,[],[],_,_,_,_,_,_=>rfl
 | a,[],c::r,f1,f2,h1,h2,e1,_=>by
  have h1:f1=a:=h1;subst h1;exact absurd h2.2.1 (e1 c h2.1)
 | a,c::r,[],f1,f2,h1,h2,_,e2=>by
  have h2:f2=a:=h2;subst h2;exact absurd h1.2.1 (e2 c h1.1)
 | a,c::r,c'::r',f1,f2,h1,h2,e1,e2=>by
  obtain⟨a1,a2,a3,a4⟩:=h1;obtain⟨b1,b2,b3,b4⟩:=h2;have e:c=c':=by
   rcases Nat.lt_trichotomy c c' with l | l | l
   ·exact absurd a2 (b3 c a1 l)
   ·exact l
   ·exact absurd b2 (a3 c' b1 l)
  subst e;rw [oJ a4 b4 e1 e2]
structure Fz (y:Str) (o m:Nat):Prop where
 at_:(bT y)[o]?=some m
 one:∀ i,i≠o->(bT y)[i]?≠some m
def jn (y:List Nat):List (List Nat)->List Nat
 | []=>[]
 | [r]=>r
 | r::r'::rs=>r++y++jn y (r'::rs)
theorem jP (y:Str):∀ ws:List Str,bT (Str.join y ws)=jn (bT y) (ws.map bT)
 | []=>rfl
 | [w]=>rfl
 | w::w'::ws=>by
  show bT (w++y++Str.join y (w'::ws))=_
  rw [cF,cF,jP y (w'::ws)]
  rfl
theorem c8 (y:Str) (ws:List Str):Txt.join y ws=Str.join y ws:=StrLaws.glued_eq_join y ws
theorem rQ {x:Str} {a b:Nat} {r:List Nat} (h:((bT x).drop a).take (b - a)=r):Builtin.Str.strSub x a b=tx r:=eX (by rw [<- h]; exact StrLaws.strSub_toList x a b)
theorem FY {x y:Str} {o m k:Nat} (sp:Fz y o m) (h:StrLaws.At x y x.length k):(bT x)[k+o]?=some m:=by
 obtain⟨h1,h2⟩:=zw.mp h;have ho:o < y.length:=by
  obtain⟨z,_⟩:=J3.mp sp.at_;rw [bF] at z;exact z
 have:=sp.at_;rw [<- h1,List.getElem?_take,if_pos ho,List.getElem?_drop] at this;exact this
theorem wM {x y:Str} {o m:Nat} (sp:Fz y o m):∀ (rs:List (List Nat)) (r:List Nat) (a:Nat),(∀ q∈r::rs,m∉q)->(bT x).drop a=jn (bT y) (r::rs)->∃ cuts f,StrLaws.ChainG x y x.length a cuts f/\(∀ k,f<=k->¬ StrLaws.At x y x.length k)/\StrLaws.partsFrom x y.length a cuts=(r::rs).map tx
 | [],r,a,fr,e=>by
  have e:(bT x).drop a=r:=e;refine⟨[],a,rfl,λk hk h=>?_,?_⟩
  ·have:=FY sp h;have z:r[k+o - a]?=some m:=by
    rw [<- e,List.getElem?_drop,<- this]
    congr 1
    omega
   exact fr r JL (List.mem_of_getElem? z)
  ·show [Builtin.Str.strSub x a x.length]=_
   rw [rQ (r:=r)]
   ·rfl
   ·rw [e,List.take_of_length_le];rw [<- e,List.length_drop,bF];omega
 | r'::rs,r,a,fr,e=>by
  have e:(bT x).drop a=r++bT y++jn (bT y) (r'::rs):=e;have ho:o < y.length:=by
   obtain⟨z,_⟩:=J3.mp sp.at_;rw [bF] at z;exact z
  have la:a+r.length+y.length<=x.length:=by
   have:=congrArg List.length e;rw [List.length_drop,bF,JU,JU,bF] at this;omega
  have e2:(bT x).drop (a+r.length)=bT y++jn (bT y) (r'::rs):=by
   rw [<- List.drop_drop,e,List.append_assoc,List.drop_left]
  have e3:(bT x).drop (a+r.length+y.length)=jn (bT y) (r'::rs):=by
   rw [<- List.drop_drop,e2,<- bF y,List.drop_left]
  obtain⟨cuts,f,c1,c2,c3⟩:=wM sp rs r' (a+r.length+y.length) (λq hq=>fr q (JM _ hq)) e3
  refine⟨(a+r.length)::cuts,f,⟨by omega,zw.mpr ⟨by rw [e2,<- bF y,List.take_left],by omega⟩,λk k1 k2 h=>?_,c1⟩,c2,?_⟩
  ·have:=FY sp h;have z:(r++bT y++jn (bT y) (r'::rs))[k+o - a]?=some m:=by
    rw [<- e,List.getElem?_drop,<- this]
    congr 1
    omega
   rw [List.append_assoc] at z
   by_cases l:k+o - a < r.length
   ·rw [List.getElem?_append_left l] at z;exact fr r JL (List.mem_of_getElem? z)
   ·rw [List.getElem?_append_right (by omega),List.getElem?_append_left (by rw [bF]; omega)] at z
    exact sp.one _ (by omega) z
  ·show Builtin.Str.strSub x a (a+r.length)::StrLaws.partsFrom x y.length (a+r.length+y.length) cuts=_
   rw [c3,rQ (r:=r)]
   ·rfl
   ·rw [e,List.append_assoc,show a+r.length - a=r.length by omega,List.take_left]
theorem vW {x y:Str} {o m:Nat} (sp:Fz y o m) {ws:List Str} (ne:ws≠[]) (fr:∀ w∈ws,m∉bT w) (e:x=Str.join y ws):Txt.split x y=ws/\Builtin.Str.partsBetween x (Builtin.Str.occurrences x y 0 x.length (x.length+1)) y.length=ws:=by
 obtain⟨r,rs,rfl⟩:=List.exists_cons_of_ne_nil ne;have hy:1<=y.length:=by
  obtain⟨z,_⟩:=J3.mp sp.at_;rw [bF] at z;omega
 have e':(bT x).drop 0=jn (bT y) (bT r::rs.map bT):=by rw [List.drop_zero,e,jP]; rfl
 obtain⟨cuts,f,c1,c2,c3⟩:=wM sp (rs.map bT) (bT r) 0 (λq hq=>by
  rcases JJ.mp hq with rfl | hq
  ·exact fr r JL
  ·obtain⟨w,hw,rfl⟩:=JF.mp hq;exact fr w (JM _ hw)) e'
 obtain⟨f',d1,d2⟩:=StrLaws.occ_tight x y hy;have ec:=oJ d1 c1 d2 c2;have es:(bT r::rs.map bT).map tx=r::rs:=by
  rw [JP,jy,J7]
  congr 1
  exact(List.map_congr_left (g:=id) λw _=>jy w).trans (List.map_id _)
 have fin:Builtin.Str.partsBetween x (Builtin.Str.occurrences x y 0 x.length (x.length+1)) y.length=r::rs:=by
  rw [StrLaws.partsBetween_eq,ec,c3,es]
 have whole:cuts=[]->r::rs=[x]:=λz=>by
  rw [z] at c3;rw [<- es,<- c3]
  show [Builtin.Str.strSub x 0 x.length]=_
  rw [StrLaws.sub_whole]
 refine⟨?_,fin⟩;unfold Txt.split
 by_cases h1:(decide (x.length < y.length) || decide (Builtin.Str.strKind x < Builtin.Str.strKind y))=true
 ·rw [if_pos h1];refine(whole ?_).symm;cases hc:cuts with
  | nil=>rfl
  | cons k r2=>
   rw [hc] at c1;have hA:=c1.2.1;rcases Bool.or_eq_true_iff.mp h1 with z | z
   ·have:=of_decide_eq_true z;have:=hA.1;omega
   ·have:=PySem.W.kind_le x y hA.2;have:=of_decide_eq_true z;omega
 ·rw [if_neg h1]
  by_cases h2:(Builtin.Str.occurrences x y 0 x.length (x.length+1)).isEmpty=true
  ·rw [if_pos h2];refine(whole ?_).symm;rw [<- ec];exact List.isEmpty_iff.mp h2
  ·rw [if_neg h2,fin]
open PySem.NumText in
def dg (k:Nat):List Nat:=(Nat.toDigits 10 k).map Char.toNat
abbrev wT (n:Int):Str:=Str.ofString (toString n)
theorem gh {k:Nat} (h:k < 10):dg k=[k+48]:=by
 unfold dg;rw [Nat.toDigits_of_lt_base h];have:∀ d:Nat,d < 10->(Nat.digitChar d).toNat=d+48:=by decide
 rw [JP,List.map_nil,this k h]
theorem sF {k:Nat} (h:10<=k):dg k=dg (k / 10)++[k % 10+48]:=by
 have hm:k % 10 < 10:=Nat.mod_lt k (by decide)
 have t:Nat.toDigits 10 (k / 10)++Nat.toDigits 10 (k % 10)=Nat.toDigits 10 (10*(k / 10)+k % 10):=Nat.toDigits_append_toDigits (by decide) (by omega) hm
 rw [Nat.div_add_mod] at t;have e:=gh hm;unfold dg at e ⊢;rw [<- t,List.map_append,e]
theorem sj:∀ k,PySem.NumText.AllDigits (dg k):=λk=>by
 induction k using Nat.strongRecOn with
 | _ k ih=>
  by_cases h:k < 10
  ·rw [gh h];intro c hc;have:c=k+48:=by simpa using hc
   omega
  ·rw [sF (by omega)]
   intro c hc;rcases List.mem_append.mp hc with m | m
   ·exact ih (k / 10) (by omega) c m
   ·have:c=k % 10+48:=by simpa using m
    omega
theorem wt (k:Nat):dg k≠[]:=by
 by_cases h:k < 10
 ·rw [gh h]; simp
 ·rw [sF (by omega)]; simp
theorem rW:∀ (m k:Nat),k < 10 ^ (m+1)->(dg k).length<=m+1
 | 0,k,h=>by rw [gh (by simpa using h)]; simp
 | m+1,k,h=>by
  by_cases z:k < 10
  ·rw [gh z]; simp
  ·rw [sF (by omega),JU]
   have:=rW m (k / 10) (by rw [Nat.pow_succ] at h; omega)
   simp;omega
theorem Bl:∀ k,(dg k).head?=some 48->k=0:=λk=>by
 induction k using Nat.strongRecOn with
 | _ k ih=>
  by_cases h:k < 10
  ·rw [gh h];intro e;have:k+48=48:=by simpa using e
   omega
  ·rw [sF (by omega)]
   intro e;have hn:=wt (k / 10);obtain⟨c,r,hc⟩:=List.exists_cons_of_ne_nil hn;rw [hc] at e;have:=ih (k / 10) (by omega) (by rw [hc]; exact e)
   omega
theorem Dx (k:Nat):PySem.NumText.digitsVal (dg k)=k:=PySem.W.KIN.val_back k
theorem gL (n:Int):bT (wT n)=(if n < 0 then [45] else [])++dg n.natAbs:=by
 rw [sw];cases n with
 | ofNat m=>
  rw [if_neg (by simp)]
  show(Nat.repr m).toList.map Char.toNat=_
  rw [Nat.toList_repr]
  rfl
 | negSucc m=>
  rw [if_pos (by exact Int.negSucc_lt_zero m)]
  show("-"++Nat.repr (m+1)).toList.map Char.toNat=_
  rw [String.toList_append,List.map_append,Nat.toList_repr]
  rfl
def NS (c:Nat):Prop:=c=45\/(48<=c/\c<=57)
theorem o7 {n:Int}:∀ c∈bT (wT n),NS c:=λc hc=>by
 rw [gL] at hc;rcases List.mem_append.mp hc with m | m
 ·split at m
  ·exact .inl (by simpa using m)
  ·cases m
 ·exact .inr (sj _ c m)
def nI (n:Int):Prop:=n.natAbs < 10 ^ 40
theorem nI.len {n:Int} (h:nI n):(dg n.natAbs).length<=40:=rW 39 _ h
theorem nI.wlen {n:Int} (h:nI n):(wT n).length<=41:=by
 rw [<- bF,gL,JU];have:=h.len
 split
 ·simp; omega
 ·simp; omega
theorem CW {b:Nat} {n:Int} (h:Bt b n) (hb:b<=130):nI n:=by
 unfold nI Bt at*
 exact JN h (J5 (Nat.pow_le_pow_right (by decide) hb) (by decide))
theorem vz {x:Str} {c:Nat}:Txt.startswith x (tx [c])=((bT x).head? == some c):=by
 unfold Txt.startswith;rw [StrLaws.subAt_eq]
 show(decide (0+1<=x.length) && ((bT x).drop 0).take 1 == [c])=_
 rw [List.drop_zero,<- bF];cases bT x with
 | nil=>rfl
 | cons a r=>simp
theorem zt:(Str.ofString "-")=tx [45]:=eX (by rw [sw]; rfl)
theorem j' (n:Int):Txt.startswith (wT n) (Str.ofString "-")=decide (n < 0):=by
 rw [zt,vz,gL]
 by_cases h:n < 0
 ·rw [if_pos h,decide_eq_true h]
  rfl
 ·rw [if_neg h,Kc h,List.nil_append];obtain⟨c,r,hc⟩:=List.exists_cons_of_ne_nil (wt n.natAbs);have:=sj n.natAbs c (by rw [hc]; simp)
  rw [hc]
  show(some c == some 45)=false
  rw [beq_eq_false_iff_ne];intro z;cases z;omega
theorem vN {x:Str} {i:Nat} (h:i<=x.length):Txt.slice x (some (i:Nat)) none=tx ((bT x).drop i):=by
 have e:=StrLaws.sliceText_from (x:=x) (i:=(i:Nat)) ⟨by omega,by rw [Kk]; exact_mod_cast h⟩
 refine(show Txt.slice x (some (i:Nat)) none=_ from e).trans (eX ?_)
 show((bT x).drop (Int.toNat (i:Nat))).take _=(bT x).drop i
 rw [show Int.toNat (i:Nat)=i from rfl,List.take_of_length_le]
 rw [List.length_drop]
 show(bT x).length - i<=(((bT x).length:Int) - (i:Nat)).toNat
 omega
theorem Av {x:Str} {j:Nat} (h:j<=x.length):Txt.slice x none (some (j:Nat))=tx ((bT x).take j):=by
 have e:=StrLaws.sliceText_to (x:=x) (j:=(j:Nat)) ⟨by omega,by rw [Kk]; exact_mod_cast h⟩
 refine(show Txt.slice x none (some (j:Nat))=_ from e).trans (eX ?_)
 show((bT x).drop 0).take _=(bT x).take j
 rw [List.drop_zero]
 congr 1
theorem Cb {c:Nat} (h:48<=c/\c<=57):Txt.contains (Str.ofString "0123456789") (tx [c])=true:=by
 unfold Txt.contains;rw [show tx [c]=(⟨#[c]⟩:Str) from rfl,StrLaws.found_one,Kj]
 show c∈bT (Str.ofString "0123456789")
 rw [sw]
 show c∈[48,49,50,51,52,53,54,55,56,57]
 simp;omega
theorem AC {k:Nat} (h:k < 10 ^ 40):PySem.intText? (Str.ofString "0"++tx (dg k))=some ((k:Nat):Int):=by
 have e:bT (Str.ofString "0"++tx (dg k))=48::dg k:=by
  rw [cF,sw]
  rfl
 have l:=rW 39 k h;rw [PySem.intText_digits (by rw [show (Str.ofString "0"++tx (dg k)).cps.toList=48::dg k from e]; intro c hc; rcases JJ.mp hc with rfl | m; exact⟨by decide,by decide⟩; exact sj k c m) (by rw [show (Str.ofString "0"++tx (dg k)).cps.toList=48::dg k from e]; simp) (by rw [<- bF,e]; simp; omega)]
 rw [show (Str.ofString "0"++tx (dg k)).cps.toList=48::dg k from e]
 have:PySem.NumText.digitsVal (48::dg k)=PySem.NumText.digitsVal (dg k):=rfl;rw [this,Dx]
theorem qK {x:Str} {c:Nat} (h:c∉bT x):Txt.partition x (tx [c])=(x,Str.empty,Str.empty):=by
 unfold Txt.partition;rcases StrLaws.occ_head x (tx [c]) 1 (JE _) with ⟨e,_⟩ | ⟨i,r,e,a,_⟩
 ·rw [e]
 ·exact absurd (List.mem_of_getElem? ((StrLaws.subAt_one x c i).mp a)) h
theorem x5 {a b:List Nat} {c:Nat} (h:c∉a):Txt.partition (tx (a++c::b)) (tx [c])=(tx a,tx [c],tx b):=by
 have g:bT (tx (a++c::b))=a++c::b:=by simp [bT,tx]
 have hl:(tx (a++c::b)).length=a.length+(b.length+1):=by rw [<- bF,g]; simp
 unfold Txt.partition;rcases StrLaws.occ_head (tx (a++c::b)) (tx [c]) 1 (JE _) with ⟨e,n⟩ | ⟨i,r,e,at1,first⟩
 ·exact absurd ((StrLaws.subAt_one _ c a.length).mpr (show (bT (tx (a++c::b)))[a.length]?=some c by rw [g]; simp)) (n a.length)
 ·have ei:i=a.length:=by
   have h1:(bT (tx (a++c::b)))[i]?=some c:=(StrLaws.subAt_one _ c i).mp at1;rw [g] at h1;rcases Nat.lt_trichotomy i a.length with l | l | l
   ·rw [List.getElem?_append_left l] at h1;exact absurd (List.mem_of_getElem? h1) h
   ·exact l
   ·exact absurd ((StrLaws.subAt_one _ c a.length).mpr (show (bT (tx (a++c::b)))[a.length]?=some c by rw [g]; simp)) (first a.length l)
  subst ei;rw [e]
  show(Builtin.Str.strSub _ 0 a.length,tx [c],Builtin.Str.strSub _ (a.length+1) _)=_
  rw [rQ (r:=a) (by rw [g]; simp),rQ (r:=b)]
  rw [g,hl,<- List.drop_drop,List.drop_left]
  show(List.drop 1 (c::b)).take _=b
  rw [List.drop_one,List.tail_cons,List.take_of_length_le (by omega)]
set_option maxHeartbeats 4000000
def fT (q:Rat):Str:=if q.den=1 then wT q.num else wT q.num++Str.ofString "/"++wT (q.den:Int)
structure kz (q:Rat):Prop where
 n:nI q.num
 d:nI (q.den:Int)
theorem fD {b:Nat} {q:Rat} (h:Sz b q) (hb:b<=130):kz q:=⟨CW h.1 hb,CW h.2 hb⟩
theorem mU {a:Nat} (h:a<=100000):a<=sizeLine:=J5 h (JT (rfl:Nat.ble 100000 sizeLine=true))
theorem vP {a:Nat} (h:a<=100000):a < sizeLine:=Nat.lt_of_le_of_lt h (JN (by decide:100000 < 100001) (JT (rfl:Nat.ble 100001 sizeLine=true)))
theorem kc:(Str.ofString "/").length=1:=rfl
theorem r_:(Str.ofString "@").length=1:=rfl
theorem d_:(Str.ofString " ").length=1:=rfl
theorem cf (x y:Str):(x++y).length=x.length+y.length:=Str.length_append x y
theorem fV {k:Nat} (h:k < 10 ^ 40):k.log2 < 1920:=by
 by_cases z:k=0
 ·rw [z]; decide
 ·exact Nat.log2_lt z |>.mpr (JN h (J5 (by decide:10 ^ 40<=2 ^ 133) (Nat.pow_le_pow_right (by decide) (by decide))))
theorem ig {y:Str} {ws:List Str} {b n:Nat} (hb:∀ w∈ws,w.length<=b) (hn:ws.length<=n) (h:n*b+n*y.length<=16777216):JoinOk y ws=true:=by
 unfold JoinOk;have:=StrLaws.joinFits (sep:=y) (texts:=ws) (B:=b) hb (J5 (Nat.add_le_add (Nat.mul_le_mul_right _ hn) (Nat.mul_le_mul_right _ hn)) h);rw [this]
 rfl
def fm:bE:=λds S k=>∃ n:Int,ds=[.int n]/\nI n/\∀ S',bg S S'->k (.str (wT n)) S'
theorem c7:ao ["number","block","rest","blocks"] ["number"] (aj iy):=cG
theorem p7 (Fn:FN K "whole_text" iy f fd) (eU:mg "abs"=none) (jj:mg "str"=none) (k6:mg "reversed"=none):
  aQ P w K mg base b8 1 f fd ["number"] (ce K fm):=by
 refine Fn.okJ c7 (λds S k h=>?_) (λcdv A outer s H E hr=>⟨_,(ag (am (i:=1) c7.nd (aB wJ ae ae)) (ag (am (i:=2) c7.nd (aA rf rfl eU mv (aG 0 ac))) (ag (am (i:=3) c7.nd (cm ac)) (ag (jf PassesOwn.never (au yT (af 2) (af 1) (ar _)) (ag ba (ah (am (i:=2) c7.nd (aB jp (af 2) (af 1)))))) (ag (bS (gC (af 3) (bD pO rfl jj nw (aG 2 ac)))) (ag (ay (au uE (af 0) ae (ar _)) (ah (bS (gC (af 3) aH))) az) (ah (ai (Ay rfl rfl k6 aH (aG 3 ac)))))))))),λds S k h=>?_⟩)
 ·obtain⟨_,rfl,_⟩:=h
  rfl
 ·obtain⟨n,rfl,hn,w⟩:=h;have hn':n.natAbs < 10 ^ 40:=hn;have ea:(if n < 0 then -n else n)=((n.natAbs:Nat):Int):=by split <;> omega
  refine⟨⟨by decide,by decide,by decide⟩,few,λp hp=>⟨λm L S'=>m=0/\L=[some (.int n),some (.int (10 ^ 64)),some (.int (n.natAbs:Nat)),some (.ref p)]/\S'=put S p (.lst []),⟨0,rfl,by rw [<- ea]; rfl,rfl⟩,?_⟩⟩
  rintro m L S' ⟨rfl,rfl,rfl⟩;refine aF (λz=>?_) (λ_=>?_)
  ·exfalso
   have:(10:Nat) ^ 40 < 10 ^ 64:=by decide
   have z:(10:Int) ^ 64<=(n.natAbs:Nat):=z;have z:((10 ^ 64:Nat):Int)<=(n.natAbs:Nat):=z;omega
  have sa:bT (wT ((n.natAbs:Nat):Int))=dg n.natAbs:=by
   rw [gL,if_neg (by omega)]
   rfl
  refine⟨⟨_,ak⟩,by rw [Int.natAbs_natCast]; exact fV hn',_,ak,vP (by decide),?_⟩
  have hl:(wT ((n.natAbs:Nat):Int)).length<=41:=by rw [<- bF,sa]; have:=hn.len; omega
  refine aF (λz=>?_) (λz=>?_)
  ·refine⟨⟨_,ak⟩,_,ak,vP (by show 1<=100000; decide),p,[wT ((n.natAbs:Nat):Int),Str.ofString "-"],rfl,by rw [ak]; rfl,ig (b:=41) (n:=2) ?_ (JE _) (by decide),?_⟩
   ·intro w' hw';simp only [List.reverse_cons,List.reverse_nil,List.nil_append,List.cons_append,JJ,JS,or_false] at hw';rcases hw' with rfl | rfl
    ·exact(by decide:1<=41)
    ·exact hl
   ·have e:Txt.join (Str.ofString "") [wT ((n.natAbs:Nat):Int),Str.ofString "-"].reverse=wT n:=by
     rw [c8];refine eX ?_;rw [jP,gL,if_pos z]
     show bT (Str.ofString "-")++bT (Str.ofString "")++bT (wT _)=_
     rw [sa]
     rfl
    rw [e];exact w _ (((bg.new hp).put hp).put hp)
  ·refine⟨p,[wT ((n.natAbs:Nat):Int)],rfl,by rw [ak]; rfl,ig (b:=41) (n:=1) (λw' hw'=>?_) (JE _) (by decide),?_⟩
   ·have:w'=wT ((n.natAbs:Nat):Int):=by simpa using hw'
    rw [this];exact hl
   ·have e:Txt.join (Str.ofString "") [wT ((n.natAbs:Nat):Int)].reverse=wT n:=by
     rw [c8];refine eX ?_;rw [jP,gL,if_neg z]
     show bT (wT _)=_
     rw [sa]
     rfl
    rw [e];exact w _ ((bg.new hp).put hp)
def c9:bE:=λds S k=>∃ q:Rat,ds=[fr q]/\kz q/\∀ S',bg S S'->k (.str (fT q)) S'
theorem nj:ao ["fraction"] ["fraction"] (aj eM):=cG
theorem nh (Fn:FN K "fraction_text" eM f fd) (a9:bc P w K mg base "whole_text" 1 fm):
  aQ P w K mg base b8 2 f fd ["fraction"] (ce K c9):=by
 refine Fn.okJ nj (λds S k h=>?_) (λcdv A outer s H E hr=>⟨_,(ag (ay (au dW (aD aP (af 0) ae Zf) ae (ar _)) (ah (ai (dq a9 hr (aa (aD aP (af 0) ae Zf) ac)))) az) (ah (ai (aB bv (aB bv (dq a9 hr (aa (aD aP (af 0) ae Zf) ac)) aH) (dq a9 hr (aa (aD aP (af 0) ae Zf) ac)))))),λds S k h=>?_⟩)
 ·obtain⟨_,rfl,_⟩:=h
  rfl
 ·obtain⟨q,rfl,hq,w⟩:=h;have l1:=hq.n.wlen;have l2:=hq.d.wlen;unfold fT at w
  by_cases e:q.den=1
  ·rw [if_pos e] at w;refine⟨_,rfl,aF (λ_=>?_) (λz=>absurd (show ((q.den:Nat):Int)=1 by rw [e]; rfl) z)⟩
   exact⟨_,rfl,q.num,rfl,hq.n,λS1 e1=>w S1 e1⟩
  ·rw [if_neg e] at w;refine⟨_,rfl,aF (λz=>absurd (show q.den=1 from by have z:((q.den:Nat):Int)=1:=z; omega) e) (λ_=>?_)⟩
   refine⟨_,rfl,q.num,rfl,hq.n,λS1 e1=>⟨?_,_,rfl,(q.den:Int),rfl,hq.d,λS2 e2=>⟨?_,w S2 (e1.trans e2)⟩⟩⟩
   ·rw [kc]; exact mU (by omega)
   ·rw [cf,kc]; exact mU (by omega)
abbrev nD (p u:Rat):D:=.tup [fr p,fr u]
def nT (p u:Rat):Str:=if u=0 then fT p else fT p++Str.ofString "@"++fT u
theorem jU {q:Rat} (h:kz q):(fT q).length<=90:=by
 have l1:=h.n.wlen;have l2:=h.d.wlen;unfold fT
 split
 ·omega
 ·rw [cf,cf,kc];omega
theorem kM {p u:Rat} (h:kz p) (h':kz u):(nT p u).length<=190:=by
 have l1:=jU h;have l2:=jU h';unfold nT
 split
 ·omega
 ·rw [cf,cf,r_];omega
def km:bE:=λds S k=>∃ p u:Rat,ds=[nD p u]/\kz p/\kz u/\∀ S',bg S S'->k (.str (nT p u)) S'
theorem oY:ao ["number"] ["number"] (aj gP):=cG
theorem oR (Fn:FN K "number_text" gP f fd) (bz:bc P w K mg base "is_plain" 1 f_) (aR:bc P w K mg base "fraction_text" 2 c9):
  aQ P w K mg base b8 3 f fd ["number"] (ce K km):=by
 refine Fn.okJ oY (λds S k h=>?_) (λcdv A outer s H E hr=>⟨_,(ag (ay (aK (dq bz hr (aG 0 ac))) (ah (ai (dq aR hr (aa (aD aP (af 0) ae Zf) ac)))) az) (ah (ai (aB bv (aB bv (dq aR hr (aa (aD aP (af 0) ae Zf) ac)) aH) (dq aR hr (aa (aD aP (af 0) ae Zf) ac)))))),λds S k h=>?_⟩)
 ·obtain⟨_,_,rfl,_⟩:=h
  rfl
 ·obtain⟨p,u,rfl,hp,hu,w⟩:=h;have l1:=jU hp;have l2:=jU hu;unfold nT at w;refine⟨_,u,rfl,aF (λz=>?_) (λz=>?_)⟩
  ·rw [if_pos z] at w;exact⟨_,rfl,p,rfl,hp,w⟩
  ·rw [if_neg z] at w;exact⟨_,rfl,p,rfl,hp,λS1 e1=>⟨by rw [r_]; exact mU (by omega),_,rfl,u,rfl,hu,λS2 e2=>⟨by rw [cf,r_]; exact mU (by omega),w S2 (e1.trans e2)⟩⟩⟩
def lO:bE:=λds S k=>∃ p u p' u':Rat,ds=[.tup [nD p u,nD p' u']]/\kz p/\kz u/\kz p'/\kz u'/\∀ S',bg S S'->k (.str (nT p u++Str.ofString " "++nT p' u')) S'
theorem qp:ao ["point"] ["point"] (aj i7):=cG
theorem qj (Fn:FN K "point_text" i7 f fd) (eD:bc P w K mg base "number_text" 3 km):
  aQ P w K mg base b8 4 f fd ["point"] (ce K lO):=by
 refine Fn.okJ qp (λds S k h=>?_) (λcdv A outer s H E hr=>⟨_,(ah (ai (aB bv (aB bv (dq eD hr (aa (aD aP (af 0) ae Zf) ac)) aH) (dq eD hr (aa (aD aP (af 0) ae Zf) ac))))),λds S k h=>?_⟩)
 ·obtain⟨_,_,_,_,rfl,_⟩:=h
  rfl
 ·obtain⟨p,u,p',u',rfl,hp,hu,hp',hu',w⟩:=h;have l1:=kM hp hu;have l2:=kM hp' hu';refine⟨_,rfl,p,u,rfl,hp,hu,λS1 e1=>⟨by rw [d_]; exact mU (by omega),_,rfl,p',u',rfl,hp',hu',λS2 e2=>⟨by rw [cf,d_]; exact mU (by omega),w S2 (e1.trans e2)⟩⟩⟩
theorem lG {α:Type} {f g:α->D} {all:List α} {S:DH} {p:Kr} {ok:DH->Prop} {bd:DB} {k:DK} {L1:Lo} (hp:S p=none) (hok:∀ S',bg S S'->ok S')
  (hbd:∀ (x:α) (S':DH) (k':Ks D->DH->Prop),x∈all->bg S S'->(∀ S2,bg S' S2->k' (some (g x)) S2)->bd (some (f x)::L1) S' k'):
  ∀ (r:List α) (acc:List D) (l0:Ks D) (S1:DH),(∀ x∈r,x∈all)->bg S S1->S1 p=some (.lst acc)->acc.length+r.length<=1000->(∀ S',bg S S'->S' p=some (.lst (acc++r.map g))->k (.ref p) S')->bK ok p (eS 0) bd k (r.map f) acc (l0::L1) S1
 | [],acc,l0,S1,_,e1,h1,_,w=>⟨hok _ e1,w _ e1 (by rw [h1]; simp)⟩
 | x::r,acc,l0,S1,hr,e1,h1,hl,w=>by
  have hl:acc.length+(r.length+1)<=1000:=hl;refine⟨hok _ e1,hbd x _ _ (hr x JL) e1 λS2 e2=>⟨e2 _ _ h1,vP (by omega),?_⟩⟩
  exact lG hp hok hbd r _ _ _ (λy hy=>hr y (JM _ hy)) ((e1.trans e2).put hp) ak (by rw [JU]; show acc.length+1+r.length<=1000; omega) λS' e h=>w S' e (by rw [h,List.append_assoc]; rfl)
theorem Ah {x:D} {t:List D}:DL.jq (x::t) (some 1) none=t:=by
 unfold DL.jq;have h1:HT.cI (x::t).length 0 (some 1)=1:=by unfold HT.cI; simp
 have h2:HT.cI (x::t).length (x::t).length none=(x::t).length:=rfl;rw [h1,h2];simp
inductive It where
 | s (x:Str)
 | w (n:Int)
 | f (q:Rat)
def It.d:It->D
 | .s x=>.str x
 | .w n=>.int n
 | .f q=>fr q
def It.t:It->Str
 | .s x=>x
 | .w n=>wT n
 | .f q=>fT q
def It.ok:It->Prop
 | .s x=>x.length<=90
 | .w n=>nI n
 | .f q=>kz q
theorem It.len {i:It} (h:i.ok):i.t.length<=90:=by
 cases i with
 | s x=>exact h
 | w n=>have:=nI.wlen h; show(wT n).length<=90; omega
 | f q=>exact jU h
def qS:bE:=λds S k=>∃ i:It,ds=[i.d]/\i.ok/\(∀ x,i≠.s x)/\∀ S',bg S S'->k (.str i.t) S'
theorem uP:ao ["thing"] ["thing"] (aj nE):=cG
theorem vG (Fn:FN K "written" nE f fd) (bf:bc P w K mg base "is_whole" 1 eF) (a9:bc P w K mg base "whole_text" 1 fm) (aR:bc P w K mg base "fraction_text" 2 c9):
  aQ P w K mg base b8 3 f fd ["thing"] (ce K qS):=by
 refine Fn.okJ uP (λds S k h=>?_) (λcdv A outer s H E hr=>⟨_,(ah (ai (oX (aK (dq bf hr (aG 0 ac))) (dq a9 hr (aG 0 ac)) (dq aR hr (aG 0 ac))))),λds S k h=>?_⟩)
 ·obtain⟨_,rfl,_⟩:=h
  rfl
 ·obtain⟨i,rfl,hi,ns,w⟩:=h;cases i with
  | s x=>exact absurd rfl (ns x)
  | w n=>exact⟨.int n,rfl,⟨.int,rfl⟩,n,rfl,hi,w⟩
  | f q=>exact⟨fr q,rfl,⟨.tup,rfl⟩,q,rfl,hi,w⟩
abbrev rD (r:List It):D:=.tup (r.map It.d)
def rT (r:List It):Str:=Str.join (Str.ofString " ") (r.map It.t)
def jh:bE:=λds S k=>∃ (x:Str) (r:List It),ds=[rD (.s x::r)]/\x.length<=90/\r.length<=8/\(∀ i∈r,i.ok/\∀ x,i≠.s x)/\∀ S',bg S S'->k (.str (rT (.s x::r))) S'
theorem tP:ao ["row"] ["row"] (aj kC):=cG
theorem ur (Fn:FN K "row_text" kC f fd) (nC:bc P w K mg base "written" 3 qS):
  aQ P w K mg base b8 4 f fd ["row"] (ce K jh):=by
 refine Fn.okJ tP (λds S k h=>?_) (λcdv A outer s H E hr=>⟨_,(ah (ai (cC PySem.F.slot_str_join PySem.F.type_str_join iX aH (aa (aB bv (cm (aa (aD aP (af 0) ae Zf) ac)) (dA rfl (de (N:=["thing"]) (cap:=[none]) rfl rfl rfl rfl trivial rfl rfl trivial) (wq (af 0) (cZ ae) eH) (λ_ _ _ _=>(aN (i:=0) (show List.Nodup (["thing"]:List Str) from by decide +kernel))) (λ_ _ _ _=>(dq nC hr (aG 0 ac))))) ac)))),λds S k h=>?_⟩)
 ·obtain⟨_,_,rfl,_⟩:=h
  rfl
 ·obtain⟨x,r,rfl,hx,hl,hr,w⟩:=h;refine⟨_,bq,few,λp hp=>⟨(r.map It.d,none),by show aI _ (.tup (DL.jq (_::r.map It.d) (some 1) none))=_; rw [Ah]; rfl,λp2 hp2=>?_⟩⟩
  refine lG (f:=It.d) (g:=λi=>.str i.t) (all:=r) hp2 (λ_ _=>trivial) ?bb r [] none _ (λ_ h=>h) (bg.new hp2) ak (by show 0+r.length<=1000; omega) λS1 e1 h1=>?_
  case bb=>
   intro i S' k' hi e hk;exact⟨i,rfl,(hr i hi).1,(hr i hi).2,λS2 e2=>hk S2 e2⟩
  rw [List.nil_append] at h1;refine⟨_,_,e1 _ _ (ak),h1,by rw [JG]; exact mU (by show 1+r.length<=100000; omega),λp3 hp3=>⟨(x::r.map It.t),by rw [ak,JP,J7]; rfl,ig (b:=90) (n:=9) ?_ (by rw [JQ,JG]; omega) (by decide),?_⟩⟩
  ·intro y hy;rcases JJ.mp hy with rfl | hy
   ·exact hx
   ·obtain⟨i,hi,rfl⟩:=JF.mp hy;exact It.len (hr i hi).1
  ·rw [c8];exact w _ (((bg.new hp).trans e1).put ((((bg.new hp).trans e1)).none hp3))
def tT (rs:List (List It)):Str:=Str.join (Str.ofString " ; ") (rs.map rT)
structure tM (r:List It):Prop where
 hd:∃ x t,r=.s x::t/\x.length<=90/\t.length<=8/\∀ i∈t,i.ok/\∀ x,i≠.s x
theorem mi {y:Str} {b:Nat}:∀ {ws:List Str},(∀ w∈ws,w.length<=b)->(Str.join y ws).length<=ws.length*(b+y.length)
 | [],_=>Kd _
 | [w],h=>by
  have:=h w JL
  show w.length<=1*_
  omega
 | w::w'::ws,h=>by
  have i:=mi (y:=y) (ws:=w'::ws) λv hv=>h v (JM _ hv)
  have:=h w JL
  show(w++y++Str.join y (w'::ws)).length<=_
  rw [cf,cf];have e:(w::w'::ws).length=(w'::ws).length+1:=rfl;rw [e,Nat.succ_mul];omega
theorem tM.len {r:List It} (h:tM r):(rT r).length<=9*91:=by
 obtain⟨x,t,rfl,hx,ht,hr⟩:=h.hd;refine J5 (mi (b:=90) λw hw=>?_) ?_
 ·obtain⟨i,hi,rfl⟩:=JF.mp hw;rcases JJ.mp hi with rfl | hi
  ·exact hx
  ·exact It.len (hr i hi).1
 ·rw [d_,JG,JQ];exact Nat.mul_le_mul_right _ (by omega)
theorem mN {rs:List (List It)} {S:DH} {p:Kr} {k:DK} {ok:DH->Prop} {L1:Lo} (hl:rs.length<=9) (hr:∀ r∈rs,tM r) (hp:S p=none) (hok:∀ S',bg S S'->ok S') (w:∀ S',bg S S'->S' p=some (.lst (rs.map λr=>.str (rT r)))->k (.ref p) S'):
  bK ok p (eS 0) (jx (gm jh (eW (cL 0) mx))) k (rs.map rD) [] (none::L1) (put S p (.lst [])):=by
 refine lG (f:=rD) (g:=λr=>.str (rT r)) (all:=rs) hp hok ?bb rs [] none _ (λ_ h=>h) (bg.new hp) ak (by show 0+rs.length<=1000; omega) λS1 e1 h1=>w S1 e1 h1
 intro r S' k' hi e hk;obtain⟨x,t,rfl,hx,ht,hr⟩:=(hr r hi).hd;exact⟨x,t,rfl,hx,ht,hr,λS2 e2=>hk S2 e2⟩
theorem m_ {rs:List (List It)} (hl:rs.length<=9) (hr:∀ r∈rs,tM r):JoinOk (Str.ofString " ; ") (rs.map rT)=true:=ig (b:=9*91) (n:=9) (λw hw=>by
 obtain⟨r,h,rfl⟩:=JF.mp hw;exact(hr r h).len) (by rw [JG]; exact hl) (by decide)
def jt:bE:=λds S k=>∃ rs:List (List It),ds=[.tup (rs.map rD)]/\rs.length<=9/\(∀ r∈rs,tM r)/\∀ S',bg S S'->k (.str (tT rs)) S'
theorem om:ao ["machine"] ["machine"] (aj fA):=cG
theorem nZ (Fn:FN K "machine_text" fA f fd) (eA:bc P w K mg base "row_text" 4 jh):
  aQ P w K mg base b8 5 f fd ["machine"] (ce K jt):=by
 refine Fn.okJ om (λds S k h=>?_) (λcdv A outer s H E hr=>⟨_,(ah (ai (cC PySem.F.slot_str_join PySem.F.type_str_join iX aH (aa (dA rfl (de (N:=["step"]) (cap:=[none]) rfl rfl rfl rfl trivial rfl rfl trivial) (af 0) (λ_ _ _ _=>(aN (i:=0) (show List.Nodup (["step"]:List Str) from by decide +kernel))) (λ_ _ _ _=>(dq eA hr (aG 0 ac)))) ac)))),λds S k h=>?_⟩)
 ·obtain⟨_,rfl,_⟩:=h
  rfl
 ·obtain⟨rs,rfl,hl,hr,w⟩:=h;refine⟨(rs.map rD,none),rfl,λp hp=>mN hl hr hp (λ_ _=>trivial) λS1 e1 h1=>⟨rs.map rT,by rw [h1,J7]; rfl,m_ hl hr,?_⟩⟩
  rw [c8];exact w S1 e1
def mj:bE:=λds S k=>∃ (d:D) (rs:List (List It)),ds=[d]/\(d=.tup (rs.map rD)\/∃ a,d=.ref a/\S a=some (.lst (rs.map rD)))/\rs.length<=9/\(∀ r∈rs,tM r)/\∀ S',bg S S'->k (.str (tT rs)) S'
theorem pR:ao ["leads"] ["leads"] (aj iJ):=cG
theorem p6 (Fn:FN K "leads_text" iJ f fd) (eA:bc P w K mg base "row_text" 4 jh):
  aQ P w K mg base b8 5 f fd ["leads"] (ce K mj):=by
 refine Fn.okJ pR (λds S k h=>?_) (λcdv A outer s H E hr=>⟨_,(ah (ai (cC PySem.F.slot_str_join PySem.F.type_str_join iX aH (aa (dA rfl (de (N:=["lead"]) (cap:=[none]) rfl rfl rfl rfl trivial rfl rfl trivial) (af 0) (λ_ _ _ _=>(aN (i:=0) (show List.Nodup (["lead"]:List Str) from by decide +kernel))) (λ_ _ _ _=>(dq eA hr (aG 0 ac)))) ac)))),λds S k h=>?_⟩)
 ·obtain⟨_,_,rfl,_⟩:=h
  rfl
 ·obtain⟨d,rs,rfl,hd,hl,hr,w⟩:=h;rcases hd with rfl | ⟨a,rfl,ha⟩
  ·refine⟨(rs.map rD,none),rfl,λp hp=>mN hl hr hp (λ_ _=>trivial) λS1 e1 h1=>⟨rs.map rT,by rw [h1,J7]; rfl,m_ hl hr,?_⟩⟩
   rw [c8];exact w S1 e1
  ·refine⟨(rs.map rD,some a),by show aI S (.ref a)=_; simp only [aI,ha],λp hp=>mN hl hr hp (λS' e=>e _ _ ha) λS1 e1 h1=>⟨rs.map rT,by rw [h1,J7]; rfl,m_ hl hr,?_⟩⟩
   rw [c8];exact w S1 e1
set_option maxHeartbeats 4000000
def dE:bE:=λds S k=>∃ n:Nat,ds=[.str (tx (dg n))]/\n < 10 ^ 40/\k (.int (n:Nat)) S
theorem cu:ao ["figures","head","number","at"] ["figures"] (aj fL):=cG
theorem n9 (Fn:FN K "figures_read" fL f fd) (aM:mg "len"=none) (eK:mg "int"=none) (bH:mg "range"=none) (lF:vb mg "BLOCK" 64):
  aQ P w K mg base b8 1 f fd ["figures"] (ce K dE):=by
 refine Fn.okJ cu (λds S k h=>?_) (λcdv A outer s H E hr=>⟨_,(ag (am (i:=1) cu.nd (aB kA (aA jQ rfl aM bJ (aG 0 ac)) (pD lF rfl))) (ag (am (i:=2) cu.nd (bD vT rfl eK kZ (aa (aB bv aH (sT (af 0) eH (cZ (af 1)))) ac))) (ag (uz PassesOwn.never rfl rfl bH (aG 1 (aa (aA jQ rfl aM bJ (aG 0 ac)) (aa (pD lF rfl) ac))) (aN (i:=3) cu.nd) (ah (am (i:=2) cu.nd (aB bv (aB dY (af 2) (aB wJ ae ae)) (bD vT rfl eK kZ (aa (sT (af 0) (cZ (af 3)) (cZ (aB bv (af 3) (pD lF rfl)))) ac)))))) (ah (ai (af 2)))))),λds S k h=>?_⟩)
 ·obtain⟨_,rfl,_⟩:=h
  rfl
 ·obtain⟨n,rfl,hn,w⟩:=h;have hl:(tx (dg n)).length<=40:=by rw [<- bF]; exact rW 39 n hn
  have em:((tx (dg n)).length:Int).fmod 64=((tx (dg n)).length:Nat):=by rw [Int.fmod_eq_emod_of_nonneg _ (by decide)]; omega
  have es:Txt.slice (tx (dg n)) none (some ((tx (dg n)).length:Nat))=tx (dg n):=by rw [Av (JE _),<- bF,List.take_length,jy]
  refine⟨mU (by omega),(by decide:(64:Int)≠0),?_⟩
  dsimp only;rw [em];refine⟨mU (by omega),?_⟩
  rw [es];refine⟨mU (by show 1+_<=_; omega),_,AC hn,by rw [cf]; show 1+_<=640; omega,mU (by omega),⟨by decide,by decide,by omega,by omega,by omega,by omega⟩,?_⟩
  rw [vt (by decide) (Int.le_refl _)]
  exact⟨trivial,w⟩
def fg:bE:=λds S k=>∃ n:Int,ds=[.str (wT n)]/\nI n/\∀ S',bg S S'->k (.int n) S'
theorem gH:ao ["word","figures","number"] ["word"] (aj iH):=cG
theorem p_ (Fn:FN K "whole_read" iH f fd) (fU:bc P w K mg base "figures_read" 1 dE) (yV:mg "all"=none) (mW:CZ mg "FIGURES" "0123456789"):
  aQ P w K mg base b8 2 f fd ["word"] (ce K fg):=by
 refine Fn.okJ gH (λds S k h=>?_) (λcdv A outer s H E hr=>⟨_,(ag (am (i:=1) gH.nd (oX (aK (cC PySem.F.slot_str_startswith PySem.F.type_str_startswith uC (af 0) (aa aH ac))) (sT (af 0) (cZ ae) eH) (af 0))) (ag (ay (WJ.pt (b_ (au dW (af 1) aH (ar _)) (bI (aZ (aK (aA Fl rfl yV E7 (aa (yU rfl (de (N:=["sign"]) (cap:=[none]) rfl rfl rfl rfl trivial rfl rfl trivial) (af 1) (λ_ _ _ _=>(aN (i:=0) (show List.Nodup (["sign"]:List Str) from by decide +kernel))) (λ_ _ _ _=>(ca GU (af 0) (Ec mW rfl) (by with_unfolding_all rfl)))) ac))))))) (ah ba) az) (ag (ay (WJ.pt (iA (au dW (aD aP (af 1) ae Zf) aH (ar _)) (fG (au kR (af 0) aH (ar _))))) (ah ba) az) (ag (am (i:=2) gH.nd (dq fU hr (aG 1 ac))) (ah (ai (oX (aK (cC PySem.F.slot_str_startswith PySem.F.type_str_startswith uC (af 0) (aa aH ac))) (rj qM (af 2)) (af 2)))))))),λds S k h=>?_⟩)
 ·obtain⟨_,rfl,_⟩:=h
  rfl
 ·obtain⟨n,rfl,hn,w⟩:=h;have hl:=hn.wlen;have hd:=hn.len;have ef:tx (dg n.natAbs)=if n < 0 then Txt.slice (wT n) (some 1) none else wT n:=by
   split
   ·rename_i z
    rw [show (1:Int)=((1:Nat):Int) from rfl,vN (by rw [<- bF,gL,if_pos z]; simp),gL,if_pos z]
    rfl
   ·rename_i z
    rw [<- jy (wT n),gL,if_neg z]
    rfl
  have bh:rM
   (xO
    (GS (g_ (wP Hu (cL 1) (dC (D.str (Str.ofString "")))))
     (AB
      (g_
       (gm zN
        (eW
         (uW [none] (cL 1) (eS 0)
          (jx (wP (yA false) (cL 0) (dC (D.str (Str.ofString "0123456789"))))))
         mx)))))
    rZ wX)
   (rM
    (xO
     (Cu (g_ (wP Hu (wP Ee (cL 1) (dC (D.int 0))) (dC (D.str (Str.ofString "0")))))
      (g_ (wP Hv (cL 0) (dC (D.str (Str.ofString "0"))))))
     rZ wX)
    (rM (u7 2 (gm dE (eW (cL 1) mx)))
     (yF
      (Iz (g_ (wC sd (cL 0) (eW (dC (D.str (Str.ofString "-"))) mx))) (Hq DD (cL 2))
       (cL 2))))) {nx:=λx S'=>k D.non S',rt:=k} [some (.str (wT n)),some (.str (tx (dg n.natAbs))),none] S:=by
   refine aF (λz=>?_) (λ_=>?_)
   ·have z:tx (dg n.natAbs)=Str.ofString "":=z
    exact absurd (show dg n.natAbs=[] from congrArg bT z) (wt _)
   ·refine λp hp=>?_
    refine lG (f:=λc=>D.str ⟨#[c]⟩) (g:=λ_=>.bl true) (all:=dg n.natAbs) hp (λ_ _=>trivial) ?bb (dg n.natAbs) [] none _ (λ_ h=>h) (bg.new hp) ak (by show 0+(dg n.natAbs).length<=1000; omega) λS1 e1 h1=>?_
    case bb=>
     intro c S' k' hc e hk
     show k' (some (.bl (Txt.contains (Str.ofString "0123456789") (tx [c])))) S'
     rw [Cb (sj _ c hc)];exact hk _ (bg.refl _)
    rw [List.nil_append] at h1;refine⟨((dg n.natAbs).map λ_=>D.bl true,some p),(dg n.natAbs).map λ_=>true,by simp only [aI,h1],by rw [J7]; rfl,?_⟩
    have ea:((dg n.natAbs).map λ_=>true).all id=true:=by rw [Kg]; intro x hx; obtain⟨c,_,rfl⟩:=JF.mp hx; rfl
    rw [ea];refine cw (λz=>absurd (show (!true)=true from z) (by decide)) (λ_=>?_)
    obtain⟨c,r,hc⟩:=List.exists_cons_of_ne_nil (wt n.natAbs);have fin:rM (u7 2 (gm dE (eW (cL 1) mx)))
      (yF
       (Iz (g_ (wC sd (cL 0) (eW (dC (D.str (Str.ofString "-"))) mx))) (Hq DD (cL 2))
        (cL 2))) {nx:=λx S'=>k D.non S',rt:=k} [some (.str (wT n)),some (.str (tx (dg n.natAbs))),none] S1:=by
     refine⟨n.natAbs,rfl,hn,cw (c:=Txt.startswith (wT n) (Str.ofString "-")) (λz=>?_) (λz=>?_)⟩
     ·have z:Txt.startswith (wT n) (Str.ofString "-")=true:=z
      rw [j',Kj] at z;have e:n=-((n.natAbs:Nat):Int):=by omega
      have:=w S1 e1;rw [e] at this;exact this
     ·rw [j',decide_eq_false_iff_not] at z;have e:n=((n.natAbs:Nat):Int):=by omega
      have:=w S1 e1;rw [e] at this;exact this
    refine⟨c,mU (by rw [<- bF]; show(dg n.natAbs).length<=_; omega),by show L2.atI (dg n.natAbs) 0=some c; rw [hc]; exact L2.e_ (j:=0) rfl,aF (λz=>?_) (λ_=>fin)⟩
    have z:(⟨#[c]⟩:Str)=Str.ofString "0":=z
    have c48:c=48:=by have:[c]=[48]:=congrArg bT z; simpa using this
    have n0:n.natAbs=0:=Bl _ (by rw [hc,c48]; rfl)
    have n0:n=0:=by omega
    refine cw (c:=!decide (wT n=Str.ofString "0")) (λz=>?_) (λ_=>fin)
    rw [n0] at z;exact absurd z (by decide)
  refine cw (c:=Txt.startswith (wT n) (Str.ofString "-")) (λz=>?_) (λz=>?_)
  ·have z:Txt.startswith (wT n) (Str.ofString "-")=true:=z
   rw [j',Kj] at z;refine⟨mU (by omega),?_⟩
   rw [ef,if_pos z] at bh;exact bh
  ·rw [j',decide_eq_false_iff_not] at z;rw [ef,if_neg z] at bh;exact bh
theorem tU:(Str.ofString "/")=tx [47]:=rfl
theorem qN:(Str.ofString "@")=tx [64]:=rfl
theorem j5 {c d:Nat} (h:NS c) (hd:d=47\/d=64\/d=32\/d=59):c≠d:=by
 unfold NS at h;omega
theorem AF {q:Rat}:∀ c∈bT (fT q),NS c\/c=47:=λc hc=>by
 unfold fT at hc
 split at hc
 ·exact .inl (o7 c hc)
 ·rw [cF,cF] at hc;rcases List.mem_append.mp hc with hc | hc
  ·rcases List.mem_append.mp hc with hc | hc
   ·exact .inl (o7 c hc)
   ·exact .inr (by simpa using show c∈[47] from hc)
  ·exact .inl (o7 c hc)
theorem G0 {p u:Rat}:∀ c∈bT (nT p u),NS c\/c=47\/c=64:=λc hc=>by
 have f:∀ {q:Rat},c∈bT (fT q)->NS c\/c=47\/c=64:=λh=>(AF c h).elim .inl λh=>.inr (.inl h)
 unfold nT at hc
 split at hc
 ·exact f hc
 ·rw [cF,cF] at hc;rcases List.mem_append.mp hc with hc | hc
  ·rcases List.mem_append.mp hc with hc | hc
   ·exact f hc
   ·exact .inr (.inr (by simpa using show c∈[64] from hc))
  ·exact f hc
theorem uF {x y:Str} {c:Nat} (h:c∉bT x):Txt.partition (x++tx [c]++y) (tx [c])=(x,tx [c],y):=by
 have e:x++tx [c]++y=tx (bT x++c::bT y):=eX (by rw [cF,cF,List.append_assoc]; rfl)
 rw [e,x5 h,jy,jy]
def bR:bE:=λds S k=>∃ q:Rat,ds=[.str (fT q)]/\kz q/\∀ S',bg S S'->k (fr q) S'
theorem eo:ao ["word","parts","fraction"] ["word"] (aj eO):=cG
theorem mF (Fn:FN K "fraction_read" eO f fd) (bi:bc P w K mg base "whole_read" 2 fg) (b6:bc P w K mg base "is_fraction" 2 gS):
  aQ P w K mg base b8 3 f fd ["word"] (ce K bR):=by
 refine Fn.okJ eo (λds S k h=>?_) (λcdv A outer s H E hr=>⟨_,(ag (am (i:=1) eo.nd (cC PySem.F.slot_str_partition PySem.F.type_str_partition wm (af 0) (aa aH ac))) (ag (ay (au dW (aD aP (af 1) ae Zf) aH (ar _)) (ah (ai (aC (aa (dq bi hr (aG 0 ac)) (aa ae ac))))) az) (ag (am (i:=2) eo.nd (aC (aa (dq bi hr (aa (aD aP (af 1) ae Zf) ac)) (aa (dq bi hr (aa (aD aP (af 1) ae Zf) ac)) ac)))) (ag (ay (WJ.pt (b_ (aZ (aK (dq b6 hr (aG 2 ac)))) (bI (au dW (aD aP (af 2) ae Zf) ae (ar _))))) (ah ba) az) (ah (ai (af 2))))))),λds S k h=>?_⟩)
 ·obtain⟨_,rfl,_⟩:=h
  rfl
 ·obtain⟨q,rfl,hq,w⟩:=h;have hl:=jU hq;refine⟨rfl,mU (by omega),?_⟩
  by_cases e:q.den=1
  ·have ep:Txt.partition (fT q) (Str.ofString "/")=(wT q.num,Str.empty,Str.empty):=by
    unfold fT;rw [if_pos e,tU,qK λh=>j5 (o7 _ h) (.inl rfl) rfl]
   rw [ep];refine⟨_,rfl,?_⟩;have ef:fT q=wT q.num:=by unfold fT; rw [if_pos e]
   refine⟨q.num,by rw [ef],hq.n,λS1 e1=>?_⟩
   have:=w S1 e1;rw [show fr q=D.tup [.int q.num,.int 1] by show D.tup [.int q.num,.int (q.den:Nat)]=_; rw [e]; rfl] at this
   exact⟨few,this⟩
  ·have ep:Txt.partition (fT q) (Str.ofString "/")=(wT q.num,tx [47],wT (q.den:Int)):=by
    unfold fT;rw [if_neg e,tU,uF λh=>j5 (o7 _ h) (.inl rfl) rfl]
   rw [ep];refine⟨_,rfl,?_⟩;refine⟨_,rfl,q.num,rfl,hq.n,λS1 e1=>⟨_,rfl,(q.den:Int),rfl,hq.d,λS2 e2=>⟨few,q,rfl,?_⟩⟩⟩
   refine⟨_,rfl,aF (λz=>absurd (show q.den=1 from by have z:((q.den:Nat):Int)=1:=z; omega) e) (λ_=>w S2 (e1.trans e2))⟩
def kq:bE:=λds S k=>∃ u a b:Rat,ds=[.str (nT a (ss b*u))]/\Fd u/\Sm 300 a b/\kz a/\kz (ss b*u)/\∀ S',bg S S'->k (N u a b) S'
theorem fZ:ao ["word","parts","number"] ["word"] (aj gW):=cG
theorem pE (Fn:FN K "number_read" gW f fd) (aJ:bc P w K mg base "fraction_read" 3 bR) (bz:bc P w K mg base "is_plain" 1 f_) (jE:bc P w K mg base "is_number" 4 nG):
  aQ P w K mg base b8 5 f fd ["word"] (ce K kq):=by
 refine Fn.okJ fZ (λds S k h=>?_) (λcdv A outer s H E hr=>⟨_,(ag (am (i:=1) fZ.nd (cC PySem.F.slot_str_partition PySem.F.type_str_partition wm (af 0) (aa aH ac))) (ag (ay (au dW (aD aP (af 1) ae Zf) aH (ar _)) (ah (ai (aC (aa (dq aJ hr (aG 0 ac)) (aa (aC (aa ae (aa ae ac))) ac))))) az) (ag (am (i:=2) fZ.nd (aC (aa (dq aJ hr (aa (aD aP (af 1) ae Zf) ac)) (aa (dq aJ hr (aa (aD aP (af 1) ae Zf) ac)) ac)))) (ag (ay (WJ.pt (b_ (aZ (aK (dq jE hr (aG 2 ac)))) (bI (aK (dq bz hr (aG 2 ac)))))) (ah ba) az) (ah (ai (af 2))))))),λds S k h=>?_⟩)
 ·obtain⟨_,_,_,rfl,_⟩:=h
  rfl
 ·obtain⟨u,a,b,rfl,fu,hs,ha,hu,w⟩:=h;have hl:=kM ha hu;refine⟨rfl,mU (by omega),?_⟩
  have n64:∀ {q:Rat},64∉bT (fT q):=λh=>(AF _ h).elim (λh=>j5 h (.inr (.inl rfl)) rfl) (by decide)
  by_cases e:ss b*u=0
  ·have ef:nT a (ss b*u)=fT a:=by unfold nT; rw [if_pos e]
   rw [ef,qN,qK n64];refine⟨_,rfl,?_⟩;refine⟨a,rfl,ha,λS1 e1=>?_⟩
   have:=w S1 e1;rw [show N u a b=D.tup [fr a,fr 0] by show D.tup [fr a,fr (ss b*u)]=_; rw [e]] at this
   exact⟨few,few,this⟩
  ·have ef:nT a (ss b*u)=fT a++tx [64]++fT (ss b*u):=by unfold nT; rw [if_neg e]; rfl
   rw [ef,qN,uF n64];refine⟨_,rfl,?_⟩;refine⟨_,rfl,a,rfl,ha,λS1 e1=>⟨_,rfl,ss b*u,rfl,hu,λS2 e2=>⟨few,u,a,b,rfl,fu,hs,⟨fr a,ss b*u,rfl,?_⟩⟩⟩⟩
   rw [Kc e];exact w S2 (e1.trans e2)
def kP:bE:=λds S k=>∃ x:Str,ds=[.str x]/\k .non S
theorem tW:ao ["thing"] ["thing"] (aj kO):=cG
theorem sZ (Fn:FN K "ask_text" kO f fd) (aw:mg "isinstance"=none) (jj:mg "str"=none):
  aQ P w K mg base b8 1 f fd ["thing"] (ce K kP):=by
 refine Fn.okJ tW (λds S k h=>?_) (λcdv A outer s H E hr=>⟨_,(ah (ay (aZ (aK (aA eR rfl aw aS (aG 0 (aa (g7 (n:=.str) rfl jj nw) ac))))) (ah ba) az)),λds S k h=>?_⟩)
 ·obtain⟨_,rfl,_⟩:=h
  rfl
 ·obtain⟨x,rfl,w⟩:=h;exact⟨_,rfl,w⟩
theorem qA:Fz (Str.ofString " ") 0 32:=⟨rfl,λi hi z=>by
 have z:[32][i]?=some 32:=z;cases i with
 | zero=>exact hi rfl
 | succ i=>cases z⟩
theorem yL:Fz (Str.ofString " ; ") 1 59:=⟨rfl,λi hi z=>by
 have z:[32,59,32][i]?=some 59:=z;rcases i with _ | _ | _ | i
 ·exact absurd z (by decide)
 ·exact hi rfl
 ·exact absurd z (by decide)
 ·cases z⟩
theorem sg {x y:Str} {o m:Nat} (sp:Fz y o m) {ws:List Str} (ne:ws≠[]) (fr:∀ w∈ws,m∉bT w) (e:x=Str.join y ws) (hx:x.length<=100000) (hw:ws.length<=100000):(y.length == 0)=false/\x.length<=sizeLine/\(Builtin.Str.partsBetween x (Builtin.Str.occurrences x y 0 x.length (x.length+1)) y.length).length<=sizeLine/\(Txt.split x y).length<=sizeLine/\Txt.split x y=ws:=by
 obtain⟨e1,e2⟩:=vW sp ne fr e;have hy:1<=y.length:=by
  obtain⟨z,_⟩:=J3.mp sp.at_;rw [bF] at z;omega
 exact⟨by rw [beq_eq_false_iff_ne]; omega,mU hx,by rw [e2]; exact mU hw,by rw [e1]; exact mU hw,e1⟩
def lN:bE:=λds S k=>∃ (u a b c d:Rat),ds=[.str (nT a (ss b*u)++Str.ofString " "++nT c (ss d*u))]/\Fd u/\Sm 300 a b/\Sm 300 c d/\kz a/\kz (ss b*u)/\kz c/\kz (ss d*u)/\∀ S',bg S S'->k (.tup [N u a b,N u c d]) S'
theorem gO:ao ["text","words","point"] ["text"] (aj jg):=cG
theorem p4 (Fn:FN K "point_read" jg f fd) (eh:bc P w K mg base "ask_text" 1 kP) (eE:bc P w K mg base "number_read" 5 kq) (jK:bc P w K mg base "one_field" 4 nL) (aM:mg "len"=none):
  aQ P w K mg base b8 6 f fd ["text"] (ce K lN):=by
 refine Fn.okJ gO (λds S k h=>?_) (λcdv A outer s H E hr=>⟨_,(ag (bS (dq eh hr (aG 0 ac))) (ag (am (i:=1) gO.nd (cC PySem.F.slot_str_split PySem.F.type_str_split oI (af 0) (aa aH ac))) (ag (ay (au kR (aA jQ rfl aM bJ (aG 1 ac)) ae (ar _)) (ah ba) az) (ag (am (i:=2) gO.nd (aC (aa (dq eE hr (aa (aD aP (af 1) ae Zf) ac)) (aa (dq eE hr (aa (aD aP (af 1) ae Zf) ac)) ac)))) (ag (ay (aZ (aK (dq jK hr (aa (aD aP (af 2) ae Zf) (aa (aD aP (af 2) ae Zf) ac))))) (ah ba) az) (ah (ai (af 2)))))))),λds S k h=>?_⟩)
 ·obtain⟨_,_,_,_,_,rfl,_⟩:=h
  rfl
 ·obtain⟨u,a,b,c,d,rfl,fu,h1,h2,s1,s2,s3,s4,w⟩:=h;have l1:=kM s1 s2;have l2:=kM s3 s4;obtain⟨o1,o2,o3,o4,o5⟩:=sg (x:=nT a (ss b*u)++Str.ofString " "++nT c (ss d*u)) qA (ws:=[nT a (ss b*u),nT c (ss d*u)]) (by simp) (λx hx=>by
   have:x=nT a (ss b*u)\/x=nT c (ss d*u):=by simpa using hx
   intro z;rcases this with rfl | rfl <;> rcases G0 _ z with z | z | z
   all_goals first | exact j5 z (.inr (.inr (.inl rfl))) rfl | exact absurd z (by decide)) rfl (by rw [cf,cf,d_]; omega) (by show 2<=100000; decide)
  refine⟨_,rfl,o1,o2,o3,o4,λp hp=>?_⟩
  rw [o5];refine⟨_,ak,?_⟩;refine⟨_,_,ak,bq,u,a,b,rfl,fu,h1,s1,s2,λS1 e1=>⟨_,_,e1 _ _ ak,mJ,u,c,d,rfl,fu,h2,s3,s4,λS2 e2=>⟨few,_,bq,_,mJ,u,a,b,c,d,rfl,fu.pos,fu.sz,h1.b,h2.b,?_⟩⟩⟩
  exact w _ ((bg.new hp).trans (e1.trans e2))
inductive gB (p:Kr) (V:α->List D) (S:DH):List Kr->List α->Prop
 | nil:gB p V S [] []
 | cons {a:Kr} {x:α} {l:List Kr} {r:List α}:a≠p->S a=some (.lst (V x))->gB p V S l r->gB p V S (a::l) (x::r)
theorem gB.app {α:Type} {p:Kr} {V:α->List D} {S:DH} {l l':List Kr} {r r':List α} (h:gB p V S l r) (h':gB p V S l' r'):gB p V S (l++l') (r++r'):=by
 induction h with
 | nil=>exact h'
 | cons n e _ i=>exact .cons n e i
theorem gB.ext {α:Type} {p:Kr} {V:α->List D} {S S':DH} {l:List Kr} {r:List α} (h:gB p V S l r) (e:bg S S'):gB p V S' l r:=by
 induction h with
 | nil=>exact .nil
 | cons n z _ i=>exact .cons n (e _ _ z) i
theorem gB.put {α:Type} {p:Kr} {V:α->List D} {S:DH} {l:List Kr} {r:List α} {o:DO} (h:gB p V S l r):gB p V (put S p o) l r:=by
 induction h with
 | nil=>exact .nil
 | cons n z _ i=>exact .cons n (by rw [cj n]; exact z) i
theorem CO {α:Type} {f:α->D} {V:α->List D} {all:List α} {S:DH} {p:Kr} {ok:DH->Prop} {bd:DB} {k:DK} {L1:Lo} (hp:S p=none) (hok:∀ S',bg S S'->ok S')
  (hbd:∀ (x:α) (S':DH) (k':Ks D->DH->Prop),x∈all->bg S S'->(∀ a S2,bg S' S2->S' a=none->S2 a=some (.lst (V x))->k' (some (.ref a)) S2)->bd (some (f x)::L1) S' k'):
  ∀ (r:List α) (d:List α) (acc:List Kr) (l0:Ks D) (S1:DH),(∀ x∈r,x∈all)->bg S S1->S1 p=some (.lst (acc.map .ref))->gB p V S1 acc d->acc.length+r.length<=1000->(∀ as S',bg S S'->S' p=some (.lst (as.map .ref))->gB p V S' as (d++r)->k (.ref p) S')->bK ok p (eS 0) bd k (r.map f) (acc.map .ref) (l0::L1) S1
 | [],d,acc,l0,S1,_,e1,h1,ha,_,w=>⟨hok _ e1,w acc _ e1 h1 (by rw [JW]; exact ha)⟩
 | x::r,d,acc,l0,S1,hr,e1,h1,ha,hl,w=>by
  have hl:acc.length+(r.length+1)<=1000:=hl;refine⟨hok _ e1,hbd x _ _ (hr x JL) e1 λa S2 e2 an av=>⟨e2 _ _ h1,vP (by rw [JG]; omega),?_⟩⟩
  have ap:a≠p:=λz=>by rw [z,h1] at an; cases an
  have em:acc.map D.ref++[D.ref a]=(acc++[a]).map D.ref:=by rw [List.map_append]; rfl
  rw [em];exact CO hp hok hbd r (d++[x]) (acc++[a]) _ _ (λy hy=>hr y (JM _ hy)) ((e1.trans e2).put hp) ak ((ha.ext e2).app (.cons ap av .nil)).put (by rw [JU]; show acc.length+1+r.length<=1000; omega) λas S' e h q=>w as S' e h (by rw [List.append_assoc] at q; exact q)
def qW (r:List It):List D:=r.map λi=>.str i.t
theorem Aa {y:List Nat} {c:Nat}:∀ {l:List (List Nat)},c∈jn y l->c∈y\/∃ q∈l,c∈q
 | [],h=>by cases h
 | [q],h=>.inr ⟨q,JL,h⟩
 | q::q'::l,h=>by
  have h:c∈q++y++jn y (q'::l):=h;rcases List.mem_append.mp h with h | h
  ·rcases List.mem_append.mp h with h | h
   ·exact .inr ⟨q,JL,h⟩
   ·exact .inl h
  ·rcases Aa h with h | ⟨z,hz,h⟩
   ·exact .inl h
   ·exact .inr ⟨z,JM _ hz,h⟩
theorem z7 {y:Str} {ws:List Str} {c:Nat} (h:c∈bT (Str.join y ws)):c∈bT y\/∃ w∈ws,c∈bT w:=by
 rw [jP] at h;rcases Aa h with h | ⟨q,hq,h⟩
 ·exact .inl h
 ·obtain⟨w,hw,rfl⟩:=JF.mp hq;exact .inr ⟨w,hw,h⟩
def CT (i:It):Prop:=∀ x,i=.s x->∀ c∈bT x,97<=c/\c<=122
theorem CK {i:It} (h:CT i):∀ c∈bT i.t,c≠32/\c≠59:=λc hc=>by
 cases i with
 | s x=>have:=h x rfl c hc; omega
 | w n=>exact⟨j5 (o7 c hc) (.inr (.inr (.inl rfl))),j5 (o7 c hc) (.inr (.inr (.inr rfl)))⟩
 | f q => rcases AF c hc with h | h
          · exact⟨j5 h (.inr (.inr (.inl rfl))),j5 h (.inr (.inr (.inr rfl)))⟩
          · omega
structure Rw (r:List It):Prop where
 ne:r≠[]
 few:r.length<=9
 all:∀ i∈r,i.ok/\CT i
theorem Rw.semi {r:List It} (h:Rw r):59∉bT (rT r):=λz=>by
 rcases z7 z with z | ⟨w,hw,z⟩
 ·exact absurd (show 59∈[32] from z) (by decide)
 ·obtain⟨i,hi,rfl⟩:=JF.mp hw;exact(CK (h.all i hi).2 _ z).2 rfl
theorem Rw.len {r:List It} (h:Rw r):(rT r).length<=9*91:=by
 refine J5 (mi (b:=90) λw hw=>?_) ?_
 ·obtain⟨i,hi,rfl⟩:=JF.mp hw;exact It.len (h.all i hi).1
 ·rw [d_,JG];exact Nat.mul_le_mul_right _ h.few
theorem Du {rs:List (List It)} (hl:rs.length<=40) (hr:∀ r∈rs,Rw r):(tT rs).length<=100000:=by
 refine J5 (mi (b:=9*91) λw hw=>?_) ?_
 ·obtain⟨r,h,rfl⟩:=JF.mp hw;exact(hr r h).len
 ·rw [JG];exact J5 (Nat.mul_le_mul_right _ hl) (by decide)
def kd:bE:=λds S k=>∃ rs:List (List It),ds=[.str (tT rs)]/\rs≠[]/\rs.length<=40/\(∀ r∈rs,Rw r)/\∀ p as S',bg S S'->S p=none->S' p=some (.lst (as.map .ref))->gB p qW S' as rs->k (.ref p) S'
theorem v5:ao ["text"] ["text"] (aj mQ):=cG
theorem vd (Fn:FN K "rows_of" mQ f fd) (eh:bc P w K mg base "ask_text" 1 kP):
  aQ P w K mg base b8 2 f fd ["text"] (ce K kd):=by
 refine Fn.okJ v5 (λds S k h=>?_) (λcdv A outer s H E hr=>⟨_,(ag (bS (dq eh hr (aG 0 ac))) (ah (ai (dA rfl (de (N:=["row"]) (cap:=[none]) rfl rfl rfl rfl trivial rfl rfl trivial) (cC PySem.F.slot_str_split PySem.F.type_str_split oI (af 0) (aa aH ac)) (λ_ _ _ _=>(aN (i:=0) (show List.Nodup (["row"]:List Str) from by decide +kernel))) (λ_ _ _ _=>(cC PySem.F.slot_str_split PySem.F.type_str_split oI (af 0) (aa aH ac))))))),λds S k h=>?_⟩)
 ·obtain⟨_,rfl,_⟩:=h
  rfl
 ·obtain⟨rs,rfl,hne,hl,hr,w⟩:=h;obtain⟨o1,o2,o3,o4,o5⟩:=sg (x:=tT rs) yL (ws:=rs.map rT) (by simpa using hne) (λx hx=>by
   obtain⟨r,hr',rfl⟩:=JF.mp hx;exact(hr r hr').semi) rfl (Du hl hr) (by rw [JG]; omega)
  refine⟨_,rfl,o1,o2,o3,o4,λp hp=>?_⟩
  have em:(rs.map rT).map D.str=rs.map λr=>D.str (rT r):=by rw [J7]; rfl
  rw [o5,em];refine⟨(rs.map λr=>D.str (rT r),some p),by simp only [aI,ak],λp2 hp2=>?_⟩
  have hp2':S p2=none:=(bg.new hp).none hp2;refine CO (f:=λr=>D.str (rT r)) (V:=qW) (all:=rs) (L1:=[]) hp2 (λS' e=>e _ _ ak) ?bb rs [] [] none _ (λ_ h=>h) (bg.new hp2) ak .nil (by show 0+rs.length<=1000; omega) λas S1 e1 h1 h2=>w p2 as S1 ((bg.new hp).trans e1) hp2' h1 h2
  intro r S' k' hi e hk;have h:=hr r hi;obtain⟨o1,o2,o3,o4,o5⟩:=sg (x:=rT r) qA (ws:=r.map It.t) (by simpa using h.ne) (λx hx=>by
   obtain⟨i,hi,rfl⟩:=JF.mp hx;exact λz=>(CK (h.all i hi).2 _ z).1 rfl) rfl (J5 h.len (by decide)) (by rw [JG]; have:=h.few; omega)
  refine⟨o1,o2,o3,o4,λp3 hp3=>?_⟩
  rw [o5];exact hk p3 _ (bg.new hp3) hp3 (by rw [ak,J7]; rfl)
set_option maxHeartbeats 4000000
theorem on {A B:Prop} (f:B->A) (h:B):A:=f h
inductive bu where
 | fix (x y:Rat)
 | crank (c:Nat) (l:Rat)
 | pair (i j:Nat) (s t:Rat) (v:Int)
 | like (i j:Nat) (a l:Rat)
def bu.d:bu->D
 | .fix x y=>.tup [.str "fix",fr x,fr y]
 | .crank c l=>.tup [.str "crank",.int (c:Nat),fr l]
 | .pair i j s t v=>.tup [.str "pair",.int (i:Nat),.int (j:Nat),fr s,fr t,.int v]
 | .like i j a l=>.tup [.str "like",.int (i:Nat),.int (j:Nat),fr a,fr l]
def bu.isFix:bu->KA
 | .fix _ _=>true
 | _=>false
abbrev MD (ms:List bu):D:=.tup (ms.map bu.d)
def pb (pre:List bu):bu->Prop
 | .fix x y=>Sz 4 x/\Sz 4 y
 | .crank c l=>(∃ x y,pre[c]?=some (.fix x y))/\Sz 4 l/\0 < l
 | .pair i j s t v=>i < pre.length/\j < pre.length/\i≠j/\Sz 8 s/\Sz 8 t/\0 < s/\0 < t/\(v=0\/v=1)
 | .like i j a l=>i < pre.length/\j < pre.length/\i≠j/\Sz 4 a/\Sz 4 l
def Wf (ms:List bu):Prop:=∀ (k:Nat) (s:bu),ms[k]?=some s->pb (ms.take k) s
theorem Wf.nil:Wf []:=λk s h=>by simp at h
theorem Wf.snoc {ms:List bu} {s:bu} (h:Wf ms) (hs:pb ms s):Wf (ms++[s]):=by
 intro k t hk
 by_cases hl:k < ms.length
 ·rw [List.getElem?_append_left hl] at hk;rw [List.take_append_of_le_length (Nat.le_of_lt hl)];exact h k t hk
 ·have hk2:=(J3.mp hk).1;have hk3:k < ms.length+1:=by simpa using hk2
  have e:k=ms.length:=by omega
  subst e;rw [List.getElem?_append_right (JE _),Nat.sub_self] at hk;have hk:some s=some t:=hk;cases hk;rw [List.take_append_of_le_length (JE _),List.take_length];exact hs
theorem HN {ms:List bu} {c:Nat} {s:bu} (h:ms[c]?=some s):L2.atI (ms.map bu.d) ((c:Nat):Int)=some s.d:=L2.e_ (by rw [J0,h]; rfl)
def fO:Nat->List bu->List D
 | _,[]=>[]
 | j,s::r=>if s.isFix=true then .int (j:Nat)::fO (j+1) r else fO (j+1) r
theorem mI {d:D}:∀ {r:List bu} {j:Nat},d∈fO j r->∃ n x y,d=.int ((j+n:Nat):Int)/\r[n]?=some (.fix x y)
 | [],_,h=>by cases h
 | s::r,j,h=>by
  unfold fO at h
  split at h
  ·rename_i hf
   rcases JJ.mp h with rfl | h
   ·cases s with
    | fix x y=>exact⟨0,x,y,rfl,rfl⟩
    | _=>cases hf
   ·obtain⟨n,x,y,rfl,e⟩:=mI h;exact⟨n+1,x,y,by congr 2; omega,by simpa using e⟩
  ·obtain⟨n,x,y,rfl,e⟩:=mI h;exact⟨n+1,x,y,by congr 2; omega,by simpa using e⟩
theorem qF:∀ {r:List bu} {j:Nat},(fO j r).length<=r.length
 | [],_=>JE _
 | s::r,j=>by
  unfold fO;have:=qF (r:=r) (j:=j+1)
  split
  ·show(fO (j+1) r).length+1<=r.length+1; omega
  ·show(fO (j+1) r).length<=r.length+1; omega
theorem rp {ms r:List bu} {s:bu} {j:Nat} (h:ms.drop j=s::r):ms[j]?=some s/\ms.drop (j+1)=r:=by
 have h0:(ms.drop j)[0]?=some s:=by rw [h]; rfl
 rw [List.getElem?_drop,Nat.add_zero] at h0;refine⟨h0,?_⟩;have h1:=congrArg (List.drop 1) h;rw [List.drop_drop] at h1;exact h1
theorem Az {n:Nat} (h:n < 300):n < sizeLine:=JN h (JT (rfl:Nat.ble 300 sizeLine=true))
def bu.r:bu->List It
 | .fix x y=>[.s "fix",.f x,.f y]
 | .crank c l=>[.s "crank",.w (c:Nat),.f l]
 | .pair i j s t v=>[.s "pair",.w (i:Nat),.w (j:Nat),.f s,.f t,.w v]
 | .like i j a l=>[.s "like",.w (i:Nat),.w (j:Nat),.f a,.f l]
theorem bu.rd (s:bu):rD s.r=s.d:=by cases s <;> rfl
def bu.x:bu->Str
 | .fix _ _=>"fix"
 | .crank _ _=>"crank"
 | .pair _ _ _ _ _=>"pair"
 | .like _ _ _ _=>"like"
def bu.tl:bu->List It
 | .fix x y=>[.f x,.f y]
 | .crank c l=>[.w (c:Nat),.f l]
 | .pair i j s t v=>[.w (i:Nat),.w (j:Nat),.f s,.f t,.w v]
 | .like i j a l=>[.w (i:Nat),.w (j:Nat),.f a,.f l]
theorem bu.rx (s:bu):s.r=.s s.x::s.tl:=by cases s <;> rfl
def bu.at:bu->List D
 | .fix _ _=>[]
 | .crank _ _=>[.int 1]
 | .pair _ _ _ _ _=>[.int 1,.int 2,.int 5]
 | .like _ _ _ _=>[.int 1,.int 2]
theorem bu.look (s:bu):([(Str.ofString "crank",D.tup (List.map D.int [1])),(Str.ofString "pair",D.tup (List.map D.int [1,2,5])),(Str.ofString "like",D.tup (List.map D.int [1,2]))].lookup s.x).getD (D.tup [])=.tup s.at:=by cases s <;> rfl
theorem bu.mem {s:bu} {j:Nat} {i:It} (h:s.tl[j]?=some i):((∃ n,i=.w n)/\Cz (A4 (.int ((j+1:Nat):Int))) (s.at.map A4)=true)\/((∃ q,i=.f q)/\Cz (A4 (.int ((j+1:Nat):Int))) (s.at.map A4)=false):=by
 cases s with
 | fix x y=>
  rcases j with _ | _ | j
  all_goals first | (cases h; first | exact .inr ⟨⟨_,rfl⟩,rfl⟩ | exact .inl ⟨⟨_,rfl⟩,rfl⟩) | cases h
 | crank c l=>
  rcases j with _ | _ | j
  all_goals first | (cases h; first | exact .inr ⟨⟨_,rfl⟩,rfl⟩ | exact .inl ⟨⟨_,rfl⟩,rfl⟩) | cases h
 | pair a b s t v=>
  rcases j with _ | _ | _ | _ | _ | j
  all_goals first | (cases h; first | exact .inr ⟨⟨_,rfl⟩,rfl⟩ | exact .inl ⟨⟨_,rfl⟩,rfl⟩) | cases h
 | like a b s t=>
  rcases j with _ | _ | _ | _ | j
  all_goals first | (cases h; first | exact .inr ⟨⟨_,rfl⟩,rfl⟩ | exact .inl ⟨⟨_,rfl⟩,rfl⟩) | cases h
def nR:bE:=λds S k=>∃ (a:Kr) (s:bu),ds=[.ref a]/\S a=some (.lst (qW s.r))/\(∀ i∈s.r,i.ok)/\∀ S',bg S S'->k s.d S'
theorem fe:ao ["words","step","at","word"] ["words"] (aj j6):=cG
theorem rO (Fn:FN K "step_read" j6 f fd) (bi:bc P w K mg base "whole_read" 2 fg) (aJ:bc P w K mg base "fraction_read" 3 bR) (du:mg "enumerate"=none) (aL:mg "tuple"=none) (lb:As K mg w "WHOLE_AT" [("crank",.tup (List.map D.int [1])),("pair",.tup (List.map D.int [1,2,5])),("like",.tup (List.map D.int [1,2]))]):
  aQ P w K mg base b8 4 f fd ["words"] (ce K nR):=by
 refine Fn.okJ fe (λds S k h=>?_) (λcdv A outer s H E hr=>⟨_,(ag (am (i:=1) fe.nd (cm (aa (aD aP (af 0) ae Zf) ac))) (ag (vH PassesOwn.never rfl rfl du (aa (ot (af 0) (cZ ae) eH) ac) ae (si (n:=2) rfl (fz (aN (i:=2) fe.nd) (fz (aN (i:=3) fe.nd) po))) (ah (bS (gC (af 1) (oX (au Gi (af 2) (we lb rfl (aa (aD aP (af 0) ae Zf) (aa (aC ac) ac))) (by with_unfolding_all rfl)) (dq bi hr (aG 3 ac)) (dq aJ hr (aG 3 ac))))))) (ah (ai (bD j_ rfl aL cx (aG 1 ac)))))),λds S k h=>?_⟩)
 ·obtain⟨_,_,rfl,_⟩:=h
  rfl
 ·obtain⟨a,s,rfl,ha,hs,w⟩:=h;rw [<- s.rd,s.rx] at w;rw [s.rx] at ha hs
  have hl:s.tl.length<=5:=by cases s <;> exact JT rfl
  refine⟨_,_,ha,bq,few,λp hp=>⟨_,(bg.new hp) _ _ ha,λc hc=>?_⟩⟩
  have ec:DL.jq (qW (It.s s.x::s.tl)) (some 1) none=qW s.tl:=Ah;rw [ec];have hc0:S c=none:=(bg.new hp).none hc;have hcp:c≠p:=λz=>by rw [z,ak] at hc; cases hc
  refine⟨_,ak,eY (λr' L S'=>∃ (dn rs:List It) (l2 l3:Ks D),L=[some (.ref a),some (.ref p),l2,l3]/\bg S S'/\S' c=some (.lst (qW s.tl))/\S' p=some (.lst (.str s.x::dn.map It.d))/\r'=jR (dn.length+1) (qW rs)/\dn++rs=s.tl) (λr L S' h=>by obtain⟨_,_,_,_,_,_,h,_⟩:=h; exact h) ?_ ?_ _ _ _ ⟨[],s.tl,none,none,rfl,(bg.new hp).trans (bg.new hc),ak,(by rw [cj (Ne.symm hcp)]; exact ak),rfl,rfl⟩⟩
  ·rintro d r' L S1 N1 ⟨dn,rs,l2,l3,rfl,e1,h1,h2,er,ee⟩ hN;cases rs with
   | nil=>cases er
   | cons i rs=>
    cases er;have hi:s.tl[dn.length]?=some i:=by rw [<- ee]; simp
    have hok:i.ok:=hs i (JM _ (List.mem_of_getElem? hi))
    have hd : dn.length < 6 := by have : dn.length + (rs.length + 1) = s.tl.length := by rw [← ee, List.length_append]; rfl
                                  omega
    refine⟨([.int ((dn.length+1:Nat):Int),.str i.t],none),rfl,rfl,rfl,⟨_,h2⟩,?_⟩;refine⟨_,_,e1 _ _ ha,bq,few,?_⟩;refine⟨(s.at,none),(congrArg (aI S1) s.look).trans rfl,rfl,by cases s <;> rfl,?_⟩
    have fin:∀ S2,bg S1 S2->∃ ds,S2 p=some (.lst ds)/\ds.length < sizeLine/\N1 [some (.ref a),some (.ref p),some (.int ((dn.length+1:Nat):Int)),some (.str i.t)] (put S2 p (.lst (ds++[i.d]))):=λS2 e2=>by
     refine⟨_,e2 _ _ h2,vP (by rw [JQ,JG]; omega),hN _ _ ⟨dn++[i],rs,_,_,rfl,(e1.trans e2).put hp,by rw [cj hcp]; exact e2 _ _ h1,by rw [ak,List.map_append]; rfl,by rw [JU]; rfl,by rw [List.append_assoc]; exact ee⟩⟩
    rcases bu.mem hi with ⟨⟨n,rfl⟩,hm⟩ | ⟨⟨q,rfl⟩,hm⟩
    ·refine cw (c:=Cz _ _) (λ_=>⟨n,rfl,hok,fin⟩) (λz=>?_)
     rw [hm] at z;cases z
    ·refine cw (c:=Cz _ _) (λz=>?_) (λ_=>⟨q,rfl,hok,fin⟩)
     rw [hm] at z;cases z
  ·rintro L S1 ⟨dn,rs,l2,l3,rfl,e1,h1,h2,er,ee⟩;cases rs with
   | cons _ _=>cases er
   | nil=>
    rw [JW] at ee;rw [ee] at h2;exact⟨_,h2,w S1 e1⟩
theorem gB.zip {β:Type} {p0:Kr} {V:List It->List D} {R:β->List It} {S:DH}:∀ (as:List Kr) (al:List β),gB p0 V S as (al.map R)->∃ zs:List (Kr×β),as=zs.map (·.1)/\al=zs.map (·.2)/\∀ z∈zs,S z.1=some (.lst (V (R z.2))):=by
 intro as al
 induction al generalizing as with
 | nil=>
  intro h;cases h;exact⟨[],rfl,rfl,λ_ h=>by cases h⟩
 | cons x al i=>
  intro h;cases h with
  | @cons a _ l _ n e h=>
   obtain⟨zs,e1,e2,e3⟩:=i _ h;refine⟨(a,x)::zs,by rw [e1]; rfl,by rw [e2]; rfl,λz hz=>?_⟩
   rcases JJ.mp hz with rfl | hz
   ·exact e
   ·exact e3 z hz
theorem CF {β:Type} {V:List It->List D} {R:β->List It} {g:β->D} {all:List β} {S:DH} {p0 p:Kr} {as:List Kr} {bd:DB} {k:DK} {L1:Lo} (hp:S p=none) (h0:S p0=some (.lst (as.map .ref))) (ha:gB p0 V S as (all.map R)) (hl:all.length<=1000)
  (hbd:∀ (a:Kr) (x:β) (S':DH) (k':Ks D->DH->Prop),x∈all->bg S S'->S' a=some (.lst (V (R x)))->(∀ S2,bg S' S2->k' (some (g x)) S2)->bd (some (.ref a)::L1) S' k')
  (w:∀ S',bg S S'->S' p=some (.lst (all.map g))->k (.ref p) S'):bK (eG (as.map .ref,some p0)) p (eS 0) bd k (as.map .ref) [] (none::L1) (put S p (.lst [])):=by
 obtain⟨zs,e1,e2,e3⟩:=gB.zip as all ha;have em:as.map D.ref=zs.map λz=>D.ref z.1:=by rw [e1,J7]; rfl
 have eg:all.map g=zs.map λz=>g z.2:=by rw [e2,J7]; rfl
 have hz:zs.length<=1000:=by rw [e2,JG] at hl; exact hl
 have hok:∀ S',bg S S'->eG (as.map D.ref,some p0) S':=λS' e=>e _ _ h0
 have t:=lG (f:=λz:Kr×β=>D.ref z.1) (g:=λz=>g z.2) (all:=zs) (bd:=bd) (k:=k) (L1:=L1) hp hok (λz S' k' hz e hk=>hbd z.1 z.2 S' k' (by rw [e2]; exact JF.mpr ⟨z,hz,rfl⟩) e (e _ _ (e3 z hz)) hk) zs [] none _ (λ_ h=>h) (bg.new hp) ak (by show 0+zs.length<=1000; omega) λS' e h=>w S' e (by rw [h,eg]; rfl)
 rw [<- em] at t;exact t
theorem F6 {S:DH} (i:It):El S i.d:=by
 cases i with
 | s x=>exact⟨⟨.str,rfl⟩,λds z=>(by cases z),λa z=>(by cases z)⟩
 | w n=>exact⟨⟨.int,rfl⟩,λds z=>(by cases z),λa z=>(by cases z)⟩
 | f q=>
  refine⟨⟨.tup,rfl⟩,λds z x hx=>?_,λa z=>by cases z⟩
  cases z;simp only [JJ,JS,or_false] at hx;rcases hx with rfl | rfl <;> exact⟨.int,rfl⟩
theorem FP {S:DH} (ms:List bu):Th S (MD ms):=by
 refine⟨⟨.tup,rfl⟩,λds z x hx=>?_⟩
 cases z;obtain⟨s,_,rfl⟩:=JF.mp hx;rw [<- s.rd];refine⟨⟨.tup,rfl⟩,λds z x hx=>?_⟩
 cases z;obtain⟨i,_,rfl⟩:=JF.mp hx;exact F6 i
def jZ:bE:=λds S k=>∃ (ms:List bu),ds=[.str (tT (ms.map bu.r))]/\1<=ms.length/\ms.length<=7/\(∀ s∈ms,Rw s.r)/\xg (MD ms)=true/\∀ S',bg S S'->k (MD ms) S'
theorem jm:ao ["text","machine"] ["text"] (aj fC):=cG
theorem oi (Fn:FN K "machine_read" fC f fd) (cN:bc P w K mg base "rows_of" 2 kd) (jT:bc P w K mg base "step_read" 4 nR) (iT:bc P w K mg base "is_machine" 6 ma) (aL:mg "tuple"=none):
  aQ P w K mg base b8 7 f fd ["text"] (ce K jZ):=by
 refine Fn.okJ jm (λds S k h=>?_) (λcdv A outer s H E hr=>⟨_,(ag (am (i:=1) jm.nd (bD j_ rfl aL cx (aa (dA rfl (de (N:=["words"]) (cap:=[none]) rfl rfl rfl rfl trivial rfl rfl trivial) (dq cN hr (aG 0 ac)) (λ_ _ _ _=>(aN (i:=0) (show List.Nodup (["words"]:List Str) from by decide +kernel))) (λ_ _ _ _=>(dq jT hr (aG 0 ac)))) ac))) (ag (ay (aZ (aK (dq iT hr (aG 1 ac)))) (ah ba) az) (ah (ai (af 1))))),λds S k h=>?_⟩)
 ·obtain⟨_,rfl,_⟩:=h
  rfl
 ·obtain⟨ms,rfl,m1,m7,hr,hm,w⟩:=h;have ne:ms.map bu.r≠[]:=by intro z; rw [List.map_eq_nil_iff] at z; rw [z] at m1; exact absurd m1 (by decide)
  refine⟨ms.map bu.r,rfl,ne,by rw [JG]; omega,λr hr'=>?_,λp as S1 e1 hp hp1 ha=>?_⟩
  ·obtain⟨s,hs,rfl⟩:=JF.mp hr';exact hr s hs
  ·refine⟨(as.map .ref,some p),by simp only [aI,hp1],λp2 hp2=>?_⟩
   refine CF (V:=qW) (R:=bu.r) (g:=bu.d) (all:=ms) hp2 hp1 ha (by omega) (λa x S' k' hx e h hk=>?_) λS2 e2 h2=>?_
   ·exact⟨a,x,rfl,h,λi hi=>((hr x hx).all i hi).1,hk⟩
   ·refine⟨_,h2,MD ms,rfl,FP ms,?_⟩;rw [hm];exact w S2 (e1.trans e2)
structure Le where
 x:Str
 qs:List Rat
inductive Fx:Str->List Rat->Prop
 | shift (x y:Rat):Fx "shift" [x,y]
 | grow (x y b:Rat):b≠0->Fx "grow" [x,y,b]
 | turn (x y p q:Rat):p*p+q*q=1->Fx "turn" [x,y,p,q]
 | mirror (a b c:Rat):a≠0\/b≠0->Fx "mirror" [a,b,c]
 | invert (x y p:Rat):p≠0->Fx "invert" [x,y,p]
structure Le.ok (l:Le):Prop where
 r:Fx l.x l.qs
 z:∀ q∈l.qs,Sz 6 q
def Le.r (l:Le):List It:=.s l.x::l.qs.map .f
abbrev Le.d (l:Le):D:=rD l.r
theorem Le.ok.rw {l:Le} (h:l.ok):Rw l.r:=by
 obtain⟨x,qs⟩:=l;have hq:∀ i∈qs.map It.f,i.ok/\CT i:=λi hi=>by
  obtain⟨q,hq,rfl⟩:=JF.mp hi;exact⟨fD (h.z q hq) (by decide),λx z=>by cases z⟩
 have hx:(It.s x).ok/\CT (It.s x):=by
  have key:x.length<=90/\∀ c∈bT x,97<=c/\c<=122:=by
   cases h.r <;> exact⟨JT rfl,by decide⟩
  exact⟨key.1,λy z=>by cases z; exact key.2⟩
 refine⟨by unfold Le.r; simp,?_,λi hi=>?_⟩
 ·cases h.r <;> exact JT rfl
 ·rcases JJ.mp hi with rfl | hi
  ·exact hx
  ·exact hq i hi
theorem ir {q:Rat} (h:q≠0):q.num≠0:=λz=>h (Rat.num_eq_zero.mp z)
def mS:bE:=λds S k=>∃ (l:Le),ds=[l.d]/\l.ok/\k (.bl true) S
theorem vw:ao ["thing"] ["thing"] (aj mO):=cG
theorem u8 (Fn:FN K "is_lead" mO f fd) (dR:bc P w K mg base "product_of_ways" 4 gr) (aM:mg "len"=none) (df:As K mg w "FRACTIONS_BEHIND" [("shift",.int 2),("grow",.int 3),("turn",.int 4),("mirror",.int 3),("invert",.int 3)]) (Ao:Es K mg "ONE" [1,1]):
  aQ P w K mg base b8 5 f fd ["thing"] (ce K mS):=by
 refine Fn.okJ vw (λds S k h=>?_) (λcdv A outer s H E hr=>⟨_,(ag (ay (au (tv hr) (we df rfl (aa (aD aP (af 0) ae Zf) ac)) (aB o6 (aA jQ rfl aM bJ (aG 0 ac)) ae) (ar _)) (ah (ai cn)) az) (ag (ay (au (qE hr) (aD aP (af 0) ae Zf) aH (ar _)) (ah (ai cn)) az) (ag (ay (au (qE hr) (aD aP (af 0) ae Zf) aH (ar _)) (ah (ai (ca (qE hr) (dq dR hr (aa (ot (af 0) (cZ ae) eH) (aa (ot (af 0) (cZ ae) eH) ac))) (EK Ao rfl) (ar _)))) az) (ag (ay (au (qE hr) (aD aP (af 0) ae Zf) aH (ar _)) (ah (ai (Cv (ca (tv hr) (aD aP (aD aP (af 0) ae Zf) ae Zf) ae (ar _)) (dI (ca (tv hr) (aD aP (aD aP (af 0) ae Zf) ae Zf) ae (ar _)))))) az) (ah (ai (ca (tv hr) (aD aP (aD aP (af 0) ae Zf) ae Zf) ae (ar _)))))))),λds S k h=>?_⟩)
 ·obtain⟨_,rfl,_⟩:=h
  rfl
 ·obtain⟨⟨x,qs⟩,rfl,⟨hr,hz⟩,w⟩:=h;cases hr with
  | shift x y=>exact⟨_,bq,true,rfl,_,bq,true,rfl,w⟩
  | grow x y b h=>
   refine⟨_,bq,true,rfl,?_⟩;refine⟨_,bq,false,rfl,?_⟩;refine⟨_,bq,false,rfl,?_⟩;refine⟨_,bq,false,rfl,?_⟩;refine⟨_,C',_,bq,false,?_,w⟩
   show some (decide (b.num=0))=some false
   rw [Kc (ir h)]
  | turn x y p q h=>
   refine⟨_,bq,true,rfl,?_⟩;refine⟨_,bq,false,rfl,?_⟩;refine⟨_,bq,true,rfl,?_⟩;have zp:Sz 900 p:=(hz p (by simp)).mono (by decide)
   have zq:Sz 900 q:=(hz q (by simp)).mono (by decide)
   have nc:∀ (d0 d1 d2 d3 d4:D),¬ (HT.cI [d0,d1,d2,d3,d4].length 0 (some 3)=0/\HT.cI [d0,d1,d2,d3,d4].length [d0,d1,d2,d3,d4].length none=[d0,d1,d2,d3,d4].length):=λ_ _ _ _ _ z=>absurd (show (3:Nat)=0 from z.1) (by decide)
   refine⟨nc _ _ _ _ _,nc _ _ _ _ _,p,q,p,q,rfl,zp,zq,zp,zq,true,?_,w⟩;rw [h]
   rfl
  | mirror a b c h=>
   refine⟨_,bq,true,rfl,?_⟩;refine⟨_,bq,false,rfl,?_⟩;refine⟨_,bq,false,rfl,?_⟩;refine⟨_,bq,true,rfl,?_⟩;refine⟨_,mJ,_,bq,decide (a.num=0),rfl,?_⟩;refine cw (c:=!decide (a.num=0)) (λ_=>w) (λz=>?_)
   have a0:a=0:=Rat.num_eq_zero.mp (by simpa using z)
   refine⟨_,By,_,bq,false,?_,w⟩
   show some (decide (b.num=0))=some false
   rw [Kc (ir (h.resolve_left λn=>n a0))]
  | invert x y p h=>
   refine⟨_,bq,true,rfl,?_⟩;refine⟨_,bq,false,rfl,?_⟩;refine⟨_,bq,false,rfl,?_⟩;refine⟨_,bq,false,rfl,?_⟩;refine⟨_,C',_,bq,false,?_,w⟩
   show some (decide (p.num=0))=some false
   rw [Kc (ir h)]
def nQ:bE:=λds S k=>∃ (a:Kr) (l:Le),ds=[.ref a]/\S a=some (.lst (qW l.r))/\l.ok/\∀ S',bg S S'->k l.d S'
theorem lZ:ao ["words","lead"] ["words"] (aj jJ):=cG
theorem rP (Fn:FN K "lead_read" jJ f fd) (aJ:bc P w K mg base "fraction_read" 3 bR) (nA:bc P w K mg base "is_lead" 5 mS) (aL:mg "tuple"=none):
  aQ P w K mg base b8 6 f fd ["words"] (ce K nQ):=by
 refine Fn.okJ lZ (λds S k h=>?_) (λcdv A outer s H E hr=>⟨_,(ag (am (i:=1) lZ.nd (bD j_ rfl aL cx (aa (aB bv (cm (aa (aD aP (af 0) ae Zf) ac)) (dA rfl (de (N:=["word"]) (cap:=[none]) rfl rfl rfl rfl trivial rfl rfl trivial) (ot (af 0) (cZ ae) eH) (λ_ _ _ _=>(aN (i:=0) (show List.Nodup (["word"]:List Str) from by decide +kernel))) (λ_ _ _ _=>(dq aJ hr (aG 0 ac))))) ac))) (ag (ay (aZ (aK (dq nA hr (aG 1 ac)))) (ah ba) az) (ah (ai (af 1))))),λds S k h=>?_⟩)
 ·obtain⟨_,_,rfl,_⟩:=h
  rfl
 ·obtain⟨a,l,rfl,ha,ok,w⟩:=h;have hl:l.qs.length<=4:=by
   cases l with
   | mk x qs=>cases ok.r <;> exact JT rfl
  refine⟨_,_,ha,bq,few,λp hp=>⟨_,(bg.new hp) _ _ ha,λc hc=>?_⟩⟩
  have ec:DL.jq (qW l.r) (some 1) none=qW (l.qs.map .f):=Ah;rw [ec];refine⟨(qW (l.qs.map .f),some c),by simp only [aI,ak],λp2 hp2=>?_⟩
  have hcp:c≠p:=λz=>by rw [z,ak] at hc; cases hc
  have e0:bg S (put (put S p (.lst [.str l.x])) c (.lst (qW (l.qs.map .f)))):=(bg.new hp).trans (bg.new hc);have em:qW (l.qs.map .f)=l.qs.map λq=>D.str (fT q):=by unfold qW; rw [J7]; rfl
  have t:=lG (f:=λq=>D.str (fT q)) (g:=fr) (all:=l.qs) (S:=put (put S p (.lst [.str l.x])) c (.lst (qW (l.qs.map .f)))) (p:=p2) (ok:=eG (qW (l.qs.map .f),some c)) (bd:=jx (gm bR (eW (cL 0) mx))) (L1:=[]) (k:=λy S2=>EG (D.ref p) y S2 λd S1=>uL [d] S1 λd S1=>rM (xO (AB (g_ (gm mS (eW (cL 1) mx)))) rZ wX) (yF (cL 1)) {nx:=λx S'=>k D.non S',rt:=k} [some (.ref a),some d] S1) hp2 (λS' e=>e _ _ ak) (λq S' k' hq e hk=>⟨q,rfl,fD (ok.z q hq) (by decide),hk⟩) l.qs [] none _ (λ_ h=>h) (bg.new hp2) ak (by show 0+l.qs.length<=1000; omega) λS2 e2 h2=>?_
  ·rw [<- em] at t;exact t
  ·have h1:=e2 p _ (show put (put S p (.lst [.str l.x])) c (.lst (qW (l.qs.map .f))) p=some (.lst [.str l.x]) by rw [cj (Ne.symm hcp)]; exact ak)
   have ed:[D.tup ([D.str l.x]++([]++List.map fr l.qs))]=[l.d]:=by
    show [D.tup (D.str l.x::List.map fr l.qs)]=[D.tup (D.str l.x::(l.qs.map It.f).map It.d)]
    rw [J7]
    rfl
   refine⟨_,_,h1,h2,mU (by rw [List.nil_append,JG]; show 1+_<=_; omega),λp3 hp3=>⟨_,ak,l,ed,ok,?_⟩⟩
   show k (D.tup ([D.str l.x]++([]++List.map fr l.qs))) (put S2 p3 (.lst ([D.str l.x]++([]++List.map fr l.qs))))
   rw [(List.cons.inj ed).1];exact w _ ((e0.trans e2).put (e0.trans e2 |>.none hp3))
def lR:bE:=λds S k=>∃ (ls:List Le),ds=[.str (tT (ls.map Le.r))]/\1<=ls.length/\ls.length<=6/\(∀ l∈ls,l.ok)/\∀ p S',bg S S'->S p=none->S' p=some (.lst (ls.map Le.d))->k (.ref p) S'
theorem ky:ao ["text","leads"] ["text"] (aj ip):=cG
theorem qu (Fn:FN K "leads_read" ip f fd) (cN:bc P w K mg base "rows_of" 2 kd) (jH:bc P w K mg base "lead_read" 6 nQ) (aM:mg "len"=none) (iG:vb mg "MOST_LEADS" 6):
  aQ P w K mg base b8 7 f fd ["text"] (ce K lR):=by
 refine Fn.okJ ky (λds S k h=>?_) (λcdv A outer s H E hr=>⟨_,(ag (tz (iv:=1) ky.nd rfl (de (N:=["words"]) (cap:=[none]) rfl rfl rfl rfl trivial rfl rfl trivial) (dq cN hr (aG 0 ac)) (λ_ _ _ _=>(aN (i:=0) (show List.Nodup (["words"]:List Str) from by decide +kernel))) (λ_ _ _ _=>(dq jH hr (aG 0 ac)))) (ag (ay (au t7 (aA jQ rfl aM bJ (aG 1 ac)) (pD iG rfl) (ar _)) (ah ba) az) (ah (ai (af 1))))),λds S k h=>?_⟩)
 ·obtain⟨_,rfl,_⟩:=h
  rfl
 ·obtain⟨ls,rfl,l1,l6,hl,w⟩:=h;have ne:ls.map Le.r≠[]:=by intro z; rw [List.map_eq_nil_iff] at z; rw [z] at l1; exact absurd l1 (by decide)
  refine⟨ls.map Le.r,rfl,ne,by rw [JG]; omega,λr hr'=>?_,λp as S1 e1 hp hp1 ha=>?_⟩
  ·obtain⟨l,h,rfl⟩:=JF.mp hr';exact(hl l h).rw
  ·refine⟨(as.map .ref,some p),by simp only [aI,hp1],λp2 hp2=>?_⟩
   refine CF (V:=qW) (R:=Le.r) (g:=Le.d) (all:=ls) hp2 hp1 ha (by omega) (λa x S' k' hx e h hk=>?_) λS2 e2 h2=>?_
   ·exact⟨a,x,rfl,h,hl x hx,hk⟩
   ·refine⟨_,h2,aF (λz=>?_) (λ_=>w p2 S2 (e1.trans e2) (e1.none hp2) h2)⟩
    have z:(6:Int) < ((ls.map Le.d).length:Nat):=z;rw [JG] at z;omega
def ly:bE:=λds S k=>∃ n:Int,ds=[.str (wT n)]/\0<=n/\n < 10/\∀ S',bg S S'->k (.int n) S'
theorem pQ:ao ["word"] ["word"] (aj ja):=cG
theorem pU (Fn:FN K "power_read" ja f fd) (bi:bc P w K mg base "whole_read" 2 fg) (aM:mg "len"=none):
  aQ P w K mg base b8 3 f fd ["word"] (ce K ly):=by
 refine Fn.okJ pQ (λds S k h=>?_) (λcdv A outer s H E hr=>⟨_,(ag (ay (au kR (aA jQ rfl aM bJ (aG 0 ac)) ae (ar _)) (ah ba) az) (ah (ai (dq bi hr (aG 0 ac))))),λds S k h=>?_⟩)
 ·obtain⟨_,rfl,_⟩:=h
  rfl
 ·obtain⟨n,rfl,n0,n1,w⟩:=h;have hn:nI n:=by unfold nI; omega
  have hl:(wT n).length=1:=by
   rw [<- bF,gL,if_neg (by omega),List.nil_append,gh (by omega)]
   rfl
  refine⟨mU (by omega),cw (c:=!decide (((wT n).length:Int)=1)) (λz=>?_) (λ_=>⟨n,rfl,hn,w⟩)⟩
  rw [hl] at z;exact absurd z (by decide)
set_option maxHeartbeats 4000000
def lW {α:Type} (f:α->D) (l:List (List Int×α)):List (List Int×D):=l.map λp=>(p.1,f p.2)
abbrev eZ:=lW fr
abbrev sH (l:List (List Int×D)) (ep:Nat):DO:=.gen (.dT l ep)
section
variable {α:Type} {f:α->D}
theorem qD:∀ {l:List (List Int×α)} {k:List Int},k∉l.map (·.1)->eP (lW f l) k=none
 | [],_,_=>rfl
 | p::l,k,h=>by
  rw [JP,JJ,not_or] at h;have e:eP (lW f (p::l)) k=eP (lW f l) k:=by simp [eP,lW,JR,Ne.symm h.1]
  rw [e];exact qD h.2
theorem hG:∀ {l:List (List Int×α)} {k:List Int} {x:α},(l.map (·.1)).Nodup->(k,x)∈l->eP (lW f l) k=some (f x)
 | [],_,_,_,h=>nomatch h
 | p::l,k,x,nd,h=>by
  rw [JP,J9] at nd;rcases JJ.mp h with e | m
  ·subst e;simp [eP,lW]
  ·have ne:p.1≠k:=λz=>nd.1 (JF.mpr ⟨_,m,z.symm⟩)
   have e:eP (lW f (p::l)) k=eP (lW f l) k:=by simp [eP,lW,JR,ne]
   rw [e];exact hG nd.2 m
theorem pe {l:List (List Int×α)} {k:List Int} {x:α} (h:k∉l.map (·.1)):mV (lW f l) k (f x)=lW f (l++[(k,x)]):=by
 unfold mV;rw [qD h,if_neg (by simp)]
 simp [lW]
theorem oy {l:List (List Int×α)}:(lW f l).length=l.length:=JG _
theorem Da {l r:List (List Int×α)} {p:List Int×α} (h:((l++p::r).map (·.1)).Nodup):p.1∉l.map (·.1):=by
 rw [List.map_append,JP,List.nodup_append] at h;exact λm=>h.2.2 _ m _ JL rfl
end
theorem lim {n:Nat} (h:n<=100):n < sizeLine:=JN (by omega:n < 300) (JT (rfl:Nat.ble 300 sizeLine=true))
theorem rg {l:Zr} {g:List Int×Rat->KA} (h:(l.map (·.1)).Nodup):((l.filter g).map (·.1)).Nodup:=List.Sublist.nodup (List.Sublist.map _ List.filter_sublist) h
abbrev nz (l:Zr):Zr:=l.filter λp=>decide (p.2≠0)
theorem qz {α:Type} {f:α->D}:∀ {bh don:List (List Int×α)},((don++bh).map (·.1)).Nodup->gN (lW f don) (lW f bh)=lW f (don++bh)
 | [],don,_=>by rw [JW]; rfl
 | p::bh,don,nd=>by
  have e:gN (lW f don) (lW f (p::bh))=gN (mV (lW f don) p.1 (f p.2)) (lW f bh):=rfl;rw [e,pe (Da nd),qz (by rw [List.append_assoc]; exact nd),List.append_assoc]
  rfl
theorem mL {α:Type} {f:α->D} {l:List (List Int×α)} (h:(l.map (·.1)).Nodup):gN [] (lW f l)=lW f l:=qz (f:=f) (don:=[]) h
abbrev Hb (a b r:Rat):Zr:=[([1,0],a),([0,1],b),([0,0],r)]
theorem yk {a b r:Rat}:((Hb a b r).map (·.1)).Nodup:=by show(([[1,0],[0,1],[0,0]]:List (List Int))).Nodup; decide
theorem sO {l:Zr} {p:List Int×Rat}:p∈nz l↔p∈l/\p.2≠0:=by
 rw [List.mem_filter];simp
theorem EC {l:Zr}:(nz l).length<=l.length:=List.length_filter_le _ _
theorem HP {a b r:Rat} {P:Rat->Prop} (ha:P a) (hb:P b) (hr:P r):∀ p∈Hb a b r,P p.2:=by
 intro p hp;simp only [JJ,JS,or_false] at hp;rcases hp with rfl | rfl | rfl <;> assumption
set_option maxHeartbeats 4000000
theorem eq_int {n:Nat} {i j:Int}:gY n (.int i) (.int j)=some (i == j):=by cases n <;> rfl
theorem Ew {n:Nat} {a b c d:D} {p q:KA} (h1:gY n a c=some p) (h2:gY n b d=some q):gY (n+1) (.tup [a,b]) (.tup [c,d])=some (p && q):=by
 show(match gY n a c,(match gY n b d,some true with | some a,some b=>some (a && b) | _,_=>none) with | some a,some b=>some (a && b) | _,_=>none)=_
 rw [h1,h2]
 show some (p && (q && true))=_
 rw [Bool.and_true]
section
variable {α:Type} {f:α->D}
def gA (z:α) (c:List (List Int×α)) (k:List Int):α:=((c.find? λp=>decide (p.1=k)).map (·.2)).getD z
theorem zQ {z:α}:∀ {c:List (List Int×α)} {k:List Int} {x:α},(c.map (·.1)).Nodup->(k,x)∈c->gA z c k=x
 | [],_,_,_,h=>nomatch h
 | p::l,k,x,nd,h=>by
  rw [JP,J9] at nd;rcases JJ.mp h with e | m
  ·subst e;simp [gA]
  ·have ne:p.1≠k:=λz=>nd.1 (JF.mpr ⟨_,m,z.symm⟩)
   have e:gA z (p::l) k=gA z l k:=by simp [gA,JR,ne]
   rw [e];exact zQ nd.2 m
end
abbrev gR:=gA (0:Rat)
def s_ (c:Zr):Prop:=∀ p∈c,∃ i j:Int,p.1=[i,j]/\0<=i/\0<=j/\i<=9/\j<=9
theorem FO {c:Zr}:Aj sW.k (eZ c)=c.map λx=>lP x.1:=by show List.map _ (List.map _ c)=_; rw [J7]; rfl
def HX (c:Zr):Prop:=gR c [2,0]≠0/\gR c [0,2]=gR c [2,0]/\gR c [1,1]=0
instance (c:Zr):Decidable (HX c):=inferInstanceAs (Decidable (_/\_/\_))
theorem zz {l:Zr} {k:List Int} {x:Rat}:∃ l':Zr,mV (eZ l) k (fr x)=eZ l'/\((l.map (·.1)).Nodup->(l'.map (·.1)).Nodup)/\l'.length<=l.length+1/\(∀ p∈l',p∈l\/p=(k,x))/\(k,x)∈l'/\∀ p∈l,p.1≠k->p∈l':=by
 by_cases h:k∈l.map (·.1)
 ·refine⟨l.map λp=>if p.1=k then(p.1,x) else p,?_,λnd=>?_,by rw [JG]; omega,λp hp=>?_,?_,λp hp n=>?_⟩
  ·unfold mV;obtain⟨p,hp,e⟩:=JF.mp h;have:(eP (eZ l) k).isSome=true:=by
    have:(eZ l).find? (λp=>decide (p.1=k))≠none:=λz=>by
     have:=List.find?_eq_none.mp z (p.1,fr p.2) (JF.mpr ⟨p,hp,rfl⟩);simp [e] at this
    unfold eP;cases hh:(eZ l).find? (λp=>decide (p.1=k)) with
    | none=>exact absurd hh this
    | some v=>rfl
   rw [if_pos this];unfold eZ lW;rw [J7,J7];refine List.map_congr_left λp _=>?_
   show(if p.1=k then(p.1,fr x) else(p.1,fr p.2))=_
   show _=((if p.1=k then(p.1,x) else p).1,fr (if p.1=k then(p.1,x) else p).2)
   split <;> rfl
  ·rw [J7];have:((λp:List Int×Rat=>p.1) ∘ λp=>if p.1=k then(p.1,x) else p)=λp=>p.1:=by
    funext p
    show(if p.1=k then(p.1,x) else p).1=p.1
    split <;> rfl
   rw [this];exact nd
  ·obtain⟨q,hq,rfl⟩:=JF.mp hp
   by_cases e:q.1=k
   ·rw [if_pos e,e];exact .inr rfl
   ·rw [if_neg e];exact .inl hq
  ·obtain⟨p,hp,e⟩:=JF.mp h;exact JF.mpr ⟨p,hp,by rw [if_pos e,e]⟩
  ·exact JF.mpr ⟨p,hp,by rw [if_neg n]⟩
 ·refine⟨l++[(k,x)],pe h,λnd=>?_,by simp,λp hp=>?_,by simp,λp hp _=>by simp [hp]⟩
  ·rw [List.map_append,List.nodup_append];refine⟨nd,by simp,λa ha b hb=>?_⟩
   have:b=k:=by simpa using hb
   rw [this];exact λz=>h (z▸ha)
  ·rcases List.mem_append.mp hp with m | m
   ·exact .inl m
   ·exact .inr (by simpa using m)
set_option maxHeartbeats 4000000
abbrev CR:=(Int×Int)×Rat
def cR (z:CR):List It:=[.f z.2,.w z.1.1,.w z.1.2]
def cE (z:CR):List Int×Rat:=([z.1.1,z.1.2],z.2)
def Ac (cs:List CR):Prop:=cs.Pairwise λx y=>ZS.lx y.1 x.1=true
structure Cp (cs:List CR):Prop where
 l1:1<=cs.length
 l9:cs.length<=9
 ds:Ac cs
 al:∀ z∈cs,0<=z.1.1/\z.1.1<=9/\0<=z.1.2/\z.1.2<=9/\z.2≠0/\Sz 30 z.2
theorem Ct {z:CR} (h:0<=z.1.1/\z.1.1<=9/\0<=z.1.2/\z.1.2<=9/\z.2≠0/\Sz 30 z.2):Rw (cR z):=by
 refine⟨by unfold cR; simp,JT rfl,λi hi=>?_⟩
 unfold cR at hi;simp only [JJ,JS,or_false] at hi;have s1:nI z.1.1:=by unfold nI; omega
 have s2:nI z.1.2:=by unfold nI; omega
 rcases hi with rfl | rfl | rfl
 ·exact⟨fD h.2.2.2.2.2 (by decide),λx z=>by cases z⟩
 ·exact⟨s1,λx z=>by cases z⟩
 ·exact⟨s2,λx z=>by cases z⟩
theorem Cp.rw {cs:List CR} (h:Cp cs):∀ r∈cs.map cR,Rw r:=λr hr=>by
 obtain⟨z,hz,rfl⟩:=JF.mp hr;exact Ct (h.al z hz)
theorem Bq {c:Zr} (nd:(c.map (·.1)).Nodup) {ks:List (Int×Int)} (e:c.map (·.1)=ks.map λk=>[k.1,k.2]):c=ks.map λk=>([k.1,k.2],gA 0 c [k.1,k.2]):=by
 have h1:c=c.map λp=>(p.1,gA 0 c p.1):=by
  conv=>lhs; rw [<- List.map_id c]
  refine List.map_congr_left λp hp=>?_
  rw [zQ nd (show (p.1,p.2)∈c from hp)]
  rfl
 have h2:(c.map λp=>(p.1,gA 0 c p.1))=(c.map (·.1)).map λk=>(k,gA 0 c k):=by rw [J7]; rfl
 rw [h2,e,J7] at h1;exact h1
theorem wE {c:Zr} (sm:s_ c):∃ ks:List (Int×Int),c.map (·.1)=ks.map λk=>[k.1,k.2]:=by
 induction c with
 | nil=>exact⟨[],rfl⟩
 | cons p c i=>
  obtain⟨ks,e⟩:=i λq hq=>sm q (JM _ hq)
  obtain⟨a,b,ep,_⟩:=sm p JL;exact⟨(a,b)::ks,by rw [JP,JP,ep,e]⟩
theorem qZ {c:Zr} (nd:(c.map (·.1)).Nodup) {ks ks':List (Int×Int)} (e:c.map (·.1)=ks.map λk=>[k.1,k.2]) (pm:ks'.Perm ks) (od:ks'.Pairwise λx y=>ZS.lx y x=true):∃ cs:List CR,ks'=cs.map (·.1)/\(cs.map cE).Perm c/\Ac cs:=by
 refine⟨ks'.map λk=>(k,gA 0 c [k.1,k.2]),by rw [J7]; exact(List.map_id _).symm,?_,?_⟩
 ·rw [J7];have h:=Bq nd e;have pm':=pm.map λk:Int×Int=>(([k.1,k.2],gA 0 c [k.1,k.2]):List Int×Rat)
  rw [<- h] at pm';exact pm'
 ·unfold Ac;rw [List.pairwise_map];exact od
structure yw (c:Zr):Prop where
 nd:(c.map (·.1)).Nodup
 l1:1<=c.length
 l9:c.length<=9
 sm:s_ c
 al:∀ p∈c,p.2≠0/\Sz 30 p.2
theorem yw.cs {c:Zr} (h:yw c) {cs:List CR} (pm:(cs.map cE).Perm c) (d:Ac cs):Cp cs:=by
 have hl:cs.length=c.length:=by rw [<- pm.length_eq,JG]
 refine⟨by have:=h.l1; omega,by have:=h.l9; omega,d,λz hz=>?_⟩
 have hm:cE z∈c:=pm.mem_iff.mp (JF.mpr ⟨z,hz,rfl⟩);obtain⟨i,j,e,i0,j0,i9,j9⟩:=h.sm _ hm;have e:[z.1.1,z.1.2]=[i,j]:=e;cases e;exact⟨i0,i9,j0,j9,(h.al _ hm).1,(h.al _ hm).2⟩
theorem pk {rs:List (List It)} (hl:rs.length<=9) (hr:∀ r∈rs,Rw r):JoinOk (Str.ofString " ; ") (rs.map rT)=true:=ig (b:=9*91) (n:=9) (λw hw=>by
 obtain⟨r,h,rfl⟩:=JF.mp hw;exact(hr r h).len) (by rw [JG]; exact hl) (by decide)
def lV:bE:=λds S k=>∃ (a:Kr) (c:Zr) (ep:Nat),ds=[.ref a]/\S a=some (sH (eZ c) ep)/\yw c/\∀ cs S',(cs.map cE).Perm c->Ac cs->bg S S'->k (.str (tT (cs.map cR))) S'
theorem gK:ao ["curve","sums","key"] ["curve"] (aj iF):=cG
theorem pY (Fn:FN K "curve_text" iF f fd) (a9:bc P w K mg base "whole_text" 1 fm) (aR:bc P w K mg base "fraction_text" 2 c9) (h_:mg "sorted"=none):
  aQ P w K mg base b8 3 f fd ["curve"] (ce K lV):=by
 refine Fn.okJ gK (λds S k h=>?_) (λcdv A outer s H E hr=>⟨_,(ag (am (i:=1) gK.nd (cm ac)) (ag (qP PassesOwn.never rfl (zX rfl h_ qI (aG 0 ac) cn) (aN (i:=2) gK.nd) (ah (bS (gC (af 1) (cC PySem.F.slot_str_join PySem.F.type_str_join iX aH (aa (cm (aa (dq aR hr (aa (ow hr (af 0) (af 2) Zf) ac)) (aa (dq a9 hr (aa (aD aP (af 2) ae Zf) ac)) (aa (dq a9 hr (aa (aD aP (af 2) ae Zf) ac)) ac)))) ac)))))) (ah (ai (cC PySem.F.slot_str_join PySem.F.type_str_join iX aH (aG 1 ac)))))),λds S k h=>?_⟩)
 ·obtain⟨_,_,_,rfl,_⟩:=h
  rfl
 ·obtain⟨a,c,ep,rfl,ha,ok,w⟩:=h;obtain⟨ks,ek⟩:=wE ok.sm;have lk:ks.length=c.length:=by have:=congrArg List.length ek; simpa using this.symm
  have l9:=ok.l9;refine⟨few,λp hp=>⟨_,_,ks,(bg.new hp) _ _ ha,?_,by omega,λks' pm od q hq=>?_⟩⟩
  ·show List.map _ (eZ c)=_
   rw [<- ek];unfold eZ lW;rw [J7]
   rfl
  obtain⟨cs,rfl,pc,dc⟩:=qZ ok.nd ek pm od;have co:=ok.cs pc dc;have lc:=co.l9;have hqp:q≠p:=λz=>by rw [z,ak] at hq; cases hq
  refine⟨((cs.map (·.1)).map yQ,some q),by simp only [aI,ak],?_⟩
  refine eY (λr' L S'=>∃ (dn rs:List CR) (l2:Ks D),L=[some (.ref a),some (.ref p),l2]/\bg S S'/\S' q=some (.lst ((cs.map (·.1)).map yQ))/\S' p=some (.lst (dn.map λz=>.str (rT (cR z))))/\r'=rs.map (λz=>yQ z.1)/\dn++rs=cs) (λr L S' h=>by obtain⟨_,_,_,_,_,h,_⟩:=h; exact h) ?_ ?_ _ _ _ ⟨[],cs,none,rfl,(bg.new hp).trans (bg.new hq),ak,(by rw [cj (Ne.symm hqp)]; exact ak),(by rw [J7]; rfl),rfl⟩
  ·rintro d r' L S1 N1 ⟨dn,rs,l2,rfl,e1,h1,h2,er,ee⟩ hN;cases rs with
   | nil=>cases er
   | cons z rs=>
    cases er;have hz:z∈cs:=by rw [<- ee]; simp
    have za:=co.al z hz;have hg:eP (eZ c) [z.1.1,z.1.2]=some (fr z.2):=hG ok.nd (pc.mem_iff.mp (JF.mpr ⟨z,hz,rfl⟩));have s1:nI z.1.1:=by unfold nI; omega
    have s2:nI z.1.2:=by unfold nI; omega
    have s3:kz z.2:=fD za.2.2.2.2.2 (by decide)
    have hd : dn.length < 10 := by have : dn.length + (rs.length + 1) = cs.length := by rw [← ee, List.length_append]; rfl
                                   omega
    refine⟨⟨_,h2⟩,_,_,[z.1.1,z.1.2],_,e1 _ _ ha,rfl,hg,z.2,rfl,s3,λS2 e2=>⟨_,bq,z.1.1,rfl,s1,λS3 e3=>⟨_,mJ,z.1.2,rfl,s2,λS4 e4=>⟨few,λp3 hp3=>⟨[fT z.2,wT z.1.1,wT z.1.2],ak,?_,?_⟩⟩⟩⟩⟩
    ·refine ig (b:=90) (n:=3) (λw hw=>?_) (JE _) (by decide)
     have hw:w∈(cR z).map It.t:=hw;obtain⟨i,hi,rfl⟩:=JF.mp hw;exact It.len ((Ct za).all i hi).1
    ·rw [c8];have e5:=(e2.trans (e3.trans (e4.trans (bg.new (o:=.lst ([fT z.2,wT z.1.1,wT z.1.2].map D.str)) hp3))));refine⟨_,e5 _ _ h2,vP (by rw [JG]; omega),hN _ _ ⟨dn++[z],rs,_,rfl,(e1.trans e5).put hp,by rw [cj hqp]; exact e5 _ _ h1,by rw [ak,List.map_append]; rfl,rfl,by rw [List.append_assoc]; exact ee⟩⟩
  ·rintro L S1 ⟨dn,rs,l2,rfl,e1,h1,h2,er,ee⟩;cases rs with
   | cons _ _=>cases er
   | nil=>
    rw [JW] at ee;rw [ee] at h2;refine⟨(cs.map cR).map rT,by rw [h2,J7,J7]; rfl,pk (by rw [JG]; exact lc) co.rw,?_⟩
    rw [c8];exact w cs S1 pc dc e1
def nM (dn:List CR):D:=match dn.getLast? with
 | none=>.non
 | some z=>.tup [.int z.1.1,.int z.1.2]
def l_:bE:=λds S k=>∃ (cs:List CR),ds=[.str (tT (cs.map cR))]/\Cp cs/\∀ p ep S',bg S S'->S p=none->S' p=some (sH (eZ (cs.map cE)) ep)->k (.ref p) S'
theorem bZ:ao ["text","curve","last","words","fraction","key"] ["text"] (aj im):=cG
theorem pZ (Fn:FN K "curve_read" im f fd) (cN:bc P w K mg base "rows_of" 2 kd) (aJ:bc P w K mg base "fraction_read" 3 bR) (fi:bc P w K mg base "power_read" 3 ly) (aM:mg "len"=none):
  aQ P w K mg base b8 4 f fd ["text"] (ce K l_):=by
 refine Fn.okJ bZ (λds S k h=>?_) (λcdv A outer s H E hr=>⟨_,(ag (am (i:=1) bZ.nd wG) (ag (am (i:=2) bZ.nd ji) (ag (qP PassesOwn.never rfl (dq cN hr (aG 0 ac)) (aN (i:=3) bZ.nd) (ag (ay (au kR (aA jQ rfl aM bJ (aG 3 ac)) ae (ar _)) (ah ba) az) (ag (am (i:=4) bZ.nd (dq aJ hr (aa (aD aP (af 3) ae Zf) ac))) (ag (am (i:=5) bZ.nd (aC (aa (dq fi hr (aa (aD aP (af 3) ae Zf) ac)) (aa (dq fi hr (aa (aD aP (af 3) ae Zf) ac)) ac)))) (ag (ay (WJ.pt (b_ (au dW (aD aP (af 4) ae Zf) ae (ar _)) (bI (WJ.pt (iA (au xb (af 2) ji (ar _)) (fG (au (Gu hr) (af 5) (af 2) (ar _)))))))) (ah ba) az) (ag (fQ (af 4) (oA hr (af 1) (af 5))) (ah (am (i:=2) bZ.nd (af 5))))))))) (ah (ai (af 1)))))),λds S k h=>?_⟩)
 ·obtain⟨_,rfl,_⟩:=h
  rfl
 ·obtain⟨cs,rfl,ok,w⟩:=h;have l1:=ok.l1;have l9:=ok.l9;have ne:cs.map cR≠[]:=by intro z; rw [List.map_eq_nil_iff] at z; rw [z] at l1; exact absurd l1 (by decide)
  refine λc hc ep=>⟨cs.map cR,rfl,ne,by rw [JG]; omega,ok.rw,λp as S1 e1 hp hp1 ha=>?_⟩
  have hc1:=e1 c _ ak;obtain⟨zs,rfl,rfl,ez3⟩:=gB.zip as cs ha;have hpc:p≠c:=λz=>by rw [z,ak] at hp; cases hp
  have hp0:S p=none:=(bg.new hc).none hp;refine⟨((zs.map (·.1)).map .ref,some p),by simp only [aI,hp1],?_⟩
  refine eY (λr' L S'=>∃ (dn rs:List (Kr×CR)) (e':Nat) (l3 l4 l5:Ks D),L=[some (.str (tT ((zs.map (·.2)).map cR))),some (.ref c),some (nM (dn.map (·.2))),l3,l4,l5]/\bg S S'/\S' p=some (.lst ((zs.map (·.1)).map .ref))/\S' c=some (sH (eZ ((dn.map (·.2)).map cE)) e')/\(∀ z∈zs,S' z.1=some (.lst (qW (cR z.2))))/\r'=rs.map (λz=>.ref z.1)/\dn++rs=zs) (λr L S' h=>by obtain⟨_,_,_,_,_,_,_,_,h,_⟩:=h; exact h) ?_ ?_ _ _ _ ⟨[],zs,ep,none,none,none,rfl,(bg.new hc).trans e1,hp1,hc1,ez3,(by rw [J7]; rfl),rfl⟩
  ·rintro d r' L S2 N1 ⟨dn,rs,e',l3,l4,l5,rfl,e2,h1,h2,h3,er,ee⟩ hN;cases rs with
   | nil=>cases er
   | cons z rs=>
    cases er;have hz:z∈zs:=by rw [<- ee]; simp
    have za:=ok.al z.2 (JF.mpr ⟨z,hz,rfl⟩);have hzs:=h3 z hz;have hd:dn.length < 10:=by
     have:dn.length+(rs.length+1)=zs.length:=by rw [<- ee,JU]; rfl
     rw [JG] at l9;omega
    have s3:kz z.2.2:=fD za.2.2.2.2.2 (by decide)
    refine⟨_,hzs,?_⟩;refine⟨_,_,hzs,bq,z.2.2,rfl,s3,λS3 e3=>⟨_,_,e3 _ _ hzs,mJ,z.2.1.1,rfl,za.1,by omega,λS4 e4=>⟨_,_,e4 _ _ (e3 _ _ hzs),By,z.2.1.2,rfl,za.2.2.1,by omega,λS5 e5=>⟨few,?_⟩⟩⟩⟩
    have E:=e3.trans (e4.trans e5);have pw:Ac (dn.map (·.2)++z.2::rs.map (·.2)):=by
     have:=ok.ds;rw [<- ee,List.map_append,JP] at this;exact this
    have lt:∀ x∈dn.map (·.2),ZS.lx z.2.1 x.1=true:=λx hx=>(List.pairwise_append.mp pw).2.2 x hx z.2 JL
    have nk:[z.2.1.1,z.2.1.2]∉((dn.map (·.2)).map cE).map (·.1):=λhm=>by
     rw [J7] at hm;obtain⟨x,hx,e⟩:=JF.mp hm;have e:[x.1.1,x.1.2]=[z.2.1.1,z.2.1.2]:=e;have:=ZS.lx_iff.mp (lt x hx);simp only [List.cons.injEq,and_true] at e;omega
    have fin:rM (G9 (cL 4) (yK (cL 1) (cL 5))) (u7 2 (cL 5)) {nx:=N1,rt:=k,bk:=yF (cL 1) {nx:=λx S'=>k D.non S',rt:=k},ct:=N1} [some (.str (tT ((zs.map (·.2)).map cR))),some (.ref c),some (nM (dn.map (·.2))),some (.ref z.1),some (fr z.2.2),some (.tup [.int z.2.1.1,.int z.2.1.2])] S5:=by
     refine⟨_,_,[z.2.1.1,z.2.1.2],E _ _ h2,rfl,?_,λe6=>?_⟩
     ·unfold eZ lW;rw [JG,JG,JG];exact vP (by omega)
     ·refine hN _ _ ⟨dn++[z],rs,e6,some (.ref z.1),some (fr z.2.2),some (.tup [.int z.2.1.1,.int z.2.1.2]),?_,(e2.trans E).put hc,by rw [cj hpc]; exact E _ _ h1,?_,λy hy=>?_,rfl,by rw [List.append_assoc]; exact ee⟩
      ·have el:nM ((dn++[z]).map (·.2))=.tup [.int z.2.1.1,.int z.2.1.2]:=by
        unfold nM;rw [List.map_append,JP,List.map_nil,List.getLast?_append]
        rfl
       rw [el]
       rfl
      ·rw [ak];have:=pe (f:=fr) (x:=z.2.2) nk;rw [show mV (eZ ((dn.map (·.2)).map cE)) [z.2.1.1,z.2.1.2] (fr z.2.2)=_ from this,List.map_append,List.map_append]
       rfl
      ·have hy':=E _ _ (h3 y hy);rw [cj (λq=>by rw [q,E _ _ h2] at hy'; cases hy')]
       exact hy'
    refine⟨_,bq,aF (λq=>absurd q (ir za.2.2.2.2.1)) (λ_=>?_)⟩
    cases hla:(dn.map (·.2)).getLast? with
    | none=>
     have el:nM (dn.map (·.2))=.non:=by unfold nM; rw [hla]
     rw [el] at fin ⊢;exact fin
    | some x=>
     have el:nM (dn.map (·.2))=.tup [.int x.1.1,.int x.1.2]:=by unfold nM; rw [hla]
     rw [el] at fin ⊢;have hx:=lt x (List.mem_of_getLast? hla);refine cw (c:=!ZS.lx (z.2.1.1,z.2.1.2) (x.1.1,x.1.2)) (λq=>?_) (λ_=>fin)
     rw [show ZS.lx (z.2.1.1,z.2.1.2) (x.1.1,x.1.2)=true from hx] at q
     cases q
  ·rintro L S2 ⟨dn,rs,e',l3,l4,l5,rfl,e2,h1,h2,h3,er,ee⟩;cases rs with
   | cons _ _=>cases er
   | nil=>
    rw [JW] at ee;rw [ee] at h2;exact w c e' S2 e2 hc h2
set_option maxHeartbeats 4000000
def jC:bE:=λds S k=>∃ (ns:List Int) (i:Int),ds=[.rl (List.map D.int ns),.int i]/\0<=i/\∀ c:Int,k (.int c) S
theorem oh:ao ["script","k"] ["script","k"] (aj fI):=cG
theorem oj (Fn:FN K "_law_cell_at" fI f fd) (aM:mg "len"=none):
  aQ P w K mg base b8 1 f fd ["script","k"] (ce K jC):=by
 refine Fn.okJ oh (λds S k h=>?_) (λcdv A outer s H E hr=>⟨_,(ag (ay (au uE (af 1) (aA cM rfl aM bJ (aG 0 ac)) (ar _)) (ah (ai (aD oM (af 0) (af 1) Zf))) az) (ah (ai ae))),λds S k h=>?_⟩)
 ·obtain⟨_,_,rfl,_⟩:=h
  rfl
 ·obtain⟨ns,i,rfl,h0,q⟩:=h;refine aF (λhl=>?_) (λ_=>q 0)
  obtain⟨n,rfl⟩:=Int.eq_ofNat_of_zero_le h0;have hn:n < ns.length:=by rw [JG] at hl; omega
  have e:L2.atI (List.map D.int ns) (n:Int)=some (.int ns[n]):=e_ (by rw [J0,JY hn] <;> rfl)
  exact⟨_,e,q _⟩
def lL:bE:=λds S k=>∃ ns i,ds=[.rl (List.map D.int ns),.int i]/\0<=i/\∀ (p:Kr) (n:Int) (b:KA),S p=none->(b=false->0<=n/\n < 2147483647)->k (.ref p) (put S p (.lst [.int n,.bl b]))
theorem kr:ao ["script","k","cell"] ["script","k"] (aj iK):=cG
theorem pS (Fn:FN K "_law_state" iK f fd) (fP:bc P w K mg base "_law_cell_at" 1 jC):
  aQ P w K mg base b8 2 f fd ["script","k"] (ce K lL):=by
 refine Fn.okJ kr (λds S k h=>?_) (λcdv A outer s H E hr=>⟨_,(ag (am (i:=2) kr.nd (dq fP hr (aG 0 (aG 1 ac)))) (ag (ay (au yT (af 2) (aB wJ ae ae) (ar _)) (ah (ai (cm (aa (aB o6 (af 2) (aB wJ ae ae)) (aa cn ac))))) az) (ah (ai (cm (aa (aB kA (af 2) ae) (aa cn ac))))))),λds S k h=>?_⟩)
 ·obtain⟨_,_,rfl,_⟩:=h
  rfl
 ·obtain⟨ns,i,rfl,h0,q⟩:=h;have hp:xq 10 18:=⟨by decide,by decide,by decide⟩
  refine⟨ns,i,rfl,h0,λc=>⟨hp,aF (λhl=>⟨hp,few,λp hn=>?_⟩) (λhl=>⟨(by show(2147483647:Int)≠0; decide),few,λp hn=>?_⟩)⟩⟩
  ·exact q p _ _ hn (λz=>by cases z)
  ·exact q p _ _ hn (λ_=>⟨Ka _ (by decide),Kl _ (by decide)⟩)
def bV:bE:=λds S k=>∃ a m,ds=[.ref a,.int m]/\0 < m/\Bt 200 m/\nY S a/\∀ r S',0<=r->r < m->Dr a S S'->k (.int r) S'
theorem fc:ao ["state","many","mixed","found"] ["state","many"] (aj jS):=cG
theorem rH (Fn:FN K "_law_take" jS f fd):
  aQ P w K mg base b8 1 f fd ["state","many"] (ce K bV):=by
 refine Fn.okJ fc (λds S k h=>?_) (λcdv A outer s H E hr=>⟨_,(ag (ay (aK (dz 0)) (ag (am (i:=3) fc.nd (aB kA (dz 0) (af 1))) (ag (fQ (aB jp (dz 0) (af 1)) (w6 (af 0) ae)) (ah (ai (af 3))))) az) (ag (fQ (aB kA (aB bv (aB dY (dz 0) ae) ae) ae) (w6 (af 0) ae)) (ag (am (i:=2) fc.nd (aB kA (aB bv (aB bv (aB dY (dz 0) (dz 0)) (aB dY ae (dz 0))) ae) ae)) (ag (am (i:=2) fc.nd (aB kA (aB bv (aB dY (af 2) (af 2)) (aB dY ae (af 2))) ae)) (ah (ai (aB kA (aB jp (af 2) ae) (af 1)))))))),λds S k h=>?_⟩)
 ·obtain⟨_,_,rfl,_⟩:=h
  rfl
 ·obtain⟨a,m,rfl,hm,hb,⟨n,b,hS,hn⟩,q⟩:=h;have put_dr:∀ (n':Int) (b':KA),(b'=false->0<=n'/\n' < 2147483647)->Dr a S (put S a (.lst [.int n',.bl b'])):=λn' b' h'=>
   ⟨⟨n',b',ak,h'⟩,λc o z e=>by rw [cj z]; exact e⟩
  refine⟨_,_,hS,mJ,?_⟩;cases b with
  | true=>
   refine⟨_,_,hS,bq,(show m≠0 by omega),_,_,hS,bq,Bx (by omega) hb,_,_,hS,FC,?_⟩
   exact q _ _ (Ka _ hm) (Kl _ hm) (put_dr _ _ λz=>by cases z)
  | false=>
   obtain⟨n0,n1⟩:=hn rfl;have b31:=xH n0 (by omega)
   refine⟨_,_,hS,bq,uI (n:=31) b31 (xH (by decide) (by decide)),(show (2147483647:Int)≠0 by decide),_,_,hS,FC,?_⟩
   have c0:0<=(n*48271+29).fmod 2147483647:=Ka _ (by decide)
   have c1:(n*48271+29).fmod 2147483647 < 2147483647:=Kl _ (by decide)
   have bx:=xH c0 (by omega)
   refine⟨_,_,ak,bq,_,_,ak,bq,uI bx bx,_,_,ak,bq,uI (m:=31) (xH (by decide) (by decide)) bx,(show (2147483629:Int)≠0 by decide),?_⟩
   have d0:0<=((n*48271+29).fmod 2147483647*(n*48271+29).fmod 2147483647+39373*(n*48271+29).fmod 2147483647+7).fmod 2147483629:=Ka _ (by decide)
   have d1:((n*48271+29).fmod 2147483647*(n*48271+29).fmod 2147483647+39373*(n*48271+29).fmod 2147483647+7).fmod 2147483629 < 2147483629:=Kl _ (by decide)
   have by':=xH d0 (by omega)
   refine⟨uI by' by',uI (m:=31) (xH (by decide) (by decide)) by',(show (2147483587:Int)≠0 by decide),⟨by decide,by decide +kernel⟩,(show m≠0 by omega),?_⟩
   exact q _ _ (Ka _ hm) (Kl _ hm) (put_dr _ _ λ_=>⟨c0,c1⟩)
theorem B8 (a b:Int):Int.gcd (kN a) (kN b)=Int.gcd a b:=by
 have e:∀ x:Int,(kN x).natAbs=x.natAbs:=λx=>by unfold kN; split <;> omega
 unfold Int.gcd;rw [e,e]
def jv:bE:=λds S k=>∃ a b,ds=[.int a,.int b]/\k (.int ((Int.gcd a b:Nat):Int)) S
theorem c_:ao ["one","other"] ["one","other"] (aj fE):=cG
theorem n4 (Fn:FN K "_law_divisor" fE f fd) (eU:mg "abs"=none):
  aQ P w K mg base b8 1 f fd ["one","other"] (ce K jv):=by
 refine Fn.okJ c_ (λds S k h=>?_) (λcdv A outer s H E hr=>⟨_,(ag (am (i:=0) c_.nd (aA rf rfl eU mv (aG 0 ac))) (ag (am (i:=1) c_.nd (aA rf rfl eU mv (aG 1 ac))) (ag (jf PassesOwn.never (au t7 (af 1) ae (ar _)) (ah (yn (i:=0) (j:=1) rfl c_.nd (by decide) (aG 1 (aa (aB kA (af 0) (af 1)) ac))))) (ah (ai (af 0)))))),λds S k h=>?_⟩)
 ·obtain⟨_,_,rfl,_⟩:=h
  rfl
 ·obtain⟨a,b,rfl,q⟩:=h;refine⟨λm L S'=>S'=S/\∃ x y,L=[some (.int x),some (.int y)]/\m=y.natAbs/\0<=x/\0<=y/\Int.gcd x y=Int.gcd a b,⟨_,rfl,kN a,kN b,rfl,rfl,wD a,wD b,B8 a b⟩,?_⟩
  rintro m L S' ⟨rfl,x,y,rfl,rfl,hx,hy,e⟩;refine aF (λhl=>⟨λL' S''=>∃ m',m' < y.natAbs/\S''=S'/\∃ x y,L'=[some (.int x),some (.int y)]/\m'=y.natAbs/\0<=x/\0<=y/\Int.gcd x y=Int.gcd a b,λ_ _ z=>z,by omega,?_⟩) (λhl=>?_)
  ·exact⟨_,wg x y (by omega),rfl,y,x.fmod y,rfl,rfl,hy,Ka _ hl,(tD x y).trans e⟩
  ·have z:y=0:=by omega
   subst z;have e2:=uw x;rw [e,if_neg (by omega)] at e2
   rw [e2] at q;exact q
def fj:bE:=λds S k=>∃ t b,ds=[.int t,.int b]/\b≠0/\Bt 8000 b/\k (fr (Rat.divInt t b)) S
theorem gX:ao ["top","bottom","by"] ["top","bottom"] (aj ii):=cG
theorem qm (Fn:FN K "_law_ratio" ii f fd) (fK:bc P w K mg base "_law_divisor" 1 jv):
  aQ P w K mg base b8 2 f fd ["top","bottom"] (ce K fj):=by
 refine Fn.okJ gX (λds S k h=>?_) (λcdv A outer s H E hr=>⟨_,(ag (am (i:=2) gX.nd (dq fK hr (aG 0 (aG 1 ac)))) (ag (ay (au uE (af 1) ae (ar _)) (ah (am (i:=2) gX.nd (aB o6 ae (af 2)))) az) (ah (ai (aC (aa (aB jp (af 0) (af 2)) (aa (aB jp (af 1) (af 2)) ac))))))),λds S k h=>?_⟩)
 ·obtain⟨_,_,rfl,_⟩:=h
  rfl
 ·obtain⟨t,b,rfl,h0,hb,q⟩:=h;have hg:=zU (t:=t) h0 hb;have hs:=zO (t:=t) h0;have e1:=sI (t:=t) h0;have e2:=rX (t:=t) h0;have qq:k (.tup [.int (t.fdiv (yf t b)),.int (b.fdiv (yf t b))]) S:=by rw [e1,e2]; exact q
  unfold yf at qq hs
  refine⟨t,b,rfl,aF (λhl=>?_) (λhl=>?_)⟩
  ·rw [if_pos hl] at qq hs
   rw [<- Int.zero_sub] at qq hs
   have hd:∀ x:Int,qB x (0 - ((Int.gcd t b:Nat):Int)):=λx=>Bx hs (by rw [Int.zero_sub]; exact hg.neg)
   exact⟨hd _,hd _,few,qq⟩
  ·rw [if_neg hl] at qq hs
   exact⟨Bx hs hg,Bx hs hg,few,qq⟩
def lr:bE:=λds S k=>∃ (a b c d:Int) (q:Rat),ds=[pr a b,pr c d]/\b*d≠0/\Bt 4000 a/\Bt 4000 b/\Bt 4000 c/\Bt 4000 d/\Rat.divInt (a*c) (b*d)=q/\k (fr q) S
theorem qa:ao ["one","other"] ["one","other"] (aj iw):=cG
theorem qd (Fn:FN K "_law_times" iw f fd) (bL:bc P w K mg base "_law_ratio" 2 fj):
  aQ P w K mg base b8 3 f fd ["one","other"] (ce K lr):=by
 refine Fn.okJ qa (λds S k h=>?_) (λcdv A outer s H E hr=>⟨_,(ah (ai (dq bL hr (aa (aB dY (dz 0) (dz 1)) (aa (aB dY (dz 0) (dz 1)) ac))))),λds S k h=>?_⟩)
 ·obtain⟨_,_,_,_,_,rfl,_⟩:=h
  rfl
 ·obtain⟨a,b,c,d,_,rfl,h0,h1,h2,h3,h4,rfl,q⟩:=h;exact⟨uI h1 h3,uI h2 h4,_,_,rfl,h0,(h2.mul h4).mono (by decide),q⟩
theorem ES (q:Rat) (u:Int):Rat.divInt (q.num*(kN q.num*u)) ((q.den:Int)*(q.den:Int))=ss q*u:=by
 have h:=nP q;have hd:=pJ q;rw [Rat.divInt_eq_div,Rat.intCast_mul,Rat.intCast_mul,Rat.intCast_mul,Rat.intCast_natCast];unfold ss ab kN
 by_cases hq:q < 0
 ·rw [if_pos hq,if_pos ((gp q).mpr hq),Rat.intCast_neg]; grind
 ·rw [if_neg hq,if_neg (λz=>hq ((gp q).mp z))]; grind
def B (x:Q):D:=.tup [fr x.1,fr x.2]
def BP (x y:Q):D:=.tup [B x,B y]
theorem nY.set {a q:Kr} {S:DH} {o:DO} (h:nY S a) (z:q≠a):nY (put S q o) a:=by
 obtain⟨n,b,e,w⟩:=h;exact⟨n,b,by rw [cj (Ne.symm z)]; exact e,w⟩
set_option maxHeartbeats 4000000
abbrev sc (t:Rat) (l:Zr):Zr:=l.map λp=>(p.1,p.2*t)
theorem vv {l:List (List Int×D)}:(eN l).length=l.length:=JG _
theorem vj {S:DH} {p f:Kr} {c:Zr} {e1:Nat} {k:DK} (hp:S p=none) (hf:S f=some (sH (eZ c) e1)) (nd:(c.map (·.1)).Nodup) (kk:∀ S2,bg S S2->S2 p=some (.lst (eN (eZ (nz c))))->k (.ref p) S2):
  ∀ (bh don:Zr) (l0:Ks D) (S1:DH),c=don++bh->bg S S1->S1 p=some (.lst (eN (eZ (nz don))))->c.length<=100->
   bK (λS=>S f=some (sH (eZ c) e1)) p (eS 0) (m8 (g_ (wP Hv (wP Bf (zg (cL 1) (cL 0)) (dC (.int 0))) (dC (.int 0)))) (C0 (eW (cL 0) (eW (zg (cL 1) (cL 0)) mx)))) k (bh.map λx=>lP x.1) (eN (eZ (nz don))) [l0,some (.ref f)] S1
 | [],don,l0,S1,ec,x1,h1,_=>by
  rw [JW] at ec;subst ec;exact⟨x1 _ _ hf,kk S1 x1 h1⟩
 | q::bh,don,l0,S1,ec,x1,h1,hl=>by
  have f1:=x1 _ _ hf;have g1:eP (eZ c) q.1=some (fr q.2):=hG nd (by rw [ec]; simp)
  have hd:don.length < 100:=by have:=congrArg List.length ec; rw [JU,JQ] at this; omega
  have lz:(nz don).length<=don.length:=List.length_filter_le _ _;have ec':c=(don++[q])++bh:=by rw [ec]; simp
  refine⟨f1,_,_,q.1,_,f1,rfl,g1,yC (λh0=>?_) (λh0=>?_)⟩
  ·have q0:q.2≠0:=λz=>h0 (by rw [z]; rfl)
   refine⟨_,_,q.1,_,f1,rfl,g1,few,h1,?_,?_⟩
   ·rw [vv,oy];exact lim (by omega)
   ·have ea:eN (eZ (nz don))++[D.tup [lP q.1,fr q.2]]=eN (eZ (nz (don++[q]))):=by
     simp [nz,List.filter_append,q0,eN,lW]
    rw [ea];exact vj hp hf nd kk bh (don++[q]) _ _ ec' (x1.put hp) ak hl
  ·have q0:q.2=0:=Rat.num_eq_zero.mp h0;have ea:eN (eZ (nz don))=eN (eZ (nz (don++[q]))):=by
    simp [nz,List.filter_append,q0]
   rw [ea];exact vj hp hf nd kk bh (don++[q]) _ _ ec' x1 (by rw [h1,ea]) hl
def bG:bE:=λds S k=>∃ (a:Kr) (m:Int),ds=[.ref a,.int m]/\1<=m/\m<=9/\nY S a/\∀ q S',Sz 4 q->Dr a S S'->k (fr q) S'
theorem ml:ao ["state","most"] ["state","most"] (aj eL):=cG
theorem ng (Fn:FN K "_law_fraction" eL f fd) (bL:bc P w K mg base "_law_ratio" 2 fj) (ax:bc P w K mg base "_law_take" 1 bV):
  aQ P w K mg base b8 3 f fd ["state","most"] (ce K bG):=by
 refine Fn.okJ ml (λds S k h=>?_) (λcdv A outer s H E hr=>⟨_,(ah (ai (dq bL hr (aa (aB o6 (dq ax hr (aG 0 (aa (aB bv (aB dY ae (af 1)) ae) ac))) (af 1)) (aa (aB bv ae (dq ax hr (aG 0 (aa (aD oM (cm (aa ae (aa ae (aa ae (aa ae ac))))) (dq ax hr (aG 0 (aa ae ac))) Zf) ac)))) ac))))),λds S k h=>?_⟩)
 ·obtain⟨_,_,rfl,_⟩:=h
  rfl
 ·obtain⟨a,m,rfl,m1,m4,hS,w⟩:=h;have bm:Bt 4 m:=by unfold Bt; omega
  have b9:Bt 5 (2*m+1):=by unfold Bt; omega
  refine⟨uI (show Bt 2 2 by decide) bm,a,2*m+1,rfl,by omega,b9.mono (by decide),hS,λr1 S1 h1 h1' d1=>⟨few,λp hp=>⟨a,4,rfl,by decide,by decide,d1.1.new hp,λr2 S2 h2 h2' d2=>?_⟩⟩⟩
  have hp3:=d2.2 p _ (d1.1.ne hp) ak;obtain⟨c,hc,hm⟩:=oz (ds:=[.int 1,.int 1,.int 1,.int 4]) h2 h2';have hc2:∃ s:Int,c=.int s/\1<=s/\s<=4:=by
   simp only [JJ,JS,or_false] at hm;rcases hm with rfl | rfl | rfl | rfl
   ·exact⟨1,rfl,by decide,by decide⟩
   ·exact⟨1,rfl,by decide,by decide⟩
   ·exact⟨1,rfl,by decide,by decide⟩
   ·exact⟨4,rfl,by decide,by decide⟩
  obtain⟨s,rfl,s0,s1⟩:=hc2;have bs:Bt 4 s:=by unfold Bt; omega
  refine⟨_,_,hp3,hc,a,s,rfl,by omega,bs.mono (by decide),d2.1,λr3 S3 h3 h3' d3=>?_⟩
  have b1:Bt 4 (r1 - m):=by unfold Bt; omega
  have b2:Bt 4 (1+r3):=by unfold Bt; omega
  exact⟨_,_,rfl,by omega,b2.mono (by decide),w _ _ (Sz.divInt b1 b2 (by omega)) (d1.trans ((Dr.new d1.1 hp).trans (d2.trans d3)))⟩
def gI:bE:=λds S k=>∃ (a:Kr) (m:Int),ds=[.ref a,.int m]/\1<=m/\m<=9/\nY S a/\∀ q S',Sz 4 q->q≠0->Dr a S S'->k (fr q) S'
theorem jL:ao ["state","most","found"] ["state","most"] (aj gQ):=cG
theorem oH (Fn:FN K "_law_nought" gQ f fd) (aq:bc P w K mg base "_law_fraction" 3 bG):
  aQ P w K mg base b8 4 f fd ["state","most"] (ce K gI):=by
 refine Fn.okJ jL (λds S k h=>?_) (λcdv A outer s H E hr=>⟨_,(ag (am (i:=2) jL.nd (dq aq hr (aG 0 (aG 1 ac)))) (ah (ai (oX (au kR (dz 2) ae (ar _)) (af 2) (aC (aa ae (aa ae ac))))))),λds S k h=>?_⟩)
 ·obtain⟨_,_,rfl,_⟩:=h
  rfl
 ·obtain⟨a,m,rfl,m1,m4,hS,w⟩:=h;refine⟨a,m,rfl,m1,m4,hS,λq S1 hq d1=>hZ (λn=>w q S1 hq (λz=>n (by rw [z]; rfl)) d1) (λ_=>⟨few,w 1 S1 ⟨by decide,by decide⟩ (by decide) d1⟩)⟩
def lh:bE:=λds S k=>∃ (a:Kr) (c:Zr) (ep:Nat),ds=[.ref a]/\S a=some (sH (eZ c) ep)/\(c.map (·.1)).Nodup/\c.length<=100/\∀ S' p ep',bg S S'->S p=none->S' p=some (sH (eZ (nz c)) ep')->k (.ref p) S'
theorem p8:ao ["sums"] ["sums"] (aj iZ):=cG
theorem qr (Fn:FN K "_law_clean" iZ f fd) (mX:mg "dict"=none):
  aQ P w K mg base b8 1 f fd ["sums"] (ce K lh):=by
 refine Fn.okJ p8 (λds S k h=>?_) (λcdv A outer s H E hr=>⟨_,(ah (ai (bD (Fk hr) rfl mX xi (aa (oP rfl (de (N:=["powers","sums"]) (cap:=[none,some 0]) rfl rfl rfl rfl ⟨rfl,trivial⟩ rfl rfl ⟨⟨rfl,.inl rfl,.inl rfl⟩,trivial⟩) (wd (af 0)) (λ_ _ _ _=>(aN (i:=0) (show List.Nodup (["powers","sums"]:List Str) from by decide +kernel))) (λ_ _ _ _=>(au kR (aD oM (ow hr (af 1) (af 0) Zf) ae Zf) ae (ar _))) (λ_ _ _ _=>(aC (aG 0 (aa (ow hr (af 1) (af 0) Zf) ac))))) ac)))),λds S k h=>?_⟩)
 ·obtain⟨_,_,_,rfl,_⟩:=h
  rfl
 ·obtain⟨a,c,ep,rfl,ha,nd,hl,w⟩:=h;refine⟨_,_,ha,λp2 hp2=>?_⟩
  rw [FO];exact vj (S:=S) hp2 ha nd (λS2 x2 h2=>.inr ⟨_,h2,λp3 hp3 e5=>w _ p3 e5 (x2.trans (bg.new hp3)) (x2.none hp3) (by rw [ak,mL (f:=fr) (rg nd)])⟩) c [] none _ rfl (bg.new hp2) ak hl
structure uH (n:Nat) (c:Zr):Prop where
 nd:(c.map (·.1)).Nodup
 hl:c.length<=n
 sm:s_ c
 hz:∀ p∈c,Sz 30 p.2
theorem uH.nil:uH 0 []:=⟨List.nodup_nil,by decide,λp h=>(nomatch h),λp h=>(nomatch h)⟩
theorem uH.put {n:Nat} {c:Zr} (h:uH n c) {i j:Int} {x:Rat} (i0:0<=i) (j0:0<=j) (i1:i<=9) (j1:j<=9) (hx:Sz 30 x):∃ c',mV (eZ c) [i,j] (fr x)=eZ c'/\uH (n+1) c'/\([i,j],x)∈c'/\(∀ p∈c,p.1≠[i,j]->p∈c')/\∀ p∈c',p∈c\/p=([i,j],x):=by
 obtain⟨c',e,nd,hl,mm,m1,m2⟩:=zz (l:=c) (k:=[i,j]) (x:=x);have:=h.hl;refine⟨c',e,⟨nd h.nd,by omega,λp hp=>?_,λp hp=>?_⟩,m1,m2,mm⟩
 ·rcases mm p hp with m | rfl
  ·exact h.sm p m
  ·exact⟨i,j,rfl,i0,j0,i1,j1⟩
 ·rcases mm p hp with m | rfl
  ·exact h.hz p m
  ·exact hx
theorem uH.nz {n:Nat} {c:Zr} (h:uH n c):uH n (nz c):=⟨rg h.nd,J5 EC h.hl,λp hp=>h.sm p (sO.mp hp).1,λp hp=>h.hz p (sO.mp hp).1⟩
theorem uH.mono {m n:Nat} {c:Zr} (h:uH m c) (hm:m<=n):uH n c:=⟨h.nd,J5 h.hl hm,h.sm,h.hz⟩
theorem Hn {S:DH} {a p:Kr} {l:List (List Int×D)} {ep:Nat} (h:nY S a) (e:S p=some (sH l ep)):p≠a:=λz=>by
 obtain⟨n,b,e2,_⟩:=h;rw [z,e2] at e;cases e
theorem zr {c:DT} {t e b2:DS} {M:lX} {L:Lo} {S:DH} (P:Lo->DH->Prop) (h2:∀ L S,P L S->b2 M L S) (h1:(∀ L S,P L S->b2 M L S)->xO c t e {M with nx:=b2 M} L S):rM (xO c t e) b2 M L S:=h1 h2
theorem nY.ext {a:Kr} {S S':DH} (h:nY S a) (x:bg S S'):nY S' a:=by
 obtain⟨n,b,e,q⟩:=h;exact⟨n,b,x _ _ e,q⟩
theorem Dr.ext {a:Kr} {S S' S'':DH} (h:Dr a S S') (x:bg S' S''):Dr a S S'':=⟨h.1.ext x,λb o n e=>x _ _ (h.2 b o n e)⟩
theorem Dr.non' {a p:Kr} {S S':DH} (h:Dr a S S') (hp:S' p=none):S p=none:=by
 cases e:S p with
 | none=>rfl
 | some o=>rw [h.2 p o (h.1.ne hp) e] at hp; cases hp
theorem Dr.putN {a p:Kr} {S T:DH} {o:DO} (d:Dr a S T) (hp:S p=none) (n:p≠a):Dr a S (put T p o):=⟨d.1.set n,λb u nb e=>by
 rw [cj (λz=>by rw [z,hp] at e; cases e)]
 exact d.2 b u nb e⟩
theorem Dr.keep {a p:Kr} {S S':DH} {o:DO} (h:Dr a S S') (n:p≠a) (e:S p=some o):S' p=some o:=h.2 p o n e
theorem vB {S:DH} {p f:Kr} {c:Zr} {e1:Nat} {k:DK} (hp:S p=none) (hf:S f=some (sH (eZ c) e1)) (sm:s_ c) (kk:∀ S2 ks,bg S S2->S2 p=some (.lst ks)->(ks=[]->∀ x∈c,x.1=[0,0])->(ks≠[]->c≠[])->k (.ref p) S2):
  ∀ (bh don:Zr) (acc:List D) (l0:Ks D) (S1:DH),c=don++bh->bg S S1->S1 p=some (.lst acc)->(acc=[]->∀ x∈don,x.1=[0,0])->acc.length<=don.length->c.length<=100->
   bK (λS=>S f=some (sH (eZ c) e1)) p (eS 0) (m8 (g_ (wP DC (cL 0) (C0 (eW (dC (D.int 0)) (eW (dC (D.int 0)) mx))))) (cL 0)) k (bh.map λx=>lP x.1) acc [l0] S1
 | [],don,acc,l0,S1,ec,x1,h1,h2,h3,_=>by
  rw [JW] at ec;subst ec;refine⟨x1 _ _ hf,kk S1 acc x1 h1 h2 λn z=>n ?_⟩
  rw [z] at h3;exact Kn.mp (Nat.le_zero.mp h3)
 | q::bh,don,acc,l0,S1,ec,x1,h1,h2,h3,hl=>by
  have f1:=x1 _ _ hf;have hd:don.length < 100:=by have:=congrArg List.length ec; rw [JU,JQ] at this; omega
  have ec':c=(don++[q])++bh:=by rw [ec]; simp
  obtain⟨i,j,e,_⟩:=sm q (by rw [ec]; simp)
  rw [JP,e];refine⟨f1,few,_,Ew (n:=7) (eq_int (n:=7) (i:=i) (j:=0)) (eq_int (n:=7) (i:=j) (j:=0)),iW (λ_=>⟨h1,lim (by omega),?_⟩) (λez=>?_)⟩
  ·exact vB hp hf sm kk bh (don++[q]) _ _ _ ec' (x1.put hp) ak (λz=>by simp at z) (by rw [JU,JU]; simp; exact h3) hl
  ·refine vB hp hf sm kk bh (don++[q]) _ _ _ ec' x1 h1 (λz x hx=>?_) (by rw [JU]; omega) hl
   rcases List.mem_append.mp hx with m | m
   ·exact h2 z x m
   ·have:x=q:=by simpa using m
    rw [this,e];simp only [J6,beq_iff_eq] at ez;rw [ez.1,ez.2]
theorem Jk {a b r:Rat}:s_ (Hb a b r):=λp hp=>by
 simp only [JJ,JS,or_false] at hp;rcases hp with rfl | rfl | rfl <;> exact⟨_,_,rfl,by decide,by decide,by decide,by decide⟩
def Jc (c:Zr):Prop:=uH 9 c/\c≠[]/\∀ p∈c,p.2≠0
def lE:bE:=λds S k=>∃ (a:Kr) (m:Int),ds=[.ref a,.int m]/\m=3/\nY S a/\∀ S' p ep c,Dr a S S'->Jc c->S' p=some (sH (eZ c) ep)->k (.ref p) S'
theorem bA:ao ["state","most","kind","sums","number","turn","i"] ["state","most"] (aj iC):=cG
theorem qo (Fn:FN K "_law_curve" iC f fd) (ax:bc P w K mg base "_law_take" 1 bV) (aq:bc P w K mg base "_law_fraction" 3 bG) (bX:bc P w K mg base "_law_nought" 4 gI) (iN:bc P w K mg base "_law_clean" 1 lh) (bH:mg "range"=none):
  aQ P w K mg base b8 5 f fd ["state","most"] (ce K lE):=by
 refine Fn.okJ bA (λds S k h=>?_) (λcdv A outer s H E hr=>⟨_,(ag (am (i:=2) bA.nd (dq ax hr (aG 0 (aa ae ac)))) (ag (ay (au (ym hr) (af 2) ae (ar _)) (ah (am (i:=3) bA.nd (w9 hr (iS (aC (aa ae (aa ae ac))) (dq aq hr (aG 0 (aa ae ac))) (iS (aC (aa ae (aa ae ac))) (dq aq hr (aG 0 (aa ae ac))) (iS (aC (aa ae (aa ae ac))) (dq aq hr (aG 0 (aa ae ac))) zv)))))) (ah (ay (au (ym hr) (af 2) ae (ar _)) (ag (am (i:=4) bA.nd (dq bX hr (aG 0 (aa ae ac)))) (ag (am (i:=3) bA.nd (w9 hr (iS (aC (aa ae (aa ae ac))) (af 4) (iS (aC (aa ae (aa ae ac))) (af 4) (iS (aC (aa ae (aa ae ac))) (dq aq hr (aG 0 (aa ae ac))) (iS (aC (aa ae (aa ae ac))) (dq aq hr (aG 0 (aa ae ac))) zv)))))) (ah (fQ (dq aq hr (aG 0 (aa ae ac))) (oA hr (af 3) (aC (aa ae (aa ae ac)))))))) (ag (am (i:=3) bA.nd wG) (ah (ie PassesOwn.never rfl rfl bH (aa (aB bv ae (dq ax hr (aG 0 (aa ae ac)))) ac) (aN (i:=5) bA.nd) (ag (am (i:=6) bA.nd (dq ax hr (aG 0 (aa (aB bv (af 1) ae) ac)))) (ah (fQ (dq aq hr (aG 0 (aa ae ac))) (oA hr (af 3) (aC (aG 6 (aa (dq ax hr (aG 0 (aa (aB o6 (aB bv (af 1) ae) (af 6)) ac))) ac))))))))))))) (ag (am (i:=3) bA.nd (dq iN hr (aG 3 ac))) (ag (ay (au (ym hr) (oP rfl (de (N:=["powers"]) (cap:=[none]) rfl rfl rfl rfl trivial rfl rfl trivial) (wd (af 3)) (λ_ _ _ _=>(aN (i:=0) (show List.Nodup (["powers"]:List Str) from by decide +kernel))) (λ_ _ _ _=>(au (Ha hr) (af 0) (aC (aa ae (aa ae ac))) (ar _))) (λ_ _ _ _=>(af 0))) (cm ac) (ar _)) (ah (fQ (aC (aa ae (aa ae ac))) (oA hr (af 3) (aC (aa ae (aa ae ac)))))) az) (ah (ai (af 3))))))),λds S k h=>?_⟩)
 ·obtain⟨_,_,rfl,_⟩:=h
  rfl
 ·obtain⟨a,m,rfl,rfl,hS,w⟩:=h;refine⟨a,4,rfl,by decide,by decide,hS,λr1 S1 h1 h1' d1=>?_⟩
  dsimp only;refine zr (λL S'=>∃ r2 p r4 r5 r6 ep c,L=[some (.ref a),some (.int 3),r2,some (.ref p),r4,r5,r6]/\uH 8 c/\S' p=some (sH (eZ c) ep)/\Dr a S S') ?_ ?_
  ·rintro L S' ⟨r2,p,r4,r5,r6,ep,c,rfl,hc,hp,d⟩;have hl:=hc.hl;refine⟨p,c,ep,rfl,hp,hc.nd,by omega,λS2 q e2 x2 hq h2=>?_⟩
   refine⟨_,_,h2,λr hr=>?_⟩
   rw [FO];have hn:=hc.nz;have hnl:=hn.hl;have nq:q≠a:=d.1.ne hq;have Sq:=d.non' hq;refine vB (S:=S2) hr h2 hn.sm (λS3 ks x3 h3 k1 k2=>⟨few,λr' hr'=>?_⟩) (nz c) [] [] none _ rfl (bg.new hr) ak (λ_ x hx=>nomatch hx) (JE _) (by omega)
   have nr:r≠r':=v8 h3 hr';have x4:=(x2.trans x3).trans (bg.new (o:=.lst []) hr');have h4:=(x3.trans (bg.new (o:=.lst []) hr')) _ _ h2;have y1:put S3 r' (.lst []) r=some (.lst ks):=by rw [cj nr]; exact h3
   have y2:put S3 r' (.lst []) r'=some (.lst []):=ak;have d4:=d.ext x4;generalize put S3 r' (.lst [])=S4 at x4 h4 y1 y2 d4 ⊢
   by_cases hk:ks=[]
   ·subst hk;refine⟨[],[],true,y1,y2,.inl ⟨rfl,rfl⟩,vS ⟨few,few,_,_,[1,0],h4,rfl,by rw [oy]; exact lim (by omega),λe5=>?_⟩⟩
    obtain⟨c',ec,hc',m1,m2,mm⟩:=hn.put (i:=1) (j:=0) (x:=1) (by decide) (by decide) (by decide) (by decide) ⟨by decide,by decide⟩
    have ec:mV (eZ (nz c)) [1,0] (D.tup [.int 1,.int 1])=eZ c':=ec;refine w _ q e5 c' (d4.putN Sq nq) ⟨hc',List.ne_nil_of_mem m1,λp hp=>?_⟩ (by rw [ak,ec])
    rcases mm p hp with m | rfl
    ·exact(sO.mp m).2
    ·show(1:Rat)≠0
     decide
   ·exact⟨ks,[],false,y1,y2,.inr ⟨λz=>hk (Kn.mp z),rfl⟩,BI (w _ q e2 (nz c) d4 ⟨hn.mono (by decide),k2 hk,λp hp=>(sO.mp hp).2⟩ h4)⟩
  ·intro F;refine⟨_,eq_int,cw (λ_=>?_) (λ_=>⟨_,eq_int,cw (λ_=>?_) (λ_=>?_)⟩)⟩
   ·intro p hp e0;have np:p≠a:=Ne.symm (d1.1.ne hp).symm;refine⟨few,a,3,rfl,by decide,by decide,d1.1.new hp,λq1 T1 z1 g1=>⟨few,a,3,rfl,by decide,by decide,g1.1,λq2 T2 z2 g2=>⟨few,a,3,rfl,by decide,by decide,g2.1,λq3 T3 z3 g3=>?_⟩⟩⟩
    refine⟨e0,eZ [([1,0],q1),([0,1],q2),([0,0],q3)],g3.keep np (g2.keep np (g1.keep np ak)),rfl,by show 3<=15; decide,λe1=>?_⟩
    exact F _ _ ⟨_,p,_,_,_,e1,Hb q1 q2 q3,rfl,⟨yk,by show 3<=8; decide,Jk,HP (P:=Sz 30) (z1.mono (by decide)) (z2.mono (by decide)) (z3.mono (by decide))⟩,by rw [ak,mL (f:=fr) (l:=Hb q1 q2 q3) yk],(d1.trans ((Dr.new d1.1 hp).trans (g1.trans (g2.trans g3)))).putN (d1.non' hp) np⟩
   ·refine⟨a,2,rfl,by decide,by decide,d1.1,λq0 T0 z0 n0 g0=>λp hp e0=>?_⟩
    have np:p≠a:=g0.1.ne hp;have nd:(([([2,0],q0),([0,2],q0),([1,0],q0),([0,1],q0)]:Zr).map (·.1)).Nodup:=by show(([[2,0],[0,2],[1,0],[0,1]]:List (List Int))).Nodup; decide
    refine⟨few,few,few,a,4,rfl,by decide,by decide,g0.1.new hp,λq1 T1 z1 g1=>⟨few,a,4,rfl,by decide,by decide,g1.1,λq2 T2 z2 g2=>?_⟩⟩
    have nd:(([([2,0],q0),([0,2],q0),([1,0],q1),([0,1],q2)]:Zr).map (·.1)).Nodup:=nd;have hd:uH 4 [([2,0],q0),([0,2],q0),([1,0],q1),([0,1],q2)]:=⟨nd,by show 4<=4; decide,λp hp=>by
     simp only [JJ,JS,or_false] at hp;rcases hp with rfl | rfl | rfl | rfl <;> exact⟨_,_,rfl,by decide,by decide,by decide,by decide⟩,λp hp=>by
     simp only [JJ,JS,or_false] at hp;rcases hp with rfl | rfl | rfl | rfl
     ·exact z0.mono (by decide)
     ·exact z0.mono (by decide)
     ·exact z1.mono (by decide)
     ·exact z2.mono (by decide)⟩
    refine⟨e0,eZ [([2,0],q0),([0,2],q0),([1,0],q1),([0,1],q2)],g2.keep np (g1.keep np ak),rfl,by show 4<=15; decide,λe1=>?_⟩
    have dd:=(d1.trans (g0.trans ((Dr.new g0.1 hp).trans (g1.trans g2)))).putN (o:=sH (gN [] (eZ [([2,0],q0),([0,2],q0),([1,0],q1),([0,1],q2)])) e1) ((d1.trans g0).non' hp) np;have yy:put T2 p (sH (gN [] (eZ [([2,0],q0),([0,2],q0),([1,0],q1),([0,1],q2)])) e1) p=some (sH (eZ [([2,0],q0),([0,2],q0),([1,0],q1),([0,1],q2)]) e1):=by rw [ak,mL (f:=fr) nd]
    generalize put T2 p (sH (gN [] (eZ [([2,0],q0),([0,2],q0),([1,0],q1),([0,1],q2)])) e1)=T3 at dd yy ⊢
    refine⟨a,9,rfl,by decide,by decide,dd.1,λq5 T5 z5 g5=>⟨few,_,_,[0,0],g5.keep np yy,rfl,by rw [oy]; exact lim (by show 4<=100; decide),λe6=>?_⟩⟩
    obtain⟨c',ec,hc',_⟩:=hd.put (i:=0) (j:=0) (x:=q5) (by decide) (by decide) (by decide) (by decide) (z5.mono (by decide))
    exact F _ _ ⟨_,p,_,_,_,e6,c',rfl,hc'.mono (by decide),by rw [ak,ec],(dd.trans g5).putN ((d1.trans g0).non' hp) np⟩
   ·intro p hp e0;have np:p≠a:=d1.1.ne hp;have Sp:=d1.non' hp;refine⟨a,5,rfl,by decide,by decide,d1.1.new hp,λr2 T2 h2 h2' g2=>⟨⟨by omega,by omega⟩,?_⟩⟩
    have d0:=d1.trans ((Dr.new (o:=sH [] e0) d1.1 hp).trans g2);refine eY (λr L S'=>∃ l2 l4 l5 l6 ep n c,L=[some (.ref a),some (.int 3),l2,some (.ref p),l4,l5,l6]/\uH n c/\r.length+n<=5/\S' p=some (sH (eZ c) ep)/\Dr a S S') (λ_ _ _ _=>trivial) ?_ ?_ _ _ _ ⟨_,_,_,_,e0,0,[],rfl,uH.nil,by rw [JG,List.length_range]; omega,g2.keep np ak,d0⟩
    ·rintro d r L S' N1 ⟨l2,l4,l5,l6,ep,n,c,rfl,hc,hl,hh,dd⟩ hN1;have hl:r.length+1+n<=5:=hl;refine⟨a,3+1,rfl,by decide,by decide,dd.1,λi T3 i0 i1 g3=>⟨a,3,rfl,by decide,by decide,g3.1,λx T4 zx g4=>⟨a,3+1 - i,rfl,by omega,by unfold Bt; omega,g4.1,λj T5 j0 j1 g5=>⟨few,_,_,[i,j],g5.keep np (g4.keep np (g3.keep np hh)),rfl,by rw [oy]; exact lim (by have:=hc.hl; omega),λe6=>?_⟩⟩⟩⟩
     obtain⟨c',ec,hc',_⟩:=hc.put (i:=i) (j:=j) (x:=x) i0 j0 (by omega) (by omega) (zx.mono (by decide))
     exact hN1 _ _ ⟨_,_,_,_,e6,n+1,c',rfl,hc',by omega,by rw [ak,ec],(dd.trans (g3.trans (g4.trans g5))).putN Sp np⟩
    ·rintro L S' ⟨l2,l4,l5,l6,ep,n,c,rfl,hc,hl,hh,dd⟩;exact F _ _ ⟨_,p,_,_,_,ep,c,rfl,hc.mono (by omega),hh,dd⟩
set_option maxHeartbeats 4000000
abbrev Z4:=Q×Q
theorem Dr.put {a q:Kr} {S S1:DH} {o:DO} (h:Dr a S S1) (hq:S q=none) (z:q≠a):Dr a S (put S1 q o):=⟨h.1.set z,λb u n e=>by rw [cj (v8 e hq)]; exact h.2 b u n e⟩
theorem CS {m n:Nat} (h1:m*m < n) (h2:n < (m+1)*(m+1)) (k:Nat):k*k≠n:=λe=>by
 subst e;rcases Nat.lt_or_ge m k with h | h
 ·have:=Nat.mul_le_mul (show m+1<=k from h) (show m+1<=k from h)
  omega
 ·have:=Nat.mul_le_mul h h;omega
theorem kJ {q:Rat} {m n:Nat} (h:q.num=(n:Int)) (h1:m*m < n) (h2:n < (m+1)*(m+1)):AA q:=λr e=>by
 have e1:=congrArg Rat.num e;rw [vA,h] at e1;have:=congrArg Int.natAbs e1;rw [Int.natAbs_mul] at this;exact CS h1 h2 _ this
theorem Fs {q:Rat} {m n:Nat} (h:q.den=n) (h1:m*m < n) (h2:n < (m+1)*(m+1)):AA q:=λr e=>by
 have e1:=congrArg Rat.den e;rw [vC,h] at e1;exact CS h1 h2 _ e1
def xj:List Rat:=[⟨2,1,by decide,by decide⟩,⟨3,1,by decide,by decide⟩,⟨5,1,by decide,by decide⟩,⟨1,2,by decide,by decide⟩,⟨3,4,by decide,by decide⟩,⟨6,1,by decide,by decide⟩,⟨10,9,by decide,by decide⟩,⟨7,1,by decide,by decide⟩]
structure zf (u:Rat):Prop where
 fd:Fd u
 sz:Sz 4 u
theorem zG {u:Rat} (h:u∈xj):zf u:=by
 have hs:Sz 4 u/\0 < u:=by
  revert u
  unfold xj;intro u h;simp only [JJ,JS,or_false] at h;rcases h with rfl | rfl | rfl | rfl | rfl | rfl | rfl | rfl <;> exact⟨⟨by decide,by decide⟩,by decide +kernel⟩
 have hn:AA u:=by
  unfold xj at h;simp only [JJ,JS,or_false] at h;rcases h with rfl | rfl | rfl | rfl | rfl | rfl | rfl | rfl
  ·exact kJ (m:=1) (n:=2) rfl (by decide) (by decide)
  ·exact kJ (m:=1) (n:=3) rfl (by decide) (by decide)
  ·exact kJ (m:=2) (n:=5) rfl (by decide) (by decide)
  ·exact Fs (m:=1) (n:=2) rfl (by decide) (by decide)
  ·exact kJ (m:=1) (n:=3) rfl (by decide) (by decide)
  ·exact kJ (m:=2) (n:=6) rfl (by decide) (by decide)
  ·exact kJ (m:=3) (n:=10) rfl (by decide) (by decide)
  ·exact kJ (m:=2) (n:=7) rfl (by decide) (by decide)
 exact⟨⟨hs.2,hn,hs.1.mono (by decide)⟩,hs.1⟩
theorem GX {a:Rat}:Rat.divInt (a.num*kN a.num) ((a.den:Int)*(a.den:Int))=ss a:=by
 have:=ES a 1;rw [Int.mul_one] at this;rw [this]
 show ss a*((1:Int):Rat)=ss a
 rw [show ((1:Int):Rat)=1 from rfl]
 grind
def lY:bE:=λds S k=>∃ (x:Q) (u:Rat),ds=[B x,fr u]/\Sz 7 u/\Sq 900 x/\k (N u x.1 x.2) S
theorem gG:ao ["number","base","by","size"] ["number","base"] (aj iU):=cG
theorem qf (Fn:FN K "_law_shown" iU f fd) (fb:bc P w K mg base "_law_times" 3 lr) (eU:mg "abs"=none):
  aQ P w K mg base b8 4 f fd ["number","base"] (ce K lY):=by
 refine Fn.okJ gG (λds S k h=>?_) (λcdv A outer s H E hr=>⟨_,(ag (am (i:=2) gG.nd (dz 0)) (ag (am (i:=3) gG.nd (aC (aa (aA rf rfl eU mv (aa (dz 2) ac)) (aa (dz 2) ac)))) (ah (ai (aC (aa (dz 0) (aa (dq fb hr (aG 1 (aa (dq fb hr (aG 2 (aG 3 ac))) ac))) ac))))))),λds S k h=>?_⟩)
 ·obtain⟨_,_,rfl,_⟩:=h
  rfl
 ·obtain⟨x,u,rfl,su,hx,w⟩:=h;have s2:=hx.b.ss;unfold N at w;rw [Rat.mul_comm (ss x.2)] at w;exact⟨few,_,_,_,_,_,rfl,fX x.2 x.2,hx.b.num.mono (by decide),hx.b.den.mono (by decide),(BG hx.b.num).mono (by decide),hx.b.den.mono (by decide),GX,_,_,_,_,_,rfl,fX _ _,su.num.mono (by decide),su.den.mono (by decide),s2.num.mono (by decide),s2.den.mono (by decide),vO _ _,few,w⟩
def nO:bE:=λds S k=>∃ a,ds=[.ref a]/\nY S a/\∀ u S',zf u->Dr a S S'->k (fr u) S'
theorem sL:ao ["state"] ["state"] (aj jW):=cG
theorem rY (Fn:FN K "_law_base" jW f fd) (ax:bc P w K mg base "_law_take" 1 bV):
  aQ P w K mg base b8 2 f fd ["state"] (ce K nO):=by
 refine Fn.okJ sL (λds S k h=>?_) (λcdv A outer s H E hr=>⟨_,(ah (ai (aD oM (cm (aa (aC (aa ae (aa ae ac))) (aa (aC (aa ae (aa ae ac))) (aa (aC (aa ae (aa ae ac))) (aa (aC (aa ae (aa ae ac))) (aa (aC (aa ae (aa ae ac))) (aa (aC (aa ae (aa ae ac))) (aa (aC (aa ae (aa ae ac))) (aa (aC (aa ae (aa ae ac))) ac))))))))) (dq ax hr (aG 0 (aa ae ac))) Zf))),λds S k h=>?_⟩)
 ·obtain⟨_,rfl,_⟩:=h
  rfl
 ·obtain⟨a,rfl,hS,w⟩:=h;refine⟨few,few,few,few,few,few,few,few,few,λp hp=>⟨a,8,rfl,by decide,by decide,hS.new hp,λr S1 h1 h1' d1=>?_⟩⟩
  have hp1:=d1.2 p _ (hS.ne hp) ak;obtain⟨c,hc,hm⟩:=oz (ds:=xj.map fr) h1 h1';obtain⟨u,hu,rfl⟩:=JF.mp hm;exact⟨_,_,hp1,hc,w u S1 (zG hu) ((Dr.new hS hp).trans d1)⟩
def fB:bE:=λds S k=>∃ (z:Z4) (u:Rat),ds=[BP z.1 z.2,fr u]/\Sz 7 u/\Sq 900 z.1/\Sq 900 z.2/\k (Pq u z.1 z.2) S
theorem kl:ao ["point","base"] ["point","base"] (aj di):=cG
theorem kj (Fn:FN K "_law_shown_point" di f fd) (fo:bc P w K mg base "_law_shown" 4 lY):
  aQ P w K mg base b8 5 f fd ["point","base"] (ce K fB):=by
 refine Fn.okJ kl (λds S k h=>?_) (λcdv A outer s H E hr=>⟨_,(ah (ai (aC (aa (dq fo hr (aa (dz 0) (aG 1 ac))) (aa (dq fo hr (aa (dz 0) (aG 1 ac))) ac))))),λds S k h=>?_⟩)
 ·obtain⟨_,_,rfl,_⟩:=h
  rfl
 ·obtain⟨z,u,rfl,su,h1,h2,w⟩:=h;exact⟨_,u,rfl,su,h1,_,u,rfl,su,h2,few,w⟩
def Jg (z:Z4):Prop:=Sz 4 z.1.1/\Sz 4 z.1.2/\Sz 4 z.2.1/\Sz 4 z.2.2
def gj:bE:=λds S k=>∃ (a:Kr) (r:KA),ds=[.ref a,.bl r]/\nY S a/\∀ z S',Jg z->Dr a S S'->k (BP z.1 z.2) S'
theorem bO:ao ["state","rooted","point","k","by"] ["state","rooted"] (aj dS):=cG
theorem k_ (Fn:FN K "_law_pair_point" dS f fd) (ax:bc P w K mg base "_law_take" 1 bV) (aq:bc P w K mg base "_law_fraction" 3 bG) (bH:mg "range"=none) (aL:mg "tuple"=none):
  aQ P w K mg base b8 4 f fd ["state","rooted"] (ce K gj):=by
 refine Fn.okJ bO (λds S k h=>?_) (λcdv A outer s H E hr=>⟨_,(ag (am (i:=2) bO.nd (cm ac)) (ag (ie PassesOwn.never rfl rfl bH (aa ae ac) (aN (i:=3) bO.nd) (ag (am (i:=4) bO.nd (aC (aa ae (aa ae ac)))) (ag (ay (WJ.pt (iA (aK (af 1)) (fG (au t7 (dq ax hr (aG 0 (aa ae ac))) ae (ar _))))) (ah (am (i:=4) bO.nd (dq aq hr (aG 0 (aa ae ac))))) az) (ah (bS (gC (af 2) (aC (aa (dq aq hr (aG 0 (aa ae ac))) (aG 4 ac))))))))) (ah (ai (bD j_ rfl aL cx (aG 2 ac)))))),λds S k h=>?_⟩)
 ·obtain⟨_,_,rfl,_⟩:=h
  rfl
 ·obtain⟨a,r,rfl,hS,w⟩:=h;refine⟨few,λq hq=>⟨⟨by decide,by decide⟩,?_⟩⟩
  have qa':q≠a:=hS.ne hq;refine eY (λr' L S'=>∃ (zs:List Q) (l3 l4:Ks D),L=[some (.ref a),some (.bl r),some (.ref q),l3,l4]/\Dr a S S'/\S' q=some (.lst (zs.map B))/\(∀ x∈zs,Sq 4 x)/\zs.length+r'.length=2) (λ_ _ _ _=>trivial) ?_ ?_ _ _ _ ⟨[],_,_,rfl,Dr.new hS hq,ak,(λ_ h=>nomatch h),rfl⟩
  ·rintro d r' L S1 N1 ⟨zs,l3,l4,rfl,D1,h1,hok,hlen⟩ hN;have hlen:zs.length+(r'.length+1)=2:=hlen;refine⟨few,?_⟩;dsimp only;refine zr (λL S'=>Dr a S S'/\S' q=some (.lst (zs.map B))/\∃ b,L=[some (.ref a),some (.bl r),some (.ref q),some d,some (fr b)]/\Sz 4 b) ?_ (λgo=>?_)
   ·rintro L S2 ⟨D2,h2,b,rfl,hb⟩;refine⟨⟨_,h2⟩,a,4,rfl,by decide,by decide,D2.1,λx S3 hx d3=>⟨few,_,d3.2 q _ qa' h2,by rw [JG]; exact Az (by omega),hN _ _ ⟨zs++[(x,b)],_,_,rfl,Dr.put (D2.trans d3) hq qa',by rw [ak,List.map_append]; rfl,λy hy=>?_,by rw [JU]; show zs.length+1+r'.length=2; omega⟩⟩⟩
    rcases List.mem_append.mp hy with h | h
    ·exact hok y h
    ·rw [List.mem_singleton.mp h]; exact⟨hx,hb⟩
   ·have z0:Sz 4 (0:Rat):=Sz.zero.mono (by decide)
    cases r with
    | false=>exact go _ _ ⟨D1,h1,0,rfl,z0⟩
    | true=>exact⟨a,3,rfl,by decide,by decide,D1.1,λr3 S2 _ _ d2=>aF (λ_=>⟨a,2,rfl,by decide,by decide,d2.1,λb S3 hb d3=>go _ _ ⟨D1.trans (d2.trans d3),d3.2 q _ qa' (d2.2 q _ qa' h1),b,rfl,hb⟩⟩) (λ_=>go _ _ ⟨D1.trans d2,d2.2 q _ qa' h1,0,rfl,z0⟩)⟩
  ·rintro L S1 ⟨zs,l3,l4,rfl,D1,h1,hok,hlen⟩
   match zs,hlen with
   | [x,y],_=>exact⟨_,h1,w (x,y) S1 ⟨(hok x (by simp)).a,(hok x (by simp)).b,(hok y (by simp)).a,(hok y (by simp)).b⟩ D1⟩
set_option maxHeartbeats 4000000
theorem IQ {x y:Rat} (hx:Sz 4 x) (hy:Sz 4 y):∀ q∈[x,y],Sz 6 q:=λq hq=>by
 simp only [JJ,JS,or_false] at hq;rcases hq with rfl | rfl
 ·exact hx.mono (by decide)
 ·exact hy.mono (by decide)
theorem Ir {x y z:Rat} (hx:Sz 4 x) (hy:Sz 4 y) (hz:Sz 4 z):∀ q∈[x,y,z],Sz 6 q:=λq hq=>by
 rcases JJ.mp hq with rfl | hq
 ·exact hx.mono (by decide)
 ·exact IQ hy hz q hq
def Fc:List (Rat×Rat):=[(⟨3,5,by decide,by decide⟩,⟨4,5,by decide,by decide⟩),(0,1),(⟨-5,13,by decide,by decide⟩,⟨12,13,by decide,by decide⟩),(-1,0),(⟨8,17,by decide,by decide⟩,⟨-15,17,by decide,by decide⟩)]
theorem C9 {p:Rat×Rat} (h:p∈Fc):p.1*p.1+p.2*p.2=1/\Sz 6 p.1/\Sz 6 p.2:=by
 unfold Fc at h;simp only [JJ,JS,or_false] at h;rcases h with rfl | rfl | rfl | rfl | rfl <;> exact⟨by decide +kernel,⟨by decide,by decide⟩,⟨by decide,by decide⟩⟩
def nK:bE:=λds S k=>∃ (a:Kr) (i:Int),ds=[.ref a,.int i]/\0<=i/\i<=1/\nY S a/\∀ (l:Le) S',l.ok->Dr a S S'->k l.d S'
theorem cQ:ao ["state","inverts","way","x","y","some"] ["state","inverts"] (aj jr):=cG
theorem sD (Fn:FN K "_law_lead" jr f fd) (ax:bc P w K mg base "_law_take" 1 bV) (aq:bc P w K mg base "_law_fraction" 3 bG) (bX:bc P w K mg base "_law_nought" 4 gI):
  aQ P w K mg base b8 5 f fd ["state","inverts"] (ce K nK):=by
 refine Fn.okJ cQ (λds S k h=>?_) (λcdv A outer s H E hr=>⟨_,(ag (am (i:=2) cQ.nd (dq ax hr (aG 0 (aa (aB bv ae (af 1)) ac)))) (ag (am (i:=3) cQ.nd (dq aq hr (aG 0 (aa ae ac)))) (ag (am (i:=4) cQ.nd (dq aq hr (aG 0 (aa ae ac)))) (ag (ay (au dW (af 2) ae (ar _)) (ah (ai (aC (aa aH (aG 3 (aG 4 ac)))))) az) (ag (ay (au dW (af 2) ae (ar _)) (ah (ai (aC (aa aH (aG 3 (aG 4 (aa (dq bX hr (aG 0 (aa ae ac))) ac))))))) az) (ag (ay (au dW (af 2) ae (ar _)) (ag (am (i:=5) cQ.nd (cm (aa (aC (aa (aC (aa ae (aa ae ac))) (aa (aC (aa ae (aa ae ac))) ac))) (aa (aC (aa (aC (aa ae (aa ae ac))) (aa (aC (aa ae (aa ae ac))) ac))) (aa (aC (aa (aC (aa (rj qM ae) (aa ae ac))) (aa (aC (aa ae (aa ae ac))) ac))) (aa (aC (aa (aC (aa (rj qM ae) (aa ae ac))) (aa (aC (aa ae (aa ae ac))) ac))) (aa (aC (aa (aC (aa ae (aa ae ac))) (aa (aC (aa (rj qM ae) (aa ae ac))) ac))) ac))))))) (ah (ai (aB bv (aC (aa aH (aG 3 (aG 4 ac)))) (aD oM (af 5) (dq ax hr (aG 0 (aa ae ac))) Zf))))) az) (ag (ay (au dW (af 2) ae (ar _)) (ag (ay (WJ.pt (iA (au dW (dz 3) ae (ar _)) (fG (au dW (dz 4) ae (ar _))))) (ah (am (i:=3) cQ.nd (aC (aa ae (aa ae ac))))) az) (ah (ai (aC (aa aH (aG 3 (aG 4 (aa (dq aq hr (aG 0 (aa ae ac))) ac)))))))) az) (ah (ai (aC (aa aH (aG 3 (aG 4 (aa (dq bX hr (aG 0 (aa ae ac))) ac)))))))))))))),λds S k h=>?_⟩)
 ·obtain⟨_,_,rfl,_⟩:=h
  rfl
 ·obtain⟨a,i,rfl,i0,i1,hS,w⟩:=h;refine⟨a,4+i,rfl,by omega,Bt.mono (m:=4) (by unfold Bt; omega) (by decide),hS,λr S1 h1 h1' d1=>⟨a,3,rfl,by decide,by decide,d1.1,λx S2 hx d2=>⟨a,3,rfl,by decide,by decide,d2.1,λy S3 hy d3=>?_⟩⟩⟩
  have D3:=d1.trans (d2.trans d3);refine aF (λ_=>⟨few,w ⟨_,[x,y]⟩ S3 ⟨.shift x y,IQ hx hy⟩ D3⟩) (λ_=>aF (λ_=>⟨a,2,rfl,by decide,by decide,d3.1,λb S4 hb b0 d4=>⟨few,w ⟨_,[x,y,b]⟩ S4 ⟨.grow x y b b0,Ir hx hy hb⟩ (D3.trans d4)⟩⟩) (λ_=>aF (λ_=>?_) (λ_=>aF (λ_=>?_) (λ_=>⟨a,4,rfl,by decide,by decide,d3.1,λb S4 hb b0 d4=>⟨few,w ⟨_,[x,y,b]⟩ S4 ⟨.invert x y b b0,Ir hx hy hb⟩ (D3.trans d4)⟩⟩))))
  ·refine⟨few,few,few,few,few,few,few,few,few,few,few,few,few,few,few,few,λp hp=>⟨few,a,5,rfl,by decide,by decide,d3.1.new hp,λr4 S4 h4 h4' d4=>?_⟩⟩
   have hp4:=d4.2 p _ (d3.1.ne hp) ak;obtain⟨c,hc,hm⟩:=oz (ds:=Fc.map λp=>W p.1 p.2) h4 h4'
   obtain⟨pq,hpq,rfl⟩:=JF.mp hm;obtain⟨r1,r2,r3⟩:=C9 hpq;refine⟨_,_,hp4,hc,by simp,by simp,JT rfl,w ⟨_,[x,y,pq.1,pq.2]⟩ S4 ⟨.turn x y pq.1 pq.2 r1,λq hq=>?_⟩ (D3.trans ((Dr.new d3.1 hp).trans d4))⟩
   simp only [JJ,JS,or_false] at hq;rcases hq with rfl | rfl | rfl | rfl
   ·exact hx.mono (by decide)
   ·exact hy.mono (by decide)
   ·exact r2
   ·exact r3
  ·have fin:∀ x':Rat,Sz 4 x'->x'≠0\/y≠0->bG [.ref a,.int 3] S3 λd S'=>k (.tup [.str "mirror",fr x',fr y,d]) S':=λx' hx' n=>⟨a,3,rfl,by decide,by decide,d3.1,λc S4 hc d4=>w ⟨_,[x',y,c]⟩ S4 ⟨.mirror x' y c n,Ir hx' hy hc⟩ (D3.trans d4)⟩
   refine aF (λzx=>aF (λzy=>?_) (λzy=>?_)) (λzx=>?_)
   ·obtain⟨a',m',e',r1,r2,r3,r4⟩:=fin 1 ⟨by decide,by decide⟩ (.inl (by decide))
    exact⟨few,a',m',e',r1,r2,r3,λq S' hq d=>⟨few,r4 q S' hq d⟩⟩
   ·obtain⟨a',m',e',r1,r2,r3,r4⟩:=fin x hx (.inr λz=>zy (by rw [z]; rfl))
    exact⟨a',m',e',r1,r2,r3,λq S' hq d=>⟨few,r4 q S' hq d⟩⟩
   ·obtain⟨a',m',e',r1,r2,r3,r4⟩:=fin x hx (.inl λz=>zx (by rw [z]; rfl))
    exact BI ⟨a',m',e',r1,r2,r3,λq S' hq d=>⟨few,r4 q S' hq d⟩⟩
def lS:bE:=λds S k=>∃ (a:Kr) (m n:Int),ds=[.ref a,.int m,.int n]/\1<=m/\m<=6/\nY S a/\∀ (ls:List Le) S' p,(∀ l∈ls,l.ok)->1<=ls.length->ls.length<=6->Dr a S S'->S' p=some (.lst (ls.map Le.d))->p≠a->k (.ref p) S'
theorem cz:ao ["state","most","inverts","found","left","k","lead"] ["state","most","inverts"] (aj i8):=cG
theorem pW (Fn:FN K "_law_leads" i8 f fd) (ax:bc P w K mg base "_law_take" 1 bV) (jN:bc P w K mg base "_law_lead" 5 nK) (bH:mg "range"=none) (eK:mg "int"=none):
  aQ P w K mg base b8 6 f fd ["state","most","inverts"] (ce K lS):=by
 refine Fn.okJ cz (λds S k h=>?_) (λcdv A outer s H E hr=>⟨_,(ag (am (i:=3) cz.nd (cm ac)) (ag (am (i:=4) cz.nd (af 2)) (ag (ie PassesOwn.never rfl rfl bH (aa (aB bv ae (dq ax hr (aG 0 (aG 1 ac)))) ac) (aN (i:=5) cz.nd) (ag (am (i:=6) cz.nd (dq jN hr (aG 0 (aa (bD yO rfl eK kZ (aa (ca t7 (af 4) ae (ar _)) ac)) ac)))) (ag (am (i:=4) cz.nd (aB o6 (af 4) (bD yO rfl eK kZ (aa (ca dW (aD cy (af 6) ae Zf) aH (ar _)) ac)))) (ah (bS (gC (af 3) (af 6))))))) (ah (ai (af 3)))))),λds S k h=>?_⟩)
 ·obtain⟨_,_,_,rfl,_⟩:=h
  rfl
 ·obtain⟨a,m,n,rfl,m1,m6,hS,w⟩:=h;refine⟨few,λq hq=>⟨a,m,rfl,by omega,Bt.mono (m:=4) (by unfold Bt; omega) (by decide),hS.new hq,λr S1 h1 h1' d1=>⟨⟨by omega,by omega⟩,?_⟩⟩⟩
  have qa':q≠a:=hS.ne hq;have D1:=(Dr.new (o:=.lst []) hS hq).trans d1;refine eY (λr' L S'=>∃ (j:Int) (ls:List Le) (l5 l6:Ks D),L=[some (.ref a),some (.int m),some (.int n),some (.ref q),some (.int j),l5,l6]/\Dr a S S'/\S' q=some (.lst (ls.map Le.d))/\(∀ l∈ls,l.ok)/\ls.length+r'.length=(1+r).toNat/\∀ d∈r',∃ i:Int,d=.int i) (λ_ _ _ _=>trivial) ?_ ?_ _ _ _ ⟨n,[],_,_,rfl,D1,d1.2 q _ qa' ak,(λ_ h=>nomatch h),?_,?_⟩
  ·rintro d r' L S2 N1 ⟨j,ls,l5,l6,rfl,D2,hq2,hok,hlen,hr⟩ hN;obtain⟨i,rfl⟩:=hr d JL;refine⟨a,_,rfl,(by split <;> omega),(by split <;> omega),D2.1,λl S3 lo d3=>?_⟩
   have hq3:=d3.2 q _ qa' hq2;have hl:ls.length+(r'.length+1)=(1+r).toNat:=hlen;have ea:ls.map Le.d++[l.d]=(ls++[l]).map Le.d:=by rw [List.map_append]; rfl
   refine⟨_,bq,⟨_,hq3⟩,_,hq3,by rw [JG]; exact Az (by omega),hN _ _ ⟨_,ls++[l],_,_,rfl,Dr.put (D2.trans d3) hq qa',by rw [ak,ea],λm hm=>?_,by rw [JU]; show ls.length+1+r'.length=_; omega,λd hd=>hr d (JM _ hd)⟩⟩
   rcases List.mem_append.mp hm with h | h
   ·exact hok m h
   ·rw [List.mem_singleton.mp h]; exact lo
  ·rintro L S2 ⟨j,ls,l5,l6,rfl,D2,hq2,hok,hlen,_⟩;have hlen:ls.length+0=(1+r).toNat:=hlen;exact w ls S2 q hok (by omega) (by omega) D2 hq2 qa'
  ·rw [JG,List.length_range]; show 0+_=_; omega
  ·intro d hd;obtain⟨z,_,rfl⟩:=JF.mp hd;exact⟨_,rfl⟩
theorem Ia {a b:Int} (h:0 < a) (h':0 < b):0 < Rat.divInt a b:=by
 rw [Rat.divInt_eq_div,Rat.div_def];exact Rat.mul_pos (by exact_mod_cast h) (Rat.inv_pos.mpr (by exact_mod_cast h'))
def lf:bE:=λds S k=>∃ a,ds=[.ref a]/\nY S a/\∀ q S',Sz 4 q/\0 < q->Dr a S S'->k (fr q) S'
theorem pT:ao ["state"] ["state"] (aj jc):=cG
theorem qc (Fn:FN K "_law_above" jc f fd) (bL:bc P w K mg base "_law_ratio" 2 fj) (ax:bc P w K mg base "_law_take" 1 bV):
  aQ P w K mg base b8 3 f fd ["state"] (ce K lf):=by
 refine Fn.okJ pT (λds S k h=>?_) (λcdv A outer s H E hr=>⟨_,(ah (ai (dq bL hr (aa (aB bv ae (dq ax hr (aG 0 (aa ae ac)))) (aa (aB bv ae (dq ax hr (aG 0 (aa ae ac)))) ac))))),λds S k h=>?_⟩)
 ·obtain⟨_,rfl,_⟩:=h
  rfl
 ·obtain⟨a,rfl,hS,q⟩:=h;refine⟨a,9,rfl,by decide,by decide,hS,λr1 S1 h1 h1' d1=>⟨a,3,rfl,by decide,by decide,d1.1,λr2 S2 h2 h2' d2=>?_⟩⟩
  have b1:Bt 4 (1+r1):=by unfold Bt; omega
  have b2:Bt 4 (1+r2):=by unfold Bt; omega
  exact⟨_,_,rfl,by omega,b2.mono (by decide),q _ _ ⟨Sz.divInt b1 b2 (by omega),Ia (by omega) (by omega)⟩ (d1.trans d2)⟩
theorem oS {bd:DB} {k:DK} {S:DH} {p:Kr} {ms:List bu} {L1:Lo} (hp:S p=none)
  (hbd:∀ (i:Nat) (s:bu) (S':DH) (k':Ks D->DH->Prop),ms[i]?=some s->bg S S'->k' (if s.isFix=true then some (.int (i:Nat)) else none) S'->bd (some (.int (i:Nat))::L1) S' k'):
  ∀ (r:List bu) (j:Nat) (rr acc:List D) (l0:Ks D),rr=((List.range' j r.length).map fun(i:Nat)=>D.int (i:Nat))->ms.drop j=r->acc.length+r.length<=100->(∀ S',bg S S'->S' p=some (.lst (acc++fO j r))->k (.ref p) S')->
  bK (λ_=>True) p (eS 0) bd k rr acc (l0::L1) (put S p (.lst acc))
 | [],j,rr,acc,l0,hr,_,_,w=>by
  subst hr;exact⟨trivial,w _ (bg.new hp) (by rw [ak]; simp [fO])⟩
 | s::r,j,rr,acc,l0,hr,hd,hl,w=>by
  have hl:acc.length+(r.length+1)<=100:=hl;obtain⟨h0,h1⟩:=rp hd;have hr:rr=D.int (j:Nat)::((List.range' (j+1) r.length).map fun(i:Nat)=>D.int (i:Nat)):=hr
  subst hr;refine⟨trivial,hbd j s _ _ h0 (bg.new hp) ?_⟩;unfold fO at w
  by_cases hf:s.isFix=true
  ·rw [if_pos hf];rw [if_pos hf] at w;refine⟨ak,Az (by omega),?_⟩
   rw [wY];exact oS hp hbd r (j+1) _ _ _ rfl h1 (by rw [JU]; show acc.length+1+r.length<=100; omega) λS' e h=>w S' e (by rw [h,List.append_assoc]; rfl)
  ·rw [if_neg hf];rw [if_neg hf] at w;exact oS hp hbd r (j+1) _ _ _ rfl h1 (by omega) w
theorem mB {α:Type} {f:α->D} {bd:DB} {k:DK} {S:DH} {p:Kr} {ok:DH->Prop} {L1:Lo} (hp:S p=none) (hok:∀ S',bg S S'->ok S')
  (hbd:∀ (x:α) (S':DH) (k':Ks D->DH->Prop),bg S S'->(∀ o,k' o S')->bd (some (f x)::L1) S' k'):
  ∀ (r:List α) (acc:List D) (l0:Ks D),acc.length+r.length<=100->(∀ S' ds,bg S S'->S' p=some (.lst ds)->k (.ref p) S')->bK ok p (eS 0) bd k (r.map f) acc (l0::L1) (put S p (.lst acc))
 | [],acc,l0,_,w=>⟨hok _ (bg.new hp),w _ _ (bg.new hp) ak⟩
 | x::r,acc,l0,hl,w=>by
  have hl:acc.length+(r.length+1)<=100:=hl;refine⟨hok _ (bg.new hp),hbd x _ _ (bg.new hp) λo=>?_⟩
  cases o with
  | none=>exact mB hp hok hbd r acc _ (by omega) w
  | some v=>
   refine⟨ak,Az (by omega),?_⟩
   rw [wY];exact mB hp hok hbd r _ _ (by rw [JU]; show acc.length+1+r.length<=100; omega) w
theorem BL {x r m:Int} (h0:0<=x) (h1:x < m) (h2:0<=r) (h3:r < m - 1):0<=(x+1+r).fmod m/\(x+1+r).fmod m < m/\(x+1+r).fmod m≠x:=by
 have hm:0 < m:=by omega
 refine⟨Ka _ hm,Kl _ hm,?_⟩;rw [Int.fmod_eq_emod_of_nonneg _ (Int.le_of_lt hm)]
 by_cases h:x+1+r < m
 ·rw [Int.emod_eq_of_lt (by omega) h]; omega
 ·have e:(x+1+r) % m=(x+1+r - m) % m:=by
   have:x+1+r=(x+1+r - m)+m:=by omega
   conv=>lhs; rw [this]
   exact Int.add_emod_right _ _
  rw [e,Int.emod_eq_of_lt (by omega) (by omega)]; omega
theorem EO (ms:List bu):((List.range ((ms.map bu.d).length:Int).toNat).map fun(i:Nat)=>D.int (i:Nat))=((List.range' 0 ms.length).map fun(i:Nat)=>D.int (i:Nat)):=by
 rw [Ki,JG,List.range_eq_range']
theorem ub (s:bu):decide (s.x=Str.ofString "fix")=s.isFix:=by cases s <;> rfl
theorem bu.dx (s:bu):s.d=.tup (.str s.x::s.tl.map It.d):=by cases s <;> rfl
theorem AD {ms:List bu} (h:∃ x y,ms[0]?=some (.fix x y)):fO 0 ms≠[]:=by
 obtain⟨x,y,h⟩:=h;cases ms with
 | nil=>cases h
 | cons s r=>
  have h:some s=some (.fix x y):=h;cases h;unfold fO;rw [if_pos (show (bu.fix x y).isFix=true from rfl)]
  simp
def jD:bE:=λds S k=>∃ (a:Kr),ds=[.ref a]/\nY S a/\∀ (ms:List bu) S',Wf ms->1<=ms.length->ms.length<=7->Dr a S S'->k (MD ms) S'
theorem a_:ao ["state","steps","k","many","fixes","way","one","other","cranks"] ["state"] (aj fM):=cG
theorem nS (Fn:FN K "_law_machine" fM f fd) (aq:bc P w K mg base "_law_fraction" 3 bG) (ax:bc P w K mg base "_law_take" 1 bV) (dJ:bc P w K mg base "_law_above" 3 lf) (bH:mg "range"=none) (aM:mg "len"=none) (qU:mg "max"=none) (aL:mg "tuple"=none):
  aQ P w K mg base b8 4 f fd ["state"] (ce K jD):=by
 refine Fn.okJ a_ (λds S k h=>?_) (λcdv A outer s H E hr=>⟨_,(ag (am (i:=1) a_.nd (cm (aa (aC (aa aH (aa (dq aq hr (aG 0 (aa ae ac))) (aa (dq aq hr (aG 0 (aa ae ac))) ac)))) ac))) (ag (ie PassesOwn.never rfl rfl bH (aa (dq ax hr (aG 0 (aa ae ac))) ac) (aN (i:=2) a_.nd) (ag (am (i:=3) a_.nd (aA cM rfl aM bJ (aG 1 ac))) (ag (qh (iv:=4) a_.nd rfl (de (N:=["joint","steps"]) (cap:=[none,some 1]) rfl rfl rfl rfl ⟨rfl,trivial⟩ rfl rfl ⟨⟨rfl,.inl rfl,.inl rfl⟩,trivial⟩) rfl bH (aG 3 ac) (λ_ _ _ _=>(aN (i:=0) (show List.Nodup (["joint","steps"]:List Str) from by decide +kernel))) (λ_ _ _ _=>(au dW (aD cy (aD cy (af 1) (af 0) Zf) ae Zf) aH (ar _))) (λ_ _ _ _=>(af 0))) (ag (am (i:=5) a_.nd (dq ax hr (aG 0 (aa ae ac)))) (ag (am (i:=6) a_.nd (dq ax hr (aG 0 (aG 3 ac)))) (ag (am (i:=7) a_.nd (aB kA (aB bv (aB bv (af 6) ae) (dq ax hr (aG 0 (aa (aA CG rfl qU yI (aa ae (aa (aB o6 (af 3) ae) ac))) ac)))) (af 3))) (ag (am (i:=8) a_.nd (aA cM rfl aM bJ (aa (vi rfl (de (N:=["step"]) (cap:=[none]) rfl rfl rfl rfl trivial rfl rfl trivial) (af 1) (λ_ _ _ _=>(aN (i:=0) (show List.Nodup (["step"]:List Str) from by decide +kernel))) (λ_ _ _ _=>(au dW (aD cy (af 0) ae Zf) aH (ar _))) (λ_ _ _ _=>(af 0))) ac))) (ah (ay (WJ.pt (b_ (au dW (af 5) ae (ar _)) (bI (WJ.pt (iA (au uE (af 3) ae (ar _)) (fG (au t7 (af 5) ae (ar _)))))))) (ah (bS (gC (af 1) (aC (aa aH (aa (dq aq hr (aG 0 (aa ae ac))) (aa (dq aq hr (aG 0 (aa ae ac))) ac))))))) (ah (ay (WJ.pt (iA (au dW (af 5) ae (ar _)) (fG (au uE (af 8) ae (ar _))))) (ah (bS (gC (af 1) (aC (aa aH (aa (aD cy (af 4) (dq ax hr (aG 0 (aa (aA cM rfl aM bJ (aG 4 ac)) ac))) Zf) (aa (dq dJ hr (aG 0 ac)) ac))))))) (ah (ay (WJ.pt (iA (au dW (af 5) ae (ar _)) (fG (au t7 (af 3) ae (ar _))))) (ah (bS (gC (af 1) (aC (aa aH (aG 6 (aG 7 (aa (dq aq hr (aG 0 (aa ae ac))) (aa (dq aq hr (aG 0 (aa ae ac))) ac))))))))) (ah (ay (au t7 (af 3) ae (ar _)) (ah (bS (gC (af 1) (aC (aa aH (aG 6 (aG 7 (aa (dq dJ hr (aG 0 ac)) (aa (dq dJ hr (aG 0 ac)) (aa (dq ax hr (aG 0 (aa ae ac))) ac)))))))))) az))))))))))))))) (ah (ai (bD j_ rfl aL cx (aG 1 ac)))))),λds S k h=>?_⟩)
 ·obtain⟨_,rfl,_⟩:=h
  rfl
 ·obtain⟨a,rfl,hS,w⟩:=h;refine⟨a,3,rfl,by decide,by decide,hS,λx0 S1 hx0 d1=>⟨a,3,rfl,by decide,by decide,d1.1,λy0 S2 hy0 d2=>⟨few,few,λp hp=>?_⟩⟩⟩
  have D2:=d1.trans d2;have hp0:S p=none:=D2.non' hp;have pa:p≠a:=hS.ne hp0;refine⟨a,7,rfl,by decide,by decide,D2.1.new hp,λn S3 n0 n1 d3=>⟨⟨by omega,by omega⟩,?_⟩⟩
  have wf0:Wf [.fix x0 y0]:=Wf.snoc (ms:=[]) Wf.nil ⟨hx0,hy0⟩;refine eY (λr' L S'=>∃ (ms:List bu) (l2 l3 l4 l5 l6 l7 l8:Ks D),L=[some (.ref a),some (.ref p),l2,l3,l4,l5,l6,l7,l8]/\Dr a S S'/\S' p=some (.lst (ms.map bu.d))/\Wf ms/\(∃ x y,ms[0]?=some (.fix x y))/\1<=ms.length/\ms.length+r'.length<=7) (λ_ _ _ _=>trivial) ?_ ?_ _ _ _ ⟨[.fix x0 y0],none,none,none,none,none,none,none,rfl,(D2.putN hp0 pa).trans d3,d3.2 p _ pa ak,wf0,⟨x0,y0,rfl⟩,JE _,?_⟩
  ·rintro d r' L S4 N1 ⟨ms,l2,l3,l4,l5,l6,l7,l8,rfl,D4,h4,wf,hf,m1,m7⟩ hN;have m7:ms.length+(r'.length+1)<=7:=m7;refine⟨_,h4,⟨by rw [JG]; omega,by rw [JG]; omega⟩,λq hq=>?_⟩
   refine oS (ms:=ms) hq ?bb ms 0 _ [] none (EO ms) rfl (by show 0+ms.length<=100; omega) λS5 e5 h5=>?_
   case bb=>
    intro i s S' k' hi e hk;refine⟨_,_,e _ _ h4,HN hi,?_⟩;rw [s.dx];refine⟨_,bq,cw (c:=decide (s.x=Str.ofString "fix")) (λz=>?_) (λz=>?_)⟩
    ·rw [ub] at z;rw [if_pos z] at hk;exact hk
    ·rw [ub] at z;rw [if_neg (by rw [z]; decide)] at hk
     exact hk
   rw [List.nil_append] at h5;have D5:Dr a S S5:=D4.ext e5;have em:((ms.map bu.d).length:Int)=(ms.length:Nat):=by rw [JG]
   have bm:∀ z:Int,0<=z->z<=100->Bt 200 z:=λz _ _=>Bt.mono (m:=7) (by unfold Bt; omega) (by decide)
   refine⟨a,5,rfl,by decide,by decide,D5.1,λway S6 w0 w1 d6=>⟨a,_,rfl,by omega,bm _ (by omega) (by omega),d6.1,λone S7 o0 o1 d7=>⟨a,_,rfl,by split <;> omega,bm _ (by split <;> omega) (by split <;> omega),d7.1,λr S8 r0 r1 d8=>?_⟩⟩⟩
   refine⟨(show ((ms.map bu.d).length:Int)≠0 by omega),?_⟩
   have D8:Dr a S S8:=D5.trans (d6.trans (d7.trans d8));have D58:=d6.trans (d7.trans d8);have h8:=D58.2 p _ pa (e5 _ _ h4);have qa':q≠a:=D4.1.ne hq;have q8:=D58.2 q _ qa' h5;refine⟨(ms.map bu.d,some p),by simp only [aI,h8],λp9 hp9=>?_⟩
   refine mB (f:=bu.d) hp9 (λS' e=>e _ _ h8) ?cc ms [] none (by show 0+ms.length<=100; omega) λS9 cs e9 h9=>?_
   case cc=>
    intro s S' k' e hk;rw [s.dx];exact⟨_,bq,cw (c:=decide (s.x=Str.ofString "crank")) (λ_=>hk _) (λ_=>hk _)⟩
   refine⟨_,h9,?_⟩;have D9:Dr a S S9:=D8.ext e9;have hp9':=e9 _ _ h8;have hq9:=e9 _ _ q8;have fin:∀ (s:bu) (e:D) (S':DH),e=s.d->pb ms s->Dr a S9 S'->∃ ds,S' p=some (.lst ds)/\ds.length < sizeLine/\N1 [some (.ref a),some (.ref p),some d,some (.int ((ms.map bu.d).length:Nat)),some (.ref q),some (.int way),some (.int one),some (.int ((one+1+r).fmod ((ms.map bu.d).length:Nat))),some (.int (cs.length:Nat))] (put S' p (.lst (ds++[e]))):=by
    intro s e S' ee hs dd;subst ee;refine⟨_,dd.2 p _ pa hp9',by rw [JG]; exact Az (by omega),hN _ _ ⟨ms++[s],_,_,_,_,_,_,_,rfl,Dr.put (D9.trans dd) hp0 pa,by rw [ak,List.map_append]; rfl,wf.snoc hs,?_,by rw [JU]; omega,by rw [JU]; show ms.length+1+r'.length<=7; omega⟩⟩
    obtain⟨x,y,hxy⟩:=hf;exact⟨x,y,by rw [List.getElem?_append_left (by omega)]; exact hxy⟩
   refine on (λfx=>on (λr2=>aF (λ_=>fx) (λ_=>aF (λ_=>aF (λ_=>fx) (λ_=>r2)) (λ_=>r2))) ?_) ?_
   ·refine on (λr3=>aF (λ_=>aF (λ_=>?_) (λ_=>r3)) (λ_=>r3)) ?_
    ·have hfl:1<=(fO 0 ms).length:=List.length_pos_iff.mpr (AD hf);have hfl2:=qF (r:=ms) (j:=0);refine⟨⟨_,hp9'⟩,_,hq9,a,_,rfl,by omega,bm _ (by omega) (by omega),D9.1,λt S10 t0 t1 d10=>?_⟩
     obtain⟨c,hc,hm⟩:=oz (ds:=fO 0 ms) t0 t1;obtain⟨nn,x,y,rfl,hx⟩:=mI hm;refine⟨_,_,d10.2 q _ qa' hq9,hc,a,rfl,d10.1,λl S11 hl d11=>⟨few,?_⟩⟩
     exact fin (.crank nn l) _ _ (by rw [Nat.zero_add]; rfl) ⟨⟨x,y,hx⟩,hl.1,hl.2⟩ (d10.trans d11)
    ·have two:(1:Int) < ((ms.map bu.d).length:Nat)->∃ i j:Nat,one=(i:Nat)/\(one+1+r).fmod ((ms.map bu.d).length:Nat)=(j:Nat)/\i < ms.length/\j < ms.length/\i≠j:=λz=>by
      have r1':r < ((ms.map bu.d).length:Nat) - 1:=by split at r1 <;> omega
      obtain⟨v0,v1,v2⟩:=BL o0 o1 r0 r1';obtain⟨i,hi⟩:=Int.eq_ofNat_of_zero_le o0;obtain⟨j,hj⟩:=Int.eq_ofNat_of_zero_le v0;rw [hj] at v1 v2
      exact⟨i,j,hi,hj,by omega,by omega,by omega⟩
     refine on (λr4=>aF (λ_=>aF (λz=>?_) (λ_=>r4)) (λ_=>r4)) ?_
     ·obtain⟨i,j,hi,hj,i1,j1,ij⟩:=two z;refine⟨⟨_,hp9'⟩,a,2,rfl,by decide,by decide,D9.1,λx S10 hx d10=>⟨a,2,rfl,by decide,by decide,d10.1,λy S11 hy d11=>⟨few,?_⟩⟩⟩
      exact fin (.like i j x y) _ _ (by show D.tup [_,.int one,.int ((one+1+r).fmod ((ms.map bu.d).length:Nat)),_,_]=_; rw [hj,hi]; rfl) ⟨i1,j1,ij,hx,hy⟩ (d10.trans d11)
     ·refine aF (λz=>?_) (λ_=>?_)
      ·obtain⟨i,j,hi,hj,i1,j1,ij⟩:=two z;refine⟨⟨_,hp9'⟩,a,rfl,D9.1,λx S10 hx d10=>⟨a,rfl,d10.1,λy S11 hy d11=>⟨a,2,rfl,by decide,by decide,d11.1,λv S12 v0 v1 d12=>⟨few,?_⟩⟩⟩⟩
       exact fin (.pair i j x y v) _ _ (by show D.tup [_,.int one,.int ((one+1+r).fmod ((ms.map bu.d).length:Nat)),_,_,_]=_; rw [hj,hi]; rfl) ⟨i1,j1,ij,hx.1.mono (by decide),hy.1.mono (by decide),hx.2,hy.2,by omega⟩ (d10.trans (d11.trans d12))
      ·exact hN _ _ ⟨ms,_,_,_,_,_,_,_,rfl,D9,hp9',wf,hf,m1,by omega⟩
   ·refine⟨⟨_,hp9'⟩,a,4,rfl,by decide,by decide,D9.1,λx S10 hx d10=>⟨a,4,rfl,by decide,by decide,d10.1,λy S11 hy d11=>⟨few,?_⟩⟩⟩
    exact fin (.fix x y) _ _ rfl ⟨hx,hy⟩ (d10.trans d11)
  ·rintro L S4 ⟨ms,l2,l3,l4,l5,l6,l7,l8,rfl,D4,h4,wf,hf,m1,m7⟩;exact⟨_,h4,w ms S4 wf m1 (by simpa using m7) D4⟩
  ·rw [JG,List.length_range]
   show 1+_<=7
   omega
def gy:bE:=λds S k=>∃ i:It,ds=[i.d]/\i.ok/\k (.str i.t) S
theorem sP:ao ["part"] ["part"] (aj jO):=cG
theorem rN (Fn:FN K "_law_word" jO f fd) (aw:mg "isinstance"=none) (aL:mg "tuple"=none) (jj:mg "str"=none):
  aQ P w K mg base b8 1 f fd ["part"] (ce K gy):=by
 refine Fn.okJ sP (λds S k h=>?_) (λcdv A outer s H E hr=>⟨_,(ag (ay (aK (aA eR rfl aw aS (aG 0 (aa (g7 (n:=.tup) rfl aL cx) ac)))) (ah (ai (oX (au dW (aD aP (af 0) ae Zf) ae (ar _)) (bD pO rfl jj nw (aa (aD aP (af 0) ae Zf) ac)) (aB bv (aB bv (bD pO rfl jj nw (aa (aD aP (af 0) ae Zf) ac)) aH) (bD pO rfl jj nw (aa (aD aP (af 0) ae Zf) ac)))))) az) (ah (ai (bD pO rfl jj nw (aG 0 ac))))),λds S k h=>?_⟩)
 ·obtain⟨_,rfl,_⟩:=h
  rfl
 ·obtain⟨i,rfl,hi,w⟩:=h;cases i with
  | s x=>exact⟨.str,rfl,w⟩
  | w n=>exact⟨.int,rfl,fV hi,w⟩
  | f q=>
   have hi:kz q:=hi;have l1:=hi.n.wlen;have l2:=hi.d.wlen;have w:k (.str (fT q)) S:=w;unfold fT at w;refine⟨.tup,rfl,?_⟩;refine⟨_,mJ,?_⟩
   by_cases e:q.den=1
   ·rw [if_pos e] at w;refine aF (λ_=>⟨_,bq,fV hi.n,w⟩) (λz=>absurd (show ((q.den:Nat):Int)=1 by rw [e]; rfl) z)
   ·rw [if_neg e] at w;refine aF (λz=>absurd (show q.den=1 from by have z:((q.den:Nat):Int)=1:=z; omega) e) (λ_=>?_)
    refine⟨_,bq,fV hi.n,?_,_,mJ,fV hi.d,?_,w⟩
    ·show(wT q.num).length+1<=_; exact mU (by omega)
    ·show(wT q.num++Str.ofString "/").length+(wT (q.den:Int)).length<=_
     rw [cf,kc]; exact mU (by omega)
def jG:bE:=λds S k=>∃ (d:D) (rs:List (List It)),ds=[d]/\(d=.tup (rs.map rD)\/∃ a,d=.ref a/\S a=some (.lst (rs.map rD)))/\rs.length<=9/\(∀ r∈rs,Rw r)/\∀ S',bg S S'->k (.str (tT rs)) S'
theorem sQ:ao ["rows"] ["rows"] (aj jA):=cG
theorem rG (Fn:FN K "_law_text" jA f fd) (cK:bc P w K mg base "_law_word" 1 gy):
  aQ P w K mg base b8 2 f fd ["rows"] (ce K jG):=by
 refine Fn.okJ sQ (λds S k h=>?_) (λcdv A outer s H E hr=>⟨_,(ah (ai (cC PySem.F.slot_str_join PySem.F.type_str_join iX aH (aa (dA rfl (de (N:=["row"]) (cap:=[none]) rfl rfl rfl rfl trivial rfl rfl trivial) (af 0) (λ_ _ _ _=>(aN (i:=0) (show List.Nodup (["row"]:List Str) from by decide +kernel))) (λ_ _ _ _=>(cC PySem.F.slot_str_join PySem.F.type_str_join iX aH (aa (dA rfl (de (N:=["part"]) (cap:=[none]) rfl rfl rfl rfl trivial rfl rfl trivial) (af 0) (λ_ _ _ _=>(aN (i:=0) (show List.Nodup (["part"]:List Str) from by decide +kernel))) (λ_ _ _ _=>(dq cK hr (aG 0 ac)))) ac)))) ac)))),λds S k h=>?_⟩)
 ·obtain⟨_,_,rfl,_⟩:=h
  rfl
 ·obtain⟨d,rs,rfl,hd,hl,hr,w⟩:=h;have go:∀ (q:List D×Ks Kr),q.1=rs.map rD->aI S d=some q->(∀ S',bg S S'->eG q S')->∀ p,S p=none->bK (eG q) p (eS 0) (jx (wC wy (dC (D.str (Str.ofString " "))) (eW (sR [none] (cL 0) (eS 0) (jx (gm gy (eW (cL 0) mx)))) mx))) (λd S1=>wy (Str.ofString " ; ") [d] S1 k) q.1 [] [none] (put S p (.lst [])):=by
   intro q eq hq hok p hp;rw [eq];refine lG (f:=rD) (g:=λr=>.str (rT r)) (all:=rs) hp hok ?bb rs [] none _ (λ_ h=>h) (bg.new hp) ak (by show 0+rs.length<=1000; omega) λS1 e1 h1=>?_
   case bb=>
    intro r S' k' hi e hk;have hrr:=hr r hi;refine⟨(r.map It.d,none),rfl,λp2 hp2=>?_⟩
    refine lG (f:=It.d) (g:=λi=>.str i.t) (all:=r) hp2 (λ_ _=>trivial) (λi S2 k2 hi2 e2 hk2=>⟨i,rfl,(hrr.all i hi2).1,hk2 _ (bg.refl _)⟩) r [] none _ (λ_ h=>h) (bg.new hp2) ak (by show 0+r.length<=1000; have:=hrr.few; omega) λS2 e2 h2=>?_
    refine⟨r.map It.t,by rw [h2,J7]; rfl,ig (b:=90) (n:=9) (λy hy=>?_) (by rw [JG]; exact hrr.few) (by decide),?_⟩
    ·obtain⟨i,hi3,rfl⟩:=JF.mp hy;exact It.len (hrr.all i hi3).1
    ·rw [c8];exact hk S2 e2
   refine⟨rs.map rT,by rw [h1,J7]; rfl,pk hl hr,?_⟩
   rw [c8];exact w S1 e1
  rcases hd with rfl | ⟨a,rfl,ha⟩
  ·exact⟨(rs.map rD,none),rfl,go _ rfl rfl λ_ _=>trivial⟩
  ·have hq:aI S (.ref a)=some (rs.map rD,some a):=by simp only [aI,ha]
   exact⟨(rs.map rD,some a),hq,go _ rfl hq λS' e=>e _ _ ha⟩
def gz:bE:=λds S k=>∃ (a:Kr) (c:Zr) (ep:Nat),ds=[.ref a]/\S a=some (sH (eZ c) ep)/\yw c/\∀ cs S',(cs.map cE).Perm c->Ac cs->bg S S'->k (.str (tT (cs.map cR))) S'
theorem kE:ao ["curve"] ["curve"] (aj dO):=cG
theorem kK (Fn:FN K "_law_curve_text" dO f fd) (cJ:bc P w K mg base "_law_text" 2 jG) (h_:mg "sorted"=none):
  aQ P w K mg base b8 3 f fd ["curve"] (ce K gz):=by
 refine Fn.okJ kE (λds S k h=>?_) (λcdv A outer s H E hr=>⟨_,(ah (ai (dq cJ hr (aa (dA rfl (de (N:=["powers","curve"]) (cap:=[none,some 0]) rfl rfl rfl rfl ⟨rfl,trivial⟩ rfl rfl ⟨⟨rfl,.inl rfl,.inl rfl⟩,trivial⟩) (DW (aA (BY rfl) rfl h_ qI (aG 0 ac)) (rj qM ae)) (λ_ _ _ _=>(aN (i:=0) (show List.Nodup (["powers","curve"]:List Str) from by decide +kernel))) (λ_ _ _ _=>(aC (aa (ow hr (af 1) (af 0) Zf) (aa (aD aP (af 0) ae Zf) (aa (aD aP (af 0) ae Zf) ac)))))) ac)))),λds S k h=>?_⟩)
 ·obtain⟨_,_,_,rfl,_⟩:=h
  rfl
 ·obtain⟨a,c,ep,rfl,ha,ok,w⟩:=h;obtain⟨ks,ek⟩:=wE ok.sm;have lk:ks.length=c.length:=by have:=congrArg List.length ek; simpa using this.symm
  have l9:=ok.l9;refine⟨_,_,ks,ha,?_,by omega,λks' pm od q hq=>⟨rfl,_,ak,λq2 hq2=>?_⟩⟩
  ·show List.map _ (eZ c)=_
   rw [<- ek];unfold eZ lW;rw [J7]
   rfl
  have od':ks'.reverse.Pairwise λx y=>ZS.lx y x=true:=List.pairwise_reverse.mpr od
  obtain⟨cs,er,pc,dc⟩:=qZ ok.nd ek ((List.reverse_perm ks').trans pm) od';have co:=ok.cs pc dc;have lc:=co.l9;have em:(ks'.map yQ).reverse=cs.map λz=>yQ z.1:=by rw [<- List.map_reverse,er,J7]; rfl
  rw [em];have e2:=(bg.new (o:=.lst (ks'.map yQ)) hq).trans (bg.new (o:=.lst (cs.map λz=>yQ z.1)) hq2)
  refine⟨(cs.map λz=>yQ z.1,some q2),by simp only [aI,ak],λp3 hp3=>?_⟩
  refine lG (f:=λz:CR=>yQ z.1) (g:=λz=>rD (cR z)) (all:=cs) (L1:=[some (.ref a)]) hp3 (λS' e=>e _ _ ak) ?bb cs [] none _ (λ_ h=>h) (bg.new hp3) ak (by show 0+cs.length<=1000; omega) λS1 e1 h1=>?_
  case bb=>
   intro z S' k' hz e hk;have hg:eP (eZ c) [z.1.1,z.1.2]=some (fr z.2):=hG ok.nd (pc.mem_iff.mp (JF.mpr ⟨z,hz,rfl⟩));exact⟨_,_,[z.1.1,z.1.2],_,e _ _ (e2 _ _ ha),rfl,hg,_,bq,_,mJ,few,hk _ (bg.refl _)⟩
  refine⟨_,cs.map cR,rfl,.inr ⟨p3,rfl,by rw [h1,J7]; rfl⟩,by rw [JG]; exact lc,co.rw,λS' e=>w cs S' pc dc (e2.trans (e1.trans e))⟩
def fR:bE:=λds S k=>∃ p u:Rat,ds=[nD p u]/\kz p/\kz u/\k (.str (nT p u)) S
theorem cT:ao ["number","part","under"] ["number"] (aj dj):=cG
theorem kh (Fn:FN K "_law_number_text" dj f fd) (cK:bc P w K mg base "_law_word" 1 gy) (eK:mg "int"=none):
  aQ P w K mg base b8 2 f fd ["number"] (ce K fR):=by
 refine Fn.okJ cT (λds S k h=>?_) (λcdv A outer s H E hr=>⟨_,(ag (fQ (af 0) (si (n:=2) rfl (fz (aN (i:=1) cT.nd) (fz (aN (i:=2) cT.nd) po)))) (ah (ai (aB bv (dq cK hr (aG 1 ac)) (aB Fi (aB bv aH (dq cK hr (aG 2 ac))) (bD vT rfl eK kZ (aa (ca kR (aD aP (af 2) ae Zf) ae (ar _)) ac))))))),λds S k h=>?_⟩)
 ·obtain⟨_,_,rfl,_⟩:=h
  rfl
 ·obtain⟨p,u,rfl,hp,hu,w⟩:=h;have l1:=jU hp;have l2:=jU hu;refine⟨([fr p,fr u],none),rfl,rfl,rfl,.f p,rfl,hp,.f u,rfl,hu,by show 1+(fT u).length<=_; exact mU (by omega),_,bq,?_⟩
  show Aw (.str (Str.ofString "@"++fT u)) (.int (if (!decide (u.num=0))=true then 1 else 0)) S λy S2=>EG (.str (fT p)) y S2 k
  unfold nT at w
  by_cases e:u=0
  ·rw [if_pos e] at w;rw [if_neg (by rw [e]; decide)]
   refine⟨⟨by decide,λz=>absurd (show (0:Int) < 1 by decide) z,λz=>absurd (show (0:Int) < 1 by decide) z⟩,by show(fT p).length+0<=_; exact mU (by omega),?_⟩
   have:fT p++Txt.mul (Str.ofString "@"++fT u) 0=fT p:=eX (by rw [cF]; exact JW _)
   rw [this];exact w
  ·rw [if_neg e] at w;rw [if_pos (by rw [Kc (ir e)]; rfl)]
   have:Txt.mul (Str.ofString "@"++fT u) 1=Str.ofString "@"++fT u:=rfl
   refine⟨⟨by decide,λ_ z=>(by simp at z),λ_ z=>(by simp at z)⟩,?_⟩
   rw [this];refine⟨by rw [cf,r_]; exact mU (by omega),?_⟩
   have e2:fT p++(Str.ofString "@"++fT u)=fT p++Str.ofString "@"++fT u:=eX (by rw [cF,cF,cF,cF,List.append_assoc])
   rw [e2];exact w
def gw:bE:=λds S k=>∃ p u p' u':Rat,ds=[.tup [nD p u,nD p' u']]/\kz p/\kz u/\kz p'/\kz u'/\k (.str (nT p u++Str.ofString " "++nT p' u')) S
theorem k9:ao ["point"] ["point"] (aj dG):=cG
theorem kG (Fn:FN K "_law_point_text" dG f fd) (ck:bc P w K mg base "_law_number_text" 2 fR):
  aQ P w K mg base b8 3 f fd ["point"] (ce K gw):=by
 refine Fn.okJ k9 (λds S k h=>?_) (λcdv A outer s H E hr=>⟨_,(ah (ai (aB bv (aB bv (dq ck hr (aa (aD aP (af 0) ae Zf) ac)) aH) (dq ck hr (aa (aD aP (af 0) ae Zf) ac))))),λds S k h=>?_⟩)
 ·obtain⟨_,_,_,_,rfl,_⟩:=h
  rfl
 ·obtain⟨p,u,p',u',rfl,hp,hu,hp',hu',w⟩:=h;have l1:=kM hp hu;have l2:=kM hp' hu';refine⟨_,bq,p,u,rfl,hp,hu,by rw [d_]; exact mU (by omega),_,mJ,p',u',rfl,hp',hu',by rw [cf,d_]; exact mU (by omega),w⟩
set_option maxHeartbeats 4000000
theorem lC (q:Rat):cv (fr q)=true:=by
 show(decide (1<=((q.den:Nat):Int)) && decide (((Int.gcd q.num (q.den:Int):Nat):Int)=1))=true
 have h1:=q.den_pos;have h2:Int.gcd q.num (q.den:Int)=1:=q.reduced;rw [decide_eq_true (by omega),h2]
 rfl
theorem pi {q:Rat} (h:0 < q):en (fr q)=true:=by
 show(cv (fr q) && decide (0 < q.num))=true
 have h0:0<=q.num:=Rat.num_nonneg.mpr (Rat.le_of_lt h);have h1:q.num≠0:=λz=>by rw [Rat.num_eq_zero.mp z] at h; exact absurd h (by decide)
 rw [lC,decide_eq_true (show 0 < q.num by omega)]
 rfl
theorem hJ {n i:Nat} (h:i < n):bY n (.int (i:Nat))=true:=by
 show(decide (0<=((i:Nat):Int)) && decide (((i:Nat):Int) < (n:Int)))=true
 rw [decide_eq_true (by omega),decide_eq_true (by omega)]
 rfl
theorem wA {i j:Nat} (h:i≠j):ui (.int (i:Nat)) (.int (j:Nat))=true:=by
 show(!decide (((i:Nat):Int)=((j:Nat):Int)))=true
 rw [Kc (by omega)]
 rfl
theorem Ce {pre:List bu} {s:bu} (h:pb pre s):lw (pre.map bu.d) s.d=true:=by
 have ll:(pre.map bu.d).length=pre.length:=JG ..;cases s with
 | fix x y=>
  show(cv (fr x) && cv (fr y))=true
  rw [lC,lC]; rfl
 | crank c l=>
  obtain⟨⟨x,y,hc⟩,_,l0⟩:=h;have hlt:=(J3.mp hc).1
  show(bY (pre.map bu.d).length (.int (c:Nat)) && (oF (pre.map bu.d) (.int (c:Nat)) && en (fr l)))=true
  have e:oF (pre.map bu.d) (.int (c:Nat))=true:=by
   show(match (pre.map bu.d)[((c:Nat):Int).toNat]? with | some x=>v7 x | none=>false)=true
   rw [Ki,J0,hc]
   rfl
  rw [hJ (by omega),e,pi l0]; rfl
 | pair i j s t v=>
  obtain⟨hi,hj,hij,_,_,s0,t0,hv⟩:=h
  show((bY (pre.map bu.d).length (.int (i:Nat)) && bY (pre.map bu.d).length (.int (j:Nat)) && ui (.int (i:Nat)) (.int (j:Nat))) && (en (fr s) && en (fr t) && w_ (.int v)))=true
  rw [hJ (by omega),hJ (by omega),wA hij,pi s0,pi t0]
  rcases hv with rfl | rfl <;> rfl
 | like i j a l=>
  obtain⟨hi,hj,hij,_⟩:=h
  show((bY (pre.map bu.d).length (.int (i:Nat)) && bY (pre.map bu.d).length (.int (j:Nat)) && ui (.int (i:Nat)) (.int (j:Nat))) && (cv (fr a) && cv (fr l)))=true
  rw [hJ (by omega),hJ (by omega),wA hij,lC,lC]; rfl
theorem qx {ms:List bu} (hw:Wf ms):∀ {rs:List bu} {j:Nat},ms.drop j=rs->cY (ms.map bu.d) j (rs.map bu.d)=true
 | [],_,_=>rfl
 | s::rs,j,hd=>by
  obtain⟨g0,g1⟩:=rp hd
  show(lw ((ms.map bu.d).take j) s.d && cY (ms.map bu.d) (j+1) (rs.map bu.d))=true
  rw [<- List.map_take,Ce (hw j s g0),qx hw g1]
  rfl
theorem BC {ms:List bu} (hw:Wf ms) (h1:ms≠[]) (h7:ms.length<=7):xg (MD ms)=true:=by
 show(decide (1<=(((ms.map bu.d).length:Nat):Int)) && decide ((((ms.map bu.d).length:Nat):Int)<=7) && cY (ms.map bu.d) 0 (ms.map bu.d))=true
 have l1:0 < ms.length:=List.length_pos_iff.mpr h1;rw [JG,decide_eq_true (by omega),decide_eq_true (by omega),qx hw (rs:=ms) (j:=0) rfl]
 rfl
theorem tR:∀ {xs ys:List CR},Ac xs->Ac ys->(∀ z,z∈xs↔z∈ys)->xs=ys
 | [],[],_,_,_=>rfl
 | [],y::ys,_,_,h=>by cases (h y).mpr JL
 | x::xs,[],_,_,h=>by cases (h x).mp JL
 | x::xs,y::ys,hx,hy,h=>by
  obtain⟨a1,a2⟩:=List.pairwise_cons.mp hx;obtain⟨b1,b2⟩:=List.pairwise_cons.mp hy;have irr:∀ z:CR,¬ ZS.lx z.1 z.1=true:=λz q=>by have:=ZS.lx_iff.mp q; omega
  have e:x=y:=by
   rcases JJ.mp ((h x).mp JL) with e | m1
   ·exact e
   ·rcases JJ.mp ((h y).mpr JL) with e | m2
    ·exact e.symm
    ·have q1:=ZS.lx_iff.mp (b1 x m1);have q2:=ZS.lx_iff.mp (a1 y m2);omega
  subst e
  congr 1
  refine tR a2 b2 λz=>⟨λm=>?_,λm=>?_⟩
  ·rcases JJ.mp ((h z).mp (JM _ m)) with e | m2
   ·rw [e] at m; exact absurd (a1 x m) (irr x)
   ·exact m2
  ·rcases JJ.mp ((h z).mpr (JM _ m)) with e | m2
   ·rw [e] at m; exact absurd (b1 x m) (irr x)
   ·exact m2
theorem DN {y z:CR} (h:cE y=cE z):y=z:=by
 have h1:[y.1.1,y.1.2]=[z.1.1,z.1.2]:=congrArg Prod.fst h;have h2:(cE y).2=(cE z).2:=congrArg Prod.snd h;simp only [List.cons.injEq,and_true] at h1;exact Prod.ext (Prod.ext h1.1 h1.2) h2
theorem BK {c:Zr} {xs ys:List CR} (h1:(xs.map cE).Perm c) (d1:Ac xs) (h2:(ys.map cE).Perm c) (d2:Ac ys):xs=ys:=by
 have go:∀ {xs ys:List CR},(xs.map cE).Perm c->(ys.map cE).Perm c->∀ z,z∈xs->z∈ys:=λp q z m=>by
  obtain⟨y,hy,e⟩:=JF.mp (q.mem_iff.mpr (p.mem_iff.mp (JF.mpr ⟨z,m,rfl⟩)));rw [<- DN e];exact hy
 exact tR d1 d2 λz=>⟨go h1 h2 z,go h2 h1 z⟩
theorem hU {f:D->D->Ks KA}:∀ {l:List D},(∀ x∈l,f x x=some true)->gD f l l=some true
 | [],_=>rfl
 | x::l,h=>by
  unfold gD;rw [h x JL,hU λy hy=>h y (JM _ hy)]
  rfl
theorem lT {n:Nat} {l:List D} (h:∀ x∈l,DL.gY n x x=some true):DL.gY (n+1) (.tup l) (.tup l)=some true:=hU h
theorem wZ {n:Nat} {i:Int}:DL.gY n (.int i) (.int i)=some true:=by
 cases n <;> (show some (decide (i=i))=some true; rw [decide_eq_true rfl])
theorem ia {n:Nat} {i:Str}:DL.gY n (.str i) (.str i)=some true:=by
 cases n <;> (show some (decide (i=i))=some true; rw [decide_eq_true rfl])
theorem uS {n:Nat} {q:Rat}:DL.gY (n+1) (fr q) (fr q)=some true:=lT λx hx=>by
 simp only [JJ,JS,or_false] at hx;rcases hx with rfl | rfl <;> exact wZ
theorem EV {n:Nat} (i:It):DL.gY (n+1) i.d i.d=some true:=by
 cases i with
 | s x=>exact ia
 | w n=>exact wZ
 | f q=>exact uS
theorem wF {n:Nat} {r:List It}:DL.gY (n+2) (rD r) (rD r)=some true:=lT λx hx=>by
 obtain⟨i,_,rfl⟩:=JF.mp hx;exact EV i
theorem Eb {n:Nat} {ms:List bu}:DL.gY (n+3) (MD ms) (MD ms)=some true:=lT λx hx=>by
 obtain⟨s,_,rfl⟩:=JF.mp hx;rw [<- s.rd];exact wF
theorem EU {n:Nat} {u:Rat} {x y:Q}:DL.gY (n+3) (Pq u x y) (Pq u x y)=some true:=lT λz hz=>by
 have nn:∀ {a b:Rat},DL.gY (n+2) (N u a b) (N u a b)=some true:=λ{a b}=>lT λz hz=>by
  simp only [JJ,JS,or_false] at hz;rcases hz with rfl | rfl <;> exact uS
 simp only [JJ,JS,or_false] at hz;rcases hz with rfl | rfl <;> exact nn
theorem Bb {pre:List bu} {s:bu} (h:pb pre s) (hp:pre.length<=7):Rw s.r:=by
 have w4:∀ {q:Rat},Sz 4 q->(It.f q).ok/\CT (It.f q):=λh=>⟨fD h (by decide),λx z=>by cases z⟩
 have w8:∀ {q:Rat},Sz 8 q->(It.f q).ok/\CT (It.f q):=λh=>⟨fD h (by decide),λx z=>by cases z⟩
 have wn:∀ {i:Nat},i < 7->(It.w (i:Nat)).ok/\CT (It.w (i:Nat)):=λh=>⟨show nI _ by unfold nI; omega,λx z=>by cases z⟩
 refine⟨by rw [s.rx]; simp,by cases s <;> exact JT rfl,λi hi=>?_⟩
 have hx:(It.s s.x).ok/\CT (It.s s.x):=by
  have key:s.x.length<=90/\∀ c∈bT s.x,97<=c/\c<=122:=by
   cases s with
   | fix=>exact⟨JT rfl,(by decide:∀ c∈bT ("fix":Str),97<=c/\c<=122)⟩
   | crank=>exact⟨JT rfl,(by decide:∀ c∈bT ("crank":Str),97<=c/\c<=122)⟩
   | pair=>exact⟨JT rfl,(by decide:∀ c∈bT ("pair":Str),97<=c/\c<=122)⟩
   | like=>exact⟨JT rfl,(by decide:∀ c∈bT ("like":Str),97<=c/\c<=122)⟩
  exact⟨key.1,λy z=>by cases z; exact key.2⟩
 rw [s.rx] at hi;rcases JJ.mp hi with rfl | hi
 ·exact hx
 ·cases s with
  | fix x y=>
   obtain⟨h1,h2⟩:=h;simp only [bu.tl,JJ,JS,or_false] at hi;rcases hi with rfl | rfl
   ·exact w4 h1
   ·exact w4 h2
  | crank c l=>
   obtain⟨⟨x,y,hc⟩,h1,_⟩:=h;have:=(J3.mp hc).1;simp only [bu.tl,JJ,JS,or_false] at hi;rcases hi with rfl | rfl
   ·exact wn (by omega)
   ·exact w4 h1
  | pair i j s t v=>
   obtain⟨h1,h2,_,h3,h4,_,_,h5⟩:=h;simp only [bu.tl,JJ,JS,or_false] at hi;rcases hi with rfl | rfl | rfl | rfl | rfl
   ·exact wn (by omega)
   ·exact wn (by omega)
   ·exact w8 h3
   ·exact w8 h4
   ·exact⟨show nI _ by unfold nI; omega,λx z=>by cases z⟩
  | like i j a l=>
   obtain⟨h1,h2,_,h3,h4⟩:=h;simp only [bu.tl,JJ,JS,or_false] at hi;rcases hi with rfl | rfl | rfl | rfl
   ·exact wn (by omega)
   ·exact wn (by omega)
   ·exact w4 h3
   ·exact w4 h4
theorem G7 {ms:List bu} (h:Wf ms) (h7:ms.length<=7):∀ s∈ms,Rw s.r:=λs hs=>by
 obtain⟨k,hk⟩:=List.mem_iff_getElem?.mp hs;exact Bb (h k s hk) (by rw [List.length_take]; omega)
theorem wQ (ms:List bu):MD ms=.tup ((ms.map bu.r).map rD):=by
 show D.tup _=_
 rw [J7]
 congr 1
 exact List.map_congr_left λs _=>s.rd.symm
theorem Bg {ms:List bu} (h:∀ s∈ms,Rw s.r):∀ r∈ms.map bu.r,tM r:=λr hr=>by
 obtain⟨s,hs,rfl⟩:=JF.mp hr;have h:=h s hs;refine⟨s.x,s.tl,s.rx,?_,?_,λi hi=>⟨(h.all i (by rw [s.rx]; exact JM _ hi)).1,λx z=>?_⟩⟩
 ·cases s <;> exact JT rfl
 ·cases s <;> exact JT rfl
 ·obtain⟨k,hk⟩:=List.mem_iff_getElem?.mp hi;rcases bu.mem hk with ⟨⟨n,e⟩,_⟩ | ⟨⟨q,e⟩,_⟩ <;> (rw [z] at e; cases e)
theorem ww {ls:List Le} (h:∀ l∈ls,l.ok):∀ r∈ls.map Le.r,tM r:=λr hr=>by
 obtain⟨l,hl,rfl⟩:=JF.mp hr;have h:=(h l hl).rw;refine⟨l.x,l.qs.map .f,rfl,(h.all (.s l.x) JL).1,?_,λi hi=>⟨(h.all i (JM _ hi)).1,λx z=>?_⟩⟩
 ·have:=h.few;have:(l.qs.map It.f).length+1<=9:=this;omega
 ·obtain⟨q,_,rfl⟩:=JF.mp hi;cases z
theorem GF {ls:List Le} (h:∀ l∈ls,l.ok):∀ r∈ls.map Le.r,Rw r:=λr hr=>by
 obtain⟨l,hl,rfl⟩:=JF.mp hr;exact(h l hl).rw
theorem Em {ms:List bu} (h:∀ s∈ms,Rw s.r):∀ r∈ms.map bu.r,Rw r:=λr hr=>by
 obtain⟨s,hs,rfl⟩:=JF.mp hr;exact h s hs
theorem Dz (ls:List Le):ls.map Le.d=(ls.map Le.r).map rD:=by rw [J7]; rfl
theorem ud {c':Zr} (nd':(c'.map (·.1)).Nodup):∀ (c:Zr),(∀ p∈c,p∈c')->C4 (eZ c') (eZ c) true
 | [],_=>rfl
 | p::c,h=>.inr ⟨fr p.2,true,true,hG nd' (h p JL),uS,ud nd' c λq hq=>h q (JM _ hq),rfl⟩
theorem wV {S:DH} {a b c d a' b' c' d':D} (h1:E1 S a a') (h2:E1 S b b') (h3:E1 S c c') (h4:E1 S d d'):∀ (i:Nat) x y,[a,b,c,d][i]?=some x->[a',b',c',d'][i]?=some y->E1 S x y:=λi x y hx hy=>by
 rcases i with _ | _ | _ | _ | i
 ·cases hx; cases hy; exact h1
 ·cases hx; cases hy; exact h2
 ·cases hx; cases hy; exact h3
 ·cases hx; cases hy; exact h4
 ·cases hx
def tF:bE:=λds S k=>∃ ns:List Int,ds=[.rl (List.map D.int ns)]/\ns.length<=63/\∀ S',k (.bl true) S'
theorem gE:ao ["script","k","state","base","machine","leads","curve","point","texts","found"] ["script"] (aj zj):=cG
theorem C7 (Fn:FN K "law" zj f fd) (iV:bc P w K mg base "_law_state" 2 lL) (j8:bc P w K mg base "_law_base" 2 nO) (fF:bc P w K mg base "_law_machine" 4 jD) (iE:bc P w K mg base "_law_leads" 6 lS) (je:bc P w K mg base "_law_curve" 5 lE) (dh:bc P w K mg base "_law_shown_point" 5 fB) (dH:bc P w K mg base "_law_pair_point" 4 gj) (dB:bc P w K mg base "_law_point_text" 3 gw) (dP:bc P w K mg base "_law_curve_text" 3 gz) (cJ:bc P w K mg base "_law_text" 2 jG) (iB:bc P w K mg base "point_text" 4 lO) (io:bc P w K mg base "curve_text" 3 lV) (ff:bc P w K mg base "leads_text" 5 mj) (fH:bc P w K mg base "machine_text" 5 jt) (il:bc P w K mg base "point_read" 6 lN) (iu:bc P w K mg base "curve_read" 4 l_) (iq:bc P w K mg base "leads_read" 7 lR) (fW:bc P w K mg base "machine_read" 7 jZ) (bH:mg "range"=none) (qU:mg "max"=none) (AN:mg "min"=none) (aM:mg "len"=none) (aw:mg "isinstance"=none) (mX:mg "dict"=none) (v4:mg "list"=none) (aL:mg "tuple"=none):
  aQ P w K mg base b8 8 f fd ["script"] (ce K tF):=by
 refine Fn.okJ gE (λds S k h=>?_) (λcdv A outer s H E hr=>⟨_,(ag (ie PassesOwn.never rfl rfl bH (aa (aA CG rfl qU yI (aa ae (aa (aA FD rfl AN D6 (aa (aA jQ rfl aM bJ (aG 0 ac)) (aa ae ac))) ac))) ac) (aN (i:=1) gE.nd) (ag (am (i:=2) gE.nd (dq iV hr (aG 0 (aG 1 ac)))) (ag (am (i:=3) gE.nd (dq j8 hr (aG 2 ac))) (ag (am (i:=4) gE.nd (dq fF hr (aG 2 ac))) (ag (am (i:=5) gE.nd (dq iE hr (aG 2 (aa ae (aa ae ac))))) (ag (am (i:=6) gE.nd (dq je hr (aG 2 (aa ae ac)))) (ag (am (i:=7) gE.nd (dq dh hr (aa (dq dH hr (aG 2 (aa cn ac))) (aG 3 ac)))) (ag (am (i:=8) gE.nd (cm (aa (dq cJ hr (aG 4 ac)) (aa (dq cJ hr (aG 5 ac)) (aa (dq dP hr (aG 6 ac)) (aa (dq dB hr (aG 7 ac)) ac)))))) (ag (ay (au (y3 hr) (cm (aa (dq fH hr (aG 4 ac)) (aa (dq ff hr (aG 5 ac)) (aa (dq io hr (aG 6 ac)) (aa (dq iB hr (aG 7 ac)) ac))))) (af 8) (ar _)) (ah (ai cn)) az) (ag (am (i:=9) gE.nd (cm (aa (dq fW hr (aa (aD aP (af 8) ae Zf) ac)) (aa (dq iq hr (aa (aD aP (af 8) ae Zf) ac)) (aa (dq iu hr (aa (aD aP (af 8) ae Zf) ac)) (aa (dq il hr (aa (aD aP (af 8) ae Zf) ac)) ac)))))) (ag (ay (WJ.pt (b_ (au (y3 hr) (af 9) (cm (aG 4 (aG 5 (aG 6 (aG 7 ac))))) (ar _)) (b_ (aZ (aK (aA eR rfl aw aS (aa (aD aP (af 9) ae Zf) (aa (g7 (n:=.lst) rfl v4 B3) ac))))) (bI (aZ (aK (aA D_ rfl aw aS (aa (aD aP (af 9) ae Zf) (aa (g7 (n:=.dic) rfl mX xi) ac))))))))) (ah (ai cn)) az) (ah (ay (au (y3 hr) (dq ff hr (aa (bD j_ rfl aL cx (aG 5 ac)) ac)) (aD aP (af 8) ae Zf) (ar _)) (ah (ai cn)) az))))))))))))) (ah (ai cn))),λds S k h=>?_⟩)
 ·obtain⟨_,rfl,_⟩:=h
  rfl
 ·obtain⟨ns,rfl,hl,w⟩:=h;have hb:∀ z:Int,0<=z->z<=63->-(2 ^ 62)<=z/\z < 2 ^ 62:=λz _ _=>by omega
  refine⟨hb _ (by split <;> (try split) <;> omega) (by rw [JG]; split <;> (try split) <;> omega),?_⟩
  refine ua (P:=λd=>∃ i:Int,d=.int i/\0<=i) (λL S'=>(∃ r1 r2 r3 r4 r5 r6 r7 r8 r9,L=[some (.rl (List.map D.int ns)),r1,r2,r3,r4,r5,r6,r7,r8,r9])) (λ_ _ _=>trivial) ?_ ?_ _ ?_ _ _ ⟨_,_,_,_,_,_,_,_,_,rfl⟩
  ·rintro d L S1 Nx ⟨i,rfl,hi⟩ ⟨r1,r2,r3,r4,r5,r6,r7,r8,r9,rfl⟩ hN;refine⟨ns,i,rfl,hi,λa n0 b hp hnb=>?_⟩
   have hS:nY (put S1 a (.lst [.int n0,.bl b])) a:=⟨n0,b,ak,hnb⟩;generalize put S1 a (.lst [.int n0,.bl b])=T1 at hS ⊢;refine⟨a,rfl,hS,λu T2 hu d2=>⟨a,rfl,d2.1,λms T3 wf m1 m7 d3=>⟨a,6,3,rfl,by decide,by decide,d3.1,λls T4 lp hls l1 l6 d4 h4 lpa=>⟨a,3,rfl,rfl,d4.1,λT5 cp ep c d5 hc h5=>⟨a,true,rfl,d5.1,λz T6 hz d6=>?_⟩⟩⟩⟩⟩
   obtain⟨z1,z2,z3,z4⟩:=hz;have h4':=d6.2 lp _ lpa (d5.2 lp _ lpa h4);have h5':=d6.keep (Hn d5.1 h5) h5;have hcl:=hc.1.hl;have ok:yw c:=⟨hc.1.nd,List.length_pos_iff.mpr hc.2.1,hcl,hc.1.sm,λp hp=>⟨hc.2.2 p hp,hc.1.hz p hp⟩⟩
   have mr:=G7 wf m7;have q1:kz z.1.1:=fD z1 (by decide)
   have q2:kz (ss z.1.2*u):=fD (z2.ss.mul hu.sz) (by decide)
   have q3:kz z.2.1:=fD z3 (by decide)
   have q4:kz (ss z.2.2*u):=fD (z4.ss.mul hu.sz) (by decide)
   have lm:(ms.map bu.r).length<=9:=by rw [JG]; omega
   have ll:(ls.map Le.r).length<=9:=by rw [JG]; omega
   refine⟨z,u,rfl,hu.sz.mono (by decide),⟨z1.mono (by decide),z2.mono (by decide)⟩,⟨z3.mono (by decide),z4.mono (by decide)⟩,?_⟩
   refine⟨_,ms.map bu.r,rfl,.inl (wQ ms),lm,Em mr,λT7 e7=>⟨_,ls.map Le.r,rfl,.inr ⟨lp,rfl,by rw [<- Dz]; exact e7 _ _ h4'⟩,ll,GF hls,λT8 e8=>⟨cp,c,ep,rfl,e8 _ _ (e7 _ _ h5'),ok,λcs T9 pc dc e9=>⟨z.1.1,ss z.1.2*u,z.2.1,ss z.2.2*u,rfl,q1,q2,q3,q4,few,λtp htp=>?_⟩⟩⟩⟩
   have co:=ok.cs pc dc;have E9:=e7.trans (e8.trans e9);have t0:put T9 tp (.lst [.str (tT (ms.map bu.r)),.str (tT (ls.map Le.r)),.str (tT (cs.map cR)),.str (nT z.1.1 (ss z.1.2*u)++Str.ofString " "++nT z.2.1 (ss z.2.2*u))]) tp=_:=ak
   have g4:=(E9.trans (bg.new (o:=.lst [.str (tT (ms.map bu.r)),.str (tT (ls.map Le.r)),.str (tT (cs.map cR)),.str (nT z.1.1 (ss z.1.2*u)++Str.ofString " "++nT z.2.1 (ss z.2.2*u))]) htp)) _ _ h4'
   have g5:=(E9.trans (bg.new (o:=.lst [.str (tT (ms.map bu.r)),.str (tT (ls.map Le.r)),.str (tT (cs.map cR)),.str (nT z.1.1 (ss z.1.2*u)++Str.ofString " "++nT z.2.1 (ss z.2.2*u))]) htp)) _ _ h5'
   generalize put T9 tp (.lst [.str (tT (ms.map bu.r)),.str (tT (ls.map Le.r)),.str (tT (cs.map cR)),.str (nT z.1.1 (ss z.1.2*u)++Str.ofString " "++nT z.2.1 (ss z.2.2*u))])=U0 at t0 g4 g5 ⊢
   refine⟨ms.map bu.r,congrArg (λd=>[d]) (wQ ms),lm,Bg mr,λU1 f1=>⟨_,ls.map Le.r,rfl,.inr ⟨lp,rfl,by rw [<- Dz]; exact f1 _ _ g4⟩,ll,ww hls,λU2 f2=>⟨cp,c,ep,rfl,f2 _ _ (f1 _ _ g5),ok,λcs' U3 pc' dc' f3=>⟨z.1.1,ss z.1.2*u,z.2.1,ss z.2.2*u,rfl,q1,q2,q3,q4,λU4 f4=>⟨few,λtq htq=>?_⟩⟩⟩⟩⟩
   have ec:=BK pc' dc' pc dc;subst ec;have F4:=f1.trans (f2.trans (f3.trans f4));refine .inl ⟨_,_,ak,(bg.new htq) _ _ (F4 _ _ t0),rfl,wV (.inl ia) (.inl ia) (.inl ia) (.inl ia),?_⟩;generalize hU5:put U4 tq _=U5;have F5:bg U0 U5:=by rw [<- hU5]; exact F4.trans (bg.new htq)
   have t5:=F5 _ _ t0;have g45:=F5 _ _ g4;have g55:=F5 _ _ g5;have s1:Sm 300 z.1.1 z.1.2:=⟨z1.mono (by decide),z2.mono (by decide)⟩
   have s2:Sm 300 z.2.1 z.2.2:=⟨z3.mono (by decide),z4.mono (by decide)⟩
   refine⟨_,_,t5,bq,ms,rfl,m1,m7,mr,BC wf (List.length_pos_iff.mp m1) m7,λU6 f6=>⟨_,_,f6 _ _ t5,mJ,ls,rfl,l1,l6,hls,λlq U7 f7 lq0 lq1=>⟨_,_,f7 _ _ (f6 _ _ t5),By,_,rfl,co,λcq eq U8 f8 cq0 cq1=>⟨_,_,f8 _ _ (f7 _ _ (f6 _ _ t5)),C',u,z.1.1,z.1.2,z.2.1,z.2.2,rfl,hu.fd,s1,s2,q1,q2,q3,q4,λU9 f9=>⟨few,λfq hfq=>⟨few,λgq hgq=>?_⟩⟩⟩⟩⟩⟩
   have X8:=(bg.new (o:=.lst [MD ms,.ref lq,.ref cq,Pq u z.1 z.2]) hfq).trans (bg.new (o:=.lst [MD ms,.ref lp,.ref cp,Pq u z.1 z.2]) hgq);have F9:=f6.trans (f7.trans (f8.trans f9));have a1:=X8 _ _ (f9 _ _ (f8 _ _ lq1));have a2:=X8 _ _ (F9 _ _ g45);have a3:=X8 _ _ (f9 _ _ cq1);have a4:=X8 _ _ (F9 _ _ g55);have a5:=X8 _ _ (F9 _ _ t5);have nl:lq≠lp:=λq=>by rw [q,f6 _ _ g45] at lq0; cases lq0
   have nc:cq≠cp:=λq=>by rw [q,f7 _ _ (f6 _ _ g55)] at cq0; cases cq0
   have a6:=(bg.new (o:=.lst [MD ms,.ref lp,.ref cp,Pq u z.1 z.2]) hgq) _ _ (ak (S:=U9) (a:=fq) (o:=.lst [MD ms,.ref lq,.ref cq,Pq u z.1 z.2]));refine .inl ⟨_,_,a6,ak,rfl,wV (.inl Eb) (.inr (.inr ⟨lq,lp,_,_,rfl,rfl,nl,a1,a2,rfl,λi x y hx hy=>?_⟩)) (.inr (.inl ⟨cq,cp,_,_,_,_,rfl,rfl,nc,a3,a4,.inr ⟨?_,ud ok.nd _ λp hp=>pc.mem_iff.mp hp⟩⟩)) (.inl EU),?_⟩
   ·rw [hx] at hy;cases hy;obtain⟨l,_,rfl⟩:=JF.mp (List.mem_of_getElem? hx);exact wF
   ·unfold eZ lW;rw [JG,JG (f:=λp:List Int×Rat=>(p.1,fr p.2)) (as:=c),pc.length_eq]
   ·refine⟨_,_,a6,mJ,.lst,(congrArg GL a1).trans rfl,?_⟩;refine⟨_,_,a6,By,_,_,a3,?_⟩;refine⟨_,a2,_,ls.map Le.r,rfl,.inl (by rw [<- Dz]),ll,ww hls,λV1 v1=>⟨_,_,v1 _ _ a5,mJ,true,ia,?_⟩⟩
    exact hN _ _ ⟨_,_,_,_,_,_,_,_,_,rfl⟩
  ·rintro L S' ⟨r1,r2,r3,r4,r5,r6,r7,r8,r9,rfl⟩;exact w S'
  ·intro d hd;obtain⟨z,_,rfl⟩:=JF.mp hd;exact⟨_,rfl,by omega⟩
theorem Bc (ns:List Int) (h:ns.length<=63):tF [.rl (List.map D.int ns)] (λ_=>none) (λd _=>d=.bl true):=⟨ns,rfl,h,λ_=>rfl⟩
end My
def PySem.W.Fast.tw4580815967449863727:Unit:=()
def PySem.W.Fast.tw3968900783771504491:Unit:=()
def PySem.W.Fast.tw12130490123511257409:Unit:=()
def PySem.W.Fast.tw3903275064419379943:Unit:=()
def PySem.W.Fast.tw14972254273674071133:Unit:=()
def PySem.W.Fast.tw18249596868583236838:Unit:=()
def PySem.W.Fast.tw17470158481147049887:Unit:=()
def PySem.W.Fast.tw4178198690613026678:Unit:=()
def PySem.W.Fast.tw4876327498202885262:Unit:=()
def PySem.W.Fast.tw3260967140218878048:Unit:=()
def PySem.W.Fast.tw11350843050937531232:Unit:=()
def PySem.W.Fast.tw16926983673032232577:Unit:=()
def PySem.W.Fast.tw7883828188944291340:Unit:=()
def PySem.W.Fast.tw10396901015353318056:Unit:=()
def PySem.W.Fast.tw6335457929305215830:Unit:=()
def PySem.W.Fast.tw3811982221605221358:Unit:=()
def PySem.W.Fast.tw4764038356914275424:Unit:=()
def PySem.W.Fast.tw13194311900761394948:Unit:=()
def PySem.W.Fast.tw9610570810367220278:Unit:=()
def PySem.W.Fast.tw15216282863657837078:Unit:=()
def PySem.W.Fast.tw3469971129663796174:Unit:=()
def PySem.W.Fast.tw7012820035043414435:Unit:=()
def PySem.W.Fast.tw15965073979923341688:Unit:=()
def PySem.W.Fast.tw14427447854917277668:Unit:=()
def PySem.W.Fast.tw3343179498438431169:Unit:=()
def PySem.W.Fast.tw13511174985644952865:Unit:=()
def PySem.W.Fast.tw7633052531721387333:Unit:=()
def PySem.W.Fast.tw13220138061066542919:Unit:=()
def PySem.W.Fast.tw13037179004019122475:Unit:=()
def PySem.W.Fast.tw13801297069941399536:Unit:=()
def PySem.W.Fast.tw10253048779944081270:Unit:=()
def PySem.W.Fast.tw301272088480952798:Unit:=()
def PySem.W.Fast.tw1495271677526290083:Unit:=()
def PySem.W.Fast.tw17171057486551663178:Unit:=()
def PySem.W.Fast.tw11502359603583810098:Unit:=()
def PySem.W.Fast.tw11895911729032279217:Unit:=()
def PySem.W.Fast.tw6964976822220627956:Unit:=()
def PySem.W.Fast.tw16435198125513464136:Unit:=()
def PySem.W.Fast.tw2147499086076172295:Unit:=()
def PySem.W.Fast.tw16397362797578262726:Unit:=()
def PySem.W.Fast.tw4851221859608431233:Unit:=()
def PySem.W.Fast.tw6918437943308153099:Unit:=()
def PySem.W.Fast.tw12625029018812772203:Unit:=()
def PySem.W.Fast.tw13047287661161799810:Unit:=()
def PySem.W.Fast.tw4861591551185450196:Unit:=()
def PySem.W.Fast.tw15829468483016649699:Unit:=()
def PySem.W.Fast.tw17484054691604714326:Unit:=()
def PySem.W.Fast.tw12176565920180440770:Unit:=()
def PySem.W.Fast.tw4923746080357664834:Unit:=()
def PySem.W.Fast.tw17847075943385929873:Unit:=()
def PySem.W.Fast.tw5172509882345881544:Unit:=()
def PySem.W.Fast.tw10578902728543368195:Unit:=()
def PySem.W.Fast.tw5851933753740226795:Unit:=()
def PySem.W.Fast.tw7196214250148415999:Unit:=()
def PySem.W.Fast.tw12925716735987276064:Unit:=()
def PySem.W.Fast.tw13941854737218084209:Unit:=()
def PySem.W.Fast.tw4168982735030640766:Unit:=()
def PySem.W.Fast.tw441481384368259436:Unit:=()
def PySem.W.Fast.tw4795127063640697834:Unit:=()
def PySem.W.Fast.tw13196812315566464647:Unit:=()
def PySem.W.Fast.tw307483856950419058:Unit:=()
def PySem.W.Fast.tw16701929945235551942:Unit:=()
def PySem.W.Fast.tw4683071953856971819:Unit:=()
def PySem.W.Fast.tw12421514553764499464:Unit:=()
def PySem.W.Fast.tw177208781816893809:Unit:=()
def PySem.W.Fast.tw13187096400768444890:Unit:=()
def PySem.W.Fast.tw3604474812516618312:Unit:=()
def PySem.W.Fast.tw6896839773772868295:Unit:=()
def PySem.W.Fast.tw12876214270119944998:Unit:=()
def PySem.W.Fast.tw8048690512714006552:Unit:=()
def PySem.W.Fast.tw13430010607580216478:Unit:=()
def PySem.W.Fast.tw15243633472407446529:Unit:=()
def PySem.W.Fast.tw12239955560180483019:Unit:=()
def PySem.W.Fast.tw16278378450349950433:Unit:=()
def PySem.W.Fast.tw17093913217491377684:Unit:=()
def PySem.W.Fast.tw16191218337275417645:Unit:=()
def PySem.W.Fast.tw6898042630980722970:Unit:=()
def PySem.W.Fast.tw6626723725436662709:Unit:=()
def PySem.W.Fast.tw8364397124535709745:Unit:=()
def PySem.W.Fast.tw5641644008100163559:Unit:=()
def PySem.W.Fast.tw3697058191679949869:Unit:=()
def PySem.W.Fast.tw16919902809966139736:Unit:=()
def PySem.W.Fast.tw1471270663597458398:Unit:=()
def PySem.W.Fast.tw12857694316938007311:Unit:=()
def PySem.W.Fast.tw14611304739062627408:Unit:=()
def PySem.W.Fast.tw13334965053980013238:Unit:=()
def PySem.W.Fast.tw8593811557819850146:Unit:=()
def PySem.W.Fast.tw12371361411464052269:Unit:=()
def PySem.W.Fast.tw6712619006626795464:Unit:=()
def PySem.W.Fast.tw290993835693437943:Unit:=()
namespace My
open PySem PySem.Spec PyProof.Rows L2 DL HM
set_option maxHeartbeats 4000000
theorem Eg {l:PySem.W.OpenLaw} {w:Kw} {K:Fg} {h:Kx} {mg:Str->Ks Kq} {fa:Kr} (X:K.In h) (G:h.Ns mainGlobals mg) (hfa:mg "law"=some (.ref fa))
  {f1 f2 f3 f4 f5 f6 f7 f8 f9 f10 f11 f12 f13 f14 f15 f16 f17 f18 f19 f20 f21 f22 f23 f24 f25 f26 f27 f28 f29 f30 f31 f32 f33 f34 f35 f36 f37 f38 f39 f40 f41 f42 f43 f44 f45 f46 f47 f48 f49 f50 f51 f52 f53 f54 f55 f56 f57 f58 f59 f60 f61 f62 f63 f64 f65 f66 f67 f68 f69 f70 f71:Kr} {cd1 cd2 cd3 cd4 cd5 cd6 cd7 cd8 cd9 cd10 cd11 cd12 cd13 cd14 cd15 cd16 cd17 cd18 cd19 cd20 cd21 cd22 cd23 cd24 cd25 cd26 cd27 cd28 cd29 cd30 cd31 cd32 cd33 cd34 cd35 cd36 cd37 cd38 cd39 cd40 cd41 cd42 cd43 cd44 cd45 cd46 cd47 cd48 cd49 cd50 cd51 cd52 cd53 cd54 cd55 cd56 cd57 cd58 cd59 cd60 cd61 cd62 cd63 cd64 cd65 cd66 cd67 cd68 cd69 cd70 cd71:Kq}
  {ti_MOST_STEPS:Tok}
  {ti_BLOCK:Tok}
  {ti_MOST_LEADS:Tok}
  {ts_FIGURES:Tok}
  {iQ:Kr} {ut:Nat} {h0_WHOLE_AT h1_WHOLE_AT h2_WHOLE_AT:Int} {tk0_WHOLE_AT tk1_WHOLE_AT tk2_WHOLE_AT:Tok} {p0_WHOLE_AT:Kr} {od0_WHOLE_AT:Ks Kr} {sl0_WHOLE_AT:Kz (Ks Kq)} {n0_WHOLE_AT:Nat} {t0_0_WHOLE_AT:Tok} {p1_WHOLE_AT:Kr} {od1_WHOLE_AT:Ks Kr} {sl1_WHOLE_AT:Kz (Ks Kq)} {n1_WHOLE_AT:Nat} {t0_1_WHOLE_AT t1_1_WHOLE_AT t2_1_WHOLE_AT:Tok} {p2_WHOLE_AT:Kr} {od2_WHOLE_AT:Ks Kr} {sl2_WHOLE_AT:Kz (Ks Kq)} {n2_WHOLE_AT:Nat} {t0_2_WHOLE_AT t1_2_WHOLE_AT:Tok}
  {cg:Kr} {kg:Nat} {h0_FRACTIONS_BEHIND h1_FRACTIONS_BEHIND h2_FRACTIONS_BEHIND h3_FRACTIONS_BEHIND h4_FRACTIONS_BEHIND:Int} {tk0_FRACTIONS_BEHIND tk1_FRACTIONS_BEHIND tk2_FRACTIONS_BEHIND tk3_FRACTIONS_BEHIND tk4_FRACTIONS_BEHIND:Tok} {tv0_FRACTIONS_BEHIND tv1_FRACTIONS_BEHIND tv2_FRACTIONS_BEHIND tv3_FRACTIONS_BEHIND tv4_FRACTIONS_BEHIND:Tok}
  {Ab:Kr} {Fe:Ks Kr} {D0:Kz (Ks Kq)} {GH:Nat} {C5 EE:Tok}
  (d1:DI K "common_divisor" et f1 cd1)
  (d2:DI K "ratio" sM f2 cd2)
  (d3:DI K "plus" uY f3 cd3)
  (d4:DI K "times" sG f4 cd4)
  (d5:DI K "over" vQ f5 cd5)
  (d6:DI K "without_sign" fS f6 cd6)
  (d7:DI K "whole_root" iM f7 cd7)
  (d8:DI K "square_root_or_none" cB f8 cd8)
  (d9:DI K "root_in" mT f9 cd9)
  (d10:DI K "is_plain" k7 f10 cd10)
  (d11:DI K "is_whole" k8 f11 cd11)
  (d12:DI K "is_fraction" gU f12 cd12)
  (d13:DI K "is_number" jV f13 cd13)
  (d14:DI K "one_field" jw f14 cd14)
  (d15:DI K "product_of_ways" dL f15 cd15)
  (d16:DI K "is_above_nought" dM f16 cd16)
  (d17:DI K "is_joint" kQ f17 cd17)
  (d18:DI K "are_unlike_joints" cX f18 cd18)
  (d19:DI K "is_fix" oD f19 cd19)
  (d20:DI K "is_crank" kU f20 cd20)
  (d21:DI K "is_pair" mP f21 cd21)
  (d22:DI K "is_like" m9 f22 cd22)
  (d23:DI K "is_step" mo f23 cd23)
  (d24:DI K "is_machine" iR f24 cd24)
  (d25:DI K "whole_text" iy f25 cd25)
  (d26:DI K "fraction_text" eM f26 cd26)
  (d27:DI K "number_text" gP f27 cd27)
  (d28:DI K "point_text" i7 f28 cd28)
  (d29:DI K "written" nE f29 cd29)
  (d30:DI K "row_text" kC f30 cd30)
  (d31:DI K "machine_text" fA f31 cd31)
  (d32:DI K "leads_text" iJ f32 cd32)
  (d33:DI K "figures_read" fL f33 cd33)
  (d34:DI K "whole_read" iH f34 cd34)
  (d35:DI K "fraction_read" eO f35 cd35)
  (d36:DI K "number_read" gW f36 cd36)
  (d37:DI K "ask_text" kO f37 cd37)
  (d38:DI K "point_read" jg f38 cd38)
  (d39:DI K "rows_of" mQ f39 cd39)
  (d40:DI K "step_read" j6 f40 cd40)
  (d41:DI K "machine_read" fC f41 cd41)
  (d42:DI K "is_lead" mO f42 cd42)
  (d43:DI K "lead_read" jJ f43 cd43)
  (d44:DI K "leads_read" ip f44 cd44)
  (d45:DI K "power_read" ja f45 cd45)
  (d46:DI K "curve_text" iF f46 cd46)
  (d47:DI K "curve_read" im f47 cd47)
  (d48:DI K "_law_cell_at" fI f48 cd48)
  (d49:DI K "_law_state" iK f49 cd49)
  (d50:DI K "_law_take" jS f50 cd50)
  (d51:DI K "_law_divisor" fE f51 cd51)
  (d52:DI K "_law_ratio" ii f52 cd52)
  (d53:DI K "_law_times" iw f53 cd53)
  (d54:DI K "_law_fraction" eL f54 cd54)
  (d55:DI K "_law_nought" gQ f55 cd55)
  (d56:DI K "_law_clean" iZ f56 cd56)
  (d57:DI K "_law_curve" iC f57 cd57)
  (d58:DI K "_law_shown" iU f58 cd58)
  (d59:DI K "_law_base" jW f59 cd59)
  (d60:DI K "_law_shown_point" di f60 cd60)
  (d61:DI K "_law_pair_point" dS f61 cd61)
  (d62:DI K "_law_lead" jr f62 cd62)
  (d63:DI K "_law_leads" i8 f63 cd63)
  (d64:DI K "_law_above" jc f64 cd64)
  (d65:DI K "_law_machine" fM f65 cd65)
  (d66:DI K "_law_word" jO f66 cd66)
  (d67:DI K "_law_text" jA f67 cd67)
  (d68:DI K "_law_curve_text" dO f68 cd68)
  (d69:DI K "_law_number_text" dj f69 cd69)
  (d70:DI K "_law_point_text" dG f70 cd70)
  (d71:DI K "law" zj f71 cd71)
  (gM:PySem.W.nsIn K mainGlobals "MOST_STEPS"=some (some (.int 7 ti_MOST_STEPS)))
  (oZ:PySem.W.nsIn K mainGlobals "BLOCK"=some (some (.int 64 ti_BLOCK)))
  (gJ:PySem.W.nsIn K mainGlobals "MOST_LEADS"=some (some (.int 6 ti_MOST_LEADS)))
  (kX:PySem.W.nsIn K mainGlobals "FIGURES"=some (some (.str "0123456789" ts_FIGURES)))
  (jI:PySem.W.nsIn K mainGlobals "WHOLE_AT"=some (some (.ref iQ))) (jY:K.lookup iQ=some ⟨.type "dict",none,.dict #[⟨h0_WHOLE_AT,.str "crank" tk0_WHOLE_AT,.ref p0_WHOLE_AT⟩,⟨h1_WHOLE_AT,.str "pair" tk1_WHOLE_AT,.ref p1_WHOLE_AT⟩,⟨h2_WHOLE_AT,.str "like" tk2_WHOLE_AT,.ref p2_WHOLE_AT⟩] ut,#[]⟩) (sm_WHOLE_AT:(iQ == sysModules)=false) (lg0_WHOLE_AT:K.lookup p0_WHOLE_AT=some ⟨.type "tuple",od0_WHOLE_AT,.seq #[.int 1 t0_0_WHOLE_AT] n0_WHOLE_AT,sl0_WHOLE_AT⟩) (hh0_WHOLE_AT:h0_WHOLE_AT=hashStr w "crank") (lg1_WHOLE_AT:K.lookup p1_WHOLE_AT=some ⟨.type "tuple",od1_WHOLE_AT,.seq #[.int 1 t0_1_WHOLE_AT,.int 2 t1_1_WHOLE_AT,.int 5 t2_1_WHOLE_AT] n1_WHOLE_AT,sl1_WHOLE_AT⟩) (hh1_WHOLE_AT:h1_WHOLE_AT=hashStr w "pair") (lg2_WHOLE_AT:K.lookup p2_WHOLE_AT=some ⟨.type "tuple",od2_WHOLE_AT,.seq #[.int 1 t0_2_WHOLE_AT,.int 2 t1_2_WHOLE_AT] n2_WHOLE_AT,sl2_WHOLE_AT⟩) (hh2_WHOLE_AT:h2_WHOLE_AT=hashStr w "like")
  (cW:PySem.W.nsIn K mainGlobals "FRACTIONS_BEHIND"=some (some (.ref cg))) (cU:K.lookup cg=some ⟨.type "dict",none,.dict #[⟨h0_FRACTIONS_BEHIND,.str "shift" tk0_FRACTIONS_BEHIND,.int 2 tv0_FRACTIONS_BEHIND⟩,⟨h1_FRACTIONS_BEHIND,.str "grow" tk1_FRACTIONS_BEHIND,.int 3 tv1_FRACTIONS_BEHIND⟩,⟨h2_FRACTIONS_BEHIND,.str "turn" tk2_FRACTIONS_BEHIND,.int 4 tv2_FRACTIONS_BEHIND⟩,⟨h3_FRACTIONS_BEHIND,.str "mirror" tk3_FRACTIONS_BEHIND,.int 3 tv3_FRACTIONS_BEHIND⟩,⟨h4_FRACTIONS_BEHIND,.str "invert" tk4_FRACTIONS_BEHIND,.int 3 tv4_FRACTIONS_BEHIND⟩] kg,#[]⟩) (sm_FRACTIONS_BEHIND:(cg == sysModules)=false) (hh0_FRACTIONS_BEHIND:h0_FRACTIONS_BEHIND=hashStr w "shift") (hh1_FRACTIONS_BEHIND:h1_FRACTIONS_BEHIND=hashStr w "grow") (hh2_FRACTIONS_BEHIND:h2_FRACTIONS_BEHIND=hashStr w "turn") (hh3_FRACTIONS_BEHIND:h3_FRACTIONS_BEHIND=hashStr w "mirror") (hh4_FRACTIONS_BEHIND:h4_FRACTIONS_BEHIND=hashStr w "invert")
  (vx:PySem.W.nsIn K mainGlobals "ONE"=some (some (.ref Ab))) (uZ:K.lookup Ab=some ⟨.type "tuple",Fe,.seq #[.int 1 C5,.int 1 EE] GH,D0⟩)
  (Ak:PySem.W.nsIn K mainGlobals "abs"=some none) (iY:PySem.W.nsIn K mainGlobals "isinstance"=some none) (uN:PySem.W.nsIn K mainGlobals "bool"=some none) (zZ:PySem.W.nsIn K mainGlobals "int"=some none) (yR:PySem.W.nsIn K mainGlobals "len"=some none) (sE:PySem.W.nsIn K mainGlobals "tuple"=some none) (jz:PySem.W.nsIn K mainGlobals "enumerate"=some none) (zB:PySem.W.nsIn K mainGlobals "str"=some none) (kY:PySem.W.nsIn K mainGlobals "reversed"=some none) (sy:PySem.W.nsIn K mainGlobals "range"=some none) (AG:PySem.W.nsIn K mainGlobals "all"=some none) (pK:PySem.W.nsIn K mainGlobals "sorted"=some none) (vI:PySem.W.nsIn K mainGlobals "dict"=some none) (y_:PySem.W.nsIn K mainGlobals "max"=some none) (yx:PySem.W.nsIn K mainGlobals "min"=some none) (u5:PySem.W.nsIn K mainGlobals "list"=some none):
  ∃ fd:FuncData,(∀ (s:Ko) (v:Kq),BindsTo s fd ⟨[v],[]⟩ [("script",v)])/\∀ base:Kx,K.In base->base.Ns mainGlobals mg->aQ l.prog w K mg base b8 8 fa fd ["script"] (ce K tF):=by
 have e:=hfa.symm.trans (PySem.W.mg_of X G d71.a);cases e;have eU:=J_ X G Ak;have aw:=J_ X G iY;have mq:=J_ X G uN;have eK:=J_ X G zZ;have aM:=J_ X G yR;have aL:=J_ X G sE;have du:=J_ X G jz;have jj:=J_ X G zB;have k6:=J_ X G kY;have bH:=J_ X G sy;have yV:=J_ X G AG;have h_:=J_ X G pK;have mX:=J_ X G vI;have qU:=J_ X G y_;have AN:=J_ X G yx;have v4:=J_ X G u5;have mW:CZ mg "FIGURES" "0123456789":=⟨_,PySem.W.mg_of X G kX⟩
 have lb:As K mg w "WHOLE_AT" [("crank",.tup (List.map D.int [1])),("pair",.tup (List.map D.int [1,2,5])),("like",.tup (List.map D.int [1,2]))]:=⟨iQ,_,_,_,PySem.W.mg_of X G jI,jY,⟨rfl,rfl,rfl⟩,rfl,sm_WHOLE_AT,.cons hh0_WHOLE_AT (lQ.tup ⟨_,_,_,lg0_WHOLE_AT,rfl,rfl,JT rfl,.cons ⟨_,rfl⟩ (.nil)⟩) (.cons hh1_WHOLE_AT (lQ.tup ⟨_,_,_,lg1_WHOLE_AT,rfl,rfl,JT rfl,.cons ⟨_,rfl⟩ (.cons ⟨_,rfl⟩ (.cons ⟨_,rfl⟩ (.nil)))⟩) (.cons hh2_WHOLE_AT (lQ.tup ⟨_,_,_,lg2_WHOLE_AT,rfl,rfl,JT rfl,.cons ⟨_,rfl⟩ (.cons ⟨_,rfl⟩ (.nil))⟩) (.nil))),by decide⟩
 have df:As K mg w "FRACTIONS_BEHIND" [("shift",.int 2),("grow",.int 3),("turn",.int 4),("mirror",.int 3),("invert",.int 3)]:=⟨cg,_,_,_,PySem.W.mg_of X G cW,cU,⟨rfl,rfl,rfl⟩,rfl,sm_FRACTIONS_BEHIND,.cons hh0_FRACTIONS_BEHIND lQ.int (.cons hh1_FRACTIONS_BEHIND lQ.int (.cons hh2_FRACTIONS_BEHIND lQ.int (.cons hh3_FRACTIONS_BEHIND lQ.int (.cons hh4_FRACTIONS_BEHIND lQ.int (.nil))))),by decide⟩
 have i_:vb mg "MOST_STEPS" 7:=⟨_,PySem.W.mg_of X G gM⟩
 have lF:vb mg "BLOCK" 64:=⟨_,PySem.W.mg_of X G oZ⟩
 have iG:vb mg "MOST_LEADS" 6:=⟨_,PySem.W.mg_of X G gJ⟩
 have Ao:Es K mg "ONE" [1,1]:=⟨Ab,_,_,_,PySem.W.mg_of X G vx,uZ,rfl,rfl,JT rfl,.cons ⟨_,rfl⟩ (.cons ⟨_,rfl⟩ (.nil))⟩
 obtain⟨fd,Fn,hc,hb⟩:=d71.fn;refine⟨fd,hb,λbase _ _=>?_⟩
 have zb:Bs l.prog w base:=.mk;have a7:=d1.own zb X G λ_ F _=>lB F eU
 have fk:=d2.own zb X G λ_ F _=>y8 F a7
 have uJ:=d3.own zb X G λ_ F _=>Cj F fk
 have ou:=d4.own zb X G λ_ F _=>zC F fk
 have v_:=d5.own zb X G λ_ F _=>BB F fk
 have bP:=d6.own zb X G λ_ F _=>n_ F eU
 have iO:=d7.own zb X G λ_ F _=>qb F
 have bQ:=d8.own zb X G λ_ F _=>iz F iO
 have fv:=d9.own zb X G λ_ F _=>ve F bQ
 have bz:=d10.own zb X G λ_ F _=>tJ F
 have i6:=d11.own zb X G λ_ F _=>uj F aw mq eK
 have b6:=d12.own zb X G λ_ F _=>oT F i6 a7 aM aw aL
 have jE:=d13.own zb X G λ_ F _=>sN F b6 fv bP bz aM aw aL
 have jK:=d14.own zb X G λ_ F _=>sS F bz fv v_ bP
 have dR:=d15.own zb X G λ_ F _=>kL F uJ ou
 have bf:=d11.own zb X G λ_ F _=>rE F aw mq eK
 have aX:=d12.own zb X G λ_ F _=>oa F bf a7 aM aw aL
 have bj:=d16.own zb X G λ_ F _=>kI F aX
 have dk:=d17.own zb X G λ_ F _=>sY F bf
 have bp:=d18.own zb X G λ_ F _=>jB F dk
 have oW:=d19.own zb X G λ_ F _=>x_ F aX aM
 have kF:=d20.own zb X G λ_ F _=>uD F dk bj aM
 have my:=d21.own zb X G λ_ F _=>uV F bp bj bf aM
 have mz:=d22.own zb X G λ_ F _=>uQ F bp aX aM
 have ny:=d23.own zb X G λ_ F _=>vf F oW kF my mz aM aw aL
 have iT:=d24.own zb X G λ_ F _=>qi F ny aM aw aL du i_
 have a9:=d25.own zb X G λ_ F _=>p7 F eU jj k6
 have aR:=d26.own zb X G λ_ F _=>nh F a9
 have eD:=d27.own zb X G λ_ F _=>oR F bz aR
 have iB:=d28.own zb X G λ_ F _=>qj F eD
 have nC:=d29.own zb X G λ_ F _=>vG F bf a9 aR
 have eA:=d30.own zb X G λ_ F _=>ur F nC
 have fH:=d31.own zb X G λ_ F _=>nZ F eA
 have ff:=d32.own zb X G λ_ F _=>p6 F eA
 have fU:=d33.own zb X G λ_ F _=>n9 F aM eK bH lF
 have bi:=d34.own zb X G λ_ F _=>p_ F fU yV mW
 have aJ:=d35.own zb X G λ_ F _=>mF F bi b6
 have eE:=d36.own zb X G λ_ F _=>pE F aJ bz jE
 have eh:=d37.own zb X G λ_ F _=>sZ F aw jj
 have il:=d38.own zb X G λ_ F _=>p4 F eh eE jK aM
 have cN:=d39.own zb X G λ_ F _=>vd F eh
 have jT:=d40.own zb X G λ_ F _=>rO F bi aJ du aL lb
 have fW:=d41.own zb X G λ_ F _=>oi F cN jT iT aL
 have nA:=d42.own zb X G λ_ F _=>u8 F dR aM df Ao
 have jH:=d43.own zb X G λ_ F _=>rP F aJ nA aL
 have iq:=d44.own zb X G λ_ F _=>qu F cN jH aM iG
 have fi:=d45.own zb X G λ_ F _=>pU F bi aM
 have io:=d46.own zb X G λ_ F _=>pY F a9 aR h_
 have iu:=d47.own zb X G λ_ F _=>pZ F cN aJ fi aM
 have fP:=d48.own zb X G λ_ F _=>oj F aM
 have iV:=d49.own zb X G λ_ F _=>pS F fP
 have ax:=d50.own zb X G λ_ F _=>rH F
 have fK:=d51.own zb X G λ_ F _=>n4 F eU
 have bL:=d52.own zb X G λ_ F _=>qm F fK
 have fb:=d53.own zb X G λ_ F _=>qd F bL
 have aq:=d54.own zb X G λ_ F _=>ng F bL ax
 have bX:=d55.own zb X G λ_ F _=>oH F aq
 have iN:=d56.own zb X G λ_ F _=>qr F mX
 have je:=d57.own zb X G λ_ F _=>qo F ax aq bX iN bH
 have fo:=d58.own zb X G λ_ F _=>qf F fb eU
 have j8:=d59.own zb X G λ_ F _=>rY F ax
 have dh:=d60.own zb X G λ_ F _=>kj F fo
 have dH:=d61.own zb X G λ_ F _=>k_ F ax aq bH aL
 have jN:=d62.own zb X G λ_ F _=>sD F ax aq bX
 have iE:=d63.own zb X G λ_ F _=>pW F ax jN bH eK
 have dJ:=d64.own zb X G λ_ F _=>qc F bL ax
 have fF:=d65.own zb X G λ_ F _=>nS F aq ax dJ bH aM qU aL
 have cK:=d66.own zb X G λ_ F _=>rN F aw aL jj
 have cJ:=d67.own zb X G λ_ F _=>rG F cK
 have dP:=d68.own zb X G λ_ F _=>kK F cJ h_
 have ck:=d69.own zb X G λ_ F _=>kh F cK eK
 have dB:=d70.own zb X G λ_ F _=>kG F ck
 exact C7 Fn iV j8 fF iE je dh dH dB dP cJ iB io ff fH il iu iq fW bH qU AN aM aw mX v4 aL
theorem walk {l:PySem.W.OpenLaw} {q:Ku} {loose:List Str} {XP:(Str->Ks Kq)->Kx->Prop} {YP:Kw->Kx->Prop} {d:DefRec} {K:Params->Fg} (hn:l.most=some 63) (hdf:d.params.defaults=[])
  (hY:∀ (w:Kw) (h:Kx),YP w h->(K w.params).In h)
  (F:∀ (w:Kw) (mg:Str->Ks Kq) (fa:Kr) (h:Kx),(K w.params).In h->h.Ns mainGlobals mg->mg d.name=some (.ref fa)->
   ∃ fd:FuncData,(∀ (s:Ko) (u:Kq),BindsTo s fd ⟨[u],[]⟩ [("script",u)])/\∀ base:Kx,(K w.params).In base->base.Ns mainGlobals mg->aQ l.prog w (K w.params) mg base b8 8 fa fd ["script"] (ce (K w.params) tF)):
  PySem.W.WalkO q loose XP YP l.row.toRowW d [] (λf vs=>PySem.call f vs):=
 L2.B1 (n:=63) (k:=8) (x:="script") (CX:=λ_=>b8) (sp:=λw=>ce (K w.params) tF) hn (by decide) hdf ⟨rfl,by decide,by decide⟩ hY F
  (λw H a ns hl ho hS=>DL.Dh ho hS (Bc ns hl)) λ_ _ _ _ _ z=>z
end My
open PySem PySem.W PyProof.Rows
set_option maxRecDepth 100000 in
set_option maxHeartbeats 0 in
theorem PySem.Challenge.cw_hingedraw_k91_texts_written_and_read_holds : PySem.Challenge.rw_hingedraw_k91_texts_written_and_read.Holds := by
 w_on; o_law; k_head; (case hw=>w_witness2)
 k_fill
 refine My.walk (l := PySem.Challenge.rw_hingedraw_k91_texts_written_and_read) rfl rfl (λw h Y => PySem.W.kIn_of Y) ?F
 case F=>
  intro w mg fa h KX G hmg;refine' My.Eg KX G hmg ?d1 ?d2 ?d3 ?d4 ?d5 ?d6 ?d7 ?d8 ?d9 ?d10 ?d11 ?d12 ?d13 ?d14 ?d15 ?d16 ?d17 ?d18 ?d19 ?d20 ?d21 ?d22 ?d23 ?d24 ?d25 ?d26 ?d27 ?d28 ?d29 ?d30 ?d31 ?d32 ?d33 ?d34 ?d35 ?d36 ?d37 ?d38 ?d39 ?d40 ?d41 ?d42 ?d43 ?d44 ?d45 ?d46 ?d47 ?d48 ?d49 ?d50 ?d51 ?d52 ?d53 ?d54 ?d55 ?d56 ?d57 ?d58 ?d59 ?d60 ?d61 ?d62 ?d63 ?d64 ?d65 ?d66 ?d67 ?d68 ?d69 ?d70 ?d71 ?gM ?oZ ?gJ ?kX ?jI ?jY ?sm_WHOLE_AT ?lg0_WHOLE_AT ?hh0_WHOLE_AT ?lg1_WHOLE_AT ?hh1_WHOLE_AT ?lg2_WHOLE_AT ?hh2_WHOLE_AT ?cW ?cU ?sm_FRACTIONS_BEHIND ?hh0_FRACTIONS_BEHIND ?hh1_FRACTIONS_BEHIND ?hh2_FRACTIONS_BEHIND ?hh3_FRACTIONS_BEHIND ?hh4_FRACTIONS_BEHIND ?vx ?uZ ?Ak ?iY ?uN ?zZ ?yR ?sE ?jz ?zB ?kY ?sy ?AG ?pK ?vI ?y_ ?yx ?u5
  case d1 | d2 | d3 | d4 | d5 | d6 | d7 | d8 | d9 | d10 | d11 | d12 | d13 | d14 | d15 | d16 | d17 | d18 | d19 | d20 | d21 | d22 | d23 | d24 | d25 | d26 | d27 | d28 | d29 | d30 | d31 | d32 | d33 | d34 | d35 | d36 | d37 | d38 | d39 | d40 | d41 | d42 | d43 | d44 | d45 | d46 | d47 | d48 | d49 | d50 | d51 | d52 | d53 | d54 | d55 | d56 | d57 | d58 | d59 | d60 | d61 | d62 | d63 | d64 | d65 | d66 | d67 | d68 | d69 | d70 | d71=>refine' ⟨?a,.mk ?l,?e,?k⟩; (case a=>k_is); (case l=>k_is); (case e=>k_is); (case k=>k_is)
  (case gM=>k_is)
  (case oZ=>k_is)
  (case gJ=>k_is)
  (case kX=>k_is)
  (case jI=>k_is)
  (case jY=>k_is)
  (case sm_WHOLE_AT=>kernel_rfl)
  (case lg0_WHOLE_AT=>k_is)
  (case hh0_WHOLE_AT=>kernel_rfl)
  (case lg1_WHOLE_AT=>k_is)
  (case hh1_WHOLE_AT=>kernel_rfl)
  (case lg2_WHOLE_AT=>k_is)
  (case hh2_WHOLE_AT=>kernel_rfl)
  (case cW=>k_is)
  (case cU=>k_is)
  (case sm_FRACTIONS_BEHIND=>kernel_rfl)
  (case hh0_FRACTIONS_BEHIND=>kernel_rfl)
  (case hh1_FRACTIONS_BEHIND=>kernel_rfl)
  (case hh2_FRACTIONS_BEHIND=>kernel_rfl)
  (case hh3_FRACTIONS_BEHIND=>kernel_rfl)
  (case hh4_FRACTIONS_BEHIND=>kernel_rfl)
  (case vx=>k_is)
  (case uZ=>k_is)
  (case Ak=>k_is)
  (case iY=>k_is)
  (case uN=>k_is)
  (case zZ=>k_is)
  (case yR=>k_is)
  (case sE=>k_is)
  (case jz=>k_is)
  (case zB=>k_is)
  (case kY=>k_is)
  (case sy=>k_is)
  (case AG=>k_is)
  (case pK=>k_is)
  (case vI=>k_is)
  (case y_=>k_is)
  (case yx=>k_is)
  (case u5=>k_is)
