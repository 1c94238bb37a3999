import PyProof.Rows.All
import Wide.All
import OpenK.AllK
import Wide.FinOn
import Lean
import PyProof.EqAt
import PyProof.EqKinds
import PyProof.TupleCall
import PySem.Challenge.RW_hingedraw_k44_whole_stands_are_places
set_option compiler.extract_closed false
set_option genSizeOfSpec false
set_option Elab.async false
set_option linter.all false
set_option maxRecDepth 100000
set_option Elab.async false
set_option linter.all false
set_option maxRecDepth 100000
theorem Zf {α β γ:Sort _} {f:α->β->γ}:∀ a b,f a b=f a b:=λ_ _=>rfl
section
open PySem PySem.Spec PyProof.Rows
abbrev gt:=@wpAny_bind
abbrev pp:=@Heap.get?_push_of_some
abbrev Js:=@wpAny_pure
abbrev Jt:=@Heap.get?_push_size
abbrev Ju:=@Rat.intCast_mul
abbrev Jv:=@Heap.lt_size
abbrev Jw:=@Nat.le_refl
abbrev Jx:=@List.mem_map
abbrev Jy:=@List.length_map
abbrev Jz:=@Bool.false_ne_true
abbrev JA:=@List.size_toArray
abbrev JB:=@List.mem_cons
abbrev JC:=@Nat.ne_of_lt
abbrev JD:=@List.mem_cons_self
abbrev JE:=@List.mem_cons_of_mem
abbrev JG:=@Nat.lt_of_lt_of_le
abbrev JH:=@List.mem_append_right
abbrev JI:=@List.map_cons
abbrev JJ:=@List.length_cons
abbrev JK:=@List.not_mem_nil
abbrev JL:=@Nat.le_of_ble_eq_true
abbrev JM:=@Rat.intCast_add
abbrev JN:=@Prod.ext
abbrev JO:=@List.length_append
abbrev JP:=@List.append_nil
abbrev JQ:=@Rat.mul_nonneg
abbrev JT:=@wpAny_setField_rec
abbrev JU:=@wpAny_holding
abbrev JV:=@List.getElem?_eq_getElem
abbrev JW:=@wpAny_newObj_type
abbrev JX:=@List.getElem?_map
abbrev JY:=@Rat.mul_pos
abbrev JZ:=@Heap.get?_update_other
abbrev J0:=@Option.some.inj
abbrev J1:=@wpAny_seqItems
abbrev J2:=@Rat.intCast_sub
abbrev J3:=@Rat.divInt_eq_div
abbrev J4:=@List.getElem?_eq_some_iff
abbrev J5:=@wpAny_mono
abbrev J6:=@wpAny_field
abbrev J7:=@Nat.le_trans
abbrev J8:=@Bool.and_eq_true
abbrev J9:=@PySem.mem_of_lookup
abbrev J_:=@Heap.get?_update_self
abbrev Ka:=@PySem.W.mg_none_of
abbrev Kb:=@wpAny_call_entry
abbrev Kc:=@Int.fmod_nonneg_of_pos
abbrev Kd:=@List.drop_eq_getElem_cons
abbrev Ke:=@decide_eq_false
abbrev Kf:=@Nat.zero_le
abbrev Kg:=@Nat.lt_irrefl
abbrev Kh:=@Heap.size_push
abbrev Ki:=@List.all_eq_true
abbrev Kj:=@wpAny_callSpecial?_slot
abbrev Kk:=@List.getElem_mem
abbrev Kl:=@Int.fmod_lt_of_pos
abbrev Km:=@Option.isSome_iff_exists
abbrev Kn:=@List.length_eq_zero_iff
end
section
open PySem PySem.Spec
abbrev Ko:=Shared
abbrev Kq:=Value
abbrev Kr:=Addr
abbrev Ks:=Option
abbrev Kt:=Expr
abbrev Ku:=Program
abbrev Kv:=Around
abbrev Kw:=World
abbrev Kx:=Heap
abbrev Ky:=Stmt
abbrev Kz:=Array
abbrev KA:=Bool
abbrev KB:=String
abbrev KC:=Obj
end
namespace L2
open PySem PySem.Spec PyProof.Rows
abbrev sW:=Sum Int Str
def Dl:sW->Kq->KA
 | .inl k,v=>Value.isInt k v
 | .inr x,v=>Value.isStrOf x v
def HL (w:Kw):sW->Int
 | .inl k=>hashInt k
 | .inr x=>hashStr w x
theorem cN:∀ {k:sW} {v:Kq},Dl k v=true->(∃ i t,k=Sum.inl i/\v=Value.int i t)\/(∃ x t,k=Sum.inr x/\v=Value.str x t)
 | .inl i,v,h=>by
  obtain⟨t,e⟩:=Value.isInt_shape (k:=i) (v:=v) h;exact .inl ⟨i,t,rfl,e⟩
 | .inr x,v,h=>by
  obtain⟨t,e⟩:=Value.isStrOf_shape (x:=x) (v:=v) h;exact .inr ⟨x,t,rfl,e⟩
theorem ES (a b:Int):decide ((Sum.inl a:sW)=Sum.inl b)=(a == b):=by
 by_cases e:a=b
 ·subst e; simp
 ·have h:¬ (Sum.inl a:sW)=Sum.inl b:=λq=>e (Sum.inl.inj q)
  rw [Ke h];exact(beq_eq_false_iff_ne.mpr e).symm
theorem EU (a b:Str):decide ((Sum.inr a:sW)=Sum.inr b)=decide (a=b):=by
 by_cases e:a=b
 ·subst e; simp
 ·have h:¬ (Sum.inr a:sW)=Sum.inr b:=λq=>e (Sum.inr.inj q)
  rw [Ke h,Ke e]
theorem Fh (a:Int) (b:Str):decide ((Sum.inl a:sW)=Sum.inr b)=false:=Ke (λq=>nomatch q)
theorem Fs (a:Str) (b:Int):decide ((Sum.inr a:sW)=Sum.inl b)=false:=Ke (λq=>nomatch q)
def wA (prog:Ku) (w:Kw):PySem.KeyKind prog w sW where
 is:=Dl
 hash:=HL w
 inj:=λv a b ha hb=>by
  rcases cN ha with ⟨i,t,rfl,rfl⟩ | ⟨x,t,rfl,rfl⟩
  ·rcases cN hb with ⟨j,u,rfl,e⟩ | ⟨y,u,rfl,e⟩
   ·injection e with e1 _; rw [e1]
   ·exact nomatch e
  ·rcases cN hb with ⟨j,u,rfl,e⟩ | ⟨y,u,rfl,e⟩
   ·exact nomatch e
   ·injection e with e1 _; rw [e1]
 byValue:=λk v h=>by
  rcases cN h with ⟨i,t,rfl,rfl⟩ | ⟨x,t,rfl,rfl⟩ <;> rfl
 pyHash:=λhv h=>by
  rcases cN hv with ⟨i,t,rfl,rfl⟩ | ⟨x,t,rfl,rfl⟩
  ·exact wpAny_pyHash_int h
  ·exact wpAny_pyHash_str h
 eqBool:=λhu hv h=>by
  rcases cN hu with ⟨i,t,rfl,rfl⟩ | ⟨x,t,rfl,rfl⟩
  ·rcases cN hv with ⟨j,u,rfl,rfl⟩ | ⟨y,u,rfl,rfl⟩
   ·rw [ES] at h; exact wpAny_eqBool_int h
   ·rw [Fh] at h; exact SeqAt.EqAt.int_str i t y u _ _ _ _ h
  ·rcases cN hv with ⟨j,u,rfl,rfl⟩ | ⟨y,u,rfl,rfl⟩
   ·rw [Fs] at h; exact SeqAt.EqAt.str_int x t j u _ _ _ _ h
   ·rw [EU] at h; exact wpAny_eqBool_str h
 «strs»:=λk x t v h=>by
  rcases cN h with ⟨i,u,rfl,e⟩ | ⟨y,u,rfl,e⟩
  ·exact nomatch e
  ·injection e with e1 _
   subst e1;cases v <;> rfl
inductive V where
 | non | bl (b:KA) | int (i:Int) | str (x:Str) | byt (b:Kz UInt8) | flt (b:UInt64) | ref (a:Kr) | ty (n:KB)
 deriving DecidableEq
def b7:V->Kq->Prop
 | .non,u=>u=Value.none
 | .bl b,u=>u=Value.bool b
 | .int i,u=>∃ t,u=Value.int i t
 | .str x,u=>∃ t,u=Value.str x t
 | .byt b,u=>∃ t,u=Value.bytes b t
 | .flt b,u=>∃ t,u=Value.float b t
 | .ref a,u=>u=Value.ref a
 | .ty n,u=>u=Value.type n
abbrev bu:List V->List Kq->Prop:=Paired b7
theorem bu.length {xs:List V} {us:List Kq} (r:bu xs us):xs.length=us.length:=Paired.length r
theorem bu.get:∀ {xs:List V} {us:List Kq} {i:Nat} {x:V},bu xs us->xs[i]?=some x->∃ u,us[i]?=some u/\b7 x u
 | _,_,_,_,.nil,e=>by simp at e
 | _,_,0,_,.cons r _,e=>by simp at e; subst e; exact⟨_,rfl,r⟩
 | _,_,i+1,x,.cons _ t,e=>by
  obtain⟨u,h1,h2⟩:=bu.get (i:=i) (x:=x) t (by simpa using e)
  exact⟨u,by simpa using h1,h2⟩
theorem bu.set {x:V} {u:Kq} (r:b7 x u):∀ {xs:List V} {us:List Kq} (i:Nat),bu xs us->bu (xs.set i x) (us.set i u)
 | _,_,_,.nil=>.nil
 | _,_,0,.cons _ t=>.cons r t
 | _,_,i+1,.cons q t=>.cons q (bu.set r i t)
theorem bu.append:∀ {xs ys:List V} {us ws:List Kq},bu xs us->bu ys ws->bu (xs++ys) (us++ws)
 | _,_,_,_,.nil,s=>s
 | _,_,_,_,.cons r t,s=>.cons r (bu.append t s)
theorem bu.take:∀ {xs:List V} {us:List Kq} (n:Nat),bu xs us->bu (xs.take n) (us.take n)
 | _,_,0,_=>.nil
 | _,_,_+1,.nil=>.nil
 | _,_,n+1,.cons r t=>.cons r (bu.take n t)
theorem bu.drop:∀ {xs:List V} {us:List Kq} (n:Nat),bu xs us->bu (xs.drop n) (us.drop n)
 | _,_,0,r=>r
 | _,_,_+1,.nil=>.nil
 | _,_,n+1,.cons _ t=>bu.drop n t
def GF:Ks V->Ks Kq->Prop
 | some v,some u=>b7 v u
 | none,none=>True
 | _,_=>False
def KV {κ:Type}:List (κ×V)->List (κ×Kq)->Prop:=Paired fun(p:κ×V) (q:κ×Kq)=>p.1=q.1/\b7 p.2 q.2
def kV:sW->V
 | .inl i=>.int i
 | .inr x=>.str x
inductive HO where
 | lst (xs:List V)
 | tup (xs:List V)
 | dK (kvs:List (sW×V)) | dT (kvs:List (List sW×V))
 | set (S:Int->KA) (n:Nat)
 | ins (C dx:Kr) (fs:List (Str×V))
 | own (x:Kr)
 | xd (fs:List (Str×V))
 | met (f x:Kr)
 | rng (lo hi:Int)
 | frz (o:KC) (u:HO)
 | tbl (ps:Kz Kq)
 | ext (φ:Kx->Prop)
abbrev Hp:=Kr->Ks HO
def cb (H:Hp) (a:Kr) (o:HO):Hp:=λb=>if b=a then some o else H b
theorem cA {H:Hp} {a:Kr} {o:HO}:cb H a o a=some o:=by unfold cb; rw [if_pos rfl]
theorem aM {H:Hp} {a b:Kr} {o:HO} (h:b≠a):cb H a o b=H b:=by unfold cb; rw [if_neg h]
theorem bt {H:Hp} {a b:Kr} {o:HO} (h:H a=some o) (h':H b=none):a≠b:=by
 intro e; subst e; rw [h] at h'; cases h'
section
variable (P:Ku) (w:Kw)
def fw (H:Hp) (h:Kx) (a:Kr):HO->Prop
 | .lst xs=>xs.length<=sizeLine/\∃ (its:List Kq) (n:Nat),bu xs its/\h.get? a=some {cls:=.type "list",data:=.seq its.toArray n}
 | .tup xs=>xs.length<=sizeLine/\∃ its:List Kq,bu xs its/\IsTup h a its.toArray
 | .dK kvs=>kvs.length<=sizeLine/\(a == sysModules)=false/\∃ vs,KV kvs vs/\h.DictOf (wA P w) a vs
 | .dT kvs=>kvs.length<=sizeLine/\(a == sysModules)=false/\∃ xs:List (List sW×Kr×Kq),
   Paired (λ(p:List sW×V) (q:List sW×Kr×Kq)=>p.1=q.1/\H q.2.1=some (.tup (p.1.map kV))/\b7 p.2 q.2.2) kvs xs/\
   ∃ o es ep,h.get? a=some o/\o.ExactDict/\o.data=.dict es ep/\es.toList=xs.map (entryOfKey (tupleKind (wA P w)))/\(xs.map (·.1)).Nodup
 | .set S n=>h.SetOf (intKind P w) a S n
 | .ins C dx fs=>H dx=some (.own a)/\fs.length<=1000/\dx≠a/\h.get? a=some (PySem.W.instObj C dx)/\
   ∃ mA,h.Ns1 dx mA/\(∀ f,GF (fs.lookup f) (mA f))/\PySem.Within mA (fs.map (·.1))
 | .own _=>∃ o,h.get? a=some o
 | .xd fs=>∃ mA,h.Ns1 a mA/\∀ f,GF (fs.lookup f) (mA f)
 | .rng lo hi=>∃ t u v,h.get? a=some {cls:=.type "range",data:=.fields #[.int lo t,.int hi u,.int 1 v]}
 | .frz o u=>h.get? a=some o/\fw H h a u
 | .tbl ps=>h.get? a=some {cls:=.none,data:=.fields ps}
 | .met f x=>h.get? a=some (PySem.W.methodObj (.ref f) (.ref x))
 | .ext φ=>φ h/\(∃ o,h.get? a=some o)/\∀ h1 h2:Kx,φ h1->(∀ o,h1.get? a=some o->h2.get? a=some o)->φ h2
def mv (H:Hp) (h:Kx):Prop:=∀ a o,H a=some o->fw P w H h a o
end
section
variable {P:Ku} {w:Kw} {H H':Hp} {h h':Kx} {a:Kr} {o:HO}
theorem fw.lt (x:fw P w H h a o):a < h.objs.size:=by
 cases o with
 | lst xs=>obtain⟨_,_,_,_,e⟩:=x; exact Jv e
 | tup xs=>obtain⟨_,_,_,p⟩:=x; exact p.lt
 | dK kvs=>obtain⟨_,_,_,_,o,_,_,e,_⟩:=x; exact Jv e
 | dT kvs=>obtain⟨_,_,_,_,o,_,_,e,_⟩:=x; exact Jv e
 | set S n=>obtain⟨o,_,_,_,e,_⟩:=x; exact Jv e
 | ins C dx fs=>obtain⟨_,_,_,e,_⟩:=x; exact Jv e
 | own y=>obtain⟨_,e⟩:=x; exact Jv e
 | xd fs=>obtain⟨_,⟨_,_,_,e,_⟩,_⟩:=x; exact Jv e
 | rng lo hi=>obtain⟨_,_,_,e⟩:=x; exact Jv e
 | frz ob u=>obtain⟨e,_⟩:=x; exact Jv e
 | tbl ps=>exact Jv (show h.get? a=some _ from x)
 | met f y=>exact Jv (show h.get? a=some _ from x)
 | ext φ=>obtain⟨_,⟨_,e⟩,_⟩:=x; exact Jv e
theorem Paired.mapP {α β:Type} {F G:α->β->Prop}:∀ {l₁:List α} {l₂:List β},Paired F l₁ l₂->(∀ a b,F a b->G a b)->Paired G l₁ l₂
 | _,_,.nil,_=>.nil
 | _,_,.cons r t,f=>.cons (f _ _ r) (Paired.mapP t f)
theorem fw.stay (x:fw P w H h a o) (k:∀ b u,(b=a\/H b=some (.own a))->h.get? b=some u->h'.get? b=some u)
  (ho:∀ b,H b=some (.own a)->H' b=some (.own a)) (ht:∀ b xs,H b=some (.tup xs)->H' b=some (.tup xs)):fw P w H' h' a o:=by
 induction o with
 | lst xs=>obtain⟨z,its,n,r,e⟩:=x; exact⟨z,its,n,r,k _ _ (.inl rfl) e⟩
 | tup xs=>obtain⟨z,its,r,ob,e,c⟩:=x; exact⟨z,its,r,ob,k _ _ (.inl rfl) e,c⟩
 | dK kvs=>obtain⟨z,y,vs,r,ob,es,ep,e,c⟩:=x; exact⟨z,y,vs,r,ob,es,ep,k _ _ (.inl rfl) e,c⟩
 | dT kvs=>
  obtain⟨z,y,xs,r,ob,es,ep,e,c⟩:=x;exact⟨z,y,xs,Paired.mapP r λp q z=>⟨z.1,ht _ _ z.2.1,z.2.2⟩,ob,es,ep,k _ _ (.inl rfl) e,c⟩
 | set S n=>obtain⟨ob,es,ep,t,e,c⟩:=x; exact⟨ob,es,ep,t,k _ _ (.inl rfl) e,c⟩
 | ins C dx fs=>
  obtain⟨d,z,ne,e,mA,⟨od,es,ep,e2,c⟩,r⟩:=x;exact⟨ho _ d,z,ne,k _ _ (.inl rfl) e,mA,⟨od,es,ep,k _ _ (.inr d) e2,c⟩,r⟩
 | own y=>obtain⟨ob,e⟩:=x; exact⟨ob,k _ _ (.inl rfl) e⟩
 | xd fs=>obtain⟨mA,⟨od,es,ep,e,c⟩,r⟩:=x; exact⟨mA,⟨od,es,ep,k _ _ (.inl rfl) e,c⟩,r⟩
 | rng lo hi=>obtain⟨t,u,v,e⟩:=x; exact⟨t,u,v,k _ _ (.inl rfl) e⟩
 | frz ob u ih=>obtain⟨e,q⟩:=x; exact⟨k _ _ (.inl rfl) e,ih q⟩
 | tbl ps=>
  have e:h.get? a=some {cls:=.none,data:=.fields ps}:=x
  show h'.get? a=some {cls:=.none,data:=.fields ps}
  exact k a _ (.inl rfl) e
 | met f y=>
  have e:h.get? a=some (PySem.W.methodObj (.ref f) (.ref y)):=x
  show h'.get? a=some (PySem.W.methodObj (.ref f) (.ref y))
  exact k a _ (.inl rfl) e
 | ext φ=>obtain⟨p,⟨o,e⟩,st⟩:=x; exact⟨st _ _ p λo q=>k _ _ (.inl rfl) q,⟨o,k _ _ (.inl rfl) e⟩,st⟩
theorem mv.lt (x:mv P w H h) (e:H a=some o):a < h.objs.size:=(x a o e).lt
theorem mv.fresh (x:mv P w H h) (e:h.objs.size<=a):H a=none:=by
 cases q:H a with
 | none=>rfl
 | some u=>exact absurd (JG (x.lt q) e) (Kg _)
theorem mv.kept (x:mv P w H h) (k:∀ b u,h.get? b=some u->h'.get? b=some u):mv P w H h':=λa o e=>
 (x a o e).stay (λb u _ q=>k b u q) (λ_ q=>q) λ_ _ q=>q
theorem mv.laid (x:mv P w H h) (k:∀ b u,h.get? b=some u->h'.get? b=some u) (hp:h.objs.size<=a) (new:fw P w (cb H a o) h' a o):mv P w (cb H a o) h':=λb u e=>by
 have hn:=x.fresh hp
 by_cases hb:b=a
 ·subst hb; rw [cA] at e; cases e; exact new
 ·rw [aM hb] at e;exact(x b u e).stay (λc v _ q=>k c v q) (λc q=>by rw [aM (bt q hn)]; exact q) λc xs q=>by rw [aM (bt q hn)]; exact q
end
def Rd (H:Hp) (a:Kr) (u:HO):Prop:=H a=some u\/∃ o,H a=some (.frz o u)
theorem Rd.ok {P:Ku} {w:Kw} {H:Hp} {h:Kx} {a:Kr} {u:HO} (r:Rd H a u) (x:mv P w H h):fw P w H h a u:=by
 rcases r with r | ⟨o,r⟩
 ·exact x a u r
 ·obtain⟨_,q⟩:=x a _ r;exact q
def Hm:Ks HO->Prop
 | some (.lst _)=>True
 | some (.dK _)=>True
 | some (.dT _)=>True
 | some (.set _ _)=>True
 | some (.ins _ _ _)=>True
 | some (.ext _)=>True
 | _=>False
section
variable {P:Ku} {w:Kw} {H:Hp} {h h':Kx} {x e:Kr} {o':HO}
theorem mv.write (ok:mv P w H h) (mu:Hm (H x)) (he:e=x\/H e=some (.own x)) (k:∀ b u,b≠e->h.get? b=some u->h'.get? b=some u) (heo:∃ u,h'.get? e=some u)
  (new:fw P w (cb H x o') h' x o'):mv P w (cb H x o') h':=λb u q=>by
 have nown:∀ c y,H c=some (.own y)->c≠x:=λc y r z=>by subst z; rw [r] at mu; exact mu
 have ntup:∀ c xs,H c=some (.tup xs)->c≠x:=λc xs r z=>by subst z; rw [r] at mu; exact mu
 by_cases hb:b=x
 ·subst hb; rw [cA] at q; cases q; exact new
 ·rw [aM hb] at q
  by_cases hbe:b=e
  ·have q':H b=some (.own x):=by
    rcases he with z | z
    ·exact absurd (hbe.trans z) hb
    ·rw [hbe]; exact z
   rw [q] at q'; cases q'
   obtain⟨v,hv⟩:=heo;exact⟨v,by rw [hbe]; exact hv⟩
  ·refine(ok b u q).stay (λc v hc r=>k c v ?_ r) (λc r=>by rw [aM (nown c b r)]; exact r) λc xs r=>by rw [aM (ntup c xs r)]; exact r
   rcases hc with rfl | hc
   ·exact hbe
   ·rintro rfl;rcases he with z | z
    ·exact nown c b hc z
    ·rw [hc] at z; cases z; exact hb rfl
end
structure Un (fs ex:List Kr) (H H':Hp) (h h':Kx):Prop where
 keep:∀ b o,h.get? b=some o->H b=none->b∉fs->b∉ex->h'.get? b=some o
 slot:∀ b o,h.get? b=some o->H b=none->b∈fs->b∉ex->∃ sl,h'.get? b=some {o with slots:=sl}
 free:∀ b o,h.get? b=some o->H b=none->b∉ex->H' b=none
 there:∀ b o,h.get? b=some o->b∉ex->∃ o',h'.get? b=some o'
 tups:∀ b xs,H b=some (.tup xs)->H' b=some (.tup xs)
 frzs:∀ b o u,H b=some (.frz o u)->H' b=some (.frz o u)
 tbls:∀ b ps,H b=some (.tbl ps)->∃ more,H' b=some (.tbl (ps++more))
section
variable {fs fs' ex ex':List Kr} {H H1 H2:Hp} {h h1 h2 h':Kx} {a x e:Kr} {o:HO}
theorem Un.any (u:Un fs ex H H1 h h1) {b:Kr} {ob:KC} (q:h.get? b=some ob) (n:H b=none) (hx:b∉ex):∃ sl,h1.get? b=some {ob with slots:=sl}:=by
 by_cases hb:b∈fs
 ·exact u.slot b ob q n hb hx
 ·exact⟨ob.slots,u.keep b ob q n hb hx⟩
theorem Un.trans (a:Un fs ex H H1 h h1) (b:Un fs ex H1 H2 h1 h2):Un fs ex H H2 h h2 where
 keep:=λc ob q n hc hx=>b.keep c ob (a.keep c ob q n hc hx) (a.free c ob q n hx) hc hx
 slot:=λc ob q n hc hx=>by
  obtain⟨sl,e1⟩:=a.slot c ob q n hc hx;obtain⟨sl',e2⟩:=b.slot c _ e1 (a.free c ob q n hx) hc hx;exact⟨sl',e2⟩
 free:=λc ob q n hx=>by
  obtain⟨o',e1⟩:=a.there c ob q hx;exact b.free c o' e1 (a.free c ob q n hx) hx
 there:=λc ob q hx=>by
  obtain⟨o',e1⟩:=a.there c ob q hx;exact b.there c o' e1 hx
 tups:=λc xs q=>b.tups c xs (a.tups c xs q)
 frzs:=λc ob xs q=>b.frzs c ob xs (a.frzs c ob xs q)
 tbls:=λc ps q=>by
  obtain⟨m1,e1⟩:=a.tbls c ps q;obtain⟨m2,e2⟩:=b.tbls c _ e1;exact⟨m1++m2,by rw [e2,Array.append_assoc]⟩
theorem Un.kept (k:∀ b u,h.get? b=some u->h'.get? b=some u):Un fs ex H H h h':=
 ⟨λb ob q _ _ _=>k b ob q,λb ob q _ _ _=>⟨ob.slots,k b ob q⟩,λ_ _ _ n _=>n,λb ob q _=>⟨ob,k b ob q⟩,λ_ _ q=>q,λ_ _ _ q=>q,λ_ ps q=>⟨#[],by rw [q]; simp⟩⟩
theorem Un.refl:Un fs ex H H h h:=Un.kept λ_ _ q=>q
theorem Un.laid (k:∀ b u,h.get? b=some u->h'.get? b=some u) (hp:h.objs.size<=a) (hn:H a=none):Un fs ex H (cb H a o) h h' where
 keep:=λb u q _ _ _=>k b u q
 slot:=λb u q _ _ _=>⟨u.slots,k b u q⟩
 free:=λb u q n _=>by rw [aM (JC (JG (Jv q) hp))]; exact n
 there:=λb u q _=>⟨u,k b u q⟩
 tups:=λb xs q=>by rw [aM (bt q hn)]; exact q
 frzs:=λb u xs q=>by rw [aM (bt q hn)]; exact q
 tbls:=λb ps q=>⟨#[],by rw [aM (bt q hn),q]; simp⟩
theorem Un.write (mu:Hm (H x)) (he:e=x\/H e=some (.own x)) (k:∀ b u,b≠e->h.get? b=some u->h'.get? b=some u) (heo:∃ u,h'.get? e=some u):Un fs ex H (cb H x o) h h':=by
 have hx:∀ b,H b=none->b≠x:=λb n z=>by subst z; rw [n] at mu; exact mu
 have hb:∀ b,H b=none->b≠e:=λb n z=>by
  subst z;rcases he with r | r
  ·exact hx b n r
  ·rw [n] at r; cases r
 have hm:∀ b u,H b=some u->¬ Hm (some u)->b≠x:=λb u q nm z=>by subst z; rw [q] at mu; exact nm mu
 refine⟨λb u q n _ _=>k b u (hb b n) q,λb u q n _ _=>⟨u.slots,k b u (hb b n) q⟩,λb u q n _=>by rw [aM (hx b n)]; exact n,λb u q _=>?_,
  λb xs q=>by rw [aM (hm b _ q λz=>z)]; exact q,λb u xs q=>by rw [aM (hm b _ q λz=>z)]; exact q,λb ps q=>⟨#[],by rw [aM (hm b _ q λz=>z),q]; simp⟩⟩
 by_cases hbe:b=e
 ·subst hbe; exact heo
 ·exact⟨u,k b u hbe q⟩
end
def Hi (h:Kx) (H:Hp):List Kr:=(List.range h.objs.size).filter λa=>(H a).isSome
def pS (h:Kx) (H:Hp):Kx:=PySem.W.hideAll h (Hi h H)
theorem x_ (h:Kx) (H:Hp):(pS h H).objs.size=h.objs.size:=PySem.W.hideAll_size _ _
theorem yL {h:Kx} {H:Hp} {b:Kr} {o:KC} (e:h.get? b=some o) (n:H b=none):(pS h H).get? b=some o:=
 PySem.W.hideAll_get _ e λhm=>by
  have q:(H b).isSome=true:=(List.mem_filter.mp hm).2;rw [n] at q; simp at q
theorem CH {h:Kx} {H:Hp} {b:Kr} {o:KC} (e:(pS h H).get? b=some o):h.get? b=some o/\H b=none:=by
 have e':h.get? b=some o:=PySem.W.of_hideAll (Hi h H) e;refine⟨e',?_⟩;cases q:H b with
 | none=>rfl
 | some x=>
  have hm:b∈Hi h H:=List.mem_filter.mpr ⟨List.mem_range.mpr (Jv e'),by simp [q]⟩
  have z:(pS h H).get? b=none:=PySem.W.hideAll_none (Hi h H) hm;rw [z] at e; cases e
def Bb (g h:Kx) (L:Kr):List (Kr×KC):=(List.range h.objs.size).filterMap λa=>if a=L\/(g.get? a).isSome=true then none else(h.get? a).map λo=>(a,o)
def kh (g h:Kx) (L d:Kr):List (Kr×KC):=(Bb g h L).filter λp=>decide (p.1≠d)
structure Mod (K:PySem.W.Frag) (mg:Str->Ks Kq) (base:Kx):Prop where
 kin:K.In base
 glob:base.Ns mainGlobals mg
 blt:∃ mb,base.Ns builtinsNs mb/\∀ x:Str,x≠"__name__"->mb x=bootBuiltins x
 nolimit:base.NoLimit
structure Cx where
 prog:Ku
 w:Kw
 K:PySem.W.Frag
 mg:Str->Ks Kq
 base:Kx
 A:Kv
 N:List Str
 s₀:Ko
 H₀:Hp
 env:Env
 outer:List Env
 stack:List Env
 ex:List Kr
 fn:Str->KA
 calm:KA
 pn:List (Kr×KC)
 xe:Kq->Ko->Prop
def f_ (l:List Env):List Kr:=l.filterMap (·.frame)
abbrev Cx.fs (X:Cx):List Kr:=f_ X.outer
def u7 (sc:Scope) (x:Str):Prop:=sc.names.lookup x=some .local\/sc.names.lookup x=some .cell\/sc.names.lookup x=some .free
def yr (sc:Scope) (x:Str):Prop:=sc.names.lookup x=some .local\/sc.names.lookup x=some .cell
def Ho (env:Env) (h:Kx) (m:Str->Ks Kq) (x:Str) (u:Kq):Prop:=
 (env.kindOf x=some .local/\m x=some u)\/((env.kindOf x=some .cell\/env.kindOf x=some .free)/\∃ c,env.cells.lookup x=some c/\h.IsCell c (some u))
structure Cx.Ok (X:Cx):Prop where
 mod:Mod X.K X.mg X.base
 kind:X.env.scope.kind=.function
 glob:X.env.globals=mainGlobals
 blt:X.env.builtins=builtinsNs
 above:X.s₀.heap.objs.size<=X.env.locals
 inj:∀ x y c,X.env.cells.lookup x=some c->X.env.cells.lookup y=some c->x=y
 has:∀ x,(X.env.kindOf x=some .cell\/X.env.kindOf x=some .free)->∃ c,X.env.cells.lookup x=some c
 cab:∀ x c,X.fn x=true->X.env.cells.lookup x=some c->X.s₀.heap.objs.size<=c
 hd:X.calm=true->X.A.handled=none
 frames:X.A.frames=some X.stack
 stk:X.stack=X.outer\/(X.stack=X.env::X.outer/\X.env.frame=some X.env.locals)
 exf:∀ b∈X.ex,b≠X.env.locals/\∀ x c,X.env.cells.lookup x=some c->c≠b
 bs:∀ b o,X.base.get? b=some o->X.s₀.heap.get? b=some o/\X.H₀ b=none
 bsz:X.base.objs.size<=X.s₀.heap.objs.size
 noex:∀ b o,X.base.get? b=some o->b∉X.ex
 exfs:∀ b∈X.ex,b∉X.fs
 funs:X.s₀.heap.FunFrames X.base X.outer
 frf:∀ b∈X.fs,X.H₀ b=none
structure aI (X:Cx) (KD:List (Kr×KC)) (σ:List (Ks V)) (H:Hp) (s:Ko):Prop where
 ok:X.Ok
 os:s.os=X.s₀.os
 bare:AllBare s.gens
 base:Un X.fs X.ex X.H₀ H X.s₀.heap s.heap
 loc:∃ m,s.heap.Ns X.env.locals m/\∀ (i:Nat) (x:Str) (v:V),X.N[i]?=some x->σ[i]?=some (some v)->u7 X.env.scope x->∃ u,b7 v u/\Ho X.env s.heap m x u
 cell:∀ x c,X.env.cells.lookup x=some c->∃ v,s.heap.IsCell c v
 free:H X.env.locals=none
 freeC:∀ x c,X.env.cells.lookup x=some c->H c=none
 pin:∀ p∈X.pn++KD,s.heap.get? p.1=some p.2/\H p.1=none/\p.1≠X.env.locals/\p.1∉X.fs/\∀ v,p.2.data≠.cell v
 hok:mv X.prog X.w H s.heap
 len:σ.length=X.N.length
section
variable {X:Cx} {KD:List (Kr×KC)} {σ:List (Ks V)} {H H':Hp} {s:Ko} {h':Kx}
theorem Cx.Ok.nofr (ok:X.Ok) {b:Kr} {o:KC} (e:X.base.get? b=some o):b∉X.fs:=λhb=>by
 have:=(ok.funs.mem hb).1;rw [e] at this; cases this
theorem aI.bs (I:aI X KD σ H s):∀ b o,X.base.get? b=some o->s.heap.get? b=some o/\H b=none:=λb o e=>
 ⟨I.base.keep b o (I.ok.bs b o e).1 (I.ok.bs b o e).2 (I.ok.nofr e) (I.ok.noex b o e),I.base.free b o (I.ok.bs b o e).1 (I.ok.bs b o e).2 (I.ok.noex b o e)⟩
theorem aI.bk (I:aI X KD σ H s):∀ b o,X.base.get? b=some o->s.heap.get? b=some o:=λb o e=>(I.bs b o e).1
theorem aI.mod (I:aI X KD σ H s):Mod X.K X.mg X.base:=I.ok.mod
theorem aI.kIn (I:aI X KD σ H s):X.K.In s.heap:=I.ok.mod.kin.keeps I.bk
theorem aI.nolimit (I:aI X KD σ H s):s.heap.NoLimit:=I.ok.mod.nolimit.keeps I.bk
theorem aI.lt (I:aI X KD σ H s):X.env.locals < s.heap.objs.size:=let ⟨_,hn,_⟩:=I.loc; hn.lt
theorem aI.sz (I:aI X KD σ H s):X.s₀.heap.objs.size<=s.heap.objs.size:=J7 I.ok.above (Nat.le_of_lt I.lt)
theorem aI.nofs (I:aI X KD σ H s) {a:Kr} (h:s.heap.objs.size<=a):a∉X.fs:=λhb=>by
 obtain⟨_,o,ho,_⟩:=I.ok.funs.mem hb;exact absurd (JG (Jv ho) (J7 I.sz h)) (Kg _)
theorem aI.cne (I:aI X KD σ H s):∀ x c,X.env.cells.lookup x=some c->c≠X.env.locals:=λx c e z=>by
 obtain⟨v,o,ho,hd⟩:=I.cell x c e;obtain⟨m,⟨o',es,ep,ho',hd',_⟩,_⟩:=I.loc;rw [z,ho'] at ho; cases ho; rw [hd'] at hd; cases hd
theorem aI.funs (I:aI X KD σ H s):s.heap.FunFrames X.base X.outer:=by
 have all:∀ (l:List Env),(∀ b∈f_ l,b∈X.fs)->X.s₀.heap.FunFrames X.base l->s.heap.FunFrames X.base l:=by
  intro l
  induction l with
  | nil=>intro _ _; trivial
  | cons env r ih=>
   intro hs hl;obtain⟨hk,⟨L,o,hf,hn,ho,hd⟩,hr⟩:=hl;have hL:L∈X.fs:=hs L (by unfold f_; rw [List.filterMap_cons,hf]; exact JD)
   obtain⟨sl,e⟩:=I.base.slot L o ho (I.ok.frf L hL) hL λz=>I.ok.exfs L z hL
   exact⟨hk,⟨L,_,hf,hn,e,hd⟩,ih (λb hb=>hs b (by unfold f_; rw [List.filterMap_cons,hf]; exact JE _ hb)) hr⟩
 exact all X.outer (λ_ hb=>hb) I.ok.funs
theorem aI.stack (I:aI X KD σ H s):s.heap.FunFrames X.base X.stack:=by
 rcases I.ok.stk with e | ⟨e,hf⟩
 ·rw [e]; exact I.funs
 ·rw [e];obtain⟨m,hn,_⟩:=I.loc;refine .cons (by rw [I.ok.kind]; decide) hf hn ?_ I.funs
  exact Heap.get?_none_of_le (J7 I.ok.bsz I.ok.above)
theorem aI.stkSub (I:aI X KD σ H s):∀ b∈f_ X.stack,b∈X.env.locals::X.fs:=λb hb=>by
 rcases I.ok.stk with e | ⟨e,hf⟩
 ·rw [e] at hb; exact JE _ hb
 ·rw [e] at hb;unfold f_ at hb;rw [List.filterMap_cons,hf] at hb;exact hb
theorem aI.stkFree (I:aI X KD σ H s):∀ b∈f_ X.stack,H b=none:=λb hb=>by
 rcases JB.mp (I.stkSub b hb) with e | hb
 ·rw [e]; exact I.free
 ·obtain⟨_,o,ho,_⟩:=I.ok.funs.mem hb;exact I.base.free b o ho (I.ok.frf b hb) λz=>I.ok.exfs b z hb
theorem aI.step {g':Kz GenState} {t':Nat} {d':Drawn} {ch:List Kr} (I:aI X KD σ H s)
  (hch:∀ b∈ch,(b∈X.ex\/X.s₀.heap.objs.size<=b)/\b≠X.env.locals/\(∀ x c,X.env.cells.lookup x=some c->c≠b)/\∀ p∈X.pn++KD,p.1≠b)
  (keep:∀ b o,b≠X.env.locals->b∉X.fs->b∉ch->s.heap.get? b=some o->H b=none->h'.get? b=some o)
  (slot:∀ b o,b≠X.env.locals->b∈X.fs->b∉ch->s.heap.get? b=some o->H b=none->∃ sl,h'.get? b=some {o with slots:=sl}) (free:∀ b o,b∉ch->s.heap.get? b=some o->H b=none->H' b=none)
  (there:∀ b o,b∉ch->s.heap.get? b=some o->∃ o',h'.get? b=some o')
  (tups:∀ b xs,H b=some (.tup xs)->H' b=some (.tup xs)) (frzs:∀ b o u,H b=some (.frz o u)->H' b=some (.frz o u)) (tbls:∀ b ps,H b=some (.tbl ps)->∃ more,H' b=some (.tbl (ps++more)))
  (ns:∀ m,s.heap.Ns X.env.locals m->h'.Ns X.env.locals m) (hok:mv X.prog X.w H' h') (hg:AllBare g'):
  aI X KD σ H' {s with heap:=h',gens:=g',drawn:=d',toks:=t'}:=by
 have neL:∀ b o,X.s₀.heap.get? b=some o->b≠X.env.locals:=λb o e=>JC (JG (Jv e) I.ok.above)
 have neC:∀ b o,X.s₀.heap.get? b=some o->b∉X.ex->b∉ch:=λb o e hx hb=>by
  rcases(hch b hb).1 with z | z
  ·exact hx z
  ·exact absurd (JG (Jv e) z) (Kg _)
 have cellK:∀ x c,X.env.cells.lookup x=some c->∀ v,s.heap.IsCell c v->h'.IsCell c v:=λx c e v ⟨o,ho,hd⟩=>by
  have nch:c∉ch:=λz=>(hch c z).2.2.1 x c e rfl
  by_cases hc:c∈X.fs
  ·obtain⟨sl,q⟩:=slot c o (I.cne x c e) hc nch ho (I.freeC x c e);exact⟨_,q,hd⟩
  ·exact⟨o,keep c o (I.cne x c e) hc nch ho (I.freeC x c e),hd⟩
 refine⟨I.ok,I.os,hg,⟨λb o e n hb hx=>?_,λb o e n hb hx=>?_,λb o e n hx=>?_,λb o e hx=>?_,λb xs e=>tups b xs (I.base.tups b xs e),λb o xs e=>frzs b o xs (I.base.frzs b o xs e),λb ps e=>?_⟩,?_,λx c e=>?_,?_,λx c e=>?_,λp hp=>?_,hok,I.len⟩
 ·exact keep b o (neL b o e) hb (neC b o e hx) (I.base.keep b o e n hb hx) (I.base.free b o e n hx)
 ·obtain⟨sl,e1⟩:=I.base.slot b o e n hb hx;obtain⟨sl',e2⟩:=slot b _ (neL b o e) hb (neC b o e hx) e1 (I.base.free b o e n hx);exact⟨sl',e2⟩
 ·obtain⟨o',e1⟩:=I.base.there b o e hx;exact free b o' (neC b o e hx) e1 (I.base.free b o e n hx)
 ·obtain⟨o',e1⟩:=I.base.there b o e hx;exact there b o' (neC b o e hx) e1
 ·obtain⟨m1,e1⟩:=I.base.tbls b ps e;obtain⟨m2,e2⟩:=tbls b _ e1;exact⟨m1++m2,by rw [e2,Array.append_assoc]⟩
 ·obtain⟨m,hn,hl⟩:=I.loc;refine⟨m,ns m hn,λi x v e1 e2 e3=>?_⟩
  obtain⟨u,r,l⟩:=hl i x v e1 e2 e3;refine⟨u,r,?_⟩;rcases l with l | ⟨k,c,e,z⟩
  ·exact .inl l
  ·exact .inr ⟨k,c,e,cellK x c e _ z⟩
 ·obtain⟨v,z⟩:=I.cell x c e;exact⟨v,cellK x c e v z⟩
 ·obtain⟨m,⟨o,_,_,ho,_⟩,_⟩:=I.loc;exact free _ o (λz=>(hch _ z).2.1 rfl) ho I.free
 ·obtain⟨v,o,ho,hd⟩:=I.cell x c e;exact free c o (λz=>(hch c z).2.2.1 x c e rfl) ho (I.freeC x c e)
 ·obtain⟨e,n,ne,nf,d⟩:=I.pin p hp;have nch:p.1∉ch:=λz=>(hch p.1 z).2.2.2 p hp rfl
  exact⟨keep p.1 p.2 ne nf nch e n,free p.1 p.2 nch e n,ne,nf,d⟩
theorem aI.un {t':Nat} (I:aI X KD σ H s) (u:Un X.fs [] H H' s.heap h') (hok:mv X.prog X.w H' h'):aI X KD σ H' {s with heap:=h',toks:=t'}:=by
 obtain⟨m,⟨o,es,ep,ho,r⟩,_⟩:=id I.loc;obtain⟨sl,hL⟩:=u.any ho I.free (by simp)
 exact I.step (g':=s.gens) (d':=s.drawn) (ch:=[]) (λ_ z=>nomatch z) (λb o _ hb _ e n=>u.keep b o e n hb (by simp)) (λb o _ hb _ e n=>u.slot b o e n hb (by simp)) (λb o _ e n=>u.free b o e n (by simp)) (λb o _ e=>u.there b o e (by simp)) u.tups u.frzs u.tbls (λm' hm=>by
  obtain⟨o',es',ep',ho',r'⟩:=hm;rw [ho] at ho'; cases ho'
  exact⟨_,es',ep',hL,r'⟩) hok I.bare
theorem aI.call {g':Kz GenState} {t':Nat} {d':Drawn} {ch:List Kr} (I:aI X KD σ H s) (u:Un (f_ X.stack) ch H H' s.heap h') (hok:mv X.prog X.w H' h') (hg:AllBare g')
  (hch:∀ b∈ch,(b∈X.ex\/X.s₀.heap.objs.size<=b)/\b≠X.env.locals/\(∀ x c,X.env.cells.lookup x=some c->c≠b)/\∀ p∈X.pn++KD,p.1≠b):
  aI X KD σ H' {s with heap:=h',gens:=g',drawn:=d',toks:=t'}:=by
 obtain⟨m,⟨o,es,ep,ho,r⟩,_⟩:=id I.loc;obtain⟨sl,hL⟩:=u.any ho I.free λz=>(hch _ z).2.1 rfl
 exact I.step (ch:=ch) hch (λb o hL hb hc e n=>u.keep b o e n (λz=>(JB.mp (I.stkSub b z)).elim hL hb) hc) (λb o _ _ hc e n=>u.any e n hc) (λb o hc e n=>u.free b o e n hc) (λb o hc e=>u.there b o e hc) u.tups u.frzs u.tbls (λm' hm=>by
  obtain⟨o',es',ep',ho',r'⟩:=hm;rw [ho] at ho'; cases ho'
  exact⟨_,es',ep',hL,r'⟩) hok hg
theorem aI.turned {t':Nat} {it:Kr} (I:aI X KD σ H s) (k:∀ b o,b≠it->s.heap.get? b=some o->h'.get? b=some o) (hn:H it=none) (hL:it≠X.env.locals)
  (h1:it∈X.ex\/X.s₀.heap.objs.size<=it) (h2:∀ x c,X.env.cells.lookup x=some c->c≠it) (h3:∀ p∈X.pn++KD,p.1≠it):aI X KD σ H {s with heap:=h',toks:=t'}:=by
 have nit:∀ b u,H b=some u->b≠it:=λb u e z=>by rw [z,hn] at e; cases e
 refine I.step (g':=s.gens) (d':=s.drawn) (ch:=[it]) (λb hb=>?_) (λb o _ _ hc e _=>k b o (λz=>hc (by simp [z])) e) (λb o _ _ hc e _=>⟨o.slots,k b o (λz=>hc (by simp [z])) e⟩) (λ_ _ _ _ n=>n)
  (λb o hc e=>⟨o,k b o (λz=>hc (by simp [z])) e⟩) (λ_ _ e=>e) (λ_ _ _ e=>e) (λb ps e=>⟨#[],by rw [e]; simp⟩) (λm hm=>?_) (λb u e=>?_) I.bare
 ·have e:b=it:=by simpa using hb
  subst e;exact⟨h1,hL,h2,h3⟩
 ·obtain⟨o,es,ep,ho,r⟩:=hm;exact⟨o,es,ep,k _ o (Ne.symm hL) ho,r⟩
 ·refine(I.hok b u e).stay (λc v hc q=>k c v ?_ q) (λ_ q=>q) λ_ _ q=>q
  rcases hc with z | z
  ·rw [z]; exact nit b u e
  ·exact nit c _ z
theorem aI.tok (I:aI X KD σ H s) (t:Nat):aI X KD σ H {s with toks:=t}:=I.un (h':=s.heap) (t':=t) Un.refl I.hok
theorem aI.kept {t':Nat} (I:aI X KD σ H s) (k:∀ b u,s.heap.get? b=some u->h'.get? b=some u):aI X KD σ H {s with heap:=h',toks:=t'}:=I.un (Un.kept k) (I.hok.kept k)
theorem aI.laid {a:Kr} {o:HO} {t':Nat} (I:aI X KD σ H s) (k:∀ b u,s.heap.get? b=some u->h'.get? b=some u) (hp:s.heap.objs.size<=a) (new:fw X.prog X.w (cb H a o) h' a o):
  aI X KD σ (cb H a o) {s with heap:=h',toks:=t'}:=I.un (Un.laid k hp (I.hok.fresh hp)) (I.hok.laid k hp new)
theorem aI.write {x e:Kr} {o:HO} {t':Nat} (I:aI X KD σ H s) (mu:Hm (H x)) (he:e=x\/H e=some (.own x)) (k:∀ b u,b≠e->s.heap.get? b=some u->h'.get? b=some u) (heo:∃ u,h'.get? e=some u)
  (new:fw X.prog X.w (cb H x o) h' x o):aI X KD σ (cb H x o) {s with heap:=h',toks:=t'}:=I.un (Un.write mu he k heo) (I.hok.write mu he k heo new)
theorem aI.pins_of {pins':List (Kr×KC)} (I:aI X KD σ H s) (h:∀ p∈pins',s.heap.get? p.1=some p.2/\H p.1=none/\p.1≠X.env.locals/\p.1∉X.fs/\∀ v,p.2.data≠.cell v):aI X pins' σ H s:=
 ⟨I.ok,I.os,I.bare,I.base,I.loc,I.cell,I.free,I.freeC,λp hp=>(List.mem_append.mp hp).elim (λz=>I.pin p (List.mem_append_left _ z)) (h p),I.hok,I.len⟩
theorem tY {N:List Str} (hN:N.Nodup) {i j:Nat} {x:Str} (a:N[i]?=some x) (b:N[j]?=some x):i=j:=by
 obtain⟨h1,e1⟩:=J4.mp a;obtain⟨h2,e2⟩:=J4.mp b;exact(List.getElem_inj hN).mp (e1.trans e2.symm)
theorem yk {M:Model} {A:Kv} {E:Kq->Ko->Prop} {i:Nat} {x:Str} {v:V} {u:Kq} {Q:Unit->Ko->Prop} (I:aI X KD σ H s) (hN:X.N.Nodup) (hi:X.N[i]?=some x) (hx:yr X.env.scope x) (r:b7 v u)
  (h:∀ s',aI X KD (σ.set i (some v)) H s'->(∃ a,Heap.SameBut a s.heap s'.heap/\(a=X.env.locals\/X.env.cells.lookup x=some a))->Q () s') (hf:X.fn x=true\/X.env.scope.names.lookup x=some .local:=by first | exact .inl rfl | exact .inr rfl | assumption):wpAny M A (storeName X.env x u) Q E s:=by
 obtain⟨m,hn,hl⟩:=id I.loc;have hcls:(X.env.scope.kind == .class || (X.env.scope.kind == .module && X.env.locals != X.env.globals))=false:=by rw [I.ok.kind]; rfl
 have hiσ:i < σ.length:=by rw [I.len]; exact(J4.mp hi).1
 have cne:=I.cne;have tracked:∀ {a:Kr} {h':Kx},(∃ o,s.heap.get? a=some o/\H a=none)->Heap.SameBut a s.heap h'->mv X.prog X.w H h':=λ{a h'} ha hs b ob e=>by
  obtain⟨_,_,hfree⟩:=ha;refine(I.hok b ob e).stay (λc w' hc q=>(hs.2 c ?_).trans q) (λ_ q=>q) λ_ _ q=>q
  rintro rfl;rcases hc with rfl | hc
  ·rw [hfree] at e; cases e
  ·rw [hfree] at hc; cases hc
 rcases hx with hk | hk
 ·refine wpAny_storeName_local hk hn (λh' hn' hs=>?_) hcls
  obtain⟨oL,_,_,hoL,_⟩:=id hn;refine h _ ⟨I.ok,I.os,I.bare,⟨λb o e n hb hx=>?_,λb o e n hb hx=>?_,I.base.free,λb o e hx=>?_,I.base.tups,I.base.frzs,I.base.tbls⟩,⟨_,hn',λj y v' e1 e2 e3=>?_⟩,λy c e=>?_,I.free,I.freeC,λp hp=>?_,tracked ⟨oL,hoL,I.free⟩ hs,by simpa using I.len⟩ ⟨_,hs,.inl rfl⟩
  ·exact(hs.2 b (JC (JG (Jv e) I.ok.above))).trans (I.base.keep b o e n hb hx)
  ·obtain⟨sl,e1⟩:=I.base.slot b o e n hb hx;exact⟨sl,(hs.2 b (JC (JG (Jv e) I.ok.above))).trans e1⟩
  ·obtain⟨o',e1⟩:=I.base.there b o e hx;exact⟨o',(hs.2 b (JC (JG (Jv e) I.ok.above))).trans e1⟩
  ·by_cases hj:j=i
   ·subst hj;rw [hi] at e1; cases e1
    rw [List.getElem?_set_self hiσ] at e2;cases e2;exact⟨u,r,.inl ⟨hk,by simp⟩⟩
   ·rw [List.getElem?_set_ne (Ne.symm hj)] at e2;obtain⟨u',r',q⟩:=hl j y v' e1 e2 e3;refine⟨u',r',?_⟩;rcases q with ⟨k,e⟩ | ⟨k,c,e,z⟩
    ·refine .inl ⟨k,?_⟩;have:y≠x:=λe=>hj (tY hN e1 (e▸hi))
     simp [this,e]
    ·exact .inr ⟨k,c,e,z.sameBut hs (cne y c e)⟩
  ·obtain⟨w',z⟩:=I.cell y c e;exact⟨w',z.sameBut hs (cne y c e)⟩
  ·obtain⟨e,n,ne,nf,d⟩:=I.pin p hp;exact⟨(hs.2 p.1 ne).trans e,n,ne,nf,d⟩
 ·have hfn:X.fn x=true:=by
   rcases hf with z | z
   ·exact z
   ·rw [z] at hk; cases hk
  obtain⟨c,hc⟩:=I.ok.has x (.inl hk);obtain⟨w',z⟩:=I.cell x c hc;refine wpAny_storeName_cell I.ok.kind hk hc z (λh' hc' hs=>?_)
  obtain⟨oc,hoc,hocd⟩:=id z;refine h {s with heap:=h'} ⟨I.ok,I.os,I.bare,⟨λb o e n hb hx=>?_,λb o e n hb hx=>?_,I.base.free,λb o e hx=>?_,I.base.tups,I.base.frzs,I.base.tbls⟩,⟨m,hn.sameBut hs (Ne.symm (cne x c hc)),λj y v' e1 e2 e3=>?_⟩,λy c' e=>?_,I.free,I.freeC,λp hp=>?_,tracked ⟨oc,hoc,I.freeC x c hc⟩ hs,by simpa using I.len⟩ ⟨c,hs,.inr hc⟩
  ·exact(hs.2 b (JC (JG (Jv e) (I.ok.cab x c hfn hc)))).trans (I.base.keep b o e n hb hx)
  ·obtain⟨sl,e1⟩:=I.base.slot b o e n hb hx;exact⟨sl,(hs.2 b (JC (JG (Jv e) (I.ok.cab x c hfn hc)))).trans e1⟩
  ·obtain⟨o',e1⟩:=I.base.there b o e hx;exact⟨o',(hs.2 b (JC (JG (Jv e) (I.ok.cab x c hfn hc)))).trans e1⟩
  ·by_cases hj:j=i
   ·subst hj;rw [hi] at e1; cases e1
    rw [List.getElem?_set_self hiσ] at e2;cases e2;exact⟨u,r,.inr ⟨.inl hk,c,hc,hc'⟩⟩
   ·rw [List.getElem?_set_ne (Ne.symm hj)] at e2;obtain⟨u',r',q⟩:=hl j y v' e1 e2 e3;refine⟨u',r',?_⟩;rcases q with q | ⟨k,c',e,z'⟩
    ·exact .inl q
    ·refine .inr ⟨k,c',e,z'.sameBut hs ?_⟩;rintro rfl;exact hj (tY hN e1 (I.ok.inj _ _ _ e hc▸hi))
  ·by_cases hcc:c'=c
   ·subst hcc; exact⟨_,hc'⟩
   ·obtain⟨w2,z2⟩:=I.cell y c' e;exact⟨w2,z2.sameBut hs hcc⟩
  ·obtain⟨e,n,ne,nf,d⟩:=I.pin p hp;refine⟨(hs.2 p.1 ?_).trans e,n,ne,nf,d⟩;intro q;rw [q,hoc] at e;have q':oc=p.2:=J0 e;exact d w' (by rw [<- q']; exact hocd)
theorem iw {M:Model} {A:Kv} {E:Kq->Ko->Prop} {i:Nat} {x:Str} {v:V} {u:Kq} {Q:Unit->Ko->Prop} (I:aI X KD σ H s) (hN:X.N.Nodup) (hi:X.N[i]?=some x) (hx:yr X.env.scope x) (r:b7 v u)
  (h:∀ s',aI X KD (σ.set i (some v)) H s'->Q () s') (hf:X.fn x=true\/X.env.scope.names.lookup x=some .local:=by first | exact .inl rfl | exact .inr rfl | assumption):wpAny M A (storeName X.env x u) Q E s:=
 yk I hN hi hx r (λs' I' _=>h s' I') hf
theorem aI.call' {s':Ko} {ch:List Kr} (I:aI X KD σ H s) (ho:s'.os=s.os) (u:Un (f_ X.stack) ch H H' s.heap s'.heap) (hok:mv X.prog X.w H' s'.heap) (hg:AllBare s'.gens)
  (hch:∀ b∈ch,(b∈X.ex\/X.s₀.heap.objs.size<=b)/\b≠X.env.locals/\(∀ x c,X.env.cells.lookup x=some c->c≠b)/\∀ p∈X.pn++KD,p.1≠b):aI X KD σ H' s':=by
 obtain⟨h',g',d',t',o'⟩:=s';have e:o'=s.os:=ho;subst e;exact I.call (g':=g') (t':=t') (d':=d') u hok hg hch
end
abbrev XK:=Kq->Ks Kr->Hp->Prop
abbrev St:=List (Ks V)
abbrev VK:=V->Hp->Prop
abbrev TE:=St->Hp->VK->Prop
abbrev TT:=St->Hp->(KA->Hp->Prop)->Prop
abbrev TA:=St->Hp->(List V->Hp->Prop)->Prop
structure mK where
 nx:St->Hp->Prop
 rt:VK
 bk:St->Hp->Prop:=λ_ _=>False
 ct:St->Hp->Prop:=λ_ _=>False
abbrev TS:=mK->St->Hp->Prop
def EP (X:Cx) (KD:List (Kr×KC)) (σ:St) (Q:VK) (u:Kq) (s':Ko):Prop:=∃ v H',aI X KD σ H' s'/\b7 v u/\Q v H'
def TP (X:Cx) (KD:List (Kr×KC)) (σ:St) (Q:KA->Hp->Prop) (b:KA) (s':Ko):Prop:=∃ H',aI X KD σ H' s'/\Q b H'
def AP (X:Cx) (KD:List (Kr×KC)) (σ:St) (Q:List V->Hp->Prop) (us:List Kq) (s':Ko):Prop:=∃ vs H',aI X KD σ H' s'/\bu vs us/\Q vs H'
def SP (X:Cx) (KD:List (Kr×KC)) (D:mK) (f:Flow) (s':Ko):Prop:=
 match f with
 | .next=>∃ σ' H',aI X KD σ' H' s'/\D.nx σ' H'
 | .brk=>∃ σ' H',aI X KD σ' H' s'/\D.bk σ' H'
 | .cont=>∃ σ' H',aI X KD σ' H' s'/\D.ct σ' H'
 | .ret u=>∃ v σ' H',aI X KD σ' H' s'/\b7 v u/\D.rt v H'
def PE (X:Cx) (e:Kt) (t:TE):Prop:=
 ∀ (KD:List (Kr×KC)) (s:Ko) (σ:St) (H:Hp) (Q:VK),aI X KD σ H s->t σ H Q->wpAny (model X.prog X.w) X.A (eval e X.env) (EP X KD σ Q) X.xe s
def PT (X:Cx) (e:Kt) (t:TT):Prop:=
 ∀ (KD:List (Kr×KC)) (s:Ko) (σ:St) (H:Hp) (Q:KA->Hp->Prop),aI X KD σ H s->t σ H Q->wpAny (model X.prog X.w) X.A (isTrue e X.env (eval e X.env)) (TP X KD σ Q) X.xe s
def PW (X:Cx) (e:Kt) (t:TT):Prop:=
 ∀ (whole:Sem Kq) (KD:List (Kr×KC)) (s:Ko) (σ:St) (H:Hp) (Q:KA->Hp->Prop),aI X KD σ H s->t σ H Q->wpAny (model X.prog X.w) X.A (isTrue e X.env whole) (TP X KD σ Q) X.xe s
theorem PW.pt {X:Cx} {e:Kt} {t:TT} (h:PW X e t):PT X e t:=h _
def PA (X:Cx) (es:List Kt) (t:TA):Prop:=
 ∀ (pos:Pos) (KD:List (Kr×KC)) (s:Ko) (σ:St) (H:Hp) (Q:List V->Hp->Prop),aI X KD σ H s->t σ H Q->wpAny (model X.prog X.w) X.A (spliced (backTo pos (starEach es X.env))) (AP X KD σ Q) X.xe s
def PS (X:Cx) (st:Ky) (t:TS):Prop:=
 ∀ (KD:List (Kr×KC)) (s:Ko) (σ:St) (H:Hp) (D:mK),aI X KD σ H s->t D σ H->wpAny (model X.prog X.w) X.A (exec st X.env) (SP X KD D) X.xe s
def oZ (X:Cx) (st:List Ky) (t:TS):Prop:=
 ∀ (KD:List (Kr×KC)) (s:Ko) (σ:St) (H:Hp) (D:mK),aI X KD σ H s->t D σ H->wpAny (model X.prog X.w) X.A (execs st X.env) (SP X KD D) X.xe s
theorem cm {α:Type} {t:Sem α} {Q Q':α->Ko->Prop} {M:Model} {A:Kv} {E:Kq->Ko->Prop} {s:Ko} (h:wpAny M A t Q E s) (hQ:∀ a s,Q a s->Q' a s):wpAny M A t Q' E s:=J5 h hQ λ_ _ x=>x
section
variable {X:Cx}
def HY (i:Nat):TE:=fun σ H Q=>∃ v,σ[i]?=some (some v)/\Q v H
def tC (v:V):TE:=λ_ H Q=>Q v H
theorem Fk {i:Nat} {x:Str} {pos:Pos} (hN:X.N[i]?=some x) (hv:u7 X.env.scope x) (hd:(x == ("__debug__":Str))=false:=by decide) (hcd:(x == ("__classdict__":Str))=false:=by decide):PE X (.Name x pos) (HY i):=by
 intro KD s σ H Q I h;obtain⟨v,e,h⟩:=h;obtain⟨m,hn,hl⟩:=I.loc;obtain⟨u,r,l⟩:=hl i x v hN e hv;have fin:EP X KD σ Q u s:=⟨v,H,I,r,h⟩;rcases l with ⟨hk,hm⟩ | ⟨hk,c,hc,hcell⟩
 ·exact wpAny_Name (wpAny_loadName_local I.ok.kind hk hn hm fin) hd
 ·rcases hk with hk | hk
  ·exact wpAny_Name (wpAny_loadName_cell I.ok.kind hk hc hcell fin) hd
  ·exact wpAny_Name (wpAny_loadName_free I.ok.kind hk hc hcell fin hcd) hd
theorem E_ {i j pos}:PE X (.Constant (.int i) j pos) (tC (.int i)):=λ_ _ _ H _ I h=>wpAny_Constant_int ⟨.int i,H,I.tok _,⟨_,rfl⟩,h⟩
theorem Gm {b j pos}:PE X (.Constant (.bool b) j pos) (tC (.bl b)):=λ_ _ _ H _ I h=>Constant_bool ⟨.bl b,H,I,rfl,h⟩
theorem DJ {j pos}:PE X (.Constant .none j pos) (tC .non):=λ_ _ _ H _ I h=>Constant_none ⟨.non,H,I,rfl,h⟩
theorem Ei {x j pos}:PE X (.Constant (.str x) j pos) (tC (.str x)):=λ_ _ _ H _ I h=>Calls.Constant_str ⟨.str x,H,I.tok _,⟨_,rfl⟩,h⟩
def Gl (X:Cx) (x:Str):Prop:=X.env.kindOf x=some .globalImplicit
theorem fv {E:Kq->Ko->Prop} {KD:List (Kr×KC)} {s:Ko} {σ:St} {H:Hp} {x:Str} {u:Kq} {pos:Pos} {Q:Kq->Ko->Prop} (I:aI X KD σ H s) (hg:Gl X x) (hm:X.mg x=some u) (h:Q u s)
  (hd:(x == ("__debug__":Str))=false:=by decide):wpAny (model X.prog X.w) X.A (eval (.Name x pos) X.env) Q E s:=
 Calls.Name_function_global I.ok.kind hg (Calls.loadGlobal_global (by rw [I.ok.glob]; exact I.mod.glob.keeps I.bk) hm h) hd
theorem n5 {E:Kq->Ko->Prop} {KD:List (Kr×KC)} {s:Ko} {σ:St} {H:Hp} {x:Str} {u:Kq} {pos:Pos} {Q:Kq->Ko->Prop} (I:aI X KD σ H s) (hg:Gl X x) (hm:X.mg x=none) (hv:bootBuiltins x=some u) (h:Q u s)
  (hn:x≠"__name__":=by decide) (hd:(x == ("__debug__":Str))=false:=by decide):wpAny (model X.prog X.w) X.A (eval (.Name x pos) X.env) Q E s:=by
 obtain⟨mb,h1,h2⟩:=I.mod.blt;exact Calls.Name_function_global I.ok.kind hg (Calls.loadGlobal_builtin (by rw [I.ok.glob]; exact I.mod.glob.keeps I.bk) hm (by rw [I.ok.blt]; exact h1.keeps I.bk) ((h2 x hn).trans hv) h) hd
theorem wZ {x:Str} {v:V} {u:Kq} {pos:Pos} (hg:Gl X x) (hm:X.mg x=some u) (r:b7 v u) (hd:(x == ("__debug__":Str))=false:=by decide):PE X (.Name x pos) (tC v):=
 λ_ _ _ H _ I h=>fv I hg hm ⟨v,H,I,r,h⟩ hd
theorem Cp {x:Str} {v:V} {u:Kq} {pos:Pos} (hg:Gl X x) (hm:X.mg x=none) (hv:bootBuiltins x=some u) (r:b7 v u) (hn:x≠"__name__":=by decide) (hd:(x == ("__debug__":Str))=false:=by decide):PE X (.Name x pos) (tC v):=
 λ_ _ _ H _ I h=>n5 I hg hm hv ⟨v,H,I,r,h⟩ hn hd
variable {a b:Kt} {ta tb:TE} {pos:Pos}
def tB (t:TE):TT:=fun σ H Q=>t σ H λx H1=>∃ c,x=.bl c/\Q c H1
theorem DW {e:Kt} {t:TE} (h:PE X e t) (he:∀ whole,isTrue e X.env whole=(do let v <- whole; standAt e.pos; holding [v] (truthy v)):=by intro _; rfl):PT X e (tB t):=by
 intro KD s σ H Q I hw;refine isTrue_plain (cm (h KD s σ H _ I hw) λv s1 ⟨x,H1,I1,r1,q1⟩=>?_) (he _)
 obtain⟨d,rfl,q⟩:=q1;cases r1;exact wpAny_truthy_bool ⟨H1,I1,q⟩
variable {tA tB':TT} {kh:List Kt}
def IZ (t u:TT):TT:=fun σ H Q=>t σ H λc H1=>if c=true then Q true H1 else u σ H1 Q
def HG (t:TT):TT:=fun σ H Q=>t σ H λc H1=>Q (!c) H1
theorem EX (ha:PT X a tA):PW X (.BoolOp .Or [a] pos) tA:=by
 intro wh KD s σ H Q I h;refine isTrue_or (cm (ha KD s σ H Q I h) λc s1 e=>?_)
 cases c with
 | false=>exact isTrue_or_nil e
 | true=>exact e
theorem GL (ha:PT X a tA) (hb:PW X (.BoolOp .Or (b::kh) pos) tB'):PW X (.BoolOp .Or (a::b::kh) pos) (IZ tA tB'):=by
 intro wh KD s σ H Q I h;refine isTrue_or (cm (ha KD s σ H _ I h) λc s1 z9=>?_)
 obtain⟨H1,I1,q1⟩:=z9;cases c with
 | true=>exact⟨H1,I1,q1⟩
 | false=>exact hb wh KD s1 σ H1 Q I1 q1
theorem En (ha:PT X a tA):PT X (.UnaryOp .Not a pos) (HG tA):=by
 intro KD s σ H Q I h;exact isTrue_not (ha KD s σ H (λc H1=>Q (!c) H1) I h)
def G8 (ta tb:TE):TE:=fun σ H Q=>ta σ H λx H1=>∃ c,x=.bl c/\if c=true then tb σ H1 Q else Q (.bl false) H1
def Gx (ta:TE):TE:=fun σ H Q=>ta σ H λx H1=>∃ c,x=.bl c/\Q (.bl (!c)) H1
theorem Ft {op} {t:TE} (h:PE X a t):PE X (.BoolOp op [a] pos) t:=λKD s σ H Q I hw=>BoolOp_one (h KD s σ H Q I hw)
theorem Dv (ha:PE X a ta) (hb:PE X (.BoolOp .And (b::kh) pos) tb):PE X (.BoolOp .And (a::b::kh) pos) (G8 ta tb):=by
 intro KD s σ H Q I h;refine BoolOp_and (cm (ha KD s σ H _ I h) λv s1 z9=>?_)
 obtain⟨x,H1,I1,r1,q1⟩:=z9;obtain⟨c,rfl,q1⟩:=q1;cases r1;refine wpAny_truthy_bool ?_;cases c with
 | true=>exact hb KD s1 σ H1 Q I1 q1
 | false=>exact⟨.bl false,H1,I1,rfl,q1⟩
theorem Ea (ha:PE X a ta):PE X (.UnaryOp .Not a pos) (Gx ta):=by
 intro KD s σ H Q I h;refine UnaryOp_ (cm (ha KD s σ H _ I h) λv s1 z9=>?_)
 obtain⟨x,H1,I1,r1,q1⟩:=z9;obtain⟨c,rfl,q1⟩:=q1;cases r1;exact not_of (wpAny_truthy_bool ⟨.bl (!c),H1,I1,rfl,q1⟩)
def IS (t:TT) (ta tb:TE):TE:=fun σ H Q=>t σ H λc H1=>if c=true then ta σ H1 Q else tb σ H1 Q
theorem zG {c:Kt} (hc:PT X c tA) (ha:PE X a ta) (hb:PE X b tb):PE X (.IfExp c a b pos) (IS tA ta tb):=by
 intro KD s σ H Q I h;refine wpAny_IfExp (cm (hc KD s σ H _ I h) λd s1 z9=>?_)
 obtain⟨H1,I1,q1⟩:=z9;cases d with
 | true=>exact ha KD s1 σ H1 Q I1 q1
 | false=>exact hb KD s1 σ H1 Q I1 q1
end
def jE (K:PySem.W.Frag) (H:Hp) (a:Kr) (xs:List V):Prop:=
 Rd H a (.lst xs)\/
  ∃ (o:KC) (its:Kz Kq) (n:Nat),K.lookup a=some o/\o.cls=.type "list"/\o.dict=none/\o.data=.seq its n/\its.size<=sizeLine/\bu xs its.toList
def ka (K:PySem.W.Frag) (H:Hp) (a:Kr) (xs:List V):Prop:=
 Rd H a (.tup xs)\/
  ∃ (o:KC) (its:Kz Kq) (n:Nat),K.lookup a=some o/\o.cls=.type "tuple"/\o.data=.seq its n/\its.size<=sizeLine/\bu xs its.toList
def HB:Kq->Ks V
 | .none=>some .non
 | .bool b=>some (.bl b)
 | .int i _=>some (.int i)
 | .str x _=>some (.str x)
 | .bytes b _=>some (.byt b)
 | .float b _=>some (.flt b)
 | .ref a=>some (.ref a)
 | .type n=>some (.ty n)
 | _=>none
theorem b7.abs {x:V} {u:Kq} (r:b7 x u):HB u=some x:=by
 cases x with
 | non=>cases r; rfl
 | bl _=>cases r; rfl
 | int _=>obtain⟨t,rfl⟩:=r; rfl
 | str _=>obtain⟨t,rfl⟩:=r; rfl
 | byt _=>obtain⟨t,rfl⟩:=r; rfl
 | flt _=>obtain⟨t,rfl⟩:=r; rfl
 | ref _=>cases r; rfl
 | ty _=>cases r; rfl
theorem b7.inj {x y:V} {u:Kq} (r:b7 x u) (q:b7 y u):x=y:=J0 (r.abs.symm.trans q.abs)
theorem bu.inj:∀ {xs ys:List V} {us:List Kq},bu xs us->bu ys us->xs=ys
 | _,_,_,.nil,.nil=>rfl
 | _,_,_,.cons r t,.cons r' t'=>by rw [r.inj r',bu.inj t t']
section
variable {X:Cx} {KD:List (Kr×KC)} {σ:St} {H:Hp} {s:Ko} {a:Kr} {xs ys:List V}
theorem jE.of {K:PySem.W.Frag} (h:H a=some (.lst xs)):jE K H a xs:=.inl (.inl h)
theorem ka.of {K:PySem.W.Frag} (h:H a=some (.tup xs)):ka K H a xs:=.inl (.inl h)
theorem aI.list (I:aI X KD σ H s) (h:jE X.K H a xs):∃ its:List Kq,bu xs its/\PlainL s.heap a its.toArray/\xs.length<=sizeLine:=by
 rcases h with h | ⟨o,its,n,hk,hc,hd,hs,hz,r⟩
 ·obtain⟨z,its,n,r,e⟩:=h.ok I.hok;exact⟨its,r,⟨_,n,e,rfl,rfl,rfl⟩,z⟩
 ·refine⟨its.toList,r,⟨o,n,I.kIn a o hk,hc,hd,by simpa using hs⟩,?_⟩
  have e:=r.length;simp only [Array.length_toList] at e;omega
theorem aI.tuple (I:aI X KD σ H s) (h:ka X.K H a xs):∃ its:List Kq,bu xs its/\IsTup s.heap a its.toArray/\xs.length<=sizeLine:=by
 rcases h with h | ⟨o,its,n,hk,hc,hs,hz,r⟩
 ·obtain⟨z,its,r,p⟩:=h.ok I.hok;exact⟨its,r,p,z⟩
 ·refine⟨its.toList,r,⟨o,I.kIn a o hk,hc,n,by simpa using hs⟩,?_⟩
  have e:=r.length;simp only [Array.length_toList] at e;omega
theorem aI.list_inj (I:aI X KD σ H s) (h:jE X.K H a xs) (h':jE X.K H a ys):xs=ys:=by
 obtain⟨its,r,⟨o,n,e,_,_,d⟩,_⟩:=I.list h;obtain⟨its',r',⟨o',n',e',_,_,d'⟩,_⟩:=I.list h';rw [e] at e'; cases e'
 rw [d] at d';injection d' with d1 _
 have:its=its':=by simpa using congrArg Array.toList d1
 subst this;exact r.inj r'
theorem aI.tuple_inj (I:aI X KD σ H s) (h:ka X.K H a xs) (h':ka X.K H a ys):xs=ys:=by
 obtain⟨its,r,⟨o,e,_,n,d⟩,_⟩:=I.tuple h;obtain⟨its',r',⟨o',e',_,n',d'⟩,_⟩:=I.tuple h';rw [e] at e'; cases e'
 rw [d] at d';injection d' with d1 _
 have:its=its':=by simpa using congrArg Array.toList d1
 subst this;exact r.inj r'
end
abbrev Cx.wish (X:Cx) (E:Kq->Ko->Prop):Cx:={X with xe:=E}
abbrev Cx.nox (X:Cx):Cx:=X.wish λ_ _=>False
theorem Cx.Ok.wish {X:Cx} (ok:X.Ok) (E:Kq->Ko->Prop):(X.wish E).Ok:=
 ⟨ok.mod,ok.kind,ok.glob,ok.blt,ok.above,ok.inj,ok.has,ok.cab,ok.hd,ok.frames,ok.stk,ok.exf,ok.bs,ok.bsz,ok.noex,ok.exfs,ok.funs,ok.frf⟩
theorem Cx.Ok.unwish {X:Cx} {E:Kq->Ko->Prop} (ok:(X.wish E).Ok):X.Ok:=
 ⟨ok.mod,ok.kind,ok.glob,ok.blt,ok.above,ok.inj,ok.has,ok.cab,ok.hd,ok.frames,ok.stk,ok.exf,ok.bs,ok.bsz,ok.noex,ok.exfs,ok.funs,ok.frf⟩
section
variable {X:Cx} {KD:List (Kr×KC)} {σ:St} {H:Hp} {s:Ko} {E:Kq->Ko->Prop}
theorem aI.wish (I:aI X KD σ H s) (E:Kq->Ko->Prop):aI (X.wish E) KD σ H s:=⟨I.ok.wish E,I.os,I.bare,I.base,I.loc,I.cell,I.free,I.freeC,I.pin,I.hok,I.len⟩
theorem aI.unwish (I:aI (X.wish E) KD σ H s):aI X KD σ H s:=⟨I.ok.unwish,I.os,I.bare,I.base,I.loc,I.cell,I.free,I.freeC,I.pin,I.hok,I.len⟩
theorem SP.unwish {D:mK} {f:Flow} {s':Ko} (h:SP (X.wish E) KD D f s'):SP X KD D f s':=by
 cases f with
 | next=>obtain⟨σ',H',I,q⟩:=h; exact⟨σ',H',I.unwish,q⟩
 | brk=>obtain⟨σ',H',I,q⟩:=h; exact⟨σ',H',I.unwish,q⟩
 | cont=>obtain⟨σ',H',I,q⟩:=h; exact⟨σ',H',I.unwish,q⟩
 | ret u=>obtain⟨v,σ',H',I,r,q⟩:=h; exact⟨v,σ',H',I.unwish,r,q⟩
theorem oZ.nox {st:List Ky} {t:TS} (h:oZ X.nox st t):oZ X st t:=λKD s σ H D I hw=>
 J5 (h KD s σ H D (I.wish _) hw) (λ_ _ q=>q.unwish) λ_ _ z=>False.elim z
end
section
variable {X:Cx} {st:Ky} {kh:List Ky} {t u:TS} {e:Kt} {te:TE} {pos:Pos}
def Gc:TS:=λD σ H=>D.nx σ H
def F8 (t u:TS):TS:=λD σ H=>t {D with nx:=u D} σ H
theorem Br:oZ X [] Gc:=λ_ _ σ H _ I h=>wpAny_execs_nil ⟨σ,H,I,h⟩
theorem zq (h1:PS X st t) (h2:oZ X kh u):oZ X (st::kh) (F8 t u):=by
 intro KD s σ H D I h;refine wpAny_execs_cons (cm (h1 KD s σ H {D with nx:=u D} I h) λf s1 q=>?_)
 cases f with
 | next=>
  obtain⟨σ',H',I',q⟩:=q;exact h2 KD s1 σ' H' D I' q
 | ret v=>exact q
 | brk=>exact q
 | cont=>exact q
theorem CI (h1:PS X st t):oZ X [st] t:=by
 intro KD s σ H D I h;refine wpAny_execs_cons (cm (h1 KD s σ H D I h) λf s1 q=>?_)
 cases f with
 | next=>exact wpAny_execs_nil q
 | ret v=>exact q
 | brk=>exact q
 | cont=>exact q
theorem aI.quiet {KD:List (Kr×KC)} {σ:St} {H:Hp} {s:Ko} (I:aI X KD σ H s):interactive X.env=false:=by simp [interactive,I.ok.kind]
def GR (te:TE):TS:=λD σ H=>te σ H λ_ H1=>D.nx σ H1
theorem Bv (he:PE X e te) (hs:swapsWith e none pos.line X.env=pure false:=by rfl):PS X (.Expr e pos) (GR te):=by
 intro KD s σ H D I h;exact wpAny_Expr_any (cm (he KD s σ H _ I h) λv s1 z9=>by obtain⟨x,H1,I1,r1,q1⟩:=z9; exact⟨σ,H1,I1,q1⟩) I.quiet hs
def Iq (te:TE):TS:=λD σ H=>te σ H D.rt
theorem Eg (he:PE X e te):PS X (.Return (some e) pos) (Iq te):=by
 intro KD s σ H D I h;exact wpAny_Return_some (cm (he KD s σ H _ I h) λv s1 z9=>by obtain⟨x,H1,I1,r1,q1⟩:=z9; exact⟨x,σ,H1,I1,r1,q1⟩)
def HJ (c:TT) (t u:TS):TS:=λD σ H=>c σ H λb H1=>if b=true then t D σ H1 else u D σ H1
theorem F9 {c:Kt} {a b:List Ky} {tc:TT} (hc:PT X c tc) (ha:oZ X a t) (hb:oZ X b u):PS X (.If c a b pos) (HJ tc t u):=by
 intro KD s σ H D I h;refine wpAny_If (cm (hc KD s σ H _ I h) λd s1 z9=>?_)
 obtain⟨H1,I1,q1⟩:=z9;cases d with
 | true=>exact ha KD s1 σ H1 D I1 q1
 | false=>exact hb KD s1 σ H1 D I1 q1
def ET:TS:=λ_ _ _=>False
theorem A1:PS X st ET:=λ_ _ _ _ _ _ h=>h.elim
end
abbrev TG:=V->St->Hp->(St->Hp->Prop)->Prop
abbrev AM:=List V->St->Hp->(St->Hp->Prop)->Prop
def PG (X:Cx) (target:Kt) (t:TG):Prop:=
 ∀ (KD:List (Kr×KC)) (s:Ko) (σ:St) (H:Hp) (v:V) (u:Kq) (Q:St->Hp->Prop),aI X KD σ H s->b7 v u->t v σ H Q->
  wpAny (model X.prog X.w) X.A (assign target X.env u) (λ_ s'=>∃ σ' H',aI X KD σ' H' s'/\Q σ' H') X.xe s
def ze (X:Cx) (ts:List Kt) (t:AM):Prop:=
 ∀ (KD:List (Kr×KC)) (s:Ko) (σ:St) (H:Hp) (vs:List V) (us:List Kq) (Q:St->Hp->Prop),aI X KD σ H s->bu vs us->t vs σ H Q->
  wpAny (model X.prog X.w) X.A (assignInOrder ((assignEach ts X.env).map (·.2)) us) (λ_ s'=>∃ σ' H',aI X KD σ' H' s'/\Q σ' H') X.xe s
abbrev Eu:=V->V->V->Hp->(Hp->Prop)->Prop
def FO (X:Cx) (t:Eu):Prop:=
 ∀ (KD:List (Kr×KC)) (s:Ko) (σ:St) (H:Hp) (o i v:V) (ov iv u:Kq) (Q:Hp->Prop),aI X KD σ H s->b7 o ov->b7 i iv->b7 v u->t o i v H Q->
  wpAny (model X.prog X.w) X.A (setItem ov iv u) (λ_ s'=>∃ H',aI X KD σ H' s'/\Q H') X.xe s
section
variable {X:Cx} {pos:Pos}
def rJ (i:Nat):TG:=λv σ H Q=>Q (σ.set i (some v)) H
theorem wx {i:Nat} {x:Str} (hN:X.N.Nodup) (hi:X.N[i]?=some x) (hx:yr X.env.scope x) (hf:X.fn x=true\/X.env.scope.names.lookup x=some .local:=by first | exact .inl rfl | exact .inr rfl | assumption):PG X (.Name x pos) (rJ i):=by
 intro KD s σ H v u Q I r h;exact wpAny_assign_Name (iw I hN hi hx r (λs' I'=>⟨_,H,I',h⟩) hf)
def HU:AM:=λvs σ H Q=>vs=[]/\Q σ H
def Gi (t:TG) (u:AM):AM:=λvs σ H Q=>∃ v r,vs=v::r/\t v σ H fun σ' H'=>u r σ' H' Q
theorem Cw:ze X [] HU:=by
 intro KD s σ H vs us Q I r h;obtain⟨e,h⟩:=h;subst e;cases r;exact assignInOrder_nil ⟨σ,H,I,h⟩
theorem Ad {e:Kt} {es:List Kt} {t:TG} {u:AM} (h1:PG X e t) (h2:ze X es u)
  (hs:(assignEach (e::es) X.env).map (·.2)=assign e X.env::(assignEach es X.env).map (·.2):=by rfl):ze X (e::es) (Gi t u):=by
 intro KD s σ H vs us Q I r h;obtain⟨v,vr,e1,h⟩:=h;subst e1;cases r with
 | cons r rr=>
  rw [hs];refine assignInOrder_cons (cm (h1 KD s σ H _ _ _ I r h) λ_ s1 z9=>?_)
  obtain⟨σ1,H1,I1,q1⟩:=z9;exact h2 KD s1 σ1 H1 _ _ Q I1 rr q1
def Iu (K:PySem.W.Frag) (n:Nat) (t:AM):TG:=λv σ H Q=>∃ a xs,v=.ref a/\ka K H a xs/\xs.length=n/\t xs σ H Q
theorem EH {es:List Kt} {k:Nat} {t:AM} {n:Nat} (hc:X.calm=true) (h:ze X es t)
  (hn:(assignEach es X.env).length=n:=by rfl) (hst:(assignEach es X.env).findIdx? (·.1)=none:=by rfl):PG X (.Tuple es k pos) (Iu X.K n t):=by
 intro KD s σ H v u Q I r hw;obtain⟨a,xs,e1,hq,hl,hw⟩:=hw;subst e1;cases r;obtain⟨its,rv,ht,hz⟩:=I.tuple hq;refine assign_Tuple_tuple (I.ok.hd hc) ht (by simp [hn,<- hl,rv.length]) hst λh' hx=>?_
 have I1:aI X KD σ H {s with heap:=h'}:=I.kept (t':=s.toks) λb o e=>hx b o (JC (Jv e)) e
 exact h KD _ σ H xs _ Q I1 (by simpa using rv) hw
def HA (to ti:TE) (t:Eu):TG:=λv σ H Q=>to σ H λo H1=>ti σ H1 λi H2=>t o i v H2 λH3=>Q σ H3
theorem Fm {o i:Kt} {to ti:TE} {t:Eu} (ho:PE X o to) (hi:PE X i ti) (hs:FO X t)
  (ha:∀ v,assign (.Subscript o i pos) X.env v=(do
   let ov <- holding [v] (eval o X.env)
   let iv <- holding [v,ov] (eval i X.env)
   standAt pos
   holding [v,ov,iv] (setItem ov iv v)
   release [v,ov,iv] []):=by intro _; rfl):PG X (.Subscript o i pos) (HA to ti t):=by
 intro KD s σ H v u Q I r h;rw [ha];refine gt (JU (cm (ho KD s σ H _ I h) λov s1 z9=>?_))
 obtain⟨x,H1,I1,r1,q1⟩:=z9;refine gt (JU (cm (hi KD s1 σ H1 _ I1 q1) λiv s2 z9=>?_))
 obtain⟨y,H2,I2,r2,q2⟩:=z9;refine gt (wpAny_standAt (gt (JU (cm (hs KD s2 σ H2 x y v ov iv u _ I2 r1 r2 r q2) λ_ s3 z9=>?_))))
 obtain⟨H3,I3,q3⟩:=z9;exact wpAny_release ⟨σ,H3,I3,q3⟩
def BC (te:TE) (g:TG):TS:=λD σ H=>te σ H λx H1=>g x σ H1 D.nx
theorem Fp {tg e:Kt} {te:TE} {g:TG} (he:PE X e te) (hg:PG X tg g) (hs:swapsWithSole [tg] e pos.line X.env=pure false:=by rfl) (hw:swappedStores [tg] e X.env=pure none:=by rfl)
  (h1:(assignEach [tg] X.env).map (·.2)=[assign tg X.env]:=by rfl):PS X (.Assign [tg] e pos) (BC te g):=by
 intro KD s σ H D I h;refine wpAny_Assign_stores (cm (he KD s σ H _ I h) λv s1 ⟨x,H1,I1,r1,q1⟩=>?_) hs hw
 rw [h1];exact cm (hg KD s1 σ H1 x v _ I1 r1 q1) λ_ s2 q=>q
theorem DN {i:Nat} {x:Str} {e:Kt} {te:TE} {pos':Pos} (hN:X.N.Nodup) (hi:X.N[i]?=some x) (hx:yr X.env.scope x) (he:PE X e te) (hs:swapsWith e (some (.Name x pos')) pos.line X.env=pure false:=by rfl) (hf:X.fn x=true\/X.env.scope.names.lookup x=some .local:=by first | exact .inl rfl | exact .inr rfl | assumption):
  PS X (.Assign [.Name x pos'] e pos) (BC te (rJ i)):=by
 intro KD s σ H D I h;refine wpAny_Assign_Name (cm (he KD s σ H _ I h) λv s1 ⟨y,H1,I1,r1,q1⟩=>?_) hs
 exact iw I1 hN hi hx r1 (λs2 I2=>⟨_,H1,I2,q1⟩) hf
def H9 (i j:Nat) (ta:TA):TS:=λD σ H=>ta σ H λvs H1=>∃ v w,vs=[v,w]/\D.nx ((σ.set i (some v)).set j (some w)) H1
theorem EW {i j:Nat} {x y:Str} {a b:Kt} {ta:TA} {px py pt:Pos} {kt k2 pt2} (hc:X.calm=true) (hN:X.N.Nodup) (hi:X.N[i]?=some x) (hj:X.N[j]?=some y) (hij:i≠j)
  (hx:X.env.scope.names.lookup x=some .local) (hy:X.env.scope.names.lookup y=some .local) (ha:PA X [a,b] ta)
  (hw:swappedStores [.Tuple [.Name x px,.Name y py] kt pt] (.Tuple [a,b] k2 pt2) X.env=pure (some [x,y]))
  (hs:swapsWithSole [.Tuple [.Name x px,.Name y py] kt pt] (.Tuple [a,b] k2 pt2) pos.line X.env=pure false:=by rfl):
  PS X (.Assign [.Tuple [.Name x px,.Name y py] kt pt] (.Tuple [a,b] k2 pt2) pos) (H9 i j ta):=by
 intro KD s σ H D I h;rw [exec_Assign_arm];refine gt (wpAny_standAt ?_);rw [hs];refine gt (Js ?_);rw [if_neg (by decide)]
 refine gt (Tuple_ (cm (ha _ KD s σ H _ I h) λus s1 z9=>?_))
 obtain⟨vs,H1,I1,r1,q1⟩:=z9;obtain⟨v,w,e1,q1⟩:=q1;subst e1;obtain⟨u1,u2,rfl,rv,rw'⟩:∃ u1 u2,us=[u1,u2]/\b7 v u1/\b7 w u2:=by
  cases r1 with
  | cons p q=>
   cases q with
   | cons p' q'=>
    cases q';exact⟨_,_,rfl,p,p'⟩
 refine JW ?_ (by show 2<=sizeLine; decide)
 have I2:aI X KD σ H1 {s1 with heap:=s1.heap.push {cls:=.type "tuple",data:=.seq [u1,u2].toArray}}:=I1.kept (t':=s1.toks) λb o e=>pp _ e
 rw [hw];refine gt (Js ?_)
 show wpAny (model X.prog X.w) X.A (do rule "assign.swapped-stores"; let items <- unpackItems (.ref s1.heap.objs.size) 2 none; assignInOrder [λv=>bindName X.env y v,λv=>bindName X.env x v] items.reverse; pure Flow.next) _ _ _
 refine gt (wpAny_rule (gt (unpackItems_tuple (items:=#[u1,u2]) (I.ok.hd hc) (IsTup.new s1.heap _) λh' hx'=>?_)))
 have I3:=I2.kept (h':=h') (t':=s1.toks) λb o e=>hx' b o (JC (Jv e)) e
 show wpAny _ _ (assignInOrder [λv=>bindName X.env y v,λv=>bindName X.env x v] [u2,u1] >>= λ_=>pure Flow.next) _ _ _
 refine gt (assignInOrder_cons (wpAny_bindName (iw I3 hN hj (.inl hy) rw' (λs2 I4=>?_) (.inr hy))))
 refine assignInOrder_cons (wpAny_bindName (iw I4 hN hi (.inl hx) rv (λs3 I5=>assignInOrder_nil (Js ?_)) (.inr hx)))
 rw [List.set_comm _ _ (Ne.symm hij)] at I5;exact⟨_,H1,I5,q1⟩
def Du (c:TT) (tb:TS):TS:=λD σ H=>∃ W:Nat->St->Hp->Prop,(∃ m,W m σ H)/\∀ m σ H,W m σ H->
 c σ H λb H1=>if b=true then ∃ N:St->Hp->Prop,(∀ σ' H',N σ' H'->∃ m',m' < m/\W m' σ' H')/\tb {D with nx:=N,ct:=N,bk:=D.nx} σ H1 else D.nx σ H1
theorem yE {c:Kt} {body:List Ky} {tc:TT} {tb:TS} (hp:PassesOwn (model X.prog X.w) X.A X.env X.xe) (hc:PT X c tc) (hb:oZ X body tb):PS X (.While c body [] pos) (Du tc tb):=by
 intro KD s σ H D I h;obtain⟨W,⟨m0,w0⟩,turn⟩:=h;refine wpAny_While (codeAny_whileLoop (λn s'=>∃ σ' H',aI X KD σ' H' s'/\W n σ' H') ?_ m0 ⟨σ,H,I,w0⟩)
 rintro n s1 ⟨σ1,H1,I1,w1⟩;refine wpAny_passesOwn hp (cm (hc KD s1 σ1 H1 _ I1 (turn n σ1 H1 w1)) λb s2 z9=>?_)
 obtain⟨H2,I2,q2⟩:=z9;cases b with
 | true=>
  obtain⟨N,hN,q2⟩:=q2;rw [if_pos rfl];refine wpAny_passesOwn hp (cm (hb KD s2 σ1 H2 _ I2 q2) λf s3 q3=>?_)
  cases f with
  | next=>
   obtain⟨σ3,H3,I3,n3⟩:=q3;obtain⟨m',hm,w3⟩:=hN σ3 H3 n3;exact⟨m',hm,σ3,H3,I3,w3⟩
  | cont=>
   obtain⟨σ3,H3,I3,n3⟩:=q3;obtain⟨m',hm,w3⟩:=hN σ3 H3 n3;exact⟨m',hm,σ3,H3,I3,w3⟩
  | brk=>exact q3
  | ret v=>exact q3
 | false=>
  rw [if_neg Jz];exact wpAny_execs_nil ⟨σ1,H2,I2,q2⟩
end
structure It where
 go:Nat->Hp->Prop
 yld:Nat->Hp->V->Hp->Prop
 stop:Nat->Hp->Prop
def oy (X:Cx) (KD:List (Kr×KC)) (H:Hp) (b:Kr):Prop:=
 H b=none/\b≠X.env.locals/\b∉X.fs/\(b∈X.ex\/X.s₀.heap.objs.size<=b)/\(∀ x c,X.env.cells.lookup x=some c->c≠b)/\∀ p∈X.pn++KD,p.1≠b
theorem aI.fpOk {X:Cx} {KD:List (Kr×KC)} {σ:St} {H H':Hp} {s:Ko} {b:Kr} (I:aI X KD σ H s) (hb:s.heap.objs.size<=b) (hn:H' b=none):oy X KD H' b:=by
 refine⟨hn,Nat.ne_of_gt (JG I.lt hb),I.nofs hb,.inr (J7 I.sz hb),λx c e z=>?_,λp hp z=>?_⟩
 ·obtain⟨v,q⟩:=I.cell x c e;exact absurd (JG q.lt (by rw [z]; exact hb)) (Kg _)
 ·exact absurd (JG (Jv (I.pin p hp).1) (by rw [z]; exact hb)) (Kg _)
structure xD (P:Ku) (w:Kw) (K:PySem.W.Frag) (tg:Kt) (J:It) (fp:List Kr) (it:Kr) (tn:Nat->Kx->Prop):Prop where
 mem:it∈fp
 obj:∀ i h,tn i h->∀ b∈fp,∃ o,h.get? b=some o/\∀ v,o.data≠.cell v
 keep:∀ i h h',tn i h->(∀ b∈fp,∀ o,h.get? b=some o->h'.get? b=some o)->tn i h'
 item:∀ (X:Cx),X.prog=P->X.w=w->X.K=K->X.calm=true->∀ (i:Nat) (KD:List (Kr×KC)) (s:Ko) (σ:St) (H:Hp) (E:Kq->Ko->Prop),aI X KD σ H s->(∀ b∈fp,oy X KD H b)->tn i s.heap->J.go i H->
  wpAny (model P w) X.A (pyNext (.ref it)) (λr s1=>∃ u,r=some u/\
   wpAny (model P w) X.A (letOwnedTupleGo tg (.ref it) u) (λ_ s2=>∃ x H',aI X KD σ H' s2/\b7 x u/\J.yld i H x H'/\tn (i+1) s2.heap/\∀ b∈fp,H' b=none) E s1) E s
 done:∀ (X:Cx),X.prog=P->X.w=w->X.K=K->X.calm=true->∀ (i:Nat) (KD:List (Kr×KC)) (s:Ko) (σ:St) (H:Hp) (E:Kq->Ko->Prop),aI X KD σ H s->(∀ b∈fp,oy X KD H b)->tn i s.heap->J.stop i H->
  wpAny (model P w) X.A (pyNext (.ref it)) (λr s1=>r=none/\aI X KD σ H s1) E s
 self:∀ (A:Kv) (i:Nat) (s:Ko) (Q:Kq->Ko->Prop) (E:Kq->Ko->Prop),tn i s.heap->Q (.ref it) s->wpAny (model P w) A (pyIter (.ref it)) Q E s
abbrev TI:=St->Hp->(It->Hp->Prop)->Prop
def IL (X:Cx) (KD:List (Kr×KC)) (σ:St) (tg:Kt) (R:It->Hp->Prop) (itv:Kq) (s2:Ko):Prop:=
 ∃ (it:Kr) (fp:List Kr) (tn:Nat->Kx->Prop) (J:It) (H':Hp),itv=.ref it/\aI X KD σ H' s2/\xD X.prog X.w X.K tg J fp it tn/\tn 0 s2.heap/\(∀ b∈fp,oy X KD H' b)/\R J H'
def PI (X:Cx) (tg iter:Kt) (wi:TI):Prop:=
 ∀ (KD:List (Kr×KC)) (s:Ko) (σ:St) (H:Hp) (R:It->Hp->Prop),aI X KD σ H s->wi σ H R->
  wpAny (model X.prog X.w) X.A (eval iter X.env) (λv s1=>wpAny (model X.prog X.w) X.A (pyIter v) (IL X KD σ tg R) X.xe s1) X.xe s
theorem An {M:Model} {A:Kv} {E:Kq->Ko->Prop} {s:Ko} {tg:Kt} {it:Kr} {u:Kq} {o:KC} {n:KB} {vs:Kz Kq} {Q:Unit->Ko->Prop} (ho:s.heap.get? it=some o) (hc:o.cls=.type n) (hd:o.data=.fields vs)
  (hn:["enumerate","zip","dict_itemiterator","dict_reverseitemiterator","odict_iterator","itertools.zip_longest","itertools.pairwise"].contains n=false) (hQ:Q () s):wpAny M A (letOwnedTupleGo tg (.ref it) u) Q E s:=by
 unfold letOwnedTupleGo;cases tg <;> first
  | exact Js hQ
  | (cases u <;> first
    | exact Js hQ
    | (refine gt (wpAny_load ho ?_)
       rw [hc,hd]
       show wpAny M A (if (["enumerate","zip","dict_itemiterator","dict_reverseitemiterator","odict_iterator","itertools.zip_longest","itertools.pairwise"].contains n && vs[0]? == some (rawInt _))=true then _ else _) Q E s
       rw [if_neg (by intro h; rw [hn,Bool.false_and] at h; cases h)]
       exact Js hQ))
def Ga (K:PySem.W.Frag) (a:Kr):It:=
 ⟨λi H=>∃ xs x,jE K H a xs/\xs[i]?=some x,λi H x H'=>H'=H/\∀ xs,jE K H a xs->xs[i]?=some x,λi H=>∃ xs,jE K H a xs/\xs.length<=i⟩
def GS (K:PySem.W.Frag) (a:Kr):It:=
 ⟨λi H=>∃ xs x,ka K H a xs/\xs[i]?=some x,λi H x H'=>H'=H/\∀ xs,ka K H a xs->xs[i]?=some x,λi H=>∃ xs,ka K H a xs/\xs.length<=i⟩
def FW (lo:Int) (n:Nat):It:=⟨λi _=>i < n,λi H x H'=>H'=H/\x=.int (lo+i),λi _=>n<=i⟩
theorem yc {P:Ku} {w:Kw} {K:PySem.W.Frag} {tg:Kt} (a it:Kr):xD P w K tg (Ga K a) [it] it (λi h=>h.IsListIter it a i) where
 mem:=by simp
 obj:=λi h st b hb=>by
  have e:b=it:=by simpa using hb
  subst e;obtain⟨o,e,c,d⟩:=st;exact⟨o,e,λv z=>by rw [d] at z; cases z⟩
 keep:=λi h h' st k=>st.at λo e=>k it (by simp) o e
 item:=by
  intro X hP hw hK hc i KD s σ H E I hf st hg;subst hP hw hK;obtain⟨xs,x,hq,hx⟩:=hg;obtain⟨its,rv,p,hz⟩:=I.list hq;obtain⟨u,hu,ru⟩:=rv.get hx;obtain⟨f0,f1,f2,f3,f4,f5⟩:=hf it (by simp)
  refine wpAny_pyNext_list_item st p.isList (x:=u) (by simpa using hu) λh' st' sb=>?_
  have I1:aI X KD σ H {s with heap:=h'}:=I.turned (t':=s.toks) (λb o hb e=>(sb.2 b hb).trans e) f0 f1 f3 f4 f5
  obtain⟨o,e,c,d⟩:=id st';exact⟨u,rfl,An (s:={s with heap:=h'}) e c d (by decide) ⟨x,H,I1,ru,⟨rfl,λys hy=>by rw [I.list_inj hy hq]; exact hx⟩,st',λb hb=>(hf b hb).1⟩⟩
 done:=by
  intro X hP hw hK hc i KD s σ H E I hf st hg;subst hP hw hK;obtain⟨xs,hq,hx⟩:=hg;obtain⟨its,rv,p,hz⟩:=I.list hq;obtain⟨f0,f1,f2,f3,f4,f5⟩:=hf it (by simp)
  have hl:=rv.length;exact wpAny_pyNext_list_end (I.ok.hd hc) st p.isList (by simp; omega) λh' eb=>⟨rfl,I.turned (t':=s.toks) (λb o hb e=>eb b o hb e) f0 f1 f3 f4 f5⟩
 self:=λ_ _ _ _ _ st h=>wpAny_pyIter_listiter st h
theorem wl {P:Ku} {w:Kw} {K:PySem.W.Frag} {tg:Kt} (a it:Kr):xD P w K tg (GS K a) [it] it (λi h=>h.IsTupleIter it a i) where
 mem:=by simp
 obj:=λi h st b hb=>by
  have e:b=it:=by simpa using hb
  subst e;obtain⟨o,e,c,d⟩:=st;exact⟨o,e,λv z=>by rw [d] at z; cases z⟩
 keep:=λi h h' st k=>st.at λo e=>k it (by simp) o e
 item:=by
  intro X hP hw hK hc i KD s σ H E I hf st hg;subst hP hw hK;obtain⟨xs,x,hq,hx⟩:=hg;obtain⟨its,rv,p,hz⟩:=I.tuple hq;obtain⟨u,hu,ru⟩:=rv.get hx;obtain⟨f0,f1,f2,f3,f4,f5⟩:=hf it (by simp)
  refine wpAny_pyNext_tuple_item st (show s.heap.IsTuple a its.toArray from p) (x:=u) (by simpa using hu) λh' st' sb=>?_
  have I1:aI X KD σ H {s with heap:=h'}:=I.turned (t':=s.toks) (λb o hb e=>(sb.2 b hb).trans e) f0 f1 f3 f4 f5
  obtain⟨o,e,c,d⟩:=id st';exact⟨u,rfl,An (s:={s with heap:=h'}) e c d (by decide) ⟨x,H,I1,ru,⟨rfl,λys hy=>by rw [I.tuple_inj hy hq]; exact hx⟩,st',λb hb=>(hf b hb).1⟩⟩
 done:=by
  intro X hP hw hK hc i KD s σ H E I hf st hg;subst hP hw hK;obtain⟨xs,hq,hx⟩:=hg;obtain⟨its,rv,p,hz⟩:=I.tuple hq;obtain⟨f0,f1,f2,f3,f4,f5⟩:=hf it (by simp)
  have hl:=rv.length;exact wpAny_pyNext_tuple_end (I.ok.hd hc) st (show s.heap.IsTuple a its.toArray from p) (by simp; omega) λh' eb=>⟨rfl,I.turned (t':=s.toks) (λb o hb e=>eb b o hb e) f0 f1 f3 f4 f5⟩
 self:=λ_ _ _ _ _ st h=>wpAny_pyIter_tupleiter st h
theorem vU {P:Ku} {w:Kw} {K:PySem.W.Frag} {tg:Kt} (it:Kr) (lo:Int) (n:Nat):xD P w K tg (FW lo n) [it] it (λi h=>IsRangeIter h it (lo+(i:Nat)*1) ((n:Int) - (i:Nat)) 1) where
 mem:=by simp
 obj:=λi h st b hb=>by
  have e:b=it:=by simpa using hb
  subst e;exact⟨_,st,λv z=>by
   have z':Data.fields _=Data.cell v:=z;cases z'⟩
 keep:=λi h h' st k=>k it (by simp) _ st
 item:=by
  intro X hP hw hK hc i KD s σ H E I hf st hg;subst hP hw hK;obtain⟨f0,f1,f2,f3,f4,f5⟩:=hf it (by simp)
  have W:=Walks.range (prog:=X.prog) (w:=X.w) (I.ok.hd hc) it lo 1 n;refine W.item i s _ _ hg st λv h' tk hv st' kk=>?_
  obtain⟨t,rfl⟩:=hv;have I1:aI X KD σ H {s with heap:=h',toks:=tk}:=I.turned (λb o hb e=>kk b o (by simpa using hb) e) f0 f1 f3 f4 f5
  refine⟨_,rfl,An (s:={s with heap:=h',toks:=tk}) (n:="range_iterator") st' rfl rfl (by decide) ⟨.int (lo+i),H,I1,⟨t,?_⟩,⟨rfl,rfl⟩,st',λb hb=>(hf b hb).1⟩⟩
  rw [Int.mul_one]
 done:=by
  intro X hP hw hK hc i KD s σ H E I hf st hg;subst hP hw hK;obtain⟨f0,f1,f2,f3,f4,f5⟩:=hf it (by simp)
  exact wpAny_pyNext_range_end (I.ok.hd hc) st (by have:n<=i:=hg; omega) λh' eb=>⟨rfl,I.turned (t':=s.toks) (λb o hb e=>eb b o hb e) f0 f1 f3 f4 f5⟩
 self:=λ_ _ _ _ _ st h=>wpAny_pyIter_rangeiter st h
section
variable {X:Cx} {tg:Kt}
theorem zy {KD:List (Kr×KC)} {σ:St} {H:Hp} {s:Ko} {R:It->Hp->Prop} {E:Kq->Ko->Prop} {lo hi:Int} {t u v:Tok} {tk:Nat} (I:aI X KD σ H s) (h1:-(2 ^ 62)<=lo) (h2:lo < 2 ^ 62) (h3:-(2 ^ 62)<=hi) (h4:hi < 2 ^ 62)
  (q:R (FW lo (hi - lo).toNat) H):wpAny (model X.prog X.w) X.A (pyIter (.ref s.heap.objs.size)) (IL X KD σ tg R) E {s with heap:=s.heap.push {cls:=.type "range",data:=.fields #[.int lo t,.int hi u,.int 1 v]},toks:=tk}:=by
 refine wpAny_pyIter_range (IsRange.new ..) (small_one h1 h2 h3 h4) ?_;have I1:aI X KD σ H {s with heap:=s.heap.push {cls:=.type "range",data:=.fields #[.int lo t,.int hi u,.int 1 v]},toks:=tk}:=I.kept λb o e=>pp _ e
 refine⟨(s.heap.push {cls:=.type "range",data:=.fields #[.int lo t,.int hi u,.int 1 v]}).objs.size,[(s.heap.push {cls:=.type "range",data:=.fields #[.int lo t,.int hi u,.int 1 v]}).objs.size],_,_,H,rfl,
  I1.kept (t':=tk) λb o e=>pp _ e,vU _ lo (hi - lo).toNat,?_,λb hb=>?_,q⟩
 ·have e1:lo+((0:Nat):Int)*1=lo:=by simp
  have e2:(((hi - lo).toNat:Nat):Int) - ((0:Nat):Int)=Builtin.Range.rangeSize lo hi 1:=by rw [rangeSize_one]; split <;> omega
  show IsRangeIter _ _ (lo+((0:Nat):Int)*1) ((((hi - lo).toNat:Nat):Int) - ((0:Nat):Int)) 1
  rw [e1,e2];exact Jt _ rfl
 ·have e:b=(s.heap.push {cls:=.type "range",data:=.fields #[.int lo t,.int hi u,.int 1 v]}).objs.size:=by simpa using hb
  subst e;exact I1.fpOk (Jw _) (I1.hok.fresh (Jw _))
def FP (ta:TA):TI:=fun σ H R=>ta σ H λvs H1=>∃ j:Int,vs=[.int j]/\-(2 ^ 62)<=j/\j < 2 ^ 62/\R (FW 0 j.toNat) H1
theorem rK {a:Kt} {ta:TA} {p pos:Pos} (hg:Gl X "range") (hm:X.mg "range"=none) (ha:PA X [a] ta) (hs:starEach [a] X.env=[(false,eval a X.env)]:=by rfl):PI X tg (.Call (.Name "range" p) [a] [] pos) (FP ta):=by
 intro KD s σ H R I h;refine Call_ (n5 I hg hm boot_range (PyProof.Rows.callWith_type1 (cm (ha pos KD s σ H _ I h) λus s1 ⟨vs,H1,I1,r1,q1⟩=>?_) hs rfl))
 obtain⟨j,e,q1,q2,q⟩:=q1;subst e;cases r1 with
 | cons r rr=>
  cases rr;obtain⟨t,rfl⟩:=r;exact call_range_1 (zy I1 (by omega) (by omega) q1 q2 (by simpa using q))
def Ik (wi:TI) (g:TG) (tb:TS):TS:=λD σ H=>wi σ H λJ H1=>∃ W:Nat->Nat->St->Hp->Prop,(∃ m,W 0 m σ H1)/\∀ i m σ H,W i m σ H->
 (J.stop i H/\D.nx σ H)\/(J.go i H/\∃ N:St->Hp->Prop,(∀ σ' H',N σ' H'->∃ m',m' < m/\W (i+1) m' σ' H')/\∀ x H',J.yld i H x H'->g x σ H' fun σ2 H2=>tb {D with nx:=N,ct:=N,bk:=D.nx} σ2 H2)
def pk (fp:List Kr) (h:Kx):List (Kr×KC):=fp.filterMap λb=>(h.get? b).map λo=>(b,o)
theorem dX {fp:List Kr} {h:Kx} {b:Kr} {o:KC} (hb:b∈fp) (e:h.get? b=some o):(b,o)∈pk fp h:=List.mem_filterMap.mpr ⟨b,hb,by rw [e]; rfl⟩
theorem xr {fp:List Kr} {h:Kx} {p:Kr×KC} (hp:p∈pk fp h):p.1∈fp/\h.get? p.1=some p.2:=by
 obtain⟨b,hb,e⟩:=List.mem_filterMap.mp hp;cases q:h.get? b with
 | none=>rw [q] at e; cases e
 | some o=>
  rw [q] at e;have e':(b,o)=p:=J0 e;subst e';exact⟨hb,q⟩
theorem aI.pinned {KD:List (Kr×KC)} {σ:St} {H:Hp} {s:Ko} {fp:List Kr} (I:aI X KD σ H s) (hf:∀ b∈fp,oy X KD H b) (ho:∀ b∈fp,∃ o,s.heap.get? b=some o/\∀ v,o.data≠.cell v):aI X (KD++pk fp s.heap) σ H s:=
 I.pins_of λp hp=>(List.mem_append.mp hp).elim (λz=>I.pin p (JH _ z)) λz=>by
  obtain⟨hb,e⟩:=xr z;obtain⟨f0,f1,f2,_⟩:=hf p.1 hb;obtain⟨o,e',d⟩:=ho p.1 hb;rw [e] at e'; cases e'
  exact⟨e,f0,f1,f2,d⟩
theorem aI.unpinned {KD pl:List (Kr×KC)} {σ:St} {H:Hp} {s:Ko} (I:aI X (KD++pl) σ H s):aI X KD σ H s:=I.pins_of λp hp=>I.pin p (JH _ (List.mem_append_left _ hp))
theorem sK {iter:Kt} {body:List Ky} {wi:TI} {g:TG} {tb:TS} {pos:Pos} (hp:PassesOwn (model X.prog X.w) X.A X.env X.xe) (hc:X.calm=true) (hi:PI X tg iter wi) (hg:PG X tg g) (hb:oZ X body tb)
  (hs:∀ x,foldedSetIterable iter X.env x=pure x:=by intro _; rfl):PS X (.For tg iter body [] pos) (Ik wi g tb):=by
 intro KD s σ H D I h;refine wpAny_For (cm (hi KD s σ H _ I h) λv s1 h1=>cm h1 λitv s2 h2=>?_) hs
 obtain⟨it,fp,tn,J,H2,e,I2,T,st2,f2,W,⟨m0,w0⟩,turn⟩:=h2;subst e;have stat:∀ {H':Hp},(∀ b∈fp,H' b=none)->∀ b∈fp,oy X KD H' b:=λhn b hb=>⟨hn b hb,(f2 b hb).2⟩
 refine codeAny_forLoop_any (λn s'=>∃ i σ' H',aI X KD σ' H' s'/\tn i s'.heap/\(∀ b∈fp,H' b=none)/\W i n σ' H') ?_ m0 ⟨0,σ,H2,I2,st2,λb hb=>(f2 b hb).1,w0⟩
 rintro n s3 ⟨i,σ3,H3,I3,st3,fr3,w3⟩;rcases turn i n σ3 H3 w3 with ⟨stop,qn⟩ | ⟨go,N,hN,step⟩
 ·refine wpAny_passesOwn hp (cm (T.done X rfl rfl rfl hc i KD s3 σ3 H3 X.xe I3 (stat fr3) st3 stop) λr s4 z9=>?_)
  obtain⟨hr,I4⟩:=z9;subst hr;exact wpAny_execs_nil ⟨σ3,H3,I4,qn⟩
 ·refine wpAny_passesOwn hp (cm (T.item X rfl rfl rfl hc i KD s3 σ3 H3 X.xe I3 (stat fr3) st3 go) λr s4 z9=>?_)
  obtain⟨u,hr,h4⟩:=z9;subst hr;refine wpAny_passesOwn hp (cm h4 λ_ s5 z9=>?_)
  obtain⟨x,H5,I5,r5,y5,st5,fr5⟩:=z9;have I5':=I5.pinned (stat fr5) (T.obj _ _ st5);refine wpAny_passesOwn hp (cm (hg _ s5 σ3 H5 x u _ I5' r5 (step x H5 y5)) λ_ s6 z9=>?_)
  obtain⟨σ6,H6,I6,q6⟩:=z9;refine wpAny_passesOwn hp (cm (hb _ s6 σ6 H6 _ I6 q6) λf s7 q7=>?_)
  have again:∀ {σ7:St} {H7:Hp},aI X (KD++pk fp s5.heap) σ7 H7 s7->N σ7 H7->∃ m,m < n/\∃ i σ' H',aI X KD σ' H' s7/\tn i s7.heap/\(∀ b∈fp,H' b=none)/\W i m σ' H':=λ{σ7 H7} I7 n7=>by
   obtain⟨m',hm,w7⟩:=hN σ7 H7 n7;refine⟨m',hm,i+1,σ7,H7,I7.unpinned,T.keep _ _ _ st5 λb hb o e=>(I7.pin (b,o) (JH _ (JH _ (dX hb e)))).1,λb hb=>?_,w7⟩
   obtain⟨o,e,d⟩:=T.obj _ _ st5 b hb;exact(I7.pin (b,o) (JH _ (JH _ (dX hb e)))).2.1
  cases f with
  | next=>obtain⟨σ7,H7,I7,n7⟩:=q7; exact again I7 n7
  | cont=>obtain⟨σ7,H7,I7,n7⟩:=q7; exact again I7 n7
  | brk=>obtain⟨σ7,H7,I7,q7⟩:=q7; exact⟨σ7,H7,I7.unpinned,q7⟩
  | ret v=>obtain⟨x7,σ7,H7,I7,r7,q7⟩:=q7; exact⟨x7,σ7,H7,I7.unpinned,r7,q7⟩
end
abbrev R2:=V->V->Hp->VK->Prop
def fW (X:Cx) (f:Kq->Kq->Sem Kq) (r:R2):Prop:=
 ∀ (KD:List (Kr×KC)) (s:Ko) (σ:St) (H:Hp) (x y:V) (v u:Kq) (Q:VK),aI X KD σ H s->b7 x v->b7 y u->r x y H Q->
  wpAny (model X.prog X.w) X.A (f v u) (EP X KD σ Q) X.xe s
def GB (X:Cx) (f:Kq->Sem Kq) (r:V->Hp->VK->Prop):Prop:=
 ∀ (KD:List (Kr×KC)) (s:Ko) (σ:St) (H:Hp) (x:V) (v:Kq) (Q:VK),aI X KD σ H s->b7 x v->r x H Q->
  wpAny (model X.prog X.w) X.A (f v) (EP X KD σ Q) X.xe s
def eR (X:Cx) (f:Kq) (r:List V->Hp->VK->Prop):Prop:=
 ∀ (KD:List (Kr×KC)) (s:Ko) (σ:St) (H:Hp) (xs:List V) (us:List Kq) (Q:VK),aI X KD σ H s->bu xs us->r xs H Q->
  wpAny (model X.prog X.w) X.A (call f us) (EP X KD σ Q) X.xe s
def F4 (r:R2) (ta tb:TE):TE:=fun σ H Q=>ta σ H λx H1=>tb σ H1 λy H2=>r x y H2 Q
def Jp (r:V->Hp->VK->Prop) (ta:TE):TE:=fun σ H Q=>ta σ H λx H1=>r x H1 Q
def rI (C:Int->Int->Prop) (g:Int->Int->V):R2:=λx y H Q=>∃ i j,x=.int i/\y=.int j/\C i j/\Q (g i j) H
def Cv (g:Int->Int->V):R2:=λx y H Q=>∃ i j,x=.int i/\y=.int j/\Q (g i j) H
def rU (g:Int->V):V->Hp->VK->Prop:=λx H Q=>∃ i,x=.int i/\Q (g i) H
section
variable {X:Cx} {a b c:Kt} {ta tb tc:TE} {pos:Pos}
theorem DV (ha:PE X a ta) (hb:PE X b tb) {KD:List (Kr×KC)} {s:Ko} {σ:St} {H:Hp} {R:V->V->Hp->Prop} (I:aI X KD σ H s)
  (h:ta σ H λx H1=>tb σ H1 λy H2=>R x y H2) {Q:Kq->Ko->Prop} {f:Kq->Kq->Sem Kq}
  (hf:∀ v u s2 x y H2,aI X KD σ H2 s2->b7 x v->b7 y u->R x y H2->wpAny (model X.prog X.w) X.A (f v u) Q X.xe s2):
  wpAny (model X.prog X.w) X.A (eval a X.env) (λv s₁=>wpAny (model X.prog X.w) X.A (eval b X.env) (λu s₂=>wpAny (model X.prog X.w) X.A (f v u) Q X.xe s₂) X.xe s₁) X.xe s:=by
 refine cm (ha KD s σ H _ I h) λv s1 z9=>?_
 obtain⟨x,H1,I1,r1,q1⟩:=z9;refine cm (hb KD s1 σ H1 _ I1 q1) λu s2 z9=>?_
 obtain⟨y,H2,I2,r2,q2⟩:=z9;exact hf v u s2 x y H2 I2 r1 r2 q2
theorem Gr {op:Operator} {r:R2} (ho:fW X (binaryOp op) r) (ha:PE X a ta) (hb:PE X b tb):PE X (.BinOp a op b pos) (F4 r ta tb):=by
 intro KD s σ H Q I h;exact wpAny_BinOp (DV ha hb I h λv u s2 x y H2 I2 rx ry q=>ho KD s2 σ H2 x y v u Q I2 rx ry q)
theorem FF {op:UnaryOp} {r:V->Hp->VK->Prop} (ho:GB X (unaryOp op) r) (ha:PE X a ta):PE X (.UnaryOp op a pos) (Jp r ta):=by
 intro KD s σ H Q I h;exact UnaryOp_ (cm (ha KD s σ H _ I h) λv s1 z9=>by obtain⟨x,H1,I1,r1,q1⟩:=z9; exact ho KD s1 σ H1 x v Q I1 r1 q1)
theorem F' {f:Kq->Kq->Sem Kq} {C:Int->Int->Prop} {g:Int->Int->Int}
  (rule:∀ (i j:Int) (t u:Tok) (s:Ko) (Q:Kq->Ko->Prop) (E:Kq->Ko->Prop),C i j->Q (.int (g i j) s.toks) {s with toks:=s.toks+1}->wpAny (model X.prog X.w) X.A (f (.int i t) (.int j u)) Q E s):
  fW X f (rI C λi j=>.int (g i j)):=by
 intro KD s σ H x y v u Q I rx ry h;obtain⟨i,j,rfl,rfl,hc,q⟩:=h;obtain⟨t,rfl⟩:=rx;obtain⟨t',rfl⟩:=ry;exact rule i j t t' s _ _ hc ⟨.int (g i j),H,I.tok _,⟨_,rfl⟩,q⟩
theorem FZ {f:Kq->Kq->Sem Kq} {g:Int->Int->Int}
  (rule:∀ (i j:Int) (t u:Tok) (s:Ko) (Q:Kq->Ko->Prop) (E:Kq->Ko->Prop),Q (.int (g i j) s.toks) {s with toks:=s.toks+1}->wpAny (model X.prog X.w) X.A (f (.int i t) (.int j u)) Q E s):
  fW X f (Cv λi j=>.int (g i j)):=by
 intro KD s σ H x y v u Q I rx ry h;obtain⟨i,j,rfl,rfl,q⟩:=h;obtain⟨t,rfl⟩:=rx;obtain⟨t',rfl⟩:=ry;exact rule i j t t' s _ _ ⟨.int (g i j),H,I.tok _,⟨_,rfl⟩,q⟩
theorem CN {f:Kq->Kq->Sem Kq} {g:Int->Int->KA}
  (rule:∀ (i j:Int) (t u:Tok) (s:Ko) (Q:Kq->Ko->Prop) (E:Kq->Ko->Prop),Q (.bool (g i j)) s->wpAny (model X.prog X.w) X.A (f (.int i t) (.int j u)) Q E s):
  fW X f (Cv λi j=>.bl (g i j)):=by
 intro KD s σ H x y v u Q I rx ry h;obtain⟨i,j,rfl,rfl,q⟩:=h;obtain⟨t,rfl⟩:=rx;obtain⟨t',rfl⟩:=ry;exact rule i j t t' s _ _ ⟨.bl (g i j),H,I,rfl,q⟩
def Ez (i j:Int):Prop:=0<=j/\j<=1000000/\i.natAbs < 2 ^ 64
theorem EO:fW X (binaryOp .Add) (Cv λi j=>.int (i+j)):=FZ λ_ _ _ _ _ _ _ q=>add_int q
theorem E6:fW X (binaryOp .Sub) (Cv λi j=>.int (i - j)):=FZ λ_ _ _ _ _ _ _ q=>sub_int q
theorem A9:fW X (binaryOp .Mod) (rI (λ_ j=>j≠0) λi j=>.int (i.fmod j)):=F' λ_ _ _ _ _ _ _ hc q=>mod_int' hc q
theorem Ee:fW X (binaryOp .Pow) (rI Ez λi j=>.int (i ^ j.toNat)):=F' λ_ _ _ _ _ _ _ hc q=>pow_int_small hc.1 hc.2.1 hc.2.2 q
theorem Jh {f:Kq->Sem Kq} {g:Int->Int}
  (rule:∀ (i:Int) (t:Tok) (s:Ko) (Q:Kq->Ko->Prop) (E:Kq->Ko->Prop),Q (.int (g i) s.toks) {s with toks:=s.toks+1}->wpAny (model X.prog X.w) X.A (f (.int i t)) Q E s):
  GB X f (rU λi=>.int (g i)):=by
 intro KD s σ H x v Q I rx h;obtain⟨i,rfl,q⟩:=h;obtain⟨t,rfl⟩:=rx;exact rule i t s _ _ ⟨.int (g i),H,I.tok _,⟨_,rfl⟩,q⟩
theorem DZ:GB X (unaryOp .USub) (rU λi=>.int (-i)):=Jh λ_ _ _ _ _ q=>neg_int q
end
def D4:V->V->KA
 | .non,.non=>true | .non,.int _=>true | .int _,.non=>true | .non,.bl _=>true | .bl _,.non=>true | .non,.str _=>true | .str _,.non=>true
 | .int _,.int _=>true | .bl _,.bl _=>true | .str _,.str _=>true | .byt _,.byt _=>true
 | .int _,.str _=>true | .str _,.int _=>true | .bl _,.str _=>true | .str _,.bl _=>true
 | _,_=>false
def IU:R2:=λx y H Q=>D4 x y=true/\Q (.bl (decide (x=y))) H
def IR:R2:=λx y H Q=>D4 x y=true/\Q (.bl (!decide (x=y))) H
theorem xh {i j:Int}:decide (V.int i=V.int j)=(i == j):=by
 rw [Bool.eq_iff_iff];simp
theorem AW {i j:KA}:decide (V.bl i=V.bl j)=(i == j):=by
 rw [Bool.eq_iff_iff];simp
theorem xi {i j:Str}:decide (V.str i=V.str j)=(i == j):=by
 rw [Bool.eq_iff_iff];simp
theorem wN {i j:Kz UInt8}:decide (V.byt i=V.byt j)=(i.toList == j.toList):=by
 rw [Bool.eq_iff_iff];cases i;cases j;simp
section
variable {X:Cx} {a b c:Kt} {ta tb tc:TE} {pos:Pos}
theorem bv {KD:List (Kr×KC)} {σ:St} {H:Hp} {s:Ko} {Q:VK} {k k':KA} (I:aI X KD σ H s) (q:Q (.bl k) H) (e:k=k'):EP X KD σ Q (.bool k') s:=by
 subst e;exact⟨.bl k,H,I,rfl,q⟩
theorem Gb:fW X (compareOp .Eq) IU:=by
 intro KD s σ H x y v u Q I rx ry h;obtain⟨hs,q⟩:=h;cases x with
 | non=>
  cases rx;cases y with
  | non=>cases ry; exact PySem.EqNone.eq_none_none (bv I q (by simp))
  | bl j=>cases ry; exact PySem.EqNone.eq_none_bool (bv I q (by simp))
  | int j=>obtain⟨t',rfl⟩:=ry; exact PySem.EqNone.eq_none_int (bv I q (by simp))
  | str j=>obtain⟨t',rfl⟩:=ry; exact PySem.EqNone.eq_none_str (bv I q (by simp))
  | _=>exact absurd (show false=true from hs) Jz
 | bl i=>
  cases rx;cases y with
  | non=>cases ry; exact PySem.EqNone.eq_bool_none (bv I q (by simp))
  | bl j=>cases ry; exact eq_bool (bv I q AW)
  | str j=>obtain⟨t',rfl⟩:=ry; exact PySem.EqMixed.eq_bool_str (bv I q (by simp))
  | _=>exact absurd (show false=true from hs) Jz
 | int i=>
  obtain⟨t,rfl⟩:=rx;cases y with
  | non=>cases ry; exact PySem.EqNone.eq_int_none (bv I q (by simp))
  | int j=>obtain⟨t',rfl⟩:=ry; exact eq_int (bv I q xh)
  | str j=>obtain⟨t',rfl⟩:=ry; exact PySem.EqMixed.eq_int_str (bv I q (by simp))
  | _=>exact absurd (show false=true from hs) Jz
 | str i=>
  obtain⟨t,rfl⟩:=rx;cases y with
  | non=>cases ry; exact PySem.EqNone.eq_str_none (bv I q (by simp))
  | bl j=>cases ry; exact PySem.EqMixed.eq_str_bool (bv I q (by simp))
  | int j=>obtain⟨t',rfl⟩:=ry; exact PySem.EqMixed.eq_str_int (bv I q (by simp))
  | str j=>obtain⟨t',rfl⟩:=ry; exact eq_str (bv I q xi)
  | _=>exact absurd (show false=true from hs) Jz
 | byt i=>
  obtain⟨t,rfl⟩:=rx;cases y with
  | byt j=>obtain⟨t',rfl⟩:=ry; exact PySem.W.eq_bytes (bv I q wN)
  | _=>exact absurd (show false=true from hs) Jz
 | _=>cases y <;> exact absurd (show false=true from hs) Jz
theorem FS:fW X (compareOp .NotEq) IR:=by
 intro KD s σ H x y v u Q I rx ry h;obtain⟨hs,q⟩:=h;cases x with
 | non=>
  cases rx;cases y with
  | non=>cases ry; exact PySem.EqNone.ne_none_none (bv I q (by simp))
  | bl j=>cases ry; exact PySem.EqNone.ne_none_bool (bv I q (by simp))
  | int j=>obtain⟨t',rfl⟩:=ry; exact PySem.EqNone.ne_none_int (bv I q (by simp))
  | str j=>obtain⟨t',rfl⟩:=ry; exact PySem.EqNone.ne_none_str (bv I q (by simp))
  | _=>exact absurd (show false=true from hs) Jz
 | bl i=>
  cases rx;cases y with
  | non=>cases ry; exact PySem.EqNone.ne_bool_none (bv I q (by simp))
  | bl j=>cases ry; exact ne_bool (bv I q (congrArg not AW))
  | str j=>obtain⟨t',rfl⟩:=ry; exact PySem.EqMixed.ne_bool_str (bv I q (by simp))
  | _=>exact absurd (show false=true from hs) Jz
 | int i=>
  obtain⟨t,rfl⟩:=rx;cases y with
  | non=>cases ry; exact PySem.EqNone.ne_int_none (bv I q (by simp))
  | int j=>obtain⟨t',rfl⟩:=ry; exact ne_int (bv I q (congrArg not xh))
  | str j=>obtain⟨t',rfl⟩:=ry; exact PySem.EqMixed.ne_int_str (bv I q (by simp))
  | _=>exact absurd (show false=true from hs) Jz
 | str i=>
  obtain⟨t,rfl⟩:=rx;cases y with
  | non=>cases ry; exact PySem.EqNone.ne_str_none (bv I q (by simp))
  | bl j=>cases ry; exact PySem.EqMixed.ne_str_bool (bv I q (by simp))
  | int j=>obtain⟨t',rfl⟩:=ry; exact PySem.EqMixed.ne_str_int (bv I q (by simp))
  | str j=>obtain⟨t',rfl⟩:=ry; exact ne_str (bv I q (congrArg not xi))
  | _=>exact absurd (show false=true from hs) Jz
 | byt i=>
  obtain⟨t,rfl⟩:=rx;cases y with
  | byt j=>obtain⟨t',rfl⟩:=ry; exact PySem.W.ne_bytes (bv I q (congrArg not wN))
  | _=>exact absurd (show false=true from hs) Jz
 | _=>cases y <;> exact absurd (show false=true from hs) Jz
theorem GN:fW X (compareOp .Lt) (Cv λi j=>.bl (decide (i < j))):=CN λ_ _ _ _ _ _ _ q=>lt_int q
theorem Gs:fW X (compareOp .LtE) (Cv λi j=>.bl (decide (i<=j))):=CN λ_ _ _ _ _ _ _ q=>le_int q
theorem F6:fW X (compareOp .Gt) (Cv λi j=>.bl (decide (j < i))):=CN λ_ _ _ _ _ _ _ q=>gt_int q
theorem GG:fW X (compareOp .GtE) (Cv λi j=>.bl (decide (j<=i))):=CN λ_ _ _ _ _ _ _ q=>ge_int q
theorem Ev:fW X (compareOp .Is) (λx y H Q=>y=.non/\Q (.bl (decide (x=.non))) H):=by
 intro KD s σ H x y v u Q I rx ry h;obtain⟨rfl,q⟩:=h;cases ry;refine is_none_gen (bv I q ?_);cases x <;> first
  | (cases rx; rfl)
  | (obtain ⟨t,rfl⟩:=rx; rfl)
theorem Cz:fW X (compareOp .IsNot) (λx y H Q=>y=.non/\Q (.bl (!decide (x=.non))) H):=by
 intro KD s σ H x y v u Q I rx ry h;obtain⟨rfl,q⟩:=h;cases ry;refine isnot_none_gen (bv I q ?_);cases x <;> first
  | (cases rx; rfl)
  | (obtain ⟨t,rfl⟩:=rx; rfl)
theorem aD (b:Kt) {op:CmpOp} (h:op≠.In:=by decide) (h2:op≠.NotIn:=by decide):behindInMarks op b=false:=by
 have e1:(op == CmpOp.In)=false:=by cases op <;> first | rfl | exact absurd rfl h
 have e2:(op == CmpOp.NotIn)=false:=by cases op <;> first | rfl | exact absurd rfl h2
 cases b <;> simp [behindInMarks,e1,e2]
theorem Bq {op:CmpOp} {r:R2} (ho:fW X (compareOp op) r) (ha:PE X a ta) (hb:PE X b tb) (hm:behindInMarks op b=false):PE X (.Compare a [op] [b] pos) (F4 r ta tb):=by
 intro KD s σ H Q I h;exact wpAny_Compare1 (DV ha hb I h λv u s2 x y H2 I2 rx ry q=>ho KD s2 σ H2 x y v u Q I2 rx ry q) hm
def yU (t:TE):TT:=fun σ H Q=>t σ H λx H'=>∃ k,x=.bl k/\Q k H'
theorem Cm {op:CmpOp} {r:R2} (ho:fW X (compareOp op) r) (ha:PE X a ta) (hb:PE X b tb) (hm:behindInMarks op b=false):PT X (.Compare a [op] [b] pos) (yU (F4 r ta tb)):=by
 intro KD s σ H Q I h;refine wpAny_isTrue_Compare1 (cm (ha KD s σ H _ I h) λv s1 ⟨x,H1,I1,r1,q1⟩=>cm (hb KD s1 σ H1 _ I1 q1) λu s2 ⟨y,H2,I2,r2,q2⟩=>
  cm (ho KD s2 σ H2 x y v u _ I2 r1 r2 q2) λc s3 ⟨z,H3,I3,r3,k,e,q3⟩=>?_) hm
 subst e;cases r3;exact wpAny_truthy_bool ⟨H3,I3,q3⟩
def vp (r r':R2) (ta tb tc:TE):TE:=fun σ H Q=>ta σ H λx H1=>tb σ H1 λy H2=>r x y H2 λz H3=>∃ k,z=.bl k/\
 (if k=true then tc σ H3 λw' H4=>r' y w' H4 Q else Q (.bl false) H3)
theorem zL {op op':CmpOp} {r r':R2} (ho:fW X (compareOp op) r) (ho':fW X (compareOp op') r') (ha:PE X a ta) (hb:PE X b tb) (hc:PE X c tc)
  (hm:lastMarks [op,op'] [b,c]=false:=by with_unfolding_all rfl):PE X (.Compare a [op,op'] [b,c] pos) (vp r r' ta tb tc):=by
 intro KD s σ H Q I h;refine Compare_chain (cm (ha KD s σ H _ I h) λv s1 ⟨x,H1,I1,r1,q1⟩=>chain_link (cm (hb KD s1 σ H1 _ I1 q1) λu s2 ⟨y,H2,I2,r2,q2⟩=>
  cm (ho KD s2 σ H2 x y v u _ I2 r1 r2 q2) λd s3 ⟨z,H3,I3,r3,k,e,q3⟩=>?_)) hm
 subst e;cases r3;refine wpAny_truthy_bool ?_;cases k with
 | false=>exact ite_ff ⟨.bl false,H3,I3,rfl,q3⟩
 | true=>exact ite_tt (chain_last (cm (hc KD s3 σ H3 _ I3 q3) λw' s4 ⟨z',H4,I4,r4,q4⟩=>ho' KD s4 σ H4 y z' u w' Q I4 r2 r4 q4))
theorem zp {op op':CmpOp} {r r':R2} (ho:fW X (compareOp op) r) (ho':fW X (compareOp op') r') (ha:PE X a ta) (hb:PE X b tb) (hc:PE X c tc)
  (hm:lastMarks [op,op'] [b,c]=false:=by with_unfolding_all rfl):PT X (.Compare a [op,op'] [b,c] pos) (yU (vp r r' ta tb tc)):=by
 intro KD s σ H Q I h;refine isTrue_chain (cm (ha KD s σ H _ I h) λv s1 ⟨x,H1,I1,r1,q1⟩=>test_link (cm (hb KD s1 σ H1 _ I1 q1) λu s2 ⟨y,H2,I2,r2,q2⟩=>
  cm (ho KD s2 σ H2 x y v u _ I2 r1 r2 q2) λd s3 ⟨z,H3,I3,r3,k,e,q3⟩=>?_)) hm
 subst e;cases r3;refine wpAny_truthy_bool ?_;cases k with
 | false=>
  obtain⟨k',e',q'⟩:=q3;cases e';exact ite_ff ⟨H3,I3,q'⟩
 | true=>
  refine ite_tt (test_last (cm (hc KD s3 σ H3 _ I3 q3) λw' s4 ⟨z',H4,I4,r4,q4⟩=>cm (ho' KD s4 σ H4 y z' u w' _ I4 r2 r4 q4) λd' s5 ⟨z2,H5,I5,r5,k2,e2,q5⟩=>?_))
  subst e2;cases r5;exact wpAny_truthy_bool ⟨H5,I5,q5⟩
theorem sP:(sizeLine:Nat) < 2 ^ 63:=by rw [sizeLine_eq]; decide
theorem wa:fW X (binaryOp .Add) (λx y H Q=>∃ i j,x=.str i/\y=.str j/\i.length+j.length<=sizeLine/\Q (.str (i++j)) H):=by
 intro KD s σ H x y v u Q I rx ry h;obtain⟨i,j,rfl,rfl,hz,q⟩:=h;obtain⟨t,rfl⟩:=rx;obtain⟨t',rfl⟩:=ry;exact add_str (λt' tk=>⟨.str (i++j),H,I.tok _,⟨_,rfl⟩,q⟩) hz
theorem yR {x:V} {us:List Kq} (r:bu [x] us):∃ u,us=[u]/\b7 x u:=by
 cases r with
 | cons r1 r2=>cases r2; exact⟨_,rfl,r1⟩
theorem wK {x y:V} {us:List Kq} (r:bu [x,y] us):∃ u w',us=[u,w']/\b7 x u/\b7 y w':=by
 cases r with
 | cons r1 r2=>
  cases r2 with
  | cons r3 r4=>cases r4; exact⟨_,_,rfl,r1,r3⟩
theorem Am:eR X (.builtin "abs") (λxs H Q=>∃ i,xs=[.int i]/\Q (.int (if i < 0 then -i else i)) H):=by
 intro KD s σ H xs us Q I r h;obtain⟨i,rfl,q⟩:=h;obtain⟨u,rfl,t,rfl⟩:=yR r;exact call_abs_int λu tk=>⟨.int (if i < 0 then -i else i),H,I.tok _,⟨_,rfl⟩,q⟩
theorem yi (hc:X.calm=true):eR X (.builtin "max") (λxs H Q=>∃ i j,xs=[.int i,.int j]/\Q (.int (if j > i then j else i)) H):=by
 intro KD s σ H xs us Q I r h;obtain⟨i,j,rfl,q⟩:=h;obtain⟨u,w',rfl,⟨t,rfl⟩,⟨t',rfl⟩⟩:=wK r;refine max_two_ints (I.ok.hd hc) λh' tk k=>⟨_,H,I.kept k,?_,q⟩
 by_cases hj:j > i
 ·rw [if_pos hj,if_pos hj]; exact⟨_,rfl⟩
 ·rw [if_neg hj,if_neg hj]; exact⟨_,rfl⟩
theorem xQ (hc:X.calm=true):eR X (.builtin "min") (λxs H Q=>∃ i j,xs=[.int i,.int j]/\Q (.int (if j < i then j else i)) H):=by
 intro KD s σ H xs us Q I r h;obtain⟨i,j,rfl,q⟩:=h;obtain⟨u,w',rfl,⟨t,rfl⟩,⟨t',rfl⟩⟩:=wK r;refine min_two_ints (I.ok.hd hc) λh' tk k=>⟨_,H,I.kept k,?_,q⟩
 by_cases hj:j < i
 ·rw [if_pos hj,if_pos hj]; exact⟨_,rfl⟩
 ·rw [if_neg hj,if_neg hj]; exact⟨_,rfl⟩
end
structure dg (k:Nat) (A:Kv):Prop where
 hd:A.handled=none
 dp:A.depth+3*k+5 < recursionLimit
 un:A.units+16*k+200 < cLine
theorem dg.mono {j k:Nat} {A:Kv} (r:dg k A) (h:j<=k):dg j A:=⟨r.hd,by have:=r.dp; omega,by have:=r.un; omega⟩
theorem dg.deeper {k:Nat} {A:Kv} (r:dg (k+1) A) (env:Env):dg k (A.deeper env):=
 ⟨r.hd,by have:=r.dp; show A.depth+1+3*k+5 < _; omega,by have:=r.un; show A.units+3+16*k+200 < _; omega⟩
theorem wb {A:Kv} {C:Kr} {us:List Kq} {kw:List (Str×Kq)}:(A.under (.builtin "type.__call__" ⟨.ref C::us,kw⟩)).depth=A.depth+1:=by
 first | rfl | simp [Around.under,Code.weight,Code.isCreation,Code.isGuard,Code.isCaller,Code.frames,Code.isFrame,guardIds]
theorem vw {A:Kv} {C:Kr} {us:List Kq} {kw:List (Str×Kq)}:(A.under (.builtin "type.__call__" ⟨.ref C::us,kw⟩)).units=A.units+1:=by
 first | rfl | simp [Around.under,Code.cUnits,Code.frames,Code.isFrame]
theorem dg.make {k:Nat} {A:Kv} (r:dg (k+1) A) (C:Kr) (us:List Kq) (kw:List (Str×Kq)):dg k (A.under (.builtin "type.__call__" ⟨.ref C::us,kw⟩)):=
 ⟨r.hd,by have:=r.dp; rw [wb]; omega,by have:=r.un; rw [vw]; omega⟩
theorem dg.depth {k:Nat} {A:Kv} (r:dg k A):A.depth < recursionLimit:=by have:=r.dp; omega
theorem dg.units {k:Nat} {A:Kv} (r:dg k A):A.units+64 < cLine:=by have:=r.un; omega
def Ix:TA:=λ_ H Q=>Q [] H
def Gf (ta:TE) (tr:TA):TA:=fun σ H Q=>ta σ H λx H1=>tr σ H1 λxs H2=>Q (x::xs) H2
section
variable {X:Cx} {e:Kt} {es:List Kt} {te:TE} {t:TA} {pos:Pos}
theorem tD:PA X [] Ix:=λ_ _ _ _ H Q I h=>Calls.spliced_nil ⟨[],H,I,.nil,h⟩
theorem o0 (ha:PE X e te) (hr:PA X es t) (hs:starEach (e::es) X.env=(false,eval e X.env)::starEach es X.env:=by rfl):PA X (e::es) (Gf te t):=by
 intro pos KD s σ H Q I h;rw [hs]
 show wpAny _ _ (spliced ((false,eval e X.env)::backTo pos (starEach es X.env))) _ _ s
 refine Calls.spliced_cons (cm (ha KD s σ H _ I h) λu s1 z9=>?_)
 obtain⟨x,H1,I1,r1,q1⟩:=z9;exact cm (hr pos KD s1 σ H1 _ I1 q1) λus s2 z9=>by obtain⟨xs,H2,I2,r2,q2⟩:=z9; exact⟨x::xs,H2,I2,.cons r1 r2,q2⟩
def IA (t:TA):TE:=fun σ H Q=>t σ H λxs H1=>xs.length<=sizeLine/\∀ p,H1 p=none->Q (.ref p) (cb H1 p (.tup xs))
def Ii (t:TA):TE:=fun σ H Q=>t σ H λxs H1=>xs.length<=sizeLine/\∀ p,H1 p=none->Q (.ref p) (cb H1 p (.lst xs))
theorem D7 {x1} (h:PA X es t):PE X (.Tuple es x1 pos) (IA t):=by
 intro KD s σ H Q I hq;refine wpAny_Tuple_spliced (cm (h pos KD s σ H _ I hq) λus s1 ⟨xs,H1,I1,r,z,q⟩=>⟨by rw [<- r.length]; exact z,?_⟩)
 have hf:H1 s1.heap.objs.size=none:=I1.hok.fresh (Jw _);refine⟨.ref s1.heap.objs.size,cb H1 s1.heap.objs.size (.tup xs),I1.laid (t':=s1.toks) (λb u e=>pp _ e) (Jw _) ?_,rfl,q _ hf⟩
 exact⟨z,us,r,⟨_,Jt _ rfl,rfl,_,rfl⟩⟩
theorem Fq (h:PA X es t):PE X (.List es pos) (Ii t):=by
 intro KD s σ H Q I hq;refine wpAny_List_spliced (cm (h pos KD s σ H _ I hq) λus s1 ⟨xs,H1,I1,r,z,q⟩=>⟨by rw [<- r.length]; exact z,?_⟩)
 have hf:H1 s1.heap.objs.size=none:=I1.hok.fresh (Jw _);refine⟨.ref s1.heap.objs.size,cb H1 s1.heap.objs.size (.lst xs),I1.laid (t':=s1.toks) (λb u e=>pp _ e) (Jw _) ?_,rfl,q _ hf⟩
 exact⟨z,us,0,r,Jt _ rfl⟩
end
abbrev Sp:=List V->Hp->VK->XK->Prop
abbrev zQ:=List Env->Hp->Ko->XK->Kq->Ko->Prop
structure ug (P:Ku) (w:Kw) (K:PySem.W.Frag) (mg:Str->Ks Kq) (base:Kx) (A:Kv) (outer:List Env) (s:Ko) (H:Hp):Prop where
 frames:A.frames=some outer
 mod:Mod K mg base
 bs:∀ b o,base.get? b=some o->s.heap.get? b=some o/\H b=none
 bsz:base.objs.size<=s.heap.objs.size
 funs:s.heap.FunFrames base outer
 frf:∀ b∈f_ outer,H b=none
 hok:mv P w H s.heap
 bare:AllBare s.gens
def CE (outer:List Env) (P:Ku) (w:Kw) (H:Hp) (s:Ko) (Q:VK) (u:Kq) (s':Ko):Prop:=
 ∃ v H',s'.os=s.os/\AllBare s'.gens/\Un (f_ outer) [] H H' s.heap s'.heap/\mv P w H' s'.heap/\b7 v u/\Q v H'
def CR (CX:zQ) (outer:List Env) (P:Ku) (w:Kw) (H:Hp) (s:Ko) (Q:VK) (E:XK) (r:Result) (s':Ko):Prop:=
 match r with
 | .ok (.ret u)=>CE outer P w H s Q u s'
 | .ok _=>False
 | .error e=>CX outer H s E e s'
structure aQ (P:Ku) (w:Kw) (K:PySem.W.Frag) (mg:Str->Ks Kq) (base:Kx) (CX:zQ) (k:Nat) (f:Kr) (fd:FuncData) (ps:List Str) (sp:Sp):Prop where
 len:∀ vs H Q E,sp vs H Q E->vs.length=ps.length
 run:∀ (A:Kv) (outer:List Env) (s:Ko) (H:Hp) (args:Args) (us:List Kq) (vs:List V) (Q:VK) (E:XK),dg k A->ug P w K mg base A outer s H->BindsTo s fd args (ps.zip us)->bu vs us->sp vs H Q E->
  codeAny (model P w) A (.call (.ref f) args) (CR CX outer P w H s Q E) s
theorem ug.make {P:Ku} {w:Kw} {K:PySem.W.Frag} {mg:Str->Ks Kq} {base:Kx} {A:Kv} {outer:List Env} {s:Ko} {H:Hp} (e:ug P w K mg base A outer s H) (C:Kr) (us:List Kq) (kw:List (Str×Kq)):
  ug P w K mg base (A.under (.builtin "type.__call__" ⟨.ref C::us,kw⟩)) outer s H:=⟨by first | exact e.frames | (simpa [Around.under,Code.envs,Code.isFrame,pushEnvs] using e.frames),e.mod,e.bs,e.bsz,e.funs,e.frf,e.hok,e.bare⟩
section
variable {X:Cx} {KD:List (Kr×KC)} {σ:St} {H:Hp} {s s':Ko}
theorem aI.env0 (I:aI X KD σ H s):ug X.prog X.w X.K X.mg X.base X.A X.stack s H:=
 ⟨I.ok.frames,I.ok.mod,I.bs,J7 I.ok.bsz I.sz,I.stack,I.stkFree,I.hok,I.bare⟩
theorem aI.after {Q:VK} {u:Kq} (I:aI X KD σ H s) (h:CE X.stack X.prog X.w H s Q u s'):EP X KD σ Q u s':=by
 obtain⟨v,H',os,bare,un,hok,r,q⟩:=h;obtain⟨hh,g,d,t,os'⟩:=s';obtain rfl:os'=s.os:=os;exact⟨v,H',I.call (h':=hh) (g':=g) (d':=d) (t':=t) (ch:=[]) un hok bare (λb z=>absurd z (by simp)),r,q⟩
end
def GH (sp:Sp) (dvs:List V) (E:XK) (t:TA):TE:=fun σ H Q=>t σ H λvs H1=>sp (vs++dvs) H1 Q E
def iD (K:PySem.W.Frag) (fd:FuncData) (ps:List Str) (ds:List Kq):Prop:=
 ∀ (s:Ko) (us:List Kq),K.In s.heap->(us++ds).length=ps.length->BindsTo s fd ⟨us,[]⟩ (ps.zip (us++ds))
theorem iD.all {K:PySem.W.Frag} {fd:FuncData} {ps:List Str} (h:∀ us:List Kq,us.length=ps.length->bindArgs fd ⟨us,[]⟩=pure (ps.zip us)):iD K fd ps []:=λs us _ hl=>by
 rw [JP] at hl ⊢;exact .of_eq (h us hl)
def tz (CX:zQ) (X:Cx) (E:XK):Prop:=∀ (KD:List (Kr×KC)) (σ:St) (H:Hp) (s:Ko) (e:Kq) (s':Ko),aI X KD σ H s->CX X.stack H s E e s'->X.xe e s'
section
variable {X:Cx} {CX:zQ} {k:Nat} {f C:Kr} {fd:FuncData} {ps:List Str} {sp:Sp} {dvs:List V} {ds:List Kq} {E:XK} {x m:Str} {p pos apos:Pos} {e o:Kt} {es:List Kt} {ta:TE} {t:TA}
theorem DC {KD:List (Kr×KC)} {σ:St} {H:Hp} {s:Ko} {Q:VK} {us:List Kq} {vs:List V} (F:aQ X.prog X.w X.K X.mg X.base CX k f fd ps sp) (hr:dg k X.A) (hb:iD X.K fd ps ds) (hd:bu dvs ds) (hx:tz CX X E)
  (I:aI X KD σ H s) (r:bu vs us) (h:sp (vs++dvs) H Q E):wpAny (model X.prog X.w) X.A (call (.ref f) us) (EP X KD σ Q) X.xe s:=by
 have r2:bu (vs++dvs) (us++ds):=r.append hd;have hl:(us++ds).length=ps.length:=by rw [<- r2.length]; exact F.len _ _ _ _ h
 refine wpAny_call (codeAny_mono (F.run X.A X.stack s H ⟨us,[]⟩ (us++ds) (vs++dvs) Q E hr I.env0 (hb s us I.kIn hl) r2 h) λr s' hq=>?_)
 cases r with
 | error e=>exact hx KD σ H s e s' I hq
 | ok fl=>
  cases fl with
  | ret u=>exact I.after hq
  | next=>exact False.elim hq
  | brk=>exact False.elim hq
  | cont=>exact False.elim hq
theorem wF (F:aQ X.prog X.w X.K X.mg X.base CX k f fd ps sp) (hr:dg k X.A) (hg:Gl X x) (hm:X.mg x=some (.ref f)) (hk:PySem.W.keepIn X.K (.ref f)=true) (hb:iD X.K fd ps ds) (hd:bu dvs ds) (hx:tz CX X E)
  (ha:PA X (e::es) t) (hdb:(x == ("__debug__":Str))=false:=by decide) (he:starEach (e::es) X.env=(false,eval e X.env)::starEach es X.env:=by rfl) (hpl:(backTo pos (starEach es X.env)).any (·.1)=false:=by rfl):
  PE X (.Call (.Name x p) (e::es) [] pos) (GH sp dvs E t):=by
 intro KD s σ H Q I h;refine wpAny_Call_Name_kw (fv I hg hm ?_ hdb);refine PySem.W.callWith_K (h₀:=X.base) I.ok.mod.kin hk (cm (ha pos KD s σ H _ I h) λus s1 ⟨vs,H1,I1,r,q⟩=>⟨I1.kIn,?_⟩) he hpl
 exact DC F hr hb hd hx I1 r q
end
structure ar (N P:List Str) (sc:Scope):Prop where
 kind:sc.kind=.function
 co:sc.isCoroutine=false
 gen:sc.isGenerator=false
 nd:N.Nodup
 pre:N.take P.length=P
 par:∀ x∈P,sc.names.lookup x=some .local\/sc.names.lookup x=some .cell
 nofree:∀ y∈sc.names,y.2≠.free
theorem dZ {N P:List Str} {sc:Scope} (a:sc.kind=.function:=by rfl) (b:sc.isCoroutine=false:=by rfl) (c:sc.isGenerator=false:=by rfl) (d:N.Nodup:=by decide +kernel) (e:N.take P.length=P:=by rfl) (f:∀ x∈P,sc.names.lookup x=some .local\/sc.names.lookup x=some .cell:=by decide +kernel) (g:∀ y∈sc.names,y.2≠.free:=by decide +kernel):ar N P sc:=⟨a,b,c,d,e,f,g⟩
theorem rH {kindOf:Str->Ks NameKind} {x:Str}:∀ {binds:List (Str×Kq)} {m:Str->Ks Kq},(∀ v,(x,v)∉binds)->bindL kindOf binds m x=m x
 | [],_,_=>rfl
 | (n,v)::r,m,h=>by
  unfold bindL;rw [rH λw hw=>h w (JE _ hw)]
  split
  ·have:x≠n:=by rintro rfl; exact h v JD
   simp [this]
  ·rfl
theorem rg {kindOf:Str->Ks NameKind} {x:Str}:∀ {binds:List (Str×Kq)} {m:Str->Ks Kq},(∀ v,(x,v)∉binds)->bindC kindOf binds m x=m x
 | [],_,_=>rfl
 | (n,v)::r,m,h=>by
  unfold bindC;rw [rg λw hw=>h w (JE _ hw)]
  split
  ·rfl
  ·have:x≠n:=by rintro rfl; exact h v JD
   simp [this]
theorem rO {kindOf:Str->Ks NameKind} {x:Str} {v:Kq}:∀ {P:List Str} {vs:List Kq} {i:Nat} {m:Str->Ks Kq},P.Nodup->P[i]?=some x->vs[i]?=some v->kindOf x=some .local->
  bindL kindOf (P.zip vs) m x=some v
 | [],_,_,_,_,h,_,_=>by simp at h
 | _::_,[],_,_,_,_,h,_=>by simp at h
 | p::P,w::vs,0,m,nd,h1,h2,hk=>by
  simp at h1 h2; subst h1; subst h2
  show bindL kindOf ((p,w)::P.zip vs) m p=_
  unfold bindL;rw [rH λv hv=>(List.nodup_cons.mp nd).1 (List.of_mem_zip hv).1,if_pos hk]
  simp
 | p::P,w::vs,i+1,m,nd,h1,h2,hk=>by
  show bindL kindOf ((p,w)::P.zip vs) m x=_
  unfold bindL;exact rO (i:=i) (List.nodup_cons.mp nd).2 (by simpa using h1) (by simpa using h2) hk
theorem rG {kindOf:Str->Ks NameKind} {x:Str} {v:Kq}:∀ {P:List Str} {vs:List Kq} {i:Nat} {m:Str->Ks Kq},P.Nodup->P[i]?=some x->vs[i]?=some v->kindOf x≠some .local->
  bindC kindOf (P.zip vs) m x=some v
 | [],_,_,_,_,h,_,_=>by simp at h
 | _::_,[],_,_,_,_,h,_=>by simp at h
 | p::P,w::vs,0,m,nd,h1,h2,hk=>by
  simp at h1 h2; subst h1; subst h2
  show bindC kindOf ((p,w)::P.zip vs) m p=_
  unfold bindC;rw [rg λv hv=>(List.nodup_cons.mp nd).1 (List.of_mem_zip hv).1,if_neg hk]
  simp
 | p::P,w::vs,i+1,m,nd,h1,h2,hk=>by
  show bindC kindOf ((p,w)::P.zip vs) m x=_
  unfold bindC;exact rG (i:=i) (List.nodup_cons.mp nd).2 (by simpa using h1) (by simpa using h2) hk
def start (N:List Str) (vs:List V):St:=vs.map some++List.replicate (N.length - vs.length) none
def cX (CX:zQ) (P:Ku) (w:Kw) (K:PySem.W.Frag) (mg:Str->Ks Kq) (base:Kx) (N:List Str) (KE:Str) (scope:Scope) (f:Kr) (cd:Kq) (A:Kv) (outer:List Env) (s:Ko) (H:Hp) (E:XK):Cx where
 prog:=P
 w:=w
 K:=K
 mg:=mg
 base:=base
 A:=A.deeper (envOfC KE scope s.heap.objs.size f cd)
 N:=N
 s₀:=s
 H₀:=H
 env:=envOfC KE scope s.heap.objs.size f cd
 outer:=outer
 stack:=envOfC KE scope s.heap.objs.size f cd::outer
 ex:=[]
 calm:=true
 fn:=λ_=>true
 pn:=[]
 xe:=λe s'=>wpAny (model P w) (A.deeper (envOfC KE scope s.heap.objs.size f cd)) (leaving (envOfC KE scope s.heap.objs.size f cd) e) (λ_ s''=>CX outer H s E e s'') (λe' s''=>CX outer H s E e' s'') s'
theorem uh {sc:Scope} {n:Nat} {x:Str} (h:sc.names.lookup x=some .cell):∃ c,(cellsFrom n sc.names []).lookup x=some c:=by
 have q:=PySem.W.cellsFrom_some sc.names n [] (.inl h);exact Km.mp q
theorem re {CX:zQ} {P:Ku} {w:Kw} {K:PySem.W.Frag} {mg:Str->Ks Kq} {base:Kx} {N ps:List Str} {KE:Str} {scope:Scope} {f:Kr} {cd:Kq} {A:Kv} {outer:List Env} {s s1:Ko} {H:Hp} {E:XK} {us:List Kq} {vs:List V}
  (S:ar N ps scope) (hd:A.handled=none) (e0:ug P w K mg base A outer s H) (hl:vs.length=ps.length) (r:bu vs us)
  (x:InCallC s s.heap.objs.size (bindL (envOfC KE scope s.heap.objs.size f cd).kindOf (ps.zip us) λ_=>none) (cellsFrom (s.heap.objs.size+1) scope.names []) (bindC (envOfC KE scope s.heap.objs.size f cd).kindOf (ps.zip us) λ_=>none) s1):
  aI (cX CX P w K mg base N KE scope f cd A outer s H E) [] (start N vs) H s1:=by
 have hpl:ps.length<=N.length:=by have:=congrArg List.length S.pre; rw [List.length_take] at this; omega
 obtain⟨h1,tk,rfl,hk⟩:=x.done;have noA:∀ b:Kr,b∉(cX CX P w K mg base N KE scope f cd A outer s H E).ex:=λb z=>absurd (show b∈([]:List Kr) from z) (by simp)
 refine⟨⟨e0.mod,S.kind,rfl,rfl,Jw _,λy z c h1 h2=>?_,λy hy=>?_,λy c _ h=>?_,λ_=>hd,Around.frames_deeper e0.frames,.inr ⟨rfl,rfl⟩,λb z=>absurd z (noA b),e0.bs,e0.bsz,λb _ _=>noA b,λb z=>absurd z (noA b),e0.funs,e0.frf⟩,
  rfl,e0.bare,Un.kept hk,⟨_,x.toInCall.ns,λi y v h1 h2 h3=>?_⟩,λy c h=>⟨_,x.cell y c h⟩,e0.hok.fresh (Jw _),λy c h=>?_,λp hp=>absurd (show p∈([]:List (Kr×KC)) from hp) (by simp),e0.hok.kept hk,?_⟩
 ·exact name_of_addr x.apart (J9 h1) (J9 h2)
 ·have hy:scope.names.lookup y=some .cell\/scope.names.lookup y=some .free:=hy;rcases hy with hy | hy
  ·exact uh hy
  ·exact absurd rfl (S.nofree _ (J9 hy))
 ·exact Nat.le_of_lt (x.above y c (J9 h))
 ·have hi:i < vs.length:=by
   unfold start at h2
   by_cases hi:i < vs.length
   ·exact hi
   ·rw [List.getElem?_append_right (by simpa using hi)] at h2
    rw [List.getElem?_replicate] at h2
    split at h2 <;> cases h2
  have ha:vs[i]?=some v:=by
   unfold start at h2;rw [List.getElem?_append_left (by simpa using hi),JX] at h2
   cases e:vs[i]? with
   | none=>rw [e] at h2; cases h2
   | some a=>rw [e] at h2; cases h2; rfl
  obtain⟨u,hu,rv⟩:=r.get ha;have hp:ps[i]?=some y:=by
   rw [<- S.pre,List.getElem?_take_of_lt (by omega)]; exact h1
  have ndP:ps.Nodup:=by rw [<- S.pre]; exact S.nd.sublist (List.take_sublist _ _)
  refine⟨u,rv,?_⟩;rcases S.par y (List.mem_of_getElem? hp) with k | k
  ·exact .inl ⟨k,rO ndP hp hu k⟩
  ·obtain⟨c,e⟩:=uh (n:=s.heap.objs.size+1) k;refine .inr ⟨.inl k,c,e,?_⟩;have q:=x.cell y c e;rw [rG ndP hp hu (by show scope.names.lookup y≠_; rw [k]; decide)] at q
   exact q
 ·exact e0.hok.fresh (Nat.le_of_lt (x.above y c (J9 h)))
 ·unfold start
  show _=N.length
  rw [JO,Jy,List.length_replicate];omega
theorem CP {CX:zQ} {P:Ku} {w:Kw} {K:PySem.W.Frag} {mg:Str->Ks Kq} {base:Kx} {k:Nat} {f:Kr} {name KE:Str} {params:Arguments} {body:List Ky} {scope:Scope} {dV kV doc pm cdv ct oc:Kq} {an od:Ks Kr}
  {osl:Kz (Ks Kq)} {N ps:List Str} {sp:Sp} (lk:K.lookup f=some ⟨oc,od,.func (PySem.W.fnOf name KE params body scope dV kV doc pm an cdv ct),osl⟩) (hcd:PySem.W.codeIn K cdv KE=true) (S:ar N ps scope)
  (len:∀ vs H Q E,sp vs H Q E->vs.length=ps.length)
  (hbody:∀ (A:Kv) (outer:List Env) (s:Ko) (H:Hp) (vs:List V) (Q:VK) (E:XK),dg k (A.deeper (envOfC KE scope s.heap.objs.size f cdv))->sp vs H Q E->
   ∃ t,oZ (cX CX P w K mg base N KE scope f cdv A outer s H E) body t/\t {nx:=λ_ H'=>Q .non H',rt:=Q} (start N vs) H):
  aQ P w K mg base CX (k+1) f (PySem.W.fnOf name KE params body scope dV kV doc pm an cdv ct) ps sp:=by
 refine⟨len,λA outer s H args us vs Q E hr e0 hb r hsp=>?_⟩
 have hl:=len _ _ _ _ hsp;have KX:K.In s.heap:=e0.mod.kin.keeps λb o e=>(e0.bs b o e).1
 have lim:s.heap.NoLimit:=e0.mod.nolimit.keeps λb o e=>(e0.bs b o e).1
 have hkind:∀ y∈ps.zip us,scope.names.lookup y.1=some .local\/(scope.names.lookup y.1=some .cell/\((cellsFrom (s.heap.objs.size+1) scope.names []).lookup y.1).isSome=true):=λ⟨n,v⟩ hy=>by
  rcases S.par n (List.of_mem_zip hy).1 with q | q
  ·exact .inl q
  ·exact .inr ⟨q,PySem.W.cellsFrom_some _ _ _ (.inl q)⟩
 refine codeAny_call_function hr.depth (KX _ _ lk) rfl S.co S.gen rfl (PySem.W.codeRec_of KX hcd) (hb _ _ _ _ ?_);refine wpAny_newFunctionEnv_cells S.kind hkind λenv he s1 x=>?_
 subst he;refine⟨lim.keeps x.toInCall.keep,codeAny_func ?_⟩;obtain⟨t,ht,hq⟩:=hbody A outer s H vs Q E (hr.deeper _) hsp;have I:aI (cX CX P w K mg base N KE scope f cdv A outer s H E) [] (start N vs) H s1:=re S hr.hd e0 hl r x;refine J5 (ht [] s1 (start N vs) H _ I hq) (λfl s' hs=>?_) λe s' hs=>hs
 have fin:∀ {σ':St} {H':Hp} {v:V} {u:Kq},aI (cX CX P w K mg base N KE scope f cdv A outer s H E) [] σ' H' s'->b7 v u->Q v H'->CE outer P w H s Q u s':=
  λ{σ' H' v u} J rv q=>⟨v,H',J.os,J.bare,J.base,J.hok,rv,q⟩
 cases fl with
 | ret u=>
  obtain⟨v,σ',H',J,rv,q⟩:=hs;exact fin J rv q
 | next=>
  obtain⟨σ',H',J,q⟩:=hs;exact fin (v:=V.non) (u:=Value.none) J rfl q
 | brk=>
  obtain⟨_,_,_,q⟩:=hs;exact False.elim q
 | cont=>
  obtain⟨_,_,_,q⟩:=hs;exact False.elim q
section
variable {X:Cx} {x:Str} {p pos:Pos} {e:Kt} {es:List Kt} {t:TA} {id T:KB} {r:List V->Hp->VK->Prop}
def Ht (r:List V->Hp->VK->Prop) (t:TA):TE:=fun σ H Q=>t σ H λvs H1=>r vs H1 Q
theorem zi (hc:eR X (.builtin id) r) (hg:Gl X x) (hm:X.mg x=none) (hv:bootBuiltins x=some (.builtin id)) (ha:PA X (e::es) t) (hn:x≠"__name__":=by decide) (hdb:(x == ("__debug__":Str))=false:=by decide)
  (he:starEach (e::es) X.env=(false,eval e X.env)::starEach es X.env:=by rfl) (hpl:(backTo pos (starEach es X.env)).any (·.1)=false:=by rfl):PE X (.Call (.Name x p) (e::es) [] pos) (Ht r t):=by
 intro KD s σ H Q I h;refine wpAny_Call_Name_kw (n5 I hg hm hv ?_ hn hdb);exact PyProof.Rows.callWith_builtin1 (cm (ha pos KD s σ H _ I h) λus s1 z9=>by obtain⟨vs,H1,I1,r1,q1⟩:=z9; exact hc KD s1 σ H1 vs us Q I1 r1 q1) he hpl
theorem xE (hc:eR X (.type T) r) (hg:Gl X x) (hm:X.mg x=none) (hv:bootBuiltins x=some (.type T)) (ha:PA X (e::es) t) (hn:x≠"__name__":=by decide) (hdb:(x == ("__debug__":Str))=false:=by decide)
  (he:starEach (e::es) X.env=(false,eval e X.env)::starEach es X.env:=by rfl) (hpl:(backTo pos (starEach es X.env)).any (·.1)=false:=by rfl):PE X (.Call (.Name x p) (e::es) [] pos) (Ht r t):=by
 intro KD s σ H Q I h;refine wpAny_Call_Name_kw (n5 I hg hm hv ?_ hn hdb);exact PyProof.Rows.callWith_type1 (cm (ha pos KD s σ H _ I h) λus s1 z9=>by obtain⟨vs,H1,I1,r1,q1⟩:=z9; exact hc KD s1 σ H1 vs us Q I1 r1 q1) he hpl
end
end L2
namespace HT
open PySem PyProof.Rows
section
variable {prog:Ku} {w:Kw} {A:Kv} {E:Kq->Ko->Prop} {s:Ko}
theorem Ct {t b:Kr} {vs ws:List Kq} {Q:Kq->Ko->Prop} (ht:IsTup s.heap t vs.toArray) (hb:IsTup s.heap b ws.toArray) (hv:vs≠[])
  (h1:ws=[]->Q (.ref t) s) (h2:ws≠[]->Q (.ref s.heap.objs.size) {s with heap:=s.heap.push {cls:=.type "tuple",data:=.seq (vs++ws).toArray}})
  (hsz:vs.length+ws.length<=sizeLine):wpAny (model prog w) A (binaryOp .Add (.ref t) (.ref b)) Q E s:=by
 obtain⟨⟨cls,dd,data,sl⟩,ho,hc,n,hd⟩:=id ht;obtain⟨⟨cls2,dd2,data2,sl2⟩,ho2,hc2,n2,hd2⟩:=id hb;simp only at hc hd hc2 hd2
 subst hc hd hc2 hd2;have e:vs.toArray++ws.toArray=(vs++ws).toArray:=by simp
 by_cases hw:ws=[]
 ·exact concat_meets ⟨_,ho,rfl⟩ ⟨_,ho2,rfl⟩ noFill_tuple_add seq_tuple_add PySem.F.slot_tuple_add PySem.F.entry_tuple_add (PySem.F.args_tuple_add_2 _ _)
   (tuple_addW1 t b vs.toArray ws.toArray n n2 dd dd2 sl sl2 (by simpa using hv) (by simp [hw])) ⟨ho,ho2,h1 hw⟩
 ·refine concat_meets ⟨_,ho,rfl⟩ ⟨_,ho2,rfl⟩ noFill_tuple_add seq_tuple_add PySem.F.slot_tuple_add PySem.F.entry_tuple_add (PySem.F.args_tuple_add_2 _ _)
   (tuple_addW2 t b vs.toArray ws.toArray n n2 dd dd2 sl sl2 (by simpa using hv) (by simpa using hw) (by rw [JA,JA]; exact hsz)) ⟨ho,ho2,?_⟩
  rw [e];exact h2 hw
def cM (n d:Nat):Ks Int->Nat
 | none=>d
 | some v=>if v < 0 then(v+(n:Int)).toNat else min v.toNat n
theorem DM (n d:Nat) (hd:d<=n) (o:Ks Int):cM n d o<=n:=by
 cases o with
 | none=>exact hd
 | some v=>
  show(if v < 0 then(v+(n:Int)).toNat else min v.toNat n)<=n
  by_cases hv:v < 0
  ·rw [if_pos hv]; omega
  ·rw [if_neg hv]; exact Nat.min_le_right _ _
theorem wJ (v:Int) (n d:Nat):(if v < 0 then max (v+(n:Int)) 0 else min v (n:Int))=((cM n d (some v):Nat):Int):=by
 show(if v < 0 then max (v+(n:Int)) 0 else min v (n:Int))=(((if v < 0 then(v+(n:Int)).toNat else min v.toNat n):Nat):Int)
 by_cases hv:v < 0
 ·simp only [if_pos hv]; omega
 ·simp only [if_neg hv]; omega
theorem vk (lo hi:Ks Int) (n:Nat):Builtin.Slice.sliceAdjust lo hi 1 (n:Int)=(((cM n 0 lo:Nat):Int),((cM n n hi:Nat):Int)):=by
 have h1:¬ ((1:Int) < 0):=by omega
 unfold Builtin.Slice.sliceAdjust;simp only [h1,if_false];refine JN ?_ ?_
 ·cases lo with
  | none=>rfl
  | some v=>exact wJ v n 0
 ·cases hi with
  | none=>rfl
  | some v=>exact wJ v n n
theorem wq (i j:Nat):Builtin.Slice.slicePlaces (i:Int) (j:Int) 1=j - i:=by
 unfold Builtin.Slice.slicePlaces;have h1:(1:Int) > 0:=by omega
 simp only [h1,if_true,Int.ediv_one]
 split <;> omega
theorem pZ {v:Kq} {o:Ks Int} {Q:Ks Int->Ko->Prop} (p:IsPart v o) (h:Q o s):wpAny (model prog w) A (Builtin.Slice.slicePartIndex v) Q E s:=by
 cases p with
 | none=>exact slicePart_none h
 | int i t=>exact slicePart_int h
theorem iY {sl:Kr} {vl vu:Kq} {lo hi:Ks Int} {n:Nat} {Q:Int×Int×Nat->Ko->Prop} (hs:s.heap.IsSliceOf sl vl vu .none) (pl:IsPart vl lo) (pu:IsPart vu hi)
  (h:Q (((cM n 0 lo:Nat):Int),1,cM n n hi - cM n 0 lo) s):wpAny (model prog w) A (Builtin.Slice.sliceApplied (.ref sl) (pure (n:Int))) Q E s:=by
 obtain⟨os,hos,hcs,hds⟩:=id hs;unfold Builtin.Slice.sliceApplied Builtin.Slice.sliceFields;refine gt (gt (J6 hos hds (x:=vl) rfl (gt (J6 hos hds (x:=vu) rfl (gt (J6 hos hds (x:=.none) rfl (Js ?_)))))));refine gt (slicePart_none ?_)
 show wpAny _ _ (if ((1:Int) == 0)=true then _ else _) _ _ s
 rw [if_neg (by decide)]
 refine gt (pZ pl (gt (pZ pu (gt (Js ?_)))))
 show wpAny _ _ (match Builtin.Slice.sliceAdjust lo hi 1 (n:Int) with | (lo,hi)=>pure (lo,(1:Int),Builtin.Slice.slicePlaces lo hi 1)) _ _ s
 rw [vk lo hi n]
 show wpAny _ _ (pure (((cM n 0 lo:Nat):Int),(1:Int),Builtin.Slice.slicePlaces ((cM n 0 lo:Nat):Int) ((cM n n hi:Nat):Int) 1)) _ _ s
 rw [wq];exact Js h
theorem yX (xs:Kz Kq) (i k:Nat):((List.range k).filterMap fun(m:Nat)=>xs[((i:Int)+(m:Int)*1).toNat]?).toArray=((xs.toList.drop i).take k).toArray:=by
 have e:(λ(m:Nat)=>xs[((i:Int)+(m:Int)*1).toNat]?)=λm=>xs[i+m]?:=by
  funext m
  have:((i:Int)+(m:Int)*1).toNat=i+m:=by omega
  rw [this]
 rw [e];have:=pick_run xs i k;rw [List.filterMap_map] at this;have e2:((λx=>xs[x]?) ∘ λx=>i+x)=λm=>xs[i+m]?:=rfl
 rw [e2] at this;rw [this]
theorem mZ {t sl:Kr} {items:Kz Kq} {vl vu:Kq} {lo hi:Ks Int} {Q:Kq->Ko->Prop} (ht:IsTup s.heap t items) (hs:s.heap.IsSliceOf sl vl vu .none) (pl:IsPart vl lo) (pu:IsPart vu hi)
  (hw:¬ (cM items.size 0 lo=0/\cM items.size items.size hi=items.size))
  (h:Q (.ref s.heap.objs.size) {s with heap:=s.heap.push {cls:=.type "tuple",data:=.seq ((items.toList.drop (cM items.size 0 lo)).take (cM items.size items.size hi - cM items.size 0 lo)).toArray}})
  (hsz:items.size<=sizeLine):wpAny (model prog w) A (getItem (.ref t) (.ref sl)) Q E s:=by
 have htake:sizeOk (.seq ((items.toList.drop (cM items.size 0 lo)).take (cM items.size items.size hi - cM items.size 0 lo)).toArray):=by
  show((items.toList.drop (cM items.size 0 lo)).take (cM items.size items.size hi - cM items.size 0 lo)).toArray.size<=sizeLine
  rw [JA,List.length_take,List.length_drop,Array.length_toList];omega
 have hj:cM items.size items.size hi<=items.size:=DM _ _ (Jw _) hi;obtain⟨os,hos,hcs,hds⟩:=id hs;have hTs:s.TypeIs (.ref sl) "slice":=⟨os,hos,hcs⟩
 unfold getItem
 try with_reducible refine JU ?_
 first | refine gt (Js ?_) | skip
 refine gt (wpAny_sequenceKey ht.typeIs (by decide) ?_)
 refine gt (Kj (name:=Str.ofString "__getitem__") ht.typeIs PyProof.Rows.slot_tuple_getitem
  (Kb PyProof.Rows.slot_tuple_getitem ht.typeIs entry_tuple_getitem ?_ (args_tuple_getitem _ _)))
 show wpAny _ _ (Builtin.Tuple.tupleItemsOf (.ref t) >>= _) _ _ s
 refine gt (tupleItemsOf_ ht ?_);refine gt (wpAny_typeOf hTs ?_);rw [if_pos (by decide)]
 refine gt (iY hs pl pu ?_);have hno:¬ ((((cM items.size 0 lo:Nat):Int) == 0 && (1:Int) == 1 && (cM items.size items.size hi - cM items.size 0 lo) == items.size)=true):=by
  intro q;rw [J8,J8] at q;have q1:((cM items.size 0 lo:Nat):Int)=0:=eq_of_beq q.1.1;have q2:cM items.size items.size hi - cM items.size 0 lo=items.size:=eq_of_beq q.2;exact hw ⟨by omega,by omega⟩
 show wpAny _ _ (if (((cM items.size 0 lo:Nat):Int) == 0 && (1:Int) == 1 && (cM items.size items.size hi - cM items.size 0 lo) == items.size)=true then _ else _) _ _ s
 rw [if_neg hno,yX]
 first
  | exact gt (m:=Builtin.Tuple.tupleExact _) (JW (Js ⟨_,rfl,Js h⟩) htake)
  | exact gt (m:=Builtin.Tuple.tupleExact _) (JW (gt (Js (Js ⟨_,rfl,Js h⟩))) htake)
  | exact gt (gt (m:=Builtin.Tuple.tupleExact _) (JW (Js (Js ⟨_,rfl,Js h⟩)) htake))
  | exact gt (gt (m:=Builtin.Tuple.tupleExact _) (JW (Js ⟨_,rfl,Js h⟩) htake))
end
end HT
namespace L2
open PySem PySem.Spec PyProof.Rows
abbrev TO:=St->Hp->(Ks Int->Hp->Prop)->Prop
def PO (X:Cx) (e:Ks Kt) (t:TO):Prop:=
 ∀ (KD:List (Kr×KC)) (s:Ko) (σ:St) (H:Hp) (Q:Ks Int->Hp->Prop),aI X KD σ H s->t σ H Q->
  wpAny (model X.prog X.w) X.A (evalPart e X.env) (λu s'=>∃ o H',aI X KD σ H' s'/\IsPart u o/\Q o H') X.xe s
def BE:TO:=λ_ H Q=>Q none H
def FT (t:TE):TO:=fun σ H Q=>t σ H λx H1=>∃ i,x=.int i/\Q (some i) H1
section
variable {X:Cx} {e:Kt} {te:TE} {lo hi:Ks Kt} {tl th:TO} {pos p2:Pos}
theorem B9:PO X none BE:=by
 intro KD s σ H Q I h;rw [evalPart_none];exact Js ⟨none,H,I,.none,h⟩
theorem BA (h:PE X e te):PO X (some e) (FT te):=by
 intro KD s σ H Q I hw;rw [evalPart_some];refine cm (h KD s σ H _ I hw) λu s1 z9=>?_
 obtain⟨x,H1,I1,r1,q1⟩:=z9;obtain⟨i,rfl,q⟩:=q1;obtain⟨t,rfl⟩:=r1;exact⟨some i,H1,I1,.int i t,q⟩
def A7 (X:Cx) (r:V->Ks Int->Ks Int->Hp->VK->Prop):Prop:=
 ∀ (KD:List (Kr×KC)) (s:Ko) (σ:St) (H:Hp) (x:V) (v vl vu:Kq) (lo hi:Ks Int) (sl:Kr) (Q:VK),aI X KD σ H s->b7 x v->s.heap.IsSliceOf sl vl vu .none->IsPart vl lo->IsPart vu hi->r x lo hi H Q->
  ∃ T id,typeLookup (.type T) "__getitem__"=pure (some (.builtin id))/\s.TypeIs v T/\wpAny (model X.prog X.w) X.A (getItem v (.ref sl)) (EP X KD σ Q) X.xe s
theorem A7.or {r r':V->Ks Int->Ks Int->Hp->VK->Prop} (h:A7 X r) (h':A7 X r'):A7 X (λx lo hi H Q=>r x lo hi H Q\/r' x lo hi H Q):=by
 intro KD s σ H x v vl vu lo hi sl Q I rx hs pl pu q;rcases q with q | q
 ·exact h KD s σ H x v vl vu lo hi sl Q I rx hs pl pu q
 ·exact h' KD s σ H x v vl vu lo hi sl Q I rx hs pl pu q
def Je (r:V->Ks Int->Ks Int->Hp->VK->Prop) (te:TE) (tl th:TO):TE:=fun σ H Q=>te σ H λx H1=>tl σ H1 λl H2=>th σ H2 λu H3=>r x l u H3 Q
theorem uG {r:V->Ks Int->Ks Int->Hp->VK->Prop} (hr:A7 X r) (he:PE X e te) (hl:PO X lo tl) (hu:PO X hi th):PE X (.Subscript e (.Slice lo hi none p2) pos) (Je r te tl th):=by
 intro KD s σ H Q I h;refine Subscript_ (cm (he KD s σ H _ I h) λv s1 z9=>?_)
 obtain⟨x,H1,I1,r1,q1⟩:=z9;refine wpAny_Slice (cm (hl KD s1 σ H1 _ I1 q1) λvl s2 ⟨l,H2,I2,pl,q2⟩=>cm (hu KD s2 σ H2 _ I2 q2) λvu s3 z9=>?_)
 obtain⟨u,H3,I3,pu,q3⟩:=z9;rw [evalPart_none];refine Js ?_;have I4:aI X KD σ H3 {s3 with heap:=s3.heap.push {cls:=.type "slice",data:=.fields #[vl,vu,.none]}}:=I3.kept (t':=s3.toks) λb ob q=>pp _ q
 obtain⟨T,id,hT,ht,hg⟩:=hr KD {s3 with heap:=s3.heap.push {cls:=.type "slice",data:=.fields #[vl,vu,.none]}} σ H3 x v vl vu l u s3.heap.objs.size Q I4 r1 (Heap.IsSliceOf.new ..) pl pu q3
 show wpAny (model X.prog X.w) X.A (subscriptTail e (.Slice lo hi none p2) v (.ref s3.heap.objs.size)) (EP X KD σ Q) X.xe {s3 with heap:=s3.heap.push {cls:=.type "slice",data:=.fields #[vl,vu,.none]}}
 exact tail_any (ops:=[.ref s3.heap.objs.size,v]) ht hT hg (by with_unfolding_all rfl)
def oS (xs:List V) (lo hi:Ks Int):List V:=(xs.drop (HT.cM xs.length 0 lo)).take (HT.cM xs.length xs.length hi - HT.cM xs.length 0 lo)
theorem og (xs:List V) (lo hi:Ks Int):(oS xs lo hi).length<=xs.length:=by
 unfold oS;rw [List.length_take,List.length_drop];omega
def HN (K:PySem.W.Frag):V->Ks Int->Ks Int->Hp->VK->Prop:=λx lo hi H Q=>∃ a xs,x=.ref a/\ka K H a xs/\
 ¬ (HT.cM xs.length 0 lo=0/\HT.cM xs.length xs.length hi=xs.length)/\∀ p,H p=none->Q (.ref p) (cb H p (.tup (oS xs lo hi)))
theorem zW:A7 X (HN X.K):=by
 intro KD s σ H x v vl vu lo hi sl Q I rx hs pl pu h;obtain⟨a,xs,rfl,hx,hw,q⟩:=h;cases rx;obtain⟨its,r,ht,hz⟩:=I.tuple hx;have hlen:its.toArray.size=xs.length:=by rw [JA]; exact r.length.symm
 refine⟨"tuple",_,PyProof.Rows.slot_tuple_getitem.lookup,ht.typeIs,?_⟩
 refine HT.mZ ht hs pl pu (by rw [hlen]; exact hw) ?_ (by rw [hlen]; exact hz)
 rw [hlen];refine⟨.ref s.heap.objs.size,_,I.laid (t':=s.toks) (o:=.tup (oS xs lo hi)) (λb ob q=>pp _ q) (Jw _) ?_,rfl,q _ (I.hok.fresh (Jw _))⟩
 exact⟨J7 (og xs lo hi) hz,_,(r.drop (HT.cM xs.length 0 lo)).take (HT.cM xs.length xs.length hi - HT.cM xs.length 0 lo),IsTup.new _ _⟩
def F_ (K:PySem.W.Frag):R2:=λx y H Q=>∃ a b xs ys,x=.ref a/\y=.ref b/\ka K H a xs/\ka K H b ys/\xs≠[]/\xs.length+ys.length<=sizeLine/\
 (ys=[]->Q (.ref a) H)/\(ys≠[]->∀ p,H p=none->Q (.ref p) (cb H p (.tup (xs++ys))))
theorem bu.nil_iff {xs:List V} {us:List Kq} (r:bu xs us):us=[]↔xs=[]:=by
 cases r with
 | nil=>simp
 | cons _ _=>simp
theorem BZ:fW X (binaryOp .Add) (F_ X.K):=by
 intro KD s σ H x y v u Q I rx ry h;obtain⟨a,b,xs,ys,rfl,rfl,ha,hb,hx,hz,q1,q2⟩:=h;cases rx;cases ry;obtain⟨its,r1,p1,_⟩:=I.tuple ha;obtain⟨its2,r2,p2,_⟩:=I.tuple hb;refine HT.Ct p1 p2 (λz=>hx (r1.nil_iff.mp z)) (λz=>⟨.ref a,H,I,rfl,q1 (r2.nil_iff.mp z)⟩) (λz=>?_) (by rw [<- r1.length,<- r2.length]; exact hz)
 refine⟨.ref s.heap.objs.size,_,I.laid (t':=s.toks) (o:=.tup (xs++ys)) (λb ob q=>pp _ q) (Jw _) ?_,rfl,q2 (λw=>z (r2.nil_iff.mpr w)) _ (I.hok.fresh (Jw _))⟩
 exact⟨by rw [JO]; exact hz,_,r1.append r2,IsTup.new _ _⟩
end
def yQ (n:Nat) (i:Int):Ks Nat:=if 0<=i then(if i < n then some i.toNat else none) else if -(n:Int)<=i then some (i+n).toNat else none
def atI {α:Type} (xs:List α) (i:Int):Ks α:=(yQ xs.length i).bind λj=>xs[j]?
theorem wu {n:Nat} {i:Int} {j:Nat} (h:yQ n i=some j):seqIndex? i n=some j/\j < n/\-(n:Int)<=i/\i < n:=by
 unfold yQ at h
 by_cases h0:0<=i
 ·rw [if_pos h0] at h
  by_cases h1:i < n
  ·rw [if_pos h1] at h;have e:i.toNat=j:=J0 h;exact⟨by rw [seqIndex_of h0 h1,e],by omega,by omega,h1⟩
  ·rw [if_neg h1] at h; cases h
 ·rw [if_neg h0] at h
  by_cases h1:-(n:Int)<=i
  ·rw [if_pos h1] at h;have e:(i+n).toNat=j:=J0 h;exact⟨by rw [seqIndex_neg (by omega) h1,e],by omega,h1,by omega⟩
  ·rw [if_neg h1] at h; cases h
theorem wS {α:Type} {xs:List α} {i:Int} {v:α} (h:atI xs i=some v):∃ j,seqIndex? i xs.length=some j/\xs[j]?=some v/\j < xs.length/\-(xs.length:Int)<=i/\i < xs.length:=by
 unfold atI at h;cases e:yQ xs.length i with
 | none=>rw [e] at h; cases h
 | some j=>
  rw [e] at h;obtain⟨h1,h2,h3,h4⟩:=wu e;exact⟨j,h1,h,h2,h3,h4⟩
theorem f' {α:Type} {xs:List α} {j:Nat} {v:α} (h:xs[j]?=some v):atI xs (j:Int)=some v:=by
 have hj:j < xs.length:=(J4.mp h).1;have e:yQ xs.length (j:Int)=some j:=by
  unfold yQ;rw [if_pos (by omega),if_pos (by omega)]; simp
 unfold atI; rw [e]; exact h
def wY (b:Kt):Prop:=∀ o i,subscripted b false o i=operate [o,i] (getItem o i)
def yt (X:Cx) (r:R2):Prop:=
 ∀ (value slice:Kt) (KD:List (Kr×KC)) (s:Ko) (σ:St) (H:Hp) (x y:V) (v u:Kq) (Q:VK),aI X KD σ H s->b7 x v->b7 y u->r x y H Q->
  subscripted slice false v u=operate [v,u] (getItem v u)->wpAny (model X.prog X.w) X.A (subscriptTail value slice v u) (EP X KD σ Q) X.xe s
def II (X:Cx) (id:KB) (r:V->List V->Hp->VK->Prop):Prop:=
 ∀ (KD:List (Kr×KC)) (s:Ko) (σ:St) (H:Hp) (x:V) (xs:List V) (v:Kq) (us:List Kq) (Q:VK),aI X KD σ H s->b7 x v->bu xs us->r x xs H Q->
  wpAny (model X.prog X.w) X.A (call (.builtin id) (v::us)) (EP X KD σ Q) X.xe s
section
variable {X:Cx} {a b:Kt} {ta tb:TE} {pos:Pos}
theorem F2 {r:R2} (hr:yt X r) (ha:PE X a ta) (hb:PE X b tb) (hs:wY b):PE X (.Subscript a b pos) (F4 r ta tb):=by
 intro KD s σ H Q I h;exact Subscript_ (DV ha hb I h λv u s2 x y H2 I2 rx ry q=>hr a b KD s2 σ H2 x y v u Q I2 rx ry q (hs _ _))
def HI (K:PySem.W.Frag):R2:=λx y H Q=>∃ p xs i v,x=.ref p/\y=.int i/\jE K H p xs/\atI xs i=some v/\Q v H
def HD (K:PySem.W.Frag):R2:=λx y H Q=>∃ p xs i v,x=.ref p/\y=.int i/\ka K H p xs/\atI xs i=some v/\Q v H
theorem wH:yt X (HI X.K):=by
 intro value slice KD s σ H x y v u Q I rx ry h hs;obtain⟨p,xs,i,z,rfl,rfl,hq,he,q⟩:=h;cases rx;obtain⟨t,rfl⟩:=ry;obtain⟨its,r,pl,hz⟩:=I.list hq;obtain⟨j,h1,h2,h3,h4,h5⟩:=wS he;obtain⟨w,ew,rw'⟩:=r.get h2;have hl:=r.length;have hn:=sP;have fin:EP X KD σ Q w s:=⟨z,H,I,rw',q⟩
 by_cases h0:0<=i
 ·have hj:i.toNat=j:=by
   rw [seqIndex_of h0 h5] at h1;exact J0 h1
  exact item_listR pl.isList h0 (by omega) (by rw [hj]; simpa using ew) fin hs
 ·have hj:(i+(its.toArray.size:Int)).toNat=j:=by
   rw [seqIndex_neg (by omega) h4] at h1
   rw [JA,<- hl];exact J0 h1
  exact subscriptTail_builtinR (x:=w) pl.isList.typeIs slot_list_getitem.lookup
   (wpAny_getItem_list_neg (Q:=λr s'=>r=w/\EP X KD σ Q r s') pl.isList (by omega) (by rw [JA] <;> omega) (by omega) (by rw [hj]; simpa using ew) ⟨rfl,fin⟩) hs
theorem ER:yt X (HD X.K):=by
 intro value slice KD s σ H x y v u Q I rx ry h hs;obtain⟨p,xs,i,z,rfl,rfl,hq,he,q⟩:=h;cases rx;obtain⟨t,rfl⟩:=ry;obtain⟨its,r,pl,hz⟩:=I.tuple hq;obtain⟨j,h1,h2,h3,h4,h5⟩:=wS he;obtain⟨w,ew,rw'⟩:=r.get h2;have hl:=r.length;have hn:=sP;have fin:EP X KD σ Q w s:=⟨z,H,I,rw',q⟩;exact subscriptTail_builtinR (x:=w) pl.typeIs slot_tuple_getitem.lookup
  (getItem_tuple (j:=j) (Q:=λr s'=>r=w/\EP X KD σ Q r s') pl (by omega) (by omega) (by rw [JA,<- hl]; exact h1) (by simpa using ew) ⟨rfl,fin⟩) hs
theorem v_ (its:List Kq) (n j:Nat) (u:Kq):Obj.mapSeq (·.setIfInBounds j u) {cls:=.type "list",data:=.seq its.toArray n}={cls:=.type "list",data:=.seq (its.set j u).toArray n}:=by
 simp [Obj.mapSeq]
theorem aI.lst {KD:List (Kr×KC)} {σ:St} {H:Hp} {s:Ko} {p:Kr} {xs:List V} (I:aI X KD σ H s) (h:H p=some (.lst xs)):
  ∃ (its:List Kq) (n:Nat),bu xs its/\s.heap.get? p=some {cls:=.type "list",data:=.seq its.toArray n}/\xs.length<=sizeLine:=by
 obtain⟨z,its,n,r,e⟩:=I.hok p _ h;exact⟨its,n,r,e,z⟩
theorem aI.lstUpd {KD:List (Kr×KC)} {σ:St} {H:Hp} {s:Ko} {p:Kr} {xs ys:List V} {its its':List Kq} {n n':Nat} {f:KC->KC} (I:aI X KD σ H s) (h:H p=some (.lst xs))
  (ho:s.heap.get? p=some {cls:=.type "list",data:=.seq its.toArray n}) (hf:f {cls:=.type "list",data:=.seq its.toArray n}={cls:=.type "list",data:=.seq its'.toArray n'}) (r:bu ys its') (hz:ys.length<=sizeLine) (t:Nat):
  aI X KD σ (cb H p (.lst ys)) {s with heap:=s.heap.update p f,toks:=t}:=by
 have e:(s.heap.update p f).get? p=some {cls:=.type "list",data:=.seq its'.toArray n'}:=by
  rw [J_ f ho (by rw [hf] <;> rfl),hf]
 refine I.write (x:=p) (e:=p) (by rw [h]; trivial) (.inl rfl) (λb u hb q=>(JZ _ _ (Ne.symm hb)).trans q) ⟨_,e⟩ ?_
 exact⟨hz,its',n',r,e⟩
def FK:V->V->V->Hp->(Hp->Prop)->Prop:=λo i v H Q=>∃ p xs k j,o=.ref p/\i=.int k/\H p=some (.lst xs)/\yQ xs.length k=some j/\Q (cb H p (.lst (xs.set j v)))
theorem yY:FO X FK:=by
 intro KD s σ H o i v ov iv u Q I ro ri rv h;obtain⟨p,xs,k,j,rfl,rfl,hp,hj,q⟩:=h;cases ro;obtain⟨t,rfl⟩:=ri;obtain⟨its,n,r,ho,hz⟩:=I.lst hp;obtain⟨h1,h2,h3,h4⟩:=wu hj;have hl:=r.length;have hn:=sP;have I':aI X KD σ (cb H p (.lst (xs.set j v))) {s with heap:=s.heap.update p (Obj.mapSeq (·.setIfInBounds j u))}:=
  I.lstUpd hp ho (v_ its n j u) (r.set rv j) (by rw [List.length_set]; exact hz) s.toks
 by_cases h0:0<=k
 ·have hk:k.toNat=j:=by
   rw [seqIndex_of h0 h4] at h1;exact J0 h1
  exact PySem.W.ki_setAt ho h0 (by omega) (by rw [JA,<- hl]; exact h4) (by rw [hk]; exact⟨_,I',q⟩)
 ·have hk:(k+(its.toArray.size:Int)).toNat=j:=by
   rw [seqIndex_neg (by omega) h3] at h1
   rw [JA,<- hl];exact J0 h1
  exact PySem.W.ki_setBack ho (by omega) (by rw [JA,<- hl]; exact h3) (by omega) (by rw [hk]; exact⟨_,I',q⟩)
theorem tx (lo hi:Ks Int) (n:Nat):(sliceBounds lo hi none n).1=((HT.cM n 0 lo:Nat):Int)/\(sliceBounds lo hi none n).2.1=((HT.cM n n hi:Nat):Int)/\(sliceBounds lo hi none n).2.2=1:=by
 refine⟨?_,?_,rfl⟩
 ·cases lo with
  | none=>simp [sliceBounds,HT.cM]
  | some i=>
   simp only [sliceBounds,HT.cM,Option.getD_none,show(1:Int) > 0 by decide,if_true]
   by_cases h:i < 0
   ·simp only [h,if_true] <;> omega
   ·simp only [h,if_false] <;> omega
 ·cases hi with
  | none=>simp [sliceBounds,HT.cM]
  | some i=>
   simp only [sliceBounds,HT.cM,Option.getD_none,show(1:Int) > 0 by decide,if_true]
   by_cases h:i < 0
   ·simp only [h,if_true] <;> omega
   ·simp only [h,if_false] <;> omega
theorem qB (its:List Kq) (lo hi:Ks Int):slicePick its.toArray lo hi none=((its.drop (HT.cM its.length 0 lo)).take (HT.cM its.length its.length hi - HT.cM its.length 0 lo)).toArray:=by
 obtain⟨h1,h2,h3⟩:=tx lo hi its.toArray.size;unfold slicePick;rw [h1,h2,h3];simp only [sliceRange_one,pick_run,JA] <;> rfl
def Hq (K:PySem.W.Frag):V->Ks Int->Ks Int->Hp->VK->Prop:=λx lo hi H Q=>∃ a xs,x=.ref a/\jE K H a xs/\∀ p,H p=none->Q (.ref p) (cb H p (.lst (oS xs lo hi)))
theorem A_:A7 X (Hq X.K):=by
 intro KD s σ H x v vl vu lo hi sl Q I rx hs pl pu h;obtain⟨a,xs,rfl,hx,q⟩:=h;cases rx;obtain⟨its,r,ht,hz⟩:=I.list hx;have hlen:=r.length;refine⟨"list",_,slot_list_getitem.lookup,ht.isList.typeIs,?_⟩
 refine wpAny_getItem_list_slice ht.isList hs pl pu .none (by simp) ?_ (by rw [JA] <;> omega)
 rw [qB,<- hlen];refine⟨.ref s.heap.objs.size,_,I.laid (t':=s.toks) (o:=.lst (oS xs lo hi)) (λb ob q=>pp _ q) (Jw _) ?_,rfl,q _ (I.hok.fresh (Jw _))⟩
 exact⟨J7 (og xs lo hi) hz,_,0,(r.drop (HT.cM xs.length 0 lo)).take (HT.cM xs.length xs.length hi - HT.cM xs.length 0 lo),Jt _ rfl⟩
theorem jB:eR X (.builtin "len") (λxs H Q=>∃ p ys,xs=[.ref p]/\(jE X.K H p ys\/ka X.K H p ys)/\Q (.int ys.length) H):=by
 intro KD s σ H xs us Q I r h;obtain⟨p,ys,rfl,hq,q⟩:=h;obtain⟨u,rfl,rx⟩:=yR r;cases rx;have hn:=sP;rcases hq with hq | hq
 ·obtain⟨its,r',pl,hz⟩:=I.list hq;have hlen:=r'.length;exact Calls.call_len_list pl.isList (by simp only [JA] <;> omega) ⟨.int ys.length,H,I.tok _,⟨s.toks+1,by rw [JA,hlen]⟩,q⟩
 ·obtain⟨its,r',pl,hz⟩:=I.tuple hq;have hlen:=r'.length;exact len_tuple pl (by simp only [JA] <;> omega) ⟨.int ys.length,H,I.tok _,⟨s.toks+1,by rw [JA,hlen]⟩,q⟩
theorem lx:eR X (.type "tuple") (λxs H Q=>∃ p ys,xs=[.ref p]/\((jE X.K H p ys/\∀ l,H l=none->Q (.ref l) (cb H l (.tup ys)))\/(ka X.K H p ys/\Q (.ref p) H))):=by
 intro KD s σ H xs us Q I r h;obtain⟨p,ys,rfl,h⟩:=h;obtain⟨u,rfl,rx⟩:=yR r;cases rx;rcases h with ⟨hq,q⟩ | ⟨hq,q⟩
 ·obtain⟨its,r',pl,hz⟩:=I.list hq;have hlen:=r'.length;refine call_tuple_list pl.isList (λh' kp=>?_) (by simp only [JA] <;> omega)
  have I1:aI X KD σ H {s with heap:=h'}:=I.kept (t':=s.toks) kp
  have I2:aI X KD σ (cb H h'.objs.size (.tup ys)) {s with heap:=h'.push {cls:=.type "tuple",data:=.seq its.toArray}}:=
   I1.laid (t':=s.toks) (λb o e=>pp _ e) (Jw _) (show fw X.prog X.w _ _ _ (.tup ys) from⟨hz,its,r',IsTup.new _ _⟩)
  exact⟨.ref h'.objs.size,_,I2,rfl,q _ (I1.hok.fresh (Jw _))⟩
 ·obtain⟨its,r',pl,hz⟩:=I.tuple hq;exact call_tuple_same pl ⟨.ref p,H,I,rfl,q⟩
def HW (K:PySem.W.Frag) (T:KB) (x:V) (H:Hp):Prop:=match x with
 | .str _=>T="str"
 | .int _=>T="int"
 | .ref p=>(T="list"/\∃ xs,jE K H p xs)\/(T="tuple"/\∃ o,K.lookup p=some o/\o.cls=.type "tuple"/\o.dict=none)\/
   (T="dict"/\((∃ kvs,H p=some (.dK kvs))\/∃ kvs,H p=some (.dT kvs)))\/(T="set"/\∃ S n,H p=some (.set S n))
 | _=>False
theorem zf {KD:List (Kr×KC)} {σ:St} {H:Hp} {s:Ko} {T:KB} {x:V} {v:Kq} (I:aI X KD σ H s) (r:b7 x v) (ty:HW X.K T x H):
  s.TypeIs v T/\∀ a,v=.ref a->∃ ob,s.heap.get? a=some ob/\ob.dict=none:=by
 cases x with
 | str z=>
  obtain⟨t,rfl⟩:=r;cases (show T="str" from ty)
  exact⟨typeIs_str s z t,λ_ e=>nomatch e⟩
 | int i=>
  obtain⟨t,rfl⟩:=r;cases (show T="int" from ty)
  exact⟨typeIs_int s i t,λ_ e=>nomatch e⟩
 | ref p=>
  cases r;rcases ty with ⟨rfl,xs,hq⟩ | ⟨rfl,o,hk,hc,hd⟩ | ⟨rfl,hk⟩ | ⟨rfl,S,n,hk⟩
  ·obtain⟨its,_,pl,_⟩:=I.list hq;refine⟨pl.isList.typeIs,λa e=>?_⟩
   cases e;obtain⟨o,n,e,c,hd,_⟩:=pl;exact⟨o,e,hd⟩
  ·refine⟨⟨o,I.kIn p o hk,hc⟩,λa e=>?_⟩
   cases e;exact⟨o,I.kIn _ o hk,hd⟩
  ·have z:∃ o,s.heap.get? p=some o/\o.ExactDict:=by
    rcases hk with ⟨kvs,hk⟩ | ⟨kvs,hk⟩
    ·obtain⟨_,_,_,_,o,_,_,e,ex,_⟩:=I.hok p _ hk;exact⟨o,e,ex⟩
    ·obtain⟨_,_,_,_,o,_,_,e,ex,_⟩:=I.hok p _ hk;exact⟨o,e,ex⟩
   obtain⟨o,e,ex⟩:=z;refine⟨⟨o,e,ex.1⟩,λa e2=>?_⟩
   cases e2;exact⟨o,e,ex.2.1⟩
  ·obtain⟨o,_,_,_,e,ex,_⟩:=I.hok p _ hk;refine⟨⟨o,e,ex.1⟩,λa e2=>?_⟩
   cases e2;exact⟨o,e,ex.2.1⟩
 | _=>exact False.elim ty
def Ij (K:PySem.W.Frag) (T:KB) (r:V->List V->Hp->VK->Prop) (to:TE):TE:=fun σ H Q=>to σ H λx H1=>HW K T x H1/\r x [] H1 Q
def I_ (K:PySem.W.Frag) (T:KB) (r:V->List V->Hp->VK->Prop) (to:TE) (t:TA):TE:=fun σ H Q=>to σ H λx H1=>HW K T x H1/\t σ H1 λxs H2=>r x xs H2 Q
variable {o e:Kt} {es:List Kt} {to:TE} {t:TA} {name:Str} {apos cpos:Pos} {T id:KB} {r:V->List V->Hp->VK->Prop}
theorem Fj (pa:PlainAttrs T) (slot:Slot T name id) (hty:typeOf (.builtin id)=pure (.type "method_descriptor")) (hm:II X id r) (ho:PE X o to)
  (hbase:attributeBase o name X.env (eval o X.env)=eval o X.env:=by rfl) (hline:(apos.endLine == cpos.line)=true:=by rfl):PE X (.Call (.Attribute o name apos) [] [] cpos) (Ij X.K T r to):=by
 intro KD s σ H Q I h;refine wpAny_Call_method0_late hbase hline (cm (ho KD s σ H _ I h) λv s1 z9=>?_)
 obtain⟨x,H1,I1,r1,ty,q1⟩:=z9;obtain⟨h1,h2⟩:=zf I1 r1 ty;exact⟨T,id,pa,slot,hty,h1,h2,Calls.callWith_builtin rfl (PySem.evalArgs_none (hm KD s1 σ H1 x [] v [] Q I1 r1 .nil q1))⟩
theorem yN (pa:PlainAttrs T) (slot:Slot T name id) (hty:typeOf (.builtin id)=pure (.type "method_descriptor")) (hm:II X id r) (ho:PE X o to) (ha:PA X (e::es) t)
  (hbase:attributeBase o name X.env (eval o X.env)=eval o X.env:=by rfl)
  (hfew:((backTo cpos (starEach (e::es) X.env)).all (λx=>!x.1) && (backToKw cpos (keywordEach [] X.env)).all (λx=>x.1.isSome)
   && decide ((e::es).length+([]:List Keyword).length+(if ([]:List Keyword).isEmpty then 0 else 1) < 30))=true:=by rfl)
  (hline:(apos.endLine == cpos.line)=true:=by rfl) (hs:starEach (e::es) X.env=(false,eval e X.env)::starEach es X.env:=by rfl) (hplain:(backTo cpos (starEach es X.env)).any (·.1)=false:=by rfl):
  PE X (.Call (.Attribute o name apos) (e::es) [] cpos) (I_ X.K T r to t):=by
 intro KD s σ H Q I h;refine wpAny_Call_method_late hbase hfew hline rfl (cm (ho KD s σ H _ I h) λv s1 z9=>?_)
 obtain⟨x,H1,I1,r1,ty,q1⟩:=z9;obtain⟨h1,h2⟩:=zf I1 r1 ty;refine⟨T,id,pa,slot,hty,h1,h2,?_⟩;have hA:=ha cpos KD s1 σ H1 _ I1 q1;rw [hs] at hA ⊢;refine Calls.callWith_builtin (by show(false || (backTo cpos (starEach es X.env)).any (·.1))=false; rw [hplain] <;> rfl) (Calls.evalArgs_plain ?_)
 exact cm hA λus s2 z9=>by obtain⟨vs,H2,I2,r2,q2⟩:=z9; exact hm KD s2 σ H2 x vs v us Q I2 r1 r2 q2
end
def HV (X:Cx) (id:KB) (r:V->List V->Hp->VK->Prop):Prop:=
 ∀ (KD:List (Kr×KC)) (s:Ko) (σ:St) (H:Hp) (x:V) (xs:List V) (v:Kq) (us:List Kq) (Q:VK),aI X KD σ H s->b7 x v->bu xs us->r x xs H Q->
  wpAny (model X.prog X.w) X.A (call (.builtin id) (v::us)) (EP X KD σ Q) X.xe s
theorem bu.one:∀ {x:V} {us:List Kq},bu [x] us->∃ u,us=[u]/\b7 x u
 | _,_,.cons r .nil=>⟨_,rfl,r⟩
section
variable {X:Cx} {KD:List (Kr×KC)} {σ:St} {H:Hp} {s:Ko} {l b:Kr} {xs ys zs:List V}
theorem aI.lset {its its':List Kq} {n:Nat} {f:Kz Kq->Kz Kq} {t':Nat} (I:aI X KD σ H s) (hH:H l=some (.lst xs))
  (e:s.heap.get? l=some {cls:=.type "list",data:=.seq its.toArray n}) (hf:f its.toArray=its'.toArray) (hv:bu ys its') (hz:ys.length<=sizeLine):
  aI X KD σ (cb H l (.lst ys)) {s with heap:=s.heap.update l (Obj.mapSeq f),toks:=t'}:=by
 have q:=PySem.IsL.update e f;rw [hf] at q;refine I.write (x:=l) (e:=l) (by rw [hH]; exact trivial) (.inl rfl) (λb' u hb hu=>(JZ s.heap (Obj.mapSeq f) (Ne.symm hb)).trans hu) ⟨_,q⟩ ?_
 exact⟨hz,its',_,hv,q⟩
theorem aI.lnew {its:List Kq} {t':Nat} (I:aI X KD σ H s) (hv:bu ys its) (hz:ys.length<=sizeLine):
  aI X KD σ (cb H s.heap.objs.size (.lst ys)) {s with heap:=s.heap.push {cls:=.type "list",data:=.seq its.toArray},toks:=t'}:=
 I.laid (λ_ _ q=>pp _ q) (Jw _) ⟨hz,its,0,hv,Jt _ rfl⟩
theorem aI.fresh (I:aI X KD σ H s):H s.heap.objs.size=none:=I.hok.fresh (Jw _)
theorem aI.lstM (I:aI X KD σ H s) (hH:H l=some (.lst xs)):xs.length<=sizeLine/\∃ (its:List Kq) (n:Nat),bu xs its/\xs.length=its.length/\s.heap.get? l=some {cls:=.type "list",data:=.seq its.toArray n}:=by
 obtain⟨z,its,n,r,e⟩:=I.hok l _ hH;exact⟨z,its,n,r,r.length,e⟩
theorem zj {n:Nat} (h:n<=sizeLine):Builtin.List.listTooLong n=false:=by
 unfold Builtin.List.listTooLong;exact Ke (by omega)
end
section
variable {X:Cx}
def BS:V->List V->Hp->VK->Prop:=λx vs H Q=>∃ l xs y,x=.ref l/\vs=[y]/\H l=some (.lst xs)/\xs.length < sizeLine/\Q .non (cb H l (.lst (xs++[y])))
theorem lu:HV X "list.append" BS:=by
 intro KD s σ H x vs v us Q I rx rv h;obtain⟨l,xs,y,rfl,rfl,hH,hz,q⟩:=h;cases rx;obtain⟨u,rfl,ru⟩:=rv.one;obtain⟨z,its,n,r,hl,e⟩:=I.lstM hH;refine call_meets F.slot_list_append ⟨_,e,rfl⟩ F.entry_list_append (F.args_list_append_2 _ _) (PySem.list_append l its.toArray n u (by rw [JA]; omega)) ⟨e,?_⟩
 refine⟨.non,_,I.lset (its':=its++[u]) hH e (by simp) (r.append (.cons ru .nil)) ?_,rfl,q⟩
 rw [JO,List.length_singleton];omega
def Cg:V->List V->Hp->VK->Prop:=λx vs H Q=>∃ l b xs zs,x=.ref l/\vs=[.ref b]/\H l=some (.lst xs)/\H b=some (.lst zs)/\xs.length+zs.length<=sizeLine/\Q .non (cb H l (.lst (xs++zs)))
theorem xM:HV X "list.extend" Cg:=by
 intro KD s σ H x vs v us Q I rx rv h;obtain⟨l,b,xs,zs,rfl,rfl,hH,hB,hz,q⟩:=h;cases rx;obtain⟨u,rfl,ru⟩:=rv.one;cases ru;obtain⟨z,its,n,r,hl,e⟩:=I.lstM hH;obtain⟨z2,its2,n2,r2,hl2,e2⟩:=I.lstM hB;have hsz:its.toArray.size+its2.toArray.size<=sizeLine:=by rw [JA,JA]; omega
 have hlong:¬ (!its.toArray.isEmpty && Builtin.List.listTooLong (its.toArray.size+its2.toArray.size))=true:=by
  rw [zj hsz,Bool.and_false];exact Jz
 refine call_meets F.slot_list_extend ⟨_,e,rfl⟩ F.entry_list_extend (F.args_list_extend_2 _ _)
  (AutoSeq1.list_extend_list_list_0 l its.toArray n b its2.toArray n2 hlong (by rw [JA]; omega) (by omega)) ⟨e,e2,?_⟩
 refine⟨.non,_,I.lset (its':=its++its2) hH e (by simp) (r.append r2) ?_,rfl,q⟩
 rw [JO];omega
def HZ:R2:=λx y H Q=>∃ l b xs zs,x=.ref l/\y=.ref b/\H l=some (.lst xs)/\H b=some (.lst zs)/\xs.length+zs.length<=sizeLine/\∀ p,H p=none->Q (.ref p) (cb H p (.lst (xs++zs)))
theorem Fb:fW X (binaryOp .Add) HZ:=by
 intro KD s σ H x y v u Q I rx ry h;obtain⟨l,b,xs,zs,rfl,rfl,hH,hB,hz,q⟩:=h;cases rx;cases ry;obtain⟨z,its,n,r,hl,e⟩:=I.lstM hH;obtain⟨z2,its2,n2,r2,hl2,e2⟩:=I.lstM hB;refine PySem.P.add_list e e2 ?_ (by rw [JA,JA]; omega)
 have ea:its.toArray++its2.toArray=(its++its2).toArray:=by simp
 rw [ea];exact⟨.ref _,_,I.lnew (t':=s.toks) (r.append r2) (by rw [JO]; omega),rfl,q _ I.fresh⟩
end
def cn (H:Hp) (a:Kr):Prop:=(∃ kvs,Rd H a (.dK kvs))\/∃ kvs,Rd H a (.dT kvs)
end L2
namespace Att
open PySem PySem.W PySem.Calls PyProof.Rows
theorem oB {P:Params} {h:Kx}:∀ (ns:List Int) (vs:List Kq),WellAll P h vs (ns.map WData.int)->IntsAre vs ns:=by
 intro ns
 induction ns with
 | nil=>
  intro vs w;rw [List.map_nil] at w;cases w;exact .nil
 | cons n ns ih=>
  intro vs w;rw [JI] at w;cases w with
  | cons a b=>
   cases a;exact .cons _ _ (ih _ b)
theorem xO {l:OpenLaw} {n:Nat} (hn:l.most=some n) {P:Params} {h:Kx} {args:List WData} {vals:List Kq}
  (hpre:l.row.toRowW.claim.pre args=true) (hwl:WellAll P h vals args):
  ∃ a vs ns,vals=[Value.ref a]/\args=[WData.list (ns.map WData.int)]/\h.get? a=some {cls:=.type "list",data:=.seq vs.toArray}/\IntsAre vs ns/\ns.length<=n:=by
 have hsh:WShape.hasAll [] args [.list .int]=true:=(pre_splitW hpre).1;have hc:l.pre.holds [] {args:=args}=true:=(pre_splitW hpre).2;obtain⟨d,r,rfl,h1,h2⟩:=hasAllW_cons hsh;obtain rfl:=hasAllW_nil h2;obtain⟨xs,rfl,h3⟩:=hasW_list h1;obtain⟨ns,rfl⟩:=items_int h3;have hlen:ns.length<=n:=by
  unfold OpenLaw.pre at hc;have h4:(WTm.not (.lt (.lit (.int (n:Int))) (.len (.arg 0)))).holds [] {args:=[.list (ns.map .int)]}=true:=by
   have h4:=(holds_andW hc).1;rw [hn] at h4;exact h4
  have h5:=condW_of h4 (w_not (w_lt w_lit (w_len_list (w_arg rfl))));rw [Jy] at h5;refine Nat.le_of_not_lt λq=>?_
  have q':(n:Int) < ((ns.length:Nat):Int):=by omega
  first
   | (rw [decide_eq_true q'] at h5; exact absurd h5 (by decide))
   | (simp at h5; omega)
 cases hwl with
 | cons w1 w2=>
  cases w2;cases w1 with
  | list ho hall=>exact⟨_,_,ns,rfl,rfl,ho,oB ns _ hall,hlen⟩
theorem yh (l:OpenLaw) (args:List WData):l.row.toRowW.claim.post args (.bool true) args=true:=
 postW_of (r:=l.row.toRowW) (X:=(true == true))
  (show WShape.has [] (.bool true) .bool=true by first | rfl | decide | simp [WShape.has,WShape.arms,WShape.armsAll])
  (show (WTm.eq .res (.lit (.bool true))).value [] {args:=args,res:=some (.bool true),after:=args}=some (.bool (true == true)) from w_eq_bool (w_res rfl) w_lit) rfl
theorem attach_call {l:OpenLaw} {n:Nat} {q:Ku} {loose:List Str} {XP:(Str->Ks Kq)->Kx->Prop} {YP:Kw->Kx->Prop} {d:DefRec}
  (hn:l.most=some n) (hdf:d.params.defaults=[])
  (call:∀ (w:Kw) (s₀ s₁:Ko) (mg mb:Str->Ks Kq) (fa:Kr) (o:KC) (pm cd doc:Kq) (a:Kr) (vs:List Kq) (ns:List Int),
   Ground q loose [] XP w s₀ mg mb s₁.heap->YP w s₁.heap->
   s₁.heap.get? fa=some o->o.data=.func (docDef d.name d.params d.body d.scope pm cd doc)->s₁.heap.CodeRec cd d.name->mg d.name=some (.ref fa)->
   s₁.heap.get? a=some {cls:=.type "list",data:=.seq vs.toArray}->IntsAre vs ns->ns.length<=n->s₁.gens=#[]->
   codeAny (model l.prog w) callerA (.call (.ref fa) ⟨[.ref a],[]⟩) (λr s'=>r=.ok (.ret (.bool true))/\OldK s₁.heap s'.heap/\s'.os=s₁.os/\AllBare s'.gens) s₁):
  WalkO q loose XP YP l.row.toRowW d [] (λf vs=>PySem.call f vs):=by
 intro w s₀ s₁ mg mb G Y fa o pm cd doc dV kV ho hd hcd hD hmg hg args vals as hpre hlay hrd hwl hlo;obtain rfl:dV=.none:=Dflts.none hD hdf;obtain rfl:kV=.none:=Dflts.noKw hD;obtain⟨a,vs,ns,rfl,rfl,hobj,hints,hlen⟩:=xO hn hpre hwl;refine enter_call (codeAny_mono (call w s₀ s₁ mg mb fa o pm cd doc a vs ns G Y ho (fd_plain hd) hcd hmg hobj hints hlen hg) λr s' hq=>?_)
 obtain⟨rfl,h2,h3,h4⟩:=hq;exact⟨.inl ⟨.bool true,.bool true,[],rfl,λ_=>rfl,.bool true,yh l _,λ_=>⟨List.Pairwise.nil,λ_ hm=>(nomatch hm)⟩⟩,h2,h3,h4⟩
section
variable {prog:Ku} {w:Kw} {A:Kv} {E:Kq->Ko->Prop} {s:Ko} {K:Frag}
def Io (h:Kx) (L d:Kr):List (Kr×KC):=(List.range h.objs.size).filterMap λa=>if a=L\/a=d then none else(h.get? a).map λo=>(a,o)
end
end Att
namespace L2
open PySem PySem.Spec PyProof.Rows
theorem rR:∀ {vs:List Kq} {ns:List Int},IntsAre vs ns->bu (ns.map V.int) vs
 | _,_,.nil=>.nil
 | _,_,.cons n t h=>.cons ⟨t,rfl⟩ (rR h)
abbrev Jr {K:PySem.W.Frag} {h:Kx} (_:K.In h):PySem.W.Frag:=K
def Cq (s:Ky) (j:Nat):Ky:=match s with
 | .ClassDef _ _ _ body _ _ _ _ _ _ _=>body.getD j (.Pass ⟨0,0,0,0⟩)
 | _=>.Pass ⟨0,0,0,0⟩
def eC (s:Ky):Arguments:=match s with
 | .FunctionDef _ a _ _ _ _ _ _ _ _=>a
 | _=>{posonlyargs:=[],args:=[],vararg:=none,kwonlyargs:=[],kw_defaults:=[],kwarg:=none,defaults:=[]}
def ci (s:Ky):List Ky:=match s with
 | .FunctionDef _ _ b _ _ _ _ _ _ _=>b
 | _=>[]
def aj (s:Ky):Scope:=match s with
 | .FunctionDef _ _ _ _ _ _ sc _ _ _=>sc
 | _=>{kind:=.function,names:=[],isGenerator:=false,isCoroutine:=false}
abbrev de:zQ:=λ_ _ _ _ _ _=>False
abbrev E0:XK:=λ_ _ _=>False
theorem GI {X:Cx}:tz de X E0:=λ_ _ _ _ _ _ _ h=>h.elim
structure tP (K:PySem.W.Frag) (x KE:Str) (st:Ky) (f:Kr) (fd:FuncData):Prop where
 ex:∃ (oc:Kq) (od:Ks Kr) (kV doc pm:Kq) (an:Ks Kr) (cdv ct:Kq) (osl:Kz (Ks Kq)),
  fd=PySem.W.fnOf x KE (eC st) (ci st) (aj st) .none kV doc pm an cdv ct/\K.lookup f=some ⟨oc,od,.func fd,osl⟩/\PySem.W.codeIn K cdv KE=true
 kp:PySem.W.keepIn K (.ref f)=true
section
variable {P:Ku} {w:Kw} {K:PySem.W.Frag} {mg:Str->Ks Kq} {base:Kx}
theorem tP.ok {x KE:Str} {st:Ky} {f:Kr} {fd:FuncData} {N ps:List Str} {k:Nat} {sp:Sp} (F:tP K x KE st f fd) (S:ar N ps (aj st)) (len:∀ vs H Q E,sp vs H Q E->vs.length=ps.length)
  (hbody:∀ (cdv:Kq) (A:Kv) (outer:List Env) (s:Ko) (H:Hp) (vs:List V) (Q:VK) (E:XK),dg k (A.deeper (envOfC KE (aj st) s.heap.objs.size f cdv))->sp vs H Q E->
   ∃ t,oZ (cX de P w K mg base N KE (aj st) f cdv A outer s H E).nox (ci st) t/\t {nx:=λ_ H'=>Q .non H',rt:=Q} (start N vs) H):aQ P w K mg base de (k+1) f fd ps sp:=by
 obtain⟨oc,od,kV,doc,pm,an,cdv,ct,osl,rfl,lk,hcd⟩:=F.ex;refine CP lk hcd S len λA outer s H vs Q E hr hsp=>?_
 obtain⟨t,h,q⟩:=hbody cdv A outer s H vs Q E hr hsp;exact⟨t,h.nox,q⟩
theorem tP.binds {x KE:Str} {st:Ky} {f:Kr} {fd:FuncData} {ps:List Str} (F:tP K x KE st f fd)
  (h:∀ (kV doc pm:Kq) (an:Ks Kr) (cdv ct:Kq) (us:List Kq),us.length=ps.length->bindArgs (PySem.W.fnOf x KE (eC st) (ci st) (aj st) .none kV doc pm an cdv ct) ⟨us,[]⟩=pure (ps.zip us)):iD K fd ps []:=by
 obtain⟨oc,od,kV,doc,pm,an,cdv,ct,osl,rfl,lk,hcd⟩:=F.ex;exact .all (h kV doc pm an cdv ct)
theorem sL {x KE:Str} {st:Ky} {f:Kr} {oc:Kq} {od an:Ks Kr} {osl:Kz (Ks Kq)} {kV doc pm cdv ct:Kq} (l:K.lookup f=some ⟨oc,od,.func (PySem.W.fnOf x KE (eC st) (ci st) (aj st) .none kV doc pm an cdv ct),osl⟩)
  (c:PySem.W.codeIn K cdv KE=true) (k:PySem.W.keepIn K (.ref f)=true):tP K x KE st f (PySem.W.fnOf x KE (eC st) (ci st) (aj st) .none kV doc pm an cdv ct):=⟨⟨oc,od,kV,doc,pm,an,cdv,ct,osl,rfl,l,c⟩,k⟩
end
theorem GA {A B:Prop} (h:B):if false=true then A else B:=by
 rw [if_neg Jz];exact h
theorem vF {A B:Prop} (h:A):if true=true then A else B:=by
 rw [if_pos rfl];exact h
end L2
set_option linter.all false
namespace HM
theorem uZ (a b:Int):Int.gcd b (a.fmod b)=Int.gcd a b:=by
 have h:=Int.gcd_sub_mul_right_right b a (a.fdiv b);rw [Int.fmod_def,Int.mul_comm b,h,Int.gcd_comm]
theorem wR (a b:Int) (h:b≠0):(a.fmod b).natAbs < b.natAbs:=by
 rcases Int.lt_or_gt_of_ne h with hb | hb
 ·have e:a.fmod b=-((-a).fmod (-b)):=by rw [Int.neg_fmod_neg,Int.neg_neg]
  have h1:=Kc (-a) (show 0 < -b by omega)
  have h2:=Kl (-a) (show 0 < -b by omega)
  omega
 ·have h1:=Kc a hb;have h2:=Kl a hb;omega
theorem uk (a:Int):((Int.gcd a 0:Nat):Int)=if a < 0 then -a else a:=by
 rw [Int.gcd_zero_right]
 split <;> omega
def x9 (t b:Int):Int:=if b < 0 then -((Int.gcd t b:Nat):Int) else((Int.gcd t b:Nat):Int)
theorem zS {t b:Int} (h:b≠0):x9 t b≠0:=by
 have h1:Int.gcd t b≠0:=λe=>h (Int.gcd_eq_zero_iff.mp e).2
 unfold x9
 split <;> omega
theorem oW {t b:Int} (h:b≠0):t.fdiv (x9 t b)=(Rat.divInt t b).num:=by
 have hg:((Int.gcd t b:Nat):Int) ∣ t:=Int.gcd_dvd_left t b;rw [Rat.num_divInt,Int.gcd_comm b t];unfold x9;rcases Int.lt_or_gt_of_ne h with hb | hb
 ·rw [if_pos hb,Int.sign_eq_neg_one_of_neg hb,Int.fdiv_eq_ediv_of_dvd (Int.neg_dvd.mpr hg),Int.ediv_neg,Int.neg_mul,Int.one_mul,Int.neg_ediv_of_dvd hg]
 ·rw [if_neg (by omega),Int.sign_eq_one_of_pos hb,Int.fdiv_eq_ediv_of_dvd hg,Int.one_mul]
theorem m7 {t b:Int} (h:b≠0):b.fdiv (x9 t b)=((Rat.divInt t b).den:Int):=by
 have hg:((Int.gcd t b:Nat):Int) ∣ b:=Int.gcd_dvd_right t b;rw [Rat.den_divInt,Int.gcd_comm b t,if_neg h];unfold x9;rcases Int.lt_or_gt_of_ne h with hb | hb
 ·rw [if_pos hb,Int.fdiv_eq_ediv_of_dvd (Int.neg_dvd.mpr hg),Int.ediv_neg,Int.natCast_ediv];rw [show ((b.natAbs:Nat):Int)=-b by omega,Int.neg_ediv_of_dvd hg]
 ·rw [if_neg (by omega),Int.fdiv_eq_ediv_of_dvd hg,Int.natCast_ediv]
  rw [show ((b.natAbs:Nat):Int)=b by omega]
theorem zz (a b:Rat):Rat.divInt (a.num*b.den+b.num*a.den) (a.den*b.den)=a+b:=by
 rw [Rat.add_def',Rat.mkRat_eq_div,J3]; simp [Rat.intCast_natCast]
theorem Aa (a b:Rat):Rat.divInt (a.num*b.den - b.num*a.den) (a.den*b.den)=a - b:=by
 rw [Rat.sub_def',Rat.mkRat_eq_div,J3]; simp [Rat.intCast_natCast]
theorem vT (a b:Rat):Rat.divInt (a.num*b.num) (a.den*b.den)=a*b:=by
 rw [Rat.mul_def',Rat.mkRat_eq_div,J3]; simp [Rat.intCast_natCast]
theorem AE (a b:Rat):Rat.divInt (a.num*b.den) (a.den*b.num)=a / b:=by
 rw [Rat.div_def,<- Rat.num_divInt_den b,Rat.inv_divInt]
 conv=>rhs; rw [<- Rat.num_divInt_den a]
 rw [Rat.divInt_mul_divInt,Rat.num_divInt_den]
def jd:Nat->Nat
 | 0=>0
 | n+1=>if (jd n+1)*(jd n+1)<=n+1 then jd n+1 else jd n
theorem rD:∀ n,jd n*jd n<=n/\n < (jd n+1)*(jd n+1)
 | 0=>by decide
 | n+1=>by
  obtain⟨h1,h2⟩:=rD n;unfold jd
  split
  ·rename_i h
   refine⟨h,?_⟩;have:(jd n+1+1)*(jd n+1+1)=(jd n+1)*(jd n+1)+2*(jd n+1)+1:=by grind
   omega
  ·rename_i h
   exact⟨Nat.le_succ_of_le h1,Nat.lt_of_not_le h⟩
def j9 (n:Int):Int:=(jd n.toNat:Nat)
structure Rt (n r:Int):Prop where
 nn:0<=r
 le:r*r<=n
 lt:n < (r+1)*(r+1)
theorem ko {n:Int} (h:0<=n):Rt n (j9 n):=by
 obtain⟨h1,h2⟩:=rD n.toNat;refine⟨by unfold j9; omega,?_,?_⟩
 ·unfold j9;have:((jd n.toNat*jd n.toNat:Nat):Int)<=(n.toNat:Int):=Int.ofNat_le.mpr h1;rw [Int.natCast_mul] at this;omega
 ·unfold j9;have:((n.toNat:Nat):Int) < (((jd n.toNat+1)*(jd n.toNat+1):Nat):Int):=Int.ofNat_lt.mpr h2;rw [Int.natCast_mul,Int.natCast_add] at this;rw [show ((n.toNat:Nat):Int)=n by omega] at this
  exact this
theorem mJ {a b:Int} (ha:0<=a) (h:a<=b):a*a<=b*b:=Int.mul_le_mul h h ha (by omega)
theorem Rt.le_of {n r x:Int} (h:Rt n r) (hx:x*x<=n):x<=r:=by
 apply Int.not_lt.mp;intro hl;have:=mJ (a:=r+1) (b:=x) (by have:=h.nn; omega) (by omega)
 have:=h.lt;omega
theorem Rt.uniq {n r q:Int} (h:Rt n r) (h':Rt n q):r=q:=Int.le_antisymm (h'.le_of h.le) (h.le_of h'.le)
theorem Ae {n r:Int} (h:Rt n r):j9 n=r:=(ko (Int.le_trans (by have:=mJ (Int.le_refl 0) h.nn; omega) h.le)).uniq h
theorem y_ {n x:Int} (e:x*x=n):j9 n*j9 n=n:=by
 have h:Rt n x.natAbs:=by
  refine⟨by omega,?_,?_⟩
  ·rw [Int.natAbs_mul_self' x]; omega
  ·have:((x.natAbs:Int)+1)*((x.natAbs:Int)+1)=(x.natAbs:Int)*(x.natAbs:Int)+2*x.natAbs+1:=by grind
   rw [Int.natAbs_mul_self' x] at this;omega
 rw [Ae h,Int.natAbs_mul_self' x];exact e
theorem xu {n g r:Int} (hg:0 < g) (hr:0<=r) (h:r*r<=n):r<=(g+n / g) / 2:=by
 apply Int.not_lt.mp;intro hl;have h1:g+n / g+1<=2*r:=by omega
 have hn:0<=n:=by have:=mJ (Int.le_refl 0) hr; omega
 have hq:0<=n / g:=Int.ediv_nonneg hn (by omega)
 have h2:=mJ (a:=g+n / g+1) (b:=2*r) (by omega) h1
 have h3:n < (n / g+1)*g:=by
  have:=Int.lt_ediv_add_one_mul_self n hg;exact this
 have h4:0<=(g - (n / g+1))*(g - (n / g+1)):=by
  rw [<- Int.natAbs_mul_self' (g - (n / g+1))]; exact Int.natCast_nonneg _
 generalize n / g=q at*
 grind
theorem xU {n g r:Int} (hn:0<=n) (h:Rt n r) (hg:r < g):(g+n / g) / 2 < g:=by
 have h0:=h.nn;have h1:n / g < r+1:=by
  apply Int.ediv_lt_of_lt_mul (by omega)
  have:=h.lt;have h2:(r+1)*(r+1)<=(r+1)*g:=Int.mul_le_mul_of_nonneg_left (by omega) (by omega)
  omega
 omega
def Bt (n:Nat) (x:Int):Prop:=x.natAbs < 2 ^ n
theorem p0 {m n:Nat} (h:m<=n):2 ^ m<=2 ^ n:=Nat.pow_le_pow_right (by decide) h
theorem Bt.mono {m n:Nat} {x:Int} (h:Bt m x) (hm:m<=n):Bt n x:=JG h (p0 hm)
theorem Bt.mul {m n:Nat} {x y:Int} (hx:Bt m x) (hy:Bt n y):Bt (m+n) (x*y):=by
 unfold Bt at*
 rw [Int.natAbs_mul,Nat.pow_add];exact Nat.mul_lt_mul'' hx hy
theorem Bt.add {m n:Nat} {x y:Int} (hx:Bt m x) (hy:Bt n y):Bt (max m n+1) (x+y):=by
 have h1:=hx.mono (Nat.le_max_left m n);have h2:=hy.mono (Nat.le_max_right m n);unfold Bt at*
 have:=Int.natAbs_add_le x y;rw [Nat.pow_succ];omega
theorem Bt.neg {m:Nat} {x:Int} (hx:Bt m x):Bt m (-x):=by unfold Bt at *; omega
theorem Bt.sub {m n:Nat} {x y:Int} (hx:Bt m x) (hy:Bt n y):Bt (max m n+1) (x - y):=by
 rw [Int.sub_eq_add_neg]; exact hx.add hy.neg
theorem Bt.le {m:Nat} {x y:Int} (hx:Bt m x) (h:y.natAbs<=x.natAbs):Bt m y:=Nat.lt_of_le_of_lt h hx
structure Sz (n:Nat) (q:Rat):Prop where
 num:Bt n q.num
 den:Bt n q.den
theorem Sz.mono {m n:Nat} {q:Rat} (h:Sz m q) (hm:m<=n):Sz n q:=⟨h.num.mono hm,h.den.mono hm⟩
theorem dY:∀ a b:Int,(a.fdiv b).natAbs<=a.natAbs
 | .ofNat 0,b=>by
  have e:Int.fdiv (.ofNat 0) b=0:=Int.zero_fdiv b;rw [e]; exact Kf _
 | .ofNat (k+1),.ofNat j=>Nat.div_le_self (k+1) j
 | .ofNat (k+1),.negSucc j=>Nat.succ_le_succ (Nat.div_le_self k (j+1))
 | .negSucc _,.ofNat 0=>Kf _
 | .negSucc k,.ofNat (j+1)=>Nat.succ_le_succ (Nat.div_le_self k (j+1))
 | .negSucc k,.negSucc j=>Nat.div_le_self (k+1) (j+1)
theorem Sz.divInt {n:Nat} {t b:Int} (ht:Bt n t) (hb:Bt n b) (h:b≠0):Sz n (Rat.divInt t b):=
 ⟨by rw [<- oW h]; exact ht.le (dY _ _),by rw [<- m7 h]; exact hb.le (dY _ _)⟩
theorem tJ (q:Rat):(q.den:Int)≠0:=by have:=q.den_nz; omega
theorem e_ (p q:Rat):(p.den:Int)*q.den≠0:=Int.mul_ne_zero (tJ p) (tJ q)
theorem Sz.add {m n:Nat} {a b:Rat} (ha:Sz m a) (hb:Sz n b):Sz (m+n+1) (a+b):=by
 rw [<- zz];refine .divInt ?_ ?_ (e_ a b)
 ·exact((ha.num.mul hb.den).add (hb.num.mul ha.den)).mono (by omega)
 ·exact(ha.den.mul hb.den).mono (by omega)
theorem Sz.sub {m n:Nat} {a b:Rat} (ha:Sz m a) (hb:Sz n b):Sz (m+n+1) (a - b):=by
 rw [<- Aa];refine .divInt ?_ ?_ (e_ a b)
 ·exact((ha.num.mul hb.den).sub (hb.num.mul ha.den)).mono (by omega)
 ·exact(ha.den.mul hb.den).mono (by omega)
theorem Sz.mul {m n:Nat} {a b:Rat} (ha:Sz m a) (hb:Sz n b):Sz (m+n) (a*b):=by
 rw [<- vT];exact .divInt (ha.num.mul hb.num) (ha.den.mul hb.den) (e_ a b)
theorem vn {q:Rat} (h:q≠0):q.num≠0:=λe=>h (Rat.num_eq_zero.mp e)
theorem Sz.div {m n:Nat} {a b:Rat} (ha:Sz m a) (hb:Sz n b) (h:b≠0):Sz (m+n) (a / b):=by
 rw [<- AE];exact .divInt (ha.num.mul hb.den) (ha.den.mul hb.num) (Int.mul_ne_zero (tJ a) (vn h))
theorem Sz.neg {m:Nat} {a:Rat} (ha:Sz m a):Sz m (-a):=⟨by rw [Rat.neg_num]; exact ha.num.neg,by rw [Rat.neg_den]; exact ha.den⟩
theorem pO (r:Rat):(r*r).num=r.num*r.num:=by
 have h:=Rat.num_pow r 2;rw [show r ^ 2=r*r by grind,show r.num ^ 2=r.num*r.num by grind] at h
 exact h
theorem sr (r:Rat):(r*r).den=r.den*r.den:=by
 have h:=Rat.den_pow r 2;rw [show r ^ 2=r*r by grind,show r.den ^ 2=r.den*r.den by grind] at h
 exact h
def kb (u:Rat):Prop:=∀ r:Rat,r*r≠u
theorem Fi {n:Int} (h:0<=n):j9 n<=n:=by
 have rt:=ko h;have h0:=rt.nn;have h1:=rt.le;rcases Int.lt_or_le (j9 n) 1 with h2 | h2
 ·omega
 ·have:j9 n*1<=j9 n*j9 n:=Int.mul_le_mul_of_nonneg_left h2 h0;omega
theorem E9 {n:Int} {m:Nat} (h:0<=n) (hb:Bt m n):Bt m (j9 n):=hb.le (by have:=Fi h; have:=(ko h).nn; omega)
theorem Aw:j9 0=0:=by decide
theorem qT (a:Int) {b:Int} (h:0 < b):a.fdiv b=a / b:=Int.fdiv_eq_ediv_of_nonneg a (by omega)
abbrev qL (a:Int):Int:=if a < 0 then -a else a
theorem wD (a:Int):0<=qL a:=by unfold qL; split <;> omega
theorem cW (r:Rat):0<=r*r:=by
 rcases Rat.le_total (a:=0) (b:=r) with h | h
 ·exact JQ h h
 ·have:0<=-r:=by grind
  have:=JQ this this;grind
theorem uX (w:Rat):(w.num:Rat)=w*(w.den:Rat):=by
 have h:=Rat.num_divInt_den w;rw [J3,Rat.intCast_natCast] at h;have hd:(w.den:Rat)≠0:=by
  have:=w.den_nz;exact λe=>this (by exact_mod_cast e)
 grind
theorem vv (w:Rat):(w.den:Rat)≠0:=by
 have:=w.den_nz;exact λe=>this (by exact_mod_cast e)
def ab (b:Rat):Rat:=if b < 0 then -b else b
theorem mT (b:Rat):0<=ab b:=by unfold ab; split <;> grind
theorem pL (b:Rat):ab b*ab b=b*b:=by unfold ab; split <;> grind
def ss (b:Rat):Rat:=b*ab b
theorem fo (q:Rat):q.num < 0↔q < 0:=by
 have:=Rat.num_nonneg (q:=q)
 constructor
 ·intro h;apply Rat.not_le.mp;intro h2;have:=this.mpr h2;omega
 ·intro h;apply Int.not_le.mp;intro h2;exact absurd (this.mp h2) (Rat.not_le.mpr h)
theorem DQ (q:Rat):(ab q).num=qL q.num:=by
 unfold ab qL
 by_cases h:q < 0
 ·rw [if_pos h,if_pos ((fo q).mpr h),Rat.neg_num]
 ·rw [if_neg h,if_neg (λe=>h ((fo q).mp e))]
theorem Ej (q:Rat):(ab q).den=q.den:=by
 unfold ab
 split
 ·exact Rat.neg_den _
 ·rfl
theorem uT {x:Int} (h:0<=x):j9 (x*x)=x:=Ae ⟨h,Int.le_refl _,by grind⟩
theorem ls {b u:Rat} (hu:0 < u):ss b*u=0↔b=0:=by
 unfold ss ab
 constructor
 ·intro h;have hu':u≠0:=by grind
  split at h <;> grind
 ·intro h;subst h;grind
theorem Aq {b u:Rat} (hu:0 < u):ab (ss b*u)=b*b*u:=by
 have h2:=cW b;have h3:=JQ h2 (Rat.le_of_lt hu);unfold ss
 by_cases h:b < 0
 ·have e:b*ab b*u=-(b*b*u):=by unfold ab; rw [if_pos h]; grind
  rw [e];have hp:0 < b*b*u:=by
   have h4:0 < -b:=by grind
   have h5:=JY h4 h4;have h6:=JY h5 hu;grind
  unfold ab;rw [if_pos (by grind)]
  grind
 ·have e:b*ab b*u=b*b*u:=by unfold ab; rw [if_neg h]
  rw [e];unfold ab;rw [if_neg (by grind)]
theorem qe {b u:Rat} (hu:0 < u):ss b*u < 0↔b < 0:=by
 have h2:=cW b;have h3:=JQ h2 (Rat.le_of_lt hu);unfold ss ab
 constructor
 ·intro h
  split at h
  ·assumption
  ·exfalso; grind
 ·intro h;rw [if_pos h];have h4:0 < -b:=by grind
  have h5:=JY h4 h4;have h6:=JY h5 hu;grind
theorem vH (a b:Rat):ss (a*b)=ss a*ss b:=by
 have e:ab (a*b)=ab a*ab b:=by
  unfold ab
  by_cases ha:a < 0 <;> by_cases hb:b < 0
  ·have:=JY (show 0 < -a by grind) (show 0 < -b by grind)
   rw [if_neg (by grind),if_pos ha,if_pos hb]; grind
  ·rw [if_pos ha,if_neg hb]
   by_cases h0:b=0
   ·subst h0; grind
   ·have:=JY (show 0 < -a by grind) (show 0 < b by grind)
    rw [if_pos (by grind)]; grind
  ·rw [if_neg ha,if_pos hb]
   by_cases h0:a=0
   ·subst h0; grind
   ·have:=JY (show 0 < a by grind) (show 0 < -b by grind)
    rw [if_pos (by grind)]; grind
  ·have:=JQ (show 0<=a by grind) (show 0<=b by grind)
   rw [if_neg (by grind),if_neg ha,if_neg hb]
 unfold ss;rw [e];grind
theorem qX (b:Rat):ss (-b)=-ss b:=by
 unfold ss ab
 by_cases h:b < 0
 ·rw [if_neg (by grind),if_pos h]; grind
 ·by_cases h0:b=0
  ·subst h0; grind
  ·rw [if_pos (by grind),if_neg h]; grind
theorem nX {b:Rat} (h:0<=b):ss b=b*b:=by unfold ss ab; rw [if_neg (by grind)]
def sg (p q:Rat):Rat:=if q < 0 then -p else p
def CK (q:Rat):Int:=if 0 < q then 1 else if q < 0 then -1 else 0
theorem tI {q:Rat} (h:0 < q):CK q=1:=if_pos h
theorem o7 {q:Rat} (h:q < 0):CK q=-1:=by unfold CK; rw [if_neg (by grind),if_pos h]
theorem tri (q:Rat):0 < q\/q < 0\/q=0:=by
 rcases Rat.le_total (a:=0) (b:=q) with h | h
 ·by_cases e:q=0
  ·exact .inr (.inr e)
  ·exact .inl (by grind)
 ·by_cases e:q=0
  ·exact .inr (.inr e)
  ·exact .inr (.inl (by grind))
def vZ (a b u:Rat):Int:=if 0 < a*a - b*b*u then CK a else CK b
theorem kP {x y:Rat} (hx:0<=x) (hy:0<=y):0<=x / y:=by
 by_cases h:y=0
 ·subst h;rw [show x / 0=0 by grind]
  exact Rat.le_refl
 ·apply Rat.not_lt.mp;intro hl;have h1:=JY (show 0 < -(x / y) by grind) (show 0 < y by grind)
  have h2:x / y*y=x:=by grind
  grind
theorem di:ss 0=0:=by unfold ss; grind
theorem vf {q:Rat} (h:0<=q):0<=q.num:=Rat.num_nonneg.mpr h
theorem mh {q r:Rat} (h0:0<=r) (e:r*r=q):j9 q.num=r.num/\j9 (q.den:Int)=(r.den:Int):=by
 subst e;rw [pO,sr];refine⟨uT (vf h0),?_⟩;rw [Int.natCast_mul];exact uT (by omega)
theorem vM {q:Rat} (h0:0<=q) (s1:j9 q.num*j9 q.num=q.num) (s2:j9 (q.den:Int)*j9 (q.den:Int)=(q.den:Int)):∃ r:Rat,0<=r/\r*r=q:=by
 have n1:=(ko (vf h0)).nn;have n2:=(ko (n:=(q.den:Int)) (by omega)).nn
 generalize j9 q.num=x at s1 n1
 generalize j9 (q.den:Int)=y at s2 n2
 have t1:(x:Rat)*x=(q.num:Rat):=by
  have:=congrArg (λz:Int=>(z:Rat)) s1
  simpa [Ju] using this
 have t2:(y:Rat)*y=(q.den:Rat):=by
  have:=congrArg (λz:Int=>(z:Rat)) s2
  simpa [Ju,Rat.intCast_natCast] using this
 have hd:=vv q;have hy0:(y:Rat)≠0:=by intro e; rw [e] at t2; exact hd (by grind)
 have hwn:=uX q;have x0:(0:Rat)<=x:=by exact_mod_cast n1
 have y0:(0:Rat)<=y:=by exact_mod_cast n2
 refine⟨(x:Rat) / y,?_,by grind⟩
 exact kP x0 y0
theorem ly {e:Rat} (h:e≠0):ab e≠0:=by unfold ab; split <;> grind
theorem vB {e:Rat} (h:e≠0):0 < ab e:=by have:=mT e; have:=ly h; grind
theorem Ge {r s:Rat} (hr:0<=r) (hs:0<=s) (e:r*r=s*s):r=s:=by
 by_cases h:r+s=0
 ·grind
 ·have:(r - s)*(r+s)=0:=by grind
  grind
theorem vd {b e u r:Rat} (u0:0 < u) (he:e≠0) (hr:0<=r) (h:r*r=(b*b*u) / (e*e*u)):r=ab b / ab e:=by
 have u1:u≠0:=by grind
 have e1:=pL e;have b1:=pL b;have e2:=ly he;apply Ge hr (kP (mT b) (mT e));rw [h];have:ab b / ab e*(ab b / ab e)=(ab b*ab b) / (ab e*ab e):=by grind
 rw [this,e1,b1];grind
theorem Af {b e u:Rat} (u0:0 < u) (he:e≠0):(ab b / ab e)*(ab b / ab e)=(b*b*u) / (e*e*u):=by
 have u1:u≠0:=by grind
 have e1:=pL e;have b1:=pL b;have e2:=ly he;have:ab b / ab e*(ab b / ab e)=(ab b*ab b) / (ab e*ab e):=by grind
 rw [this,e1,b1];grind
theorem AK {b e u:Rat} (u0:0 < u):sg (ab b / ab e) (ss b*u)=b / ab e:=by
 unfold sg
 by_cases h:b < 0
 ·rw [if_pos ((qe u0).mpr h)];unfold ab;rw [if_pos h];grind
 ·rw [if_neg (λz=>h ((qe u0).mp z))]
  unfold ab;rw [if_neg h]
theorem Ey {x y:Rat} (hy:0 < y):ss (x / y)=ss x / (y*y):=by
 have h1:x / y=x*(1 / y):=by grind
 have h2:0<=1 / y:=kP (by decide) (Rat.le_of_lt hy)
 rw [h1,vH,nX h2];grind
theorem wz {x e u:Rat} (he:e≠0):ss (x / ab e)*(e*e*u)=ss x*u:=by
 have e1:=pL e;rw [Ey (vB he),e1];grind
theorem Av (p base:Rat):sg (p*p*base) p=ss p*base:=by
 unfold sg ss ab
 by_cases h:p < 0
 ·rw [if_pos h,if_pos h]; grind
 ·rw [if_neg h,if_neg h]
def pick (b d:Rat):Rat:=if b=0 then d else b
theorem y7 {b d:Rat}:b=0\/pick b d≠0:=by
 unfold pick
 by_cases h:b=0
 ·exact .inl h
 ·rw [if_neg h]; exact .inr h
theorem Ao {b d:Rat}:d=0\/pick b d≠0:=by
 unfold pick
 by_cases h:b=0
 ·rw [if_pos h]
  by_cases h2:d=0
  ·exact .inl h2
  ·exact .inr h2
 ·rw [if_neg h]; exact .inr h
theorem nA {b d:Rat} (h:pick b d=0):b=0/\d=0:=by
 unfold pick at h
 by_cases h2:b=0
 ·rw [if_pos h2] at h; exact⟨h2,h⟩
 ·rw [if_neg h2] at h; exact absurd h h2
theorem yp {b d u:Rat}:ss (b / ab (pick b d)+d / ab (pick b d))*(pick b d*pick b d*u)=ss (b+d)*u:=by
 by_cases h:pick b d=0
 ·obtain⟨rfl,rfl⟩:=nA h;rw [h];have:ss ((0:Rat)+0)=0:=by rw [show (0:Rat)+0=0 by grind]; exact di
  rw [this];grind
 ·rw [<- wz (x:=b+d) h]
  congr 2
  have:=ly h;grind
theorem vL {a b c d u:Rat}:a*c+(b / ab (pick b d))*(d / ab (pick b d))*(pick b d*pick b d*u)=a*c+b*d*u:=by
 by_cases h:pick b d=0
 ·obtain⟨rfl,rfl⟩:=nA h;rw [h];grind
 ·have e1:=pL (pick b d);have e2:=ly h;rw [<- e1];grind
theorem vq {a b c d u:Rat}:ss (a*(d / ab (pick b d))+c*(b / ab (pick b d)))*(pick b d*pick b d*u)=ss (a*d+b*c)*u:=by
 by_cases h:pick b d=0
 ·obtain⟨rfl,rfl⟩:=nA h;rw [h,show a*(0 / ab (0:Rat))+c*(0 / ab 0)=0 by grind,show a*0+0*c=0 by grind,di]
  grind
 ·rw [<- wz (x:=a*d+b*c) h]
  congr 2
  have:=ly h;grind
theorem rQ {b u:Rat} (u0:0 < u):ab (ss b*u)=b*b*u:=Aq u0
theorem Sz.ab {n:Nat} {q:Rat} (h:Sz n q):Sz n (HM.ab q):=by
 unfold HM.ab
 split
 ·exact h.neg
 ·exact h
theorem Sz.ss {n:Nat} {q:Rat} (h:Sz n q):Sz (n+n) (HM.ss q):=h.mul h.ab
theorem Sz.sg {n:Nat} {p q:Rat} (h:Sz n p):Sz n (HM.sg p q):=by
 unfold HM.sg
 split
 ·exact h.neg
 ·exact h
theorem Sz.zero:Sz 1 0:=⟨by show(0:Int).natAbs < 2 ^ 1; decide,by show((1:Nat):Int).natAbs < 2 ^ 1; decide⟩
theorem Sz.pick {n:Nat} {b d:Rat} (hb:Sz n b) (hd:Sz n d):Sz n (HM.pick b d):=by
 unfold HM.pick
 split
 ·exact hd
 ·exact hb
theorem Sz.div' {m n:Nat} {a b:Rat} (ha:Sz m a) (hb:Sz n b):Sz (m+n+1) (a / b):=by
 by_cases h:b=0
 ·subst h;rw [show a / 0=0 by grind]
  exact Sz.zero.mono (by omega)
 ·exact(ha.div hb h).mono (by omega)
theorem Fe {b u:Rat} (u0:0 < u):CK (ss b*u)=CK b:=by
 rcases tri b with h | h | h
 ·have:=JY (JY h (vB (show b≠0 by grind))) u0
  unfold ss;rw [tI h,tI this]
 ·rw [o7 h,o7 ((qe u0).mpr h)]
 ·subst h;rw [di,show(0:Rat)*u=0 by grind]
end HM
namespace L2
open PySem PySem.Spec PyProof.Rows
theorem sC (elt target iter:Kt) (scope:Scope) (pos:Pos) (it acc:Kq) (env:Env):
  compTurn (.ListComp elt [⟨target,iter,[],0⟩] scope pos) 0 it acc env=(standAt iter.pos >>= λ_=>pyNext it >>= λr=>match r with
   | none=>pure (.done .next)
   | some v=>letOwnedTupleGo target it v >>= λ_=>assign target env v >>= λ_=>
    (eval elt env >>= λx=>call (.builtin "list.append") [acc,x] >>= λ_=>pure ()) >>= λ_=>
     again (.compLoop (.ListComp elt [⟨target,iter,[],0⟩] scope pos) 0 it acc env)):=by rfl
section
variable {prog:Ku} {w:Kw} {A:Kv} {R:Result->Ko->Prop} {s:Ko}
abbrev kg:Kq->Ko->Prop:=λ_ _=>False
theorem zU {α:Type} {M:Model} {A:Kv} {t:Sem α} {Q:α->Ko->Prop} {E:Kq->Ko->Prop} {s:Ko} (h:wpAny M A t Q kg s):wpAny M A t Q E s:=J5 h (λ_ _ q=>q) λ_ _ z=>z.elim
theorem mU {elt target iter:Kt} {scope:Scope} {pos:Pos} {it acc:Kq} {env:Env} (I:Nat->Ko->Prop)
  (turn:∀ n s,I n s->wpAny (model prog w) A (pyNext it) (λr s1=>match r with
   | none=>R (.ok .next) s1
   | some v=>wpAny (model prog w) A (letOwnedTupleGo target it v) (λ_ s2=>wpAny (model prog w) A (assign target env v) (λ_ s3=>wpAny (model prog w) A (eval elt env) (λx s4=>
     wpAny (model prog w) A (call (.builtin "list.append") [acc,x]) (λ_ s5=>∃ m,m < n/\I m s5) kg s4) kg s3) kg s2) kg s1) kg s)
  (n:Nat) (h:I n s):codeAny (model prog w) A (.compLoop (.ListComp elt [⟨target,iter,[],0⟩] scope pos) 0 it acc env) R s:=by
 refine codeAny_loop rfl I (λn s hI=>?_) n h
 show wpAny _ _ ((compTurn (.ListComp elt [⟨target,iter,[],0⟩] scope pos) 0 it acc env).onRaise (λx=>do noteFrame x env; theTreesLotGoes x)) _ _ s
 refine wpAny_noted ?_;rw [sC];refine gt (wpAny_standAt (gt (zU (J5 (turn n s hI) (λr s1 h1=>?_) λ_ _ z=>z))))
 cases r with
 | none=>exact Js h1
 | some v=>
  exact gt (zU (cm h1 λ_ s2 h2=>gt (zU (cm h2 λ_ s3 h3=>gt (gt (zU (cm h3 λx s4 h4=>gt (zU (cm h4 λ_ s5 h5=>Js (Js ⟨rfl,h5⟩))))))))))
theorem oU {M:Model} {A:Kv} {E:Kq->Ko->Prop} {c:Kt} {env:Env} {Q:KA->Ko->Prop} {s:Ko} (h:wpAny M A (PySem.isTrue c env (eval c env)) Q E s):
  wpAny M A (forIn [c] true λc r=>if r=true then do let ok <- PySem.isTrue c env (eval c env); pure (ForInStep.yield ok) else pure (ForInStep.yield r)) Q E s:=by
 rw [List.forIn_cons];refine gt ?_;rw [if_pos rfl];refine gt (cm h λok s1 q=>Js ?_)
 show wpAny M A (forIn [] ok _) Q E s1
 rw [List.forIn_nil];exact Js q
theorem sV {elt target iter c:Kt} {scope:Scope} {pos:Pos} {it acc:Kq} {env:Env} (I:Nat->Ko->Prop)
  (turn:∀ n s,I n s->wpAny (model prog w) A (pyNext it) (λr s1=>match r with
   | none=>R (.ok .next) s1
   | some v=>wpAny (model prog w) A (letOwnedTupleGo target it v) (λ_ s2=>wpAny (model prog w) A (assign target env v) (λ_ s3=>wpAny (model prog w) A (isTrue c env (eval c env)) (λb s3'=>
     if b=true then wpAny (model prog w) A (eval elt env) (λx s4=>wpAny (model prog w) A (call (.builtin "list.append") [acc,x]) (λ_ s5=>∃ m,m < n/\I m s5) kg s4) kg s3'
     else ∃ m,m < n/\I m s3') kg s3) kg s2) kg s1) kg s)
  (n:Nat) (h:I n s):codeAny (model prog w) A (.compLoop (.ListComp elt [⟨target,iter,[c],0⟩] scope pos) 0 it acc env) R s:=by
 refine codeAny_loop rfl I (λn s hI=>?_) n h
 show wpAny _ _ ((compTurn (.ListComp elt [⟨target,iter,[c],0⟩] scope pos) 0 it acc env).onRaise (λx=>do noteFrame x env; theTreesLotGoes x)) _ _ s
 refine wpAny_noted ?_;rw [compTurn_list];refine gt (wpAny_standAt (gt (zU (J5 (turn n s hI) (λr s1 h1=>?_) λ_ _ z=>z))))
 cases r with
 | none=>exact Js h1
 | some v=>
  refine gt (zU (cm h1 λ_ s2 h2=>gt (zU (cm h2 λ_ s3 h3=>gt (oU (zU (cm h3 λb s3' h3'=>?_)))))))
  cases b with
  | true=>
   rw [if_pos rfl] at h3' ⊢;exact gt (gt (zU (cm h3' λx s4 h4=>gt (zU (cm h4 λ_ s5 h5=>Js (Js ⟨rfl,h5⟩))))))
  | false=>
   rw [if_neg Jz] at h3' ⊢;exact Js ⟨rfl,h3'⟩
end
def kl (X:Cx) (scope:Scope) (cl:List (Str×Kr)) (N:List Str) (s0:Ko) (H0:Hp) (ex:List Kr) (C:Kr):Cx where
 prog:=X.prog
 w:=X.w
 K:=X.K
 mg:=X.mg
 base:=X.base
 A:=X.A
 N:=N
 s₀:=s0
 H₀:=H0
 env:=compEnvC scope cl C X.env
 outer:=X.stack
 stack:=X.stack
 ex:=ex
 fn:=λ_=>false
 calm:=X.calm
 pn:=[]
 xe:=kg
structure g_ (X:Cx) (scope:Scope) (cl:List (Str×Kr)) (N:List Str) (cap:List (Ks Nat)):Prop where
 kind:scope.kind=.function
 clos:closureFor scope X.env=pure cl
 nocell:(scope.names.all λy=>y.2 != NameKind.cell)=true
 names:(scope.names.all λy=>y.2 != NameKind.local || scope.names.lookup y.1 == some NameKind.local)=true
 sub:∀ p∈cl,X.env.cells.lookup p.1=some p.2
 has:((relabel scope X.env).names.all λy=>(y.2 != NameKind.cell && y.2 != NameKind.free) || (cl.lookup y.1).isSome)=true
 len:cap.length=N.length
 caps:∀ (i j:Nat) (x:Str),cap[i]?=some (some j)->N[i]?=some x->X.N[j]?=some x/\(X.env.scope.names.lookup x=some .cell\/X.env.scope.names.lookup x=some .free)/\((relabel scope X.env).names.lookup x=some .cell\/(relabel scope X.env).names.lookup x=some .free)
def na (cap:List (Ks Nat)) (σ:St):St:=cap.map λo=>match o with
 | some j=>(σ[j]?).join
 | none=>none
theorem x8 {cap:List (Ks Nat)} {σ:St} {i:Nat} {v:V} (h:(na cap σ)[i]?=some (some v)):∃ j,cap[i]?=some (some j)/\σ[j]?=some (some v):=by
 unfold na at h;rw [JX] at h;cases e:cap[i]? with
 | none=>rw [e] at h; cases h
 | some o=>
  rw [e] at h;cases o with
  | none=>cases h
  | some j=>
   refine⟨j,rfl,?_⟩;have h:(σ[j]?).join=some v:=J0 h;cases e2:σ[j]? with
   | none=>rw [e2] at h; cases h
   | some q=>rw [e2] at h; exact congrArg some h
theorem fO {X:Cx} {cl:List (Str×Kr)} (h:∀ p∈cl,X.env.cells.lookup p.1=some p.2) {x:Str} {c:Kr} (e:cl.lookup x=some c):X.env.cells.lookup x=some c:=h (x,c) (J9 e)
theorem qi {X:Cx} {scope:Scope} {cl:List (Str×Kr)} {N:List Str} {cap:List (Ks Nat)} (Sc:g_ X scope cl N cap) {KD:List (Kr×KC)} {σ:St} {H:Hp} {s:Ko} {fp:List Kr} (I:aI X KD σ H s)
  (hf:∀ b∈fp,oy X KD H b) (ho:∀ b∈fp,∃ o,s.heap.get? b=some o) {h1 h1':Kx} {m:Str->Ks Kq} {tk:Nat} {ob:KC}
  (hD:s.heap.push {cls:=.type "list",data:=.seq ([]:List Kq).toArray}=h1') (hns:h1.Ns h1'.objs.size m) (hsb:Heap.SameBut h1'.objs.size (h1'.push ob) h1):
  aI (kl X scope cl N {s with heap:=h1'} (cb H s.heap.objs.size (.lst [])) fp h1'.objs.size) [] (na cap σ) (cb H s.heap.objs.size (.lst [])) {s with heap:=h1,toks:=tk}/\
   Un (f_ X.stack) fp H (cb H s.heap.objs.size (.lst [])) s.heap h1':=by
 have hC:h1'.objs.size=s.heap.objs.size+1:=by rw [<- hD,Kh]
 have k1:∀ b o,s.heap.get? b=some o->h1'.get? b=some o:=λb o e=>by rw [<- hD]; exact pp _ e
 have k2:∀ b o,h1'.get? b=some o->h1.get? b=some o:=λb o e=>(hsb.2 b (JC (Jv e))).trans (pp _ e)
 have hHn:H s.heap.objs.size=none:=I.hok.fresh (Jw _);have neD:∀ b o,s.heap.get? b=some o->b≠s.heap.objs.size:=λb o e=>JC (Jv e)
 have un1:Un (f_ X.stack) fp H (cb H s.heap.objs.size (.lst [])) s.heap h1':=Un.laid k1 (Jw _) hHn;have new:fw X.prog X.w (cb H s.heap.objs.size (.lst [])) h1' s.heap.objs.size (.lst []):=⟨Kf _,[],0,.nil,by rw [<- hD]; exact Jt _ rfl⟩
 have hok1:mv X.prog X.w (cb H s.heap.objs.size (.lst [])) h1':=I.hok.laid k1 (Jw _) new;have fsub:∀ b∈fp,b∉f_ X.stack:=λb hb z=>by
  obtain⟨_,f1,f2,_⟩:=hf b hb;rcases JB.mp (I.stkSub b z) with e | e
  ·exact f1 e
  ·exact f2 e
 have cellK:∀ x c,cl.lookup x=some c->∃ v,s.heap.IsCell c v:=λx c e=>I.cell x c (fO Sc.sub e)
 refine⟨⟨⟨I.ok.mod,?_,I.ok.glob,I.ok.blt,Jw _,λx y c e1 e2=>I.ok.inj x y c (fO Sc.sub e1) (fO Sc.sub e2),λx hx=>?_,λx c z=>(by cases z),I.ok.hd,I.ok.frames,.inl rfl,λb hb=>⟨?_,λx c e=>?_⟩,λb o e=>⟨?_,?_⟩,?_,λb o e hb=>?_,fsub,?_,λb hb=>?_⟩,
  rfl,I.bare,Un.kept k2,⟨m,hns,λi x v e1 e2 e3=>?_⟩,λx c e=>?_,?_,λx c e=>?_,λp hp=>absurd hp (by simp [kl]),hok1.kept k2,?_⟩,un1⟩
 ·exact Sc.kind
 ·have hx:(relabel scope X.env).names.lookup x=some .cell\/(relabel scope X.env).names.lookup x=some .free:=hx;have ha:=Ki.mp Sc.has
  show ∃ c,cl.lookup x=some c
  rcases hx with hx | hx
  ·have:=ha _ (J9 hx);exact Km.mp (by simpa using this)
  ·have:=ha _ (J9 hx);exact Km.mp (by simpa using this)
 ·obtain⟨o,e⟩:=ho b hb;have:=Jv e
  show b≠h1'.objs.size
  rw [hC];exact JC (Nat.lt_succ_of_lt this)
 ·exact(hf b hb).2.2.2.2.1 x c (fO Sc.sub e)
 ·exact k1 b o (I.bk b o e)
 ·show cb H s.heap.objs.size (.lst []) b=none
  rw [aM (neD b o (I.bk b o e))];exact(I.bs b o e).2
 ·show X.base.objs.size<=h1'.objs.size
  rw [hC];exact Nat.le_succ_of_le (J7 I.ok.bsz I.sz)
 ·obtain⟨_,_,_,f3,_⟩:=hf b hb;rcases f3 with f3 | f3
  ·exact I.ok.noex b o e f3
  ·have q1:=Jv e;have q2:=I.ok.bsz;exact absurd (JG q1 (J7 q2 f3)) (Kg _)
 ·exact I.stack.of_keeps λb o e _=>⟨o,k1 b o e,rfl⟩
 ·show cb H s.heap.objs.size (.lst []) b=none
  obtain⟨_,o,e,_⟩:=I.stack.mem hb;rw [aM (neD b o e)];exact I.stkFree b hb
 ·obtain⟨j,c1,c2⟩:=x8 e2;obtain⟨d1,d2,d3⟩:=Sc.caps i j x c1 e1;obtain⟨m0,_,l0⟩:=I.loc;obtain⟨u,ru,lk⟩:=l0 j x v d1 c2 (d2.elim (λz=>.inr (.inl z)) λz=>.inr (.inr z))
  refine⟨u,ru,.inr ⟨d3,?_⟩⟩;rcases lk with ⟨z,_⟩ | ⟨_,c,z1,z2⟩
  ·have z:X.env.scope.names.lookup x=some .local:=z;rcases d2 with q | q <;> (rw [q] at z; cases z)
  ·have ha:=Ki.mp Sc.has;have hs:∃ c',cl.lookup x=some c':=by
    rcases d3 with q | q
    ·exact Km.mp (by simpa using ha _ (J9 q))
    ·exact Km.mp (by simpa using ha _ (J9 q))
   obtain⟨c',q⟩:=hs;have q2:=fO Sc.sub q;rw [z1] at q2;cases q2;obtain⟨o,e,d⟩:=z2;exact⟨c,q,o,k2 _ _ (k1 _ _ e),d⟩
 ·obtain⟨v,o,e1,d⟩:=cellK x c e;exact⟨v,o,k2 _ _ (k1 _ _ e1),d⟩
 ·show cb H s.heap.objs.size (.lst []) h1'.objs.size=none
  rw [hC,aM (Nat.succ_ne_self _)];exact I.hok.fresh (Nat.le_succ _)
 ·obtain⟨v,o,e1,d⟩:=cellK x c e
  show cb H s.heap.objs.size (.lst []) c=none
  rw [aM (neD c o e1)];exact I.freeC x c (fO Sc.sub e)
 ·show(na cap σ).length=N.length
  unfold na;rw [Jy];exact Sc.len
def C5 (cap:List (Ks Nat)) (wi:TI) (g:TG) (te:TE):TE:=fun σ H Q=>wi σ H λJ H1=>∀ D,H1 D=none->∃ W:Nat->Nat->St->Hp->Prop,(∃ m,W 0 m (na cap σ) (cb H1 D (.lst [])))/\∀ i m σ' H',W i m σ' H'->
 (J.stop i H'/\Q (.ref D) H')\/(J.go i H'/\∃ N:St->Hp->Prop,(∀ σ2 H2,N σ2 H2->∃ m',m' < m/\W (i+1) m' σ2 H2)/\∀ x H2,J.yld i H' x H2->g x σ' H2 fun σ3 H3=>te σ3 H3 λv H4=>∃ ys,H4 D=some (.lst ys)/\ys.length < sizeLine/\N σ3 (cb H4 D (.lst (ys++[v]))))
def Cy (cap:List (Ks Nat)) (wi:TI) (g:TG) (tc:TT) (te:TE):TE:=fun σ H Q=>wi σ H λJ H1=>∀ D,H1 D=none->∃ W:Nat->Nat->St->Hp->Prop,(∃ m,W 0 m (na cap σ) (cb H1 D (.lst [])))/\∀ i m σ' H',W i m σ' H'->
 (J.stop i H'/\Q (.ref D) H')\/(J.go i H'/\∃ N:St->Hp->Prop,(∀ σ2 H2,N σ2 H2->∃ m',m' < m/\W (i+1) m' σ2 H2)/\∀ x H2,J.yld i H' x H2->g x σ' H2 fun σ3 H3=>tc σ3 H3 λb H3'=>if b=true then te σ3 H3' λv H4=>∃ ys,H4 D=some (.lst ys)/\ys.length < sizeLine/\N σ3 (cb H4 D (.lst (ys++[v]))) else N σ3 H3')
section
variable {X:Cx} {elt tg iter c:Kt} {scope:Scope} {cl:List (Str×Kr)} {N:List Str} {cap:List (Ks Nat)} {pos:Pos} {wi:TI} {g:TG} {te:TE} {tc:TT}
theorem pC (Sc:g_ X scope cl N cap) {KD:List (Kr×KC)} {σ σ3:St} {H2 H3:Hp} {s2 s4:Ko} {fp:List Kr} {h1':Kx} {C:Kr} (I2:aI X KD σ H2 s2) (f2:∀ b∈fp,oy X KD H2 b) {H1:Hp}
  (un3:Un (f_ X.stack) fp H2 H1 s2.heap h1') (I4:aI (kl X scope cl N {s2 with heap:=h1'} H1 fp C) [] σ3 H3 s4) {h':Kx} (hC:s2.heap.objs.size<=C) (sb:Heap.SameBut C s4.heap h'):aI X KD σ H3 {s4 with heap:=h'}:=by
 have u:Un (f_ X.stack) fp H2 H3 s2.heap s4.heap:=un3.trans I4.base;have ne:∀ b o,s2.heap.get? b=some o->b≠C:=λb o e=>JC (JG (Jv e) hC)
 have u':Un (f_ X.stack) fp H2 H3 s2.heap h':=⟨λb o e n hb hx=>(sb.2 b (ne b o e)).trans (u.keep b o e n hb hx),λb o e n hb hx=>by
   obtain⟨sl,q⟩:=u.slot b o e n hb hx;exact⟨sl,(sb.2 b (ne b o e)).trans q⟩,u.free,λb o e hx=>by
   obtain⟨o',q⟩:=u.there b o e hx;exact⟨o',(sb.2 b (ne b o e)).trans q⟩,u.tups,u.frzs,u.tbls⟩
 have hok:mv X.prog X.w H3 h':=λb ob e=>by
  refine(I4.hok b ob e).stay (λc w' hc q=>(sb.2 c ?_).trans q) (λ_ q=>q) λ_ _ q=>q
  rintro rfl;have hfree:H3 c=none:=I4.free;rcases hc with rfl | hc
  ·rw [hfree] at e; cases e
  ·rw [hfree] at hc; cases hc
 refine I2.call' (s':={s4 with heap:=h'}) (ch:=fp) I4.os u' hok I4.bare λb hb=>?_
 obtain⟨_,f1,_,f3,f4,f5⟩:=f2 b hb;exact⟨f3,f1,f4,f5⟩
theorem gF {s0:Ko} {H0:Hp} {C:Kr} {fp:List Kr} {σ:St} {H:Hp} {s:Ko} (I:aI (kl X scope cl N s0 H0 fp C) [] σ H s) (hn:∀ b∈fp,H b=none):∀ b∈fp,oy (kl X scope cl N s0 H0 fp C) [] H b:=λb hb=>
 ⟨hn b hb,(I.ok.exf b hb).1,I.ok.exfs b hb,.inl hb,(I.ok.exf b hb).2,λp hp=>absurd hp (by simp [kl])⟩
theorem wy (hc:X.calm=true) (Sc:g_ X scope cl N cap) (hi:PI X tg iter wi) (hg:∀ s0 H0 ex C,PG (kl X scope cl N s0 H0 ex C) tg g) (he:∀ s0 H0 ex C,PE (kl X scope cl N s0 H0 ex C) elt te)
  (hs:∀ x,foldedSetIterable iter X.env x=pure x:=by intro _; rfl):PE X (.ListComp elt [⟨tg,iter,[],0⟩] scope pos) (C5 cap wi g te):=by
 intro KD s σ H Q I h;rw [eval_ListComp];have hcell:∀ y∈scope.names,y.2≠.cell:=λy hy=>by simpa using Ki.mp Sc.nocell y hy
 have hnames:∀ y∈scope.names,y.2=.local->scope.names.lookup y.1=some .local:=λy hy e=>by
  have:=Ki.mp Sc.names y hy;rw [e] at this
  simpa using this
 refine wpAny_comprehension_free (use:=none) rfl hs Sc.clos Sc.kind hnames (cm (hi KD s σ H _ I h) λv s1 h1=>cm h1 λitv s2 h2=>?_)
 obtain⟨it,fp,tn,J,H2,e,I2,T,st2,f2,hW⟩:=h2;subst e;refine JW (wpAny_newFunctionEnv hcell (by intro y hy; simp at hy) (λh1 hns hsb=>?_) Sc.kind)
 obtain⟨W,⟨m0,w0⟩,turn⟩:=hW s2.heap.objs.size I2.fresh;dsimp only at hns hsb ⊢
 generalize hD:s2.heap.push {cls:=.type "list",dict:=none,data:=.seq ([]:List Kq).toArray}=h1' at hns hsb ⊢
 obtain⟨I3,un3⟩:=qi (tk:=s2.toks+([]:List (Str×Kq)).length) Sc I2 f2 (λb hb=>let ⟨o,e,_⟩:=T.obj 0 _ st2 b hb; ⟨o,e⟩) hD hns hsb
 have hC:s2.heap.objs.size<=h1'.objs.size:=by rw [<- hD,Kh]; exact Nat.le_succ _
 have k1:∀ b o,s2.heap.get? b=some o->h1.get? b=some o:=λb o e=>by
  have e1:h1'.get? b=some o:=by rw [<- hD]; exact pp _ e
  exact(hsb.2 b (JC (Jv e1))).trans (pp _ e1)
 have st3:tn 0 h1:=T.keep 0 _ _ st2 λb _ o e=>k1 b o e
 have fr3:∀ b∈fp,(cb H2 s2.heap.objs.size (.lst [])) b=none:=λb hb=>by
  obtain⟨o,e,_⟩:=T.obj 0 _ st2 b hb;rw [aM (JC (Jv e))];exact(f2 b hb).1
 have loop:∀ s3:Ko,s3={s2 with heap:=h1,toks:=s2.toks+([]:List (Str×Kq)).length}->
   codeAny (model X.prog X.w) X.A (.compLoop (.ListComp elt [⟨tg,iter,[],0⟩] scope pos) 0 (.ref it) (.ref s2.heap.objs.size) (compEnvC scope cl h1'.objs.size X.env))
    (compPost (model X.prog X.w) X.A X.xe none (EP X KD σ Q) (.ref s2.heap.objs.size) h1'.objs.size) s3:=by
  rintro s3 rfl;refine mU (λn s'=>∃ i σ' H',aI (kl X scope cl N {s2 with heap:=h1'} (cb H2 s2.heap.objs.size (.lst [])) fp h1'.objs.size) [] σ' H' s'/\tn i s'.heap/\(∀ b∈fp,H' b=none)/\W i n σ' H') ?_ m0 ⟨0,_,_,I3,st3,fr3,w0⟩
  rintro n s3 ⟨i,σ3,H3,I3,st3,fr3,w3⟩;rcases turn i n σ3 H3 w3 with ⟨stop,qn⟩ | ⟨go,Nn,hN,step⟩
  ·refine cm (T.done (kl X scope cl N {s2 with heap:=h1'} (cb H2 s2.heap.objs.size (.lst [])) fp h1'.objs.size) rfl rfl rfl hc i [] s3 σ3 H3 kg I3 (gF I3 fr3) st3 stop) λr s4 z9=>?_
   obtain⟨hr,I4⟩:=z9;subst hr;obtain⟨m,hm,_⟩:=I4.loc;exact⟨m,hm,λh' sb=>⟨.ref _,H3,pC Sc I2 f2 un3 I4 hC sb,rfl,qn⟩⟩
  ·refine cm (T.item (kl X scope cl N {s2 with heap:=h1'} (cb H2 s2.heap.objs.size (.lst [])) fp h1'.objs.size) rfl rfl rfl hc i [] s3 σ3 H3 kg I3 (gF I3 fr3) st3 go) λr s4 z9=>?_
   obtain⟨u,hr,h4⟩:=z9;subst hr;refine cm h4 λ_ s5 z9=>?_
   obtain⟨x,H5,I5,r5,y5,st5,fr5⟩:=z9;have I5':=I5.pinned (gF I5 fr5) (T.obj _ _ st5);refine cm (hg _ _ _ _ _ s5 σ3 H5 x u _ I5' r5 (step x H5 y5)) λ_ s6 z9=>?_
   obtain⟨σ6,H6,I6,q6⟩:=z9;refine cm (he _ _ _ _ _ s6 σ6 H6 _ I6 q6) λuv s7 z9=>?_
   obtain⟨v,H7,I7,r7,ys,hy,hl,q7⟩:=z9;refine cm (lu (X:=kl X scope cl N {s2 with heap:=h1'} (cb H2 s2.heap.objs.size (.lst [])) fp h1'.objs.size) _ s7 σ6 H7 (.ref s2.heap.objs.size) [v] (.ref s2.heap.objs.size) [uv] (λ_ H8=>Nn σ6 H8) I7 rfl (.cons r7 .nil) ⟨_,ys,v,rfl,rfl,hy,hl,q7⟩) λ_ s8 z9=>?_
   obtain⟨_,H8,I8,_,n8⟩:=z9;obtain⟨m',hm,w8⟩:=hN σ6 H8 n8;refine⟨m',hm,i+1,σ6,H8,I8.unpinned,T.keep _ _ _ st5 λb hb o e=>(I8.pin (b,o) (JH _ (JH _ (dX hb e)))).1,λb hb=>?_,w8⟩
   obtain⟨o,e,d⟩:=T.obj _ _ st5 b hb;exact(I8.pin (b,o) (JH _ (JH _ (dX hb e)))).2.1
 exact codeAny_compStart_list (loop _ rfl) (T.self _ 0 _ _ _ st3 (loop _ rfl))
theorem xY (hc:X.calm=true) (Sc:g_ X scope cl N cap) (hi:PI X tg iter wi) (hg:∀ s0 H0 ex C,PG (kl X scope cl N s0 H0 ex C) tg g) (hcnd:∀ s0 H0 ex C,PT (kl X scope cl N s0 H0 ex C) c tc) (he:∀ s0 H0 ex C,PE (kl X scope cl N s0 H0 ex C) elt te)
  (hs:∀ x,foldedSetIterable iter X.env x=pure x:=by intro _; rfl):PE X (.ListComp elt [⟨tg,iter,[c],0⟩] scope pos) (Cy cap wi g tc te):=by
 intro KD s σ H Q I h;rw [eval_ListComp];have hcell:∀ y∈scope.names,y.2≠.cell:=λy hy=>by simpa using Ki.mp Sc.nocell y hy
 have hnames:∀ y∈scope.names,y.2=.local->scope.names.lookup y.1=some .local:=λy hy e=>by
  have:=Ki.mp Sc.names y hy;rw [e] at this
  simpa using this
 refine wpAny_comprehension_free (use:=none) rfl hs Sc.clos Sc.kind hnames (cm (hi KD s σ H _ I h) λv s1 h1=>cm h1 λitv s2 h2=>?_)
 obtain⟨it,fp,tn,J,H2,e,I2,T,st2,f2,hW⟩:=h2;subst e;refine JW (wpAny_newFunctionEnv hcell (by intro y hy; simp at hy) (λh1 hns hsb=>?_) Sc.kind)
 obtain⟨W,⟨m0,w0⟩,turn⟩:=hW s2.heap.objs.size I2.fresh;dsimp only at hns hsb ⊢
 generalize hD:s2.heap.push {cls:=.type "list",dict:=none,data:=.seq ([]:List Kq).toArray}=h1' at hns hsb ⊢
 obtain⟨I3,un3⟩:=qi (tk:=s2.toks+([]:List (Str×Kq)).length) Sc I2 f2 (λb hb=>let ⟨o,e,_⟩:=T.obj 0 _ st2 b hb; ⟨o,e⟩) hD hns hsb
 have hC:s2.heap.objs.size<=h1'.objs.size:=by rw [<- hD,Kh]; exact Nat.le_succ _
 have k1:∀ b o,s2.heap.get? b=some o->h1.get? b=some o:=λb o e=>by
  have e1:h1'.get? b=some o:=by rw [<- hD]; exact pp _ e
  exact(hsb.2 b (JC (Jv e1))).trans (pp _ e1)
 have st3:tn 0 h1:=T.keep 0 _ _ st2 λb _ o e=>k1 b o e
 have fr3:∀ b∈fp,(cb H2 s2.heap.objs.size (.lst [])) b=none:=λb hb=>by
  obtain⟨o,e,_⟩:=T.obj 0 _ st2 b hb;rw [aM (JC (Jv e))];exact(f2 b hb).1
 have loop:∀ s3:Ko,s3={s2 with heap:=h1,toks:=s2.toks+([]:List (Str×Kq)).length}->
   codeAny (model X.prog X.w) X.A (.compLoop (.ListComp elt [⟨tg,iter,[c],0⟩] scope pos) 0 (.ref it) (.ref s2.heap.objs.size) (compEnvC scope cl h1'.objs.size X.env))
    (compPost (model X.prog X.w) X.A X.xe none (EP X KD σ Q) (.ref s2.heap.objs.size) h1'.objs.size) s3:=by
  rintro s3 rfl;refine sV (λn s'=>∃ i σ' H',aI (kl X scope cl N {s2 with heap:=h1'} (cb H2 s2.heap.objs.size (.lst [])) fp h1'.objs.size) [] σ' H' s'/\tn i s'.heap/\(∀ b∈fp,H' b=none)/\W i n σ' H') ?_ m0 ⟨0,_,_,I3,st3,fr3,w0⟩
  rintro n s3 ⟨i,σ3,H3,I3,st3,fr3,w3⟩;rcases turn i n σ3 H3 w3 with ⟨stop,qn⟩ | ⟨go,Nn,hN,step⟩
  ·refine cm (T.done (kl X scope cl N {s2 with heap:=h1'} (cb H2 s2.heap.objs.size (.lst [])) fp h1'.objs.size) rfl rfl rfl hc i [] s3 σ3 H3 kg I3 (gF I3 fr3) st3 stop) λr s4 z9=>?_
   obtain⟨hr,I4⟩:=z9;subst hr;obtain⟨m,hm,_⟩:=I4.loc;exact⟨m,hm,λh' sb=>⟨.ref _,H3,pC Sc I2 f2 un3 I4 hC sb,rfl,qn⟩⟩
  ·refine cm (T.item (kl X scope cl N {s2 with heap:=h1'} (cb H2 s2.heap.objs.size (.lst [])) fp h1'.objs.size) rfl rfl rfl hc i [] s3 σ3 H3 kg I3 (gF I3 fr3) st3 go) λr s4 z9=>?_
   obtain⟨u,hr,h4⟩:=z9;subst hr;refine cm h4 λ_ s5 z9=>?_
   obtain⟨x,H5,I5,r5,y5,st5,fr5⟩:=z9;have I5':=I5.pinned (gF I5 fr5) (T.obj _ _ st5);refine cm (hg _ _ _ _ _ s5 σ3 H5 x u _ I5' r5 (step x H5 y5)) λ_ s6 z9=>?_
   obtain⟨σ6,H6,I6,q6⟩:=z9;have again:∀ {s8:Ko} {H8:Hp},aI (kl X scope cl N {s2 with heap:=h1'} (cb H2 s2.heap.objs.size (.lst [])) fp h1'.objs.size) ([]++pk fp s5.heap) σ6 H8 s8->Nn σ6 H8->
     ∃ m,m < n/\∃ i σ' H',aI (kl X scope cl N {s2 with heap:=h1'} (cb H2 s2.heap.objs.size (.lst [])) fp h1'.objs.size) [] σ' H' s8/\tn i s8.heap/\(∀ b∈fp,H' b=none)/\W i m σ' H':=λ{s8 H8} I8 n8=>by
    obtain⟨m',hm,w8⟩:=hN σ6 H8 n8;refine⟨m',hm,i+1,σ6,H8,I8.unpinned,T.keep _ _ _ st5 λb hb o e=>(I8.pin (b,o) (JH _ (JH _ (dX hb e)))).1,λb hb=>?_,w8⟩
    obtain⟨o,e,d⟩:=T.obj _ _ st5 b hb;exact(I8.pin (b,o) (JH _ (JH _ (dX hb e)))).2.1
   refine cm (hcnd _ _ _ _ _ s6 σ6 H6 _ I6 q6) λb s6' z9=>?_
   obtain⟨H6',I6',q6'⟩:=z9;cases b with
   | true=>
    rw [if_pos rfl] at q6' ⊢;refine cm (he _ _ _ _ _ s6' σ6 H6' _ I6' q6') λuv s7 z9=>?_
    obtain⟨v,H7,I7,r7,ys,hy,hl,q7⟩:=z9;refine cm (lu (X:=kl X scope cl N {s2 with heap:=h1'} (cb H2 s2.heap.objs.size (.lst [])) fp h1'.objs.size) _ s7 σ6 H7 (.ref s2.heap.objs.size) [v] (.ref s2.heap.objs.size) [uv] (λ_ H8=>Nn σ6 H8) I7 rfl (.cons r7 .nil) ⟨_,ys,v,rfl,rfl,hy,hl,q7⟩) λ_ s8 z9=>?_
    obtain⟨_,H8,I8,_,n8⟩:=z9;exact again I8 n8
   | false=>
    rw [if_neg Jz] at q6' ⊢;exact again I6' q6'
 exact codeAny_compStart_list (loop _ rfl) (T.self _ 0 _ _ _ st3 (loop _ rfl))
end
end L2
namespace DL
open PySem PySem.Spec PyProof.Rows L2
abbrev Fg:=PySem.W.Frag
inductive Ty where
 | non | bool | int | str | tup | lst | dic | verr
def Ty.name:Ty->KB
 | .non=>"NoneType" | .bool=>"bool" | .int=>"int" | .str=>"str" | .tup=>"tuple" | .lst=>"list" | .dic=>"dict" | .verr=>"ValueError"
inductive D where
 | non | bl (b:KA) | int (i:Int) | str (x:Str) | tup (ds:List D) | rl (ds:List D) | ref (a:Kr) | ty (n:Ty)
def Fx (K:Fg) (H:Hp) (a:Kr) (xs:List V):Prop:=
 (∃ o,H a=some (.frz o (.lst xs)))\/∃ (o:KC) (its:Kz Kq) (n:Nat),K.lookup a=some o/\o.cls=.type "list"/\o.dict=none/\o.data=.seq its n/\its.size<=sizeLine/\bu xs its.toList
theorem Fx.sq {K:Fg} {H:Hp} {a:Kr} {xs:List V} (h:Fx K H a xs):jE K H a xs:=by
 rcases h with h | h
 ·exact .inl (.inr h)
 ·exact .inr h
mutual
def cn (K:Fg) (H:Hp):D->V->Prop
 | .non,v=>v=.non
 | .bl b,v=>v=.bl b
 | .int i,v=>v=.int i
 | .str x,v=>v=.str x
 | .tup ds,v=>∃ a xs,v=.ref a/\ka K H a xs/\IsDs K H ds xs
 | .rl ds,v=>∃ a xs,v=.ref a/\Fx K H a xs/\IsDs K H ds xs
 | .ref a,v=>v=.ref a
 | .ty n,v=>v=.ty n.name
def IsDs (K:Fg) (H:Hp):List D->List V->Prop
 | [],vs=>vs=[]
 | d::ds,vs=>∃ v r,vs=v::r/\cn K H d v/\IsDs K H ds r
end
def Ib:HO->Prop
 | .tup _=>True
 | .frz _ _=>True
 | _=>False
def Kp (H H':Hp):Prop:=∀ a o,H a=some o->Ib o->H' a=some o
theorem Kp.refl (H:Hp):Kp H H:=λ_ _ h _=>h
theorem Kp.trans {H H1 H2:Hp} (a:Kp H H1) (b:Kp H1 H2):Kp H H2:=λc o h i=>b c o (a c o h i) i
theorem Kp.tup {K:Fg} {H H':Hp} {a:Kr} {xs:List V} (k:Kp H H') (h:ka K H a xs):ka K H' a xs:=by
 rcases h with (h | ⟨o,h⟩) | h
 ·exact .inl (.inl (k _ _ h trivial))
 ·exact .inl (.inr ⟨o,k _ _ h trivial⟩)
 ·exact .inr h
theorem Kp.fro {K:Fg} {H H':Hp} {a:Kr} {xs:List V} (k:Kp H H') (h:Fx K H a xs):Fx K H' a xs:=by
 rcases h with ⟨o,h⟩ | h
 ·exact .inl ⟨o,k _ _ h trivial⟩
 ·exact .inr h
theorem Kp.new {H:Hp} {p:Kr} {o:HO} (h:H p=none):Kp H (cb H p o):=λb u e _=>by rw [aM (bt e h)]; exact e
theorem Kp.mut {H:Hp} {p:Kr} {o u:HO} (h:H p=some u) (n:¬ Ib u):Kp H (cb H p o):=λb z e i=>by
 rw [aM (λq=>by subst q; rw [h] at e; cases e; exact n i)]; exact e
mutual
theorem cn.kp {K:Fg} {H H':Hp} (k:Kp H H'):∀ {d:D} {v:V},cn K H d v->cn K H' d v
 | .non,_,h=>by unfold cn at *; exact h
 | .bl _,_,h=>by unfold cn at *; exact h
 | .int _,_,h=>by unfold cn at *; exact h
 | .str _,_,h=>by unfold cn at *; exact h
 | .ref _,_,h=>by unfold cn at *; exact h
 | .ty _,_,h=>by unfold cn at *; exact h
 | .tup ds,_,h=>by
  unfold cn at*
  obtain⟨a,xs,e,t,r⟩:=h;exact⟨a,xs,e,k.tup t,IsDs.kp k r⟩
 | .rl ds,_,h=>by
  unfold cn at*
  obtain⟨a,xs,e,t,r⟩:=h;exact⟨a,xs,e,k.fro t,IsDs.kp k r⟩
theorem IsDs.kp {K:Fg} {H H':Hp} (k:Kp H H'):∀ {ds:List D} {vs:List V},IsDs K H ds vs->IsDs K H' ds vs
 | [],_,h=>by unfold IsDs at *; exact h
 | d::ds,_,h=>by
  unfold IsDs at*
  obtain⟨v,r,e,h1,h2⟩:=h;exact⟨v,r,e,cn.kp k h1,IsDs.kp k h2⟩
end
section
variable {K:Fg} {H:Hp}
theorem isInt {i:Int} {v:V}:cn K H (.int i) v↔v=.int i:=by unfold cn; exact Iff.rfl
theorem ce {b:KA} {v:V}:cn K H (.bl b) v↔v=.bl b:=by unfold cn; exact Iff.rfl
theorem iC {b:Str} {v:V}:cn K H (.str b) v↔v=.str b:=by unfold cn; exact Iff.rfl
theorem dG {v:V}:cn K H .non v↔v=.non:=by unfold cn; exact Iff.rfl
theorem df {a:Kr} {v:V}:cn K H (.ref a) v↔v=.ref a:=by unfold cn; exact Iff.rfl
theorem CB {a:Ty} {v:V}:cn K H (.ty a) v↔v=.ty a.name:=by unfold cn; exact Iff.rfl
theorem cr {ds:List D} {v:V}:cn K H (.tup ds) v↔∃ a xs,v=.ref a/\ka K H a xs/\IsDs K H ds xs:=by unfold cn; exact Iff.rfl
theorem uB {ds:List D} {v:V}:cn K H (.rl ds) v↔∃ a xs,v=.ref a/\Fx K H a xs/\IsDs K H ds xs:=by unfold cn; exact Iff.rfl
theorem iJ {vs:List V}:IsDs K H [] vs↔vs=[]:=by unfold IsDs; exact Iff.rfl
theorem cR {d:D} {ds:List D} {vs:List V}:IsDs K H (d::ds) vs↔∃ v r,vs=v::r/\cn K H d v/\IsDs K H ds r:=by
 constructor
 ·intro h; unfold IsDs at h; exact h
 ·intro h; unfold IsDs; exact h
theorem IsDs.nil:IsDs K H [] []:=iJ.mpr rfl
theorem IsDs.cons {d:D} {ds:List D} {v:V} {vs:List V} (h1:cn K H d v) (h2:IsDs K H ds vs):IsDs K H (d::ds) (v::vs):=cR.mpr ⟨v,vs,rfl,h1,h2⟩
theorem IsDs.length:∀ {ds:List D} {vs:List V},IsDs K H ds vs->ds.length=vs.length
 | [],_,h=>by rw [iJ.mp h]; rfl
 | d::ds,_,h=>by
  obtain⟨v,r,rfl,_,h2⟩:=cR.mp h;rw [JJ,JJ,IsDs.length h2]
theorem IsDs.get:∀ {ds:List D} {vs:List V} {i:Nat} {d:D},IsDs K H ds vs->ds[i]?=some d->∃ v,vs[i]?=some v/\cn K H d v
 | [],_,_,_,_,e=>by simp at e
 | c::ds,_,0,d,h,e=>by
  obtain⟨v,r,rfl,h1,h2⟩:=cR.mp h;simp at e;subst e;exact⟨v,rfl,h1⟩
 | c::ds,_,i+1,d,h,e=>by
  obtain⟨v,r,rfl,h1,h2⟩:=cR.mp h;obtain⟨u,q1,q2⟩:=IsDs.get (i:=i) (d:=d) h2 (by simpa using e)
  exact⟨u,by simpa using q1,q2⟩
theorem IsDs.set:∀ {ds:List D} {vs:List V} {d:D} {v:V} (i:Nat),IsDs K H ds vs->cn K H d v->IsDs K H (ds.set i d) (vs.set i v)
 | [],_,_,_,_,h,_=>by rw [iJ.mp h]; exact IsDs.nil
 | c::ds,_,d,v,0,h,hd=>by
  obtain⟨u,r,rfl,h1,h2⟩:=cR.mp h;exact IsDs.cons hd h2
 | c::ds,_,d,v,i+1,h,hd=>by
  obtain⟨u,r,rfl,h1,h2⟩:=cR.mp h;exact IsDs.cons h1 (IsDs.set i h2 hd)
theorem IsDs.append:∀ {ds es:List D} {vs us:List V},IsDs K H ds vs->IsDs K H es us->IsDs K H (ds++es) (vs++us)
 | [],_,_,_,h,h'=>by rw [iJ.mp h]; exact h'
 | c::ds,_,_,_,h,h'=>by
  obtain⟨u,r,rfl,h1,h2⟩:=cR.mp h;exact IsDs.cons h1 (IsDs.append h2 h')
theorem IsDs.drop:∀ {ds:List D} {vs:List V} (n:Nat),IsDs K H ds vs->IsDs K H (ds.drop n) (vs.drop n)
 | _,_,0,h=>h
 | [],_,n+1,h=>by rw [iJ.mp h]; exact IsDs.nil
 | c::ds,_,n+1,h=>by
  obtain⟨u,r,rfl,h1,h2⟩:=cR.mp h;exact IsDs.drop n h2
theorem IsDs.take:∀ {ds:List D} {vs:List V} (n:Nat),IsDs K H ds vs->IsDs K H (ds.take n) (vs.take n)
 | _,_,0,h=>by simpa using IsDs.nil
 | [],_,n+1,h=>by rw [iJ.mp h]; exact IsDs.nil
 | c::ds,_,n+1,h=>by
  obtain⟨u,r,rfl,h1,h2⟩:=cR.mp h;exact IsDs.cons h1 (IsDs.take n h2)
end
def F7 (ks:List Int):Int:=reduceHash (Builtin.Tuple.tupleHashOf (ks.map hashInt))
def eT (x:List Int×Kr×Kq):DictEntry:=⟨F7 x.1,.ref x.2.1,x.2.2⟩
def Jb (es:Kz DictEntry) (ep:Nat):KC:={cls:=.type "dict",dict:=none,data:=.dict es ep,slots:=#[]}
def IX (a:Kr) (xs:List (List Int×Kr×Kq)) (ep:Nat):Kx->Prop:=λh=>(a == sysModules)=false/\xs.length<=sizeLine/\(xs.map (·.1)).Nodup/\h.get? a=some (Jb (xs.map eT).toArray ep)
inductive Hd where
 | dT (kvs:List (List Int×D)) (ep:Nat)
 | dK (kvs:List (sW×D))
abbrev Hf (K:Fg) (H:Hp):List (List Int×D)->List (List Int×Kr×Kq)->Prop:=Paired λp q=>p.1=q.1/\ka K H q.2.1 (p.1.map V.int)/\∃ v,b7 v q.2.2/\cn K H p.2 v
def tL (K:Fg) (H:Hp) (a:Kr):Hd->Prop
 | .dT kvs ep=>∃ xs,H a=some (.ext (IX a xs ep))/\Hf K H kvs xs
 | .dK kvs=>∃ ys,H a=some (.dK ys)/\Paired (λ(p:sW×D) (q:sW×V)=>p.1=q.1/\cn K H p.2 q.2) kvs ys
theorem Hf.kp {K:Fg} {H H':Hp} {kvs:List (List Int×D)} {xs:List (List Int×Kr×Kq)} (r:Hf K H kvs xs) (k:Kp H H'):Hf K H' kvs xs:=
 Paired.mapP r λ_ _ z9=>by obtain⟨a,b,v,c,d⟩:=z9; exact⟨a,k.tup b,v,c,d.kp k⟩
theorem tL.there {K:Fg} {H:Hp} {a:Kr} {g:Hd} (h:tL K H a g):∃ o,H a=some o/\¬ Ib o:=by
 cases g with
 | dT kvs ep=>obtain⟨xs,e,_⟩:=h; exact⟨_,e,λz=>z⟩
 | dK kvs=>obtain⟨xs,e,_⟩:=h; exact⟨_,e,λz=>z⟩
theorem tL.step {K:Fg} {H H':Hp} {a:Kr} {g:Hd} (h:tL K H a g) (k:Kp H H') (s:H' a=H a):tL K H' a g:=by
 cases g with
 | dT kvs ep=>obtain⟨xs,e,r⟩:=h; exact⟨xs,s.trans e,r.kp k⟩
 | dK kvs=>obtain⟨xs,e,r⟩:=h; exact⟨xs,s.trans e,Paired.mapP r λ_ _ z=>⟨z.1,z.2.kp k⟩⟩
inductive DO where
 | lst (ds:List D)
 | dic
 | exc (C:Kr)
 | fn (φ:Hp->Prop)
 | tbl (ψ:Hp->Kz Kq->Prop)
 | gen (g:Hd)
abbrev DH:=Kr->Ks DO
def put (S:DH) (a:Kr) (o:DO):DH:=λb=>if b=a then some o else S b
theorem am {S:DH} {a:Kr} {o:DO}:put S a o a=some o:=by unfold put; rw [if_pos rfl]
theorem bV {S:DH} {a b:Kr} {o:DO} (h:b≠a):put S a o b=S b:=by unfold put; rw [if_neg h]
theorem w6 {S:DH} {a:Kr} {o u:DO}:put (put S a o) a u=put S a u:=by funext b; unfold put; split <;> rfl
theorem AR {S:DH} {a p:Kr} {o:DO} (h:S a=some o) (h':S p=none):a≠p:=by intro e; subst e; rw [h] at h'; cases h'
def Ic (K:Fg) (H:Hp) (a:Kr):DO->Prop
 | .lst ds=>∃ xs,H a=some (.lst xs)/\IsDs K H ds xs
 | .dic=>∃ kvs,H a=some (.dK kvs)
 | .exc C=>∃ o u,H a=some (.frz o u)/\o.cls=.ref C
 | .fn φ=>(∃ o u,H a=some (.frz o u))/\∀ H',Kp H H'->φ H'
 | .tbl ψ=>∃ ps,H a=some (.tbl ps)/\∀ H',Kp H H'->ψ H' ps
 | .gen g=>tL K H a g
def Hs (K:Fg) (H:Hp) (S:DH):Prop:=∀ a o,S a=some o->Ic K H a o
section
variable {K:Fg} {H H':Hp} {S:DH} {p:Kr}
theorem Hs.lst {ds:List D} (h:Hs K H S) (e:S p=some (.lst ds)):∃ xs,H p=some (.lst xs)/\IsDs K H ds xs:=h p _ e
theorem Hs.free (h:Hs K H S) (e:H p=none):S p=none:=by
 cases q:S p with
 | none=>rfl
 | some o=>
  have z:=h p o q;cases o with
  | lst ds=>obtain⟨xs,z,_⟩:=z; rw [e] at z; cases z
  | dic=>obtain⟨xs,z⟩:=z; rw [e] at z; cases z
  | exc C=>obtain⟨_,_,z,_⟩:=z; rw [e] at z; cases z
  | fn φ=>obtain⟨⟨_,_,z⟩,_⟩:=z; rw [e] at z; cases z
  | tbl ψ=>obtain⟨_,z,_⟩:=z; rw [e] at z; cases z
  | gen g=>obtain⟨_,z,_⟩:=tL.there z; rw [e] at z; cases z
theorem Hs.step (h:Hs K H S) (k:Kp H H') (s:∀ a o,S a=some o->H' a=H a):Hs K H' S:=λa o e=>by
 have z:=h a o e;cases o with
 | lst ds=>obtain⟨xs,z,r⟩:=z; exact⟨xs,by rw [s a _ e]; exact z,r.kp k⟩
 | dic=>obtain⟨xs,z⟩:=z; exact⟨xs,by rw [s a _ e]; exact z⟩
 | exc C=>obtain⟨x,y,z,r⟩:=z; exact⟨x,y,by rw [s a _ e]; exact z,r⟩
 | fn φ=>obtain⟨⟨x,y,z⟩,r⟩:=z; exact⟨⟨x,y,by rw [s a _ e]; exact z⟩,λH2 k2=>r H2 (k.trans k2)⟩
 | tbl ψ=>obtain⟨ps,z,r⟩:=z; exact⟨ps,by rw [s a _ e]; exact z,λH2 k2=>r H2 (k.trans k2)⟩
 | gen g=>exact tL.step z k (s a _ e)
theorem Hs.new {o:HO} (h:Hs K H S) (e:H p=none):Hs K (cb H p o) S:=h.step (Kp.new e) λa u q=>by
 rw [aM]; intro z; subst z; rw [h.free e] at q; cases q
theorem Hs.newL {xs:List V} {ds:List D} (h:Hs K H S) (e:H p=none) (r:IsDs K H ds xs):Hs K (cb H p (.lst xs)) (put S p (.lst ds)):=λa o q=>by
 by_cases z:a=p
 ·subst z;rw [am] at q;cases q;exact⟨xs,cA,r.kp (Kp.new e)⟩
 ·rw [bV z] at q;exact(h.new e) a o q
theorem Hs.setL {xs ys:List V} {ds:List D} (h:Hs K H S) (e:H p=some (.lst xs)) (r:IsDs K H ds ys):Hs K (cb H p (.lst ys)) (put S p (.lst ds)):=λa o q=>by
 have k:Kp H (cb H p (.lst ys)):=Kp.mut e (λz=>z)
 by_cases z:a=p
 ·subst z;rw [am] at q;cases q;exact⟨ys,cA,r.kp k⟩
 ·rw [bV z] at q;have w:=h a o q;cases o with
  | lst ds=>obtain⟨xs,w,r⟩:=w; exact⟨xs,by rw [aM z]; exact w,r.kp k⟩
  | dic=>obtain⟨xs,w⟩:=w; exact⟨xs,by rw [aM z]; exact w⟩
  | exc C=>obtain⟨x,y,w,r⟩:=w; exact⟨x,y,by rw [aM z]; exact w,r⟩
  | fn φ=>obtain⟨⟨x,y,w⟩,r⟩:=w; exact⟨⟨x,y,by rw [aM z]; exact w⟩,λH2 k2=>r H2 (k.trans k2)⟩
  | tbl ψ=>obtain⟨ps,w,r⟩:=w; exact⟨ps,by rw [aM z]; exact w,λH2 k2=>r H2 (k.trans k2)⟩
  | gen g=>exact tL.step w k (aM z)
end
abbrev Lo:=List (Ks D)
def Lc (K:Fg) (H:Hp):Lo->L2.St->Prop
 | [],σ=>σ=[]
 | none::L,σ=>∃ x r,σ=x::r/\Lc K H L r
 | some d::L,σ=>∃ v r,σ=some v::r/\cn K H d v/\Lc K H L r
section
variable {K:Fg} {H H':Hp}
theorem Lc.kp (k:Kp H H'):∀ {L:Lo} {σ:L2.St},Lc K H L σ->Lc K H' L σ
 | [],_,h=>h
 | none::L,_,h=>by
  obtain⟨x,r,e,h⟩:=h;exact⟨x,r,e,Lc.kp k h⟩
 | some d::L,_,h=>by
  obtain⟨v,r,e,h1,h⟩:=h;exact⟨v,r,e,h1.kp k,Lc.kp k h⟩
theorem Lc.get:∀ {L:Lo} {σ:L2.St} {i:Nat} {d:D},Lc K H L σ->L[i]?=some (some d)->∃ v,σ[i]?=some (some v)/\cn K H d v
 | [],_,_,_,_,e=>by simp at e
 | none::L,_,0,_,_,e=>by simp at e
 | some c::L,_,0,d,h,e=>by
  obtain⟨v,r,rfl,h1,h⟩:=h;simp at e;subst e;exact⟨v,rfl,h1⟩
 | none::L,_,i+1,d,h,e=>by
  obtain⟨x,r,rfl,h⟩:=h;obtain⟨u,q1,q2⟩:=Lc.get (i:=i) (d:=d) h (by simpa using e)
  exact⟨u,by simpa using q1,q2⟩
 | some c::L,_,i+1,d,h,e=>by
  obtain⟨v,r,rfl,_,h⟩:=h;obtain⟨u,q1,q2⟩:=Lc.get (i:=i) (d:=d) h (by simpa using e)
  exact⟨u,by simpa using q1,q2⟩
theorem Lc.set {d:D} {v:V} (hd:cn K H d v):∀ {L:Lo} {σ:L2.St} (i:Nat),Lc K H L σ->Lc K H (L.set i (some d)) (σ.set i (some v))
 | [],_,_,h=>by
  have e:_=[]:=h;subst e;exact rfl
 | none::L,_,0,h=>by
  obtain⟨x,r,rfl,h⟩:=h;exact⟨v,r,rfl,hd,h⟩
 | some c::L,_,0,h=>by
  obtain⟨x,r,rfl,_,h⟩:=h;exact⟨v,r,rfl,hd,h⟩
 | none::L,_,i+1,h=>by
  obtain⟨x,r,rfl,h⟩:=h;exact⟨x,r.set i (some v),rfl,Lc.set hd i h⟩
 | some c::L,_,i+1,h=>by
  obtain⟨x,r,rfl,h1,h⟩:=h;exact⟨x,r.set i (some v),rfl,h1,Lc.set hd i h⟩
theorem Lc.none:∀ (n:Nat),Lc K H (List.replicate n .none) (List.replicate n .none)
 | 0=>rfl
 | n+1=>⟨_,_,rfl,Lc.none n⟩
theorem Lc.start:∀ {ds:List D} {vs:List V} (n:Nat),IsDs K H ds vs->Lc K H (ds.map some++List.replicate n .none) (vs.map some++List.replicate n .none)
 | [],_,n,h=>by rw [iJ.mp h]; exact Lc.none n
 | d::ds,_,n,h=>by
  obtain⟨v,r,rfl,h1,h2⟩:=cR.mp h;exact⟨v,_,rfl,h1,Lc.start n h2⟩
end
abbrev DK:=D->DH->Prop
abbrev DE:=Lo->DH->DK->Prop
abbrev DT:=Lo->DH->(KA->DH->Prop)->Prop
abbrev DA:=Lo->DH->(List D->DH->Prop)->Prop
structure lF where
 nx:Lo->DH->Prop
 rt:DK
 bk:Lo->DH->Prop:=λ_ _=>False
 ct:Lo->DH->Prop:=λ_ _=>False
abbrev DS:=lF->Lo->DH->Prop
def up (K:Fg) (g:DE):TE:=fun σ H Q=>∃ L S k,Lc K H L σ/\Hs K H S/\g L S k/\∀ d S' v H',k d S'->Kp H H'->Hs K H' S'->cn K H' d v->Q v H'
def yf (K:Fg) (g:DT):TT:=fun σ H Q=>∃ L S k,Lc K H L σ/\Hs K H S/\g L S k/\∀ b S' H',k b S'->Kp H H'->Hs K H' S'->Q b H'
def tN (K:Fg) (g:DA):TA:=fun σ H Q=>∃ L S k,Lc K H L σ/\Hs K H S/\g L S k/\∀ ds S' vs H',k ds S'->Kp H H'->Hs K H' S'->IsDs K H' ds vs->Q vs H'
structure tM (K:Fg) (H:Hp) (M:lF) (N:mK):Prop where
 nx:∀ L S σ H',M.nx L S->Kp H H'->Lc K H' L σ->Hs K H' S->N.nx σ H'
 rt:∀ d S v H',M.rt d S->Kp H H'->Hs K H' S->cn K H' d v->N.rt v H'
 bk:∀ L S σ H',M.bk L S->Kp H H'->Lc K H' L σ->Hs K H' S->N.bk σ H'
 ct:∀ L S σ H',M.ct L S->Kp H H'->Lc K H' L σ->Hs K H' S->N.ct σ H'
theorem tM.kp {K:Fg} {H H1:Hp} {M:lF} {N:mK} (r:tM K H M N) (k:Kp H H1):tM K H1 M N:=
 ⟨λL S σ H' h k'=>r.nx L S σ H' h (k.trans k'),λd S v H' h k'=>r.rt d S v H' h (k.trans k'),λL S σ H' h k'=>r.bk L S σ H' h (k.trans k'),λL S σ H' h k'=>r.ct L S σ H' h (k.trans k')⟩
def zo (K:Fg) (g:DS):TS:=λN σ H=>∃ L S M,Lc K H L σ/\Hs K H S/\g M L S/\tM K H M N
theorem PE.imp {X:Cx} {e:Kt} {t t':TE} (h:PE X e t) (i:∀ σ H Q,t' σ H Q->t σ H Q):PE X e t':=λKD s σ H Q I q=>h KD s σ H Q I (i σ H Q q)
theorem PT.imp {X:Cx} {e:Kt} {t t':TT} (h:PT X e t) (i:∀ σ H Q,t' σ H Q->t σ H Q):PT X e t':=λKD s σ H Q I q=>h KD s σ H Q I (i σ H Q q)
theorem PW.imp {X:Cx} {e:Kt} {t t':TT} (h:PW X e t) (i:∀ σ H Q,t' σ H Q->t σ H Q):PW X e t':=λw KD s σ H Q I q=>h w KD s σ H Q I (i σ H Q q)
theorem PA.imp {X:Cx} {e:List Kt} {t t':TA} (h:PA X e t) (i:∀ σ H Q,t' σ H Q->t σ H Q):PA X e t':=λpos KD s σ H Q I q=>h pos KD s σ H Q I (i σ H Q q)
theorem PS.imp {X:Cx} {e:Ky} {t t':TS} (h:PS X e t) (i:∀ N σ H,t' N σ H->t N σ H):PS X e t':=λKD s σ H Q I q=>h KD s σ H Q I (i Q σ H q)
theorem oZ.imp {X:Cx} {e:List Ky} {t t':TS} (h:oZ X e t) (i:∀ N σ H,t' N σ H->t N σ H):oZ X e t':=λKD s σ H Q I q=>h KD s σ H Q I (i Q σ H q)
theorem up.go {K:Fg} {g:DE} {σ:L2.St} {H:Hp} {Q:VK} {L:Lo} {S:DH} {k:DK} (hL:Lc K H L σ) (hS:Hs K H S) (h:g L S k)
  (n:∀ d S' v H',k d S'->Kp H H'->Lc K H' L σ->Hs K H' S'->cn K H' d v->Q v H'):up K g σ H Q:=
 ⟨L,S,k,hL,hS,h,λd S' v H' a b c e=>n d S' v H' a b (hL.kp b) c e⟩
theorem yf.go {K:Fg} {g:DT} {σ:L2.St} {H:Hp} {Q:KA->Hp->Prop} {L:Lo} {S:DH} {k:KA->DH->Prop} (hL:Lc K H L σ) (hS:Hs K H S) (h:g L S k)
  (n:∀ b S' H',k b S'->Kp H H'->Lc K H' L σ->Hs K H' S'->Q b H'):yf K g σ H Q:=
 ⟨L,S,k,hL,hS,h,λb S' H' a c e=>n b S' H' a c (hL.kp c) e⟩
theorem tN.go {K:Fg} {g:DA} {σ:L2.St} {H:Hp} {Q:List V->Hp->Prop} {L:Lo} {S:DH} {k:List D->DH->Prop} (hL:Lc K H L σ) (hS:Hs K H S) (h:g L S k)
  (n:∀ ds S' vs H',k ds S'->Kp H H'->Lc K H' L σ->Hs K H' S'->IsDs K H' ds vs->Q vs H'):tN K g σ H Q:=
 ⟨L,S,k,hL,hS,h,λd S' v H' a b c e=>n d S' v H' a b (hL.kp b) c e⟩
section
variable {X:Cx} {a b c:Kt} {ga gb gc:DE} {pos:Pos}
def Ar (i:Nat):DE:=λL S k=>match L[i]? with
 | some (some d)=>k d S
 | _=>False
def dC (d:D):DE:=λ_ S k=>k d S
theorem Dt {e:Kt} {d:D} {v:V} (h:PE X e (tC v)) (hd:∀ H,cn X.K H d v):PE X e (up X.K (dC d)):=
 PE.imp h fun σ H Q z9=>by obtain⟨L,S,k,hL,hS,h,n⟩:=z9; exact n d S v H h (Kp.refl H) hS (hd H)
def C_:Kt->KA
 | .Starred _ _=>true
 | _=>false
theorem dh {a:Kt} {es:List Kt} {env:Env} (h:C_ a=false):starEach (a::es) env=(false,eval a env)::starEach es env:=by
 cases a <;> first | rfl | cases h
theorem gk {pos:Pos} {env:Env}:∀ {es:List Kt},(es.all λe=>!C_ e)=true->(backTo pos (starEach es env)).any (·.1)=false
 | [],_=>rfl
 | e::es,h=>by
  rw [List.all_cons,J8] at h;rw [dh (by simpa using h.1)]
  exact gk h.2
def Hz:DA:=λ_ S k=>k [] S
def C0 (g:DE) (t:DA):DA:=λL S k=>g L S λd S1=>t L S1 λds S2=>k (d::ds) S2
def Ia (t:DA):DE:=λL S k=>t L S λds S1=>ds.length<=sizeLine/\k (.tup ds) S1
def HH (t:DA):DE:=λL S k=>t L S λds S1=>ds.length<=sizeLine/\∀ p,S1 p=none->k (.ref p) (put S1 p (.lst ds))
abbrev D2:=D->D->DH->DK->Prop
def jy (K:Fg) (r:D2):R2:=λx y H Q=>∃ d e S k,cn K H d x/\cn K H e y/\Hs K H S/\r d e S k/\∀ d' S' v H',k d' S'->Kp H H'->Hs K H' S'->cn K H' d' v->Q v H'
def EB (r:D2) (ga gb:DE):DE:=λL S k=>ga L S λx S1=>gb L S1 λy S2=>r x y S2 k
theorem tG {K:Fg} {r:D2}:∀ σ H Q,up K (EB r ga gb) σ H Q->F4 (jy K r) (up K ga) (up K gb) σ H Q:=fun σ H Q ⟨L,S,k,hL,hS,h,n⟩=>
 up.go hL hS h λd S1 v H1 h1 k1 hL1 hS1 i1=>up.go hL1 hS1 h1 λe S2 u H2 h2 k2 hL2 hS2 i2=>
  ⟨d,e,S2,k,i1.kp k2,i2,hS2,h2,λd' S' v H' q k3 z1 z2=>n d' S' v H' q (k1.trans (k2.trans k3)) z1 z2⟩
abbrev D1:=D->DH->DK->Prop
def IB (K:Fg) (r:D1):V->Hp->VK->Prop:=λx H Q=>∃ d S k,cn K H d x/\Hs K H S/\r d S k/\∀ d' S' v H',k d' S'->Kp H H'->Hs K H' S'->cn K H' d' v->Q v H'
def IG (r:D1) (ga:DE):DE:=λL S k=>ga L S λx S1=>r x S1 k
def xa (g:DE):DT:=λL S k=>g L S λd S1=>match d with
 | .bl c=>k c S1
 | _=>False
theorem tU {K:Fg} {g:DE}:∀ σ H Q,yf K (xa g) σ H Q->yU (up K g) σ H Q:=fun σ H Q ⟨L,S,k,hL,hS,h,n⟩=>
 up.go hL hS h λd S1 v H1 h1 k1 hL1 hS1 i1=>by
  cases d with
  | bl c=>
   have e:=ce.mp i1;subst e;exact⟨c,rfl,n c S1 H1 h1 k1 hS1⟩
  | _=>exact(show False from h1).elim
variable {tA tB':DT} {kh:List Kt}
def Im (t u:DT):DT:=λL S k=>t L S λc S1=>if c=true then k true S1 else u L S1 k
def FG (t:DT):DT:=λL S k=>t L S λc S1=>k (!c) S1
def Gy (ga gb:DE):DE:=λL S k=>ga L S λx S1=>match x with
 | .bl c=>if c=true then gb L S1 k else k (.bl false) S1
 | _=>False
def GM (ga:DE):DE:=λL S k=>ga L S λx S1=>match x with
 | .bl c=>k (.bl (!c)) S1
 | _=>False
def Jc (t:DT) (ga gb:DE):DE:=λL S k=>t L S λc S1=>if c=true then ga L S1 k else gb L S1 k
end
section
variable {X:Cx}
theorem o9 {K:Fg} {H:Hp} {S:DH} {k:DK} {Q:VK} {d:D} {v:V} (n:∀ d' S' v H',k d' S'->Kp H H'->Hs K H' S'->cn K H' d' v->Q v H') (hS:Hs K H S) (h:k d S) (i:cn K H d v):Q v H:=n d S v H h (Kp.refl H) hS i
def Ec (C:Int->Int->Prop) (g:Int->Int->D):D2:=λd e S k=>match d,e with
 | .int i,.int j=>C i j/\k (g i j) S
 | _,_=>False
theorem xT {f:Kq->Kq->Sem Kq} {C:Int->Int->Prop} {g:Int->Int->D} {gV:Int->Int->V} (ho:fW X f (rI C gV)) (hg:∀ i j H,cn X.K H (g i j) (gV i j)):fW X f (jy X.K (Ec C g)):=by
 intro KD s σ H x y v u Q I rx ry h;obtain⟨d,e,S,k,i1,i2,hS,r,n⟩:=h;cases d with
 | int i=>
  cases e with
  | int j=>
   have e1:=isInt.mp i1;have e2:=isInt.mp i2;subst e1;subst e2;exact ho KD s σ H _ _ v u Q I rx ry ⟨i,j,rfl,rfl,r.1,o9 n hS r.2 (hg i j H)⟩
  | _=>exact(show False from r).elim
 | _=>exact(show False from r).elim
def xZ (g:Int->Int->D):D2:=λd e S k=>match d,e with
 | .int i,.int j=>k (g i j) S
 | _,_=>False
theorem tT {f:Kq->Kq->Sem Kq} {g:Int->Int->D} {gV:Int->Int->V} (ho:fW X f (Cv gV)) (hg:∀ i j H,cn X.K H (g i j) (gV i j)):fW X f (jy X.K (xZ g)):=by
 intro KD s σ H x y v u Q I rx ry h;obtain⟨d,e,S,k,i1,i2,hS,r,n⟩:=h;cases d with
 | int i=>
  cases e with
  | int j=>
   have e1:=isInt.mp i1;have e2:=isInt.mp i2;subst e1;subst e2;exact ho KD s σ H _ _ v u Q I rx ry ⟨i,j,rfl,rfl,o9 n hS r (hg i j H)⟩
  | _=>exact(show False from r).elim
 | _=>exact(show False from r).elim
def ww (i j:Int):Prop:=j≠0/\j.natAbs.log2 < 9000
abbrev Hy:D2:=xZ λi j=>.int (i - j)
abbrev H_:D2:=Ec IntMulOk λi j=>.int (i*j)
abbrev HX:D2:=Ec ww λi j=>.int (i.fdiv j)
abbrev HC:D2:=Ec (λ_ j=>j≠0) λi j=>.int (i.fmod j)
abbrev HK:D2:=Ec Ez λi j=>.int (i ^ j.toNat)
abbrev IT:D2:=xZ λi j=>.bl (decide (i < j))
abbrev I9:D2:=xZ λi j=>.bl (decide (i<=j))
abbrev Jj:D2:=xZ λi j=>.bl (decide (j < i))
abbrev Ji:D2:=xZ λi j=>.bl (decide (j<=i))
theorem pq:fW X (binaryOp .Sub) (jy X.K Hy):=tT E6 λ_ _ _=>isInt.mpr rfl
theorem fu:fW X (binaryOp .Mult) (jy X.K H_):=xT (C:=IntMulOk) (gV:=λi j=>.int (i*j)) (F' λ_ _ _ _ _ _ _ hc q=>mul_int q hc) λ_ _ _=>isInt.mpr rfl
theorem xn:fW X (binaryOp .FloorDiv) (jy X.K HX):=xT (C:=ww) (gV:=λi j=>.int (i.fdiv j)) (F' λ_ _ _ _ _ _ _ hc q=>floordiv_int hc.1 q (.inl (PyProof.noPylong_of_log2 hc.2))) λ_ _ _=>isInt.mpr rfl
theorem mW:fW X (binaryOp .Mod) (jy X.K HC):=xT A9 λ_ _ _=>isInt.mpr rfl
theorem Dk:fW X (binaryOp .Pow) (jy X.K HK):=xT Ee λ_ _ _=>isInt.mpr rfl
theorem sS:fW X (compareOp .Lt) (jy X.K IT):=tT GN λ_ _ _=>ce.mpr rfl
theorem E3:fW X (compareOp .LtE) (jy X.K I9):=tT Gs λ_ _ _=>ce.mpr rfl
theorem Ed:fW X (compareOp .Gt) (jy X.K Jj):=tT F6 λ_ _ _=>ce.mpr rfl
theorem GC:fW X (compareOp .GtE) (jy X.K Ji):=tT GG λ_ _ _=>ce.mpr rfl
def Fu:D2:=λd e S k=>match d,e with
 | .int i,.int j=>k (.int (i+j)) S
 | .str x,.str y=>x.length+y.length<=sizeLine/\k (.str (x++y)) S
 | .tup xs,.tup ys=>xs≠[]/\ys≠[]/\xs.length+ys.length<=sizeLine/\k (.tup (xs++ys)) S
 | .ref a,.ref b=>∃ xs ys,S a=some (.lst xs)/\S b=some (.lst ys)/\xs.length+ys.length<=sizeLine/\∀ p,S p=none->k (.ref p) (put S p (.lst (xs++ys)))
 | _,_=>False
theorem q_ {K:Fg} {H:Hp} {ds:List D} {vs:List V} (i:IsDs K H ds vs) (h:ds≠[]):vs≠[]:=by
 intro e;subst e;have:=i.length;exact h (Kn.mp this)
theorem fL:fW X (binaryOp .Add) (jy X.K Fu):=by
 intro KD s σ H x y v u Q I rx ry h;obtain⟨d,e,S,k,i1,i2,hS,r,n⟩:=h;cases d with
 | int i=>
  cases e with
  | int j=>
   have e1:=isInt.mp i1;have e2:=isInt.mp i2;subst e1;subst e2;exact EO KD s σ H _ _ v u Q I rx ry ⟨i,j,rfl,rfl,o9 n hS r (isInt.mpr rfl)⟩
  | _=>exact(show False from r).elim
 | str i=>
  cases e with
  | str j=>
   have e1:=iC.mp i1;have e2:=iC.mp i2;subst e1;subst e2;exact wa KD s σ H _ _ v u Q I rx ry ⟨i,j,rfl,rfl,r.1,o9 n hS r.2 (iC.mpr rfl)⟩
  | _=>exact(show False from r).elim
 | tup xs=>
  cases e with
  | tup ys=>
   obtain⟨a,vs,rfl,t1,j1⟩:=cr.mp i1;obtain⟨b,us,rfl,t2,j2⟩:=cr.mp i2;obtain⟨h1,h2,h3,r⟩:=r;refine BZ KD s σ H _ _ v u Q I rx ry ⟨a,b,vs,us,rfl,rfl,t1,t2,q_ j1 h1,by rw [<- j1.length,<- j2.length]; exact h3,λz=>absurd z (q_ j2 h2),λ_ p hp=>?_⟩
   have kp:Kp H (cb H p (.tup (vs++us))):=Kp.new hp;exact n _ S _ _ r kp (hS.new hp) (cr.mpr ⟨p,_,rfl,ka.of cA,(j1.append j2).kp kp⟩)
  | _=>exact(show False from r).elim
 | ref a=>
  cases e with
  | ref b=>
   have e1:=df.mp i1;have e2:=df.mp i2;subst e1;subst e2;obtain⟨xs,ys,h1,h2,h3,r⟩:=r;obtain⟨vs,q1,j1⟩:=hS.lst h1;obtain⟨us,q2,j2⟩:=hS.lst h2;refine Fb KD s σ H _ _ v u Q I rx ry ⟨a,b,vs,us,rfl,rfl,q1,q2,by rw [<- j1.length,<- j2.length]; exact h3,λp hp=>?_⟩
   exact n _ _ _ _ (r p (hS.free hp)) (Kp.new hp) (hS.newL hp (j1.append j2)) (df.mpr rfl)
  | _=>exact(show False from r).elim
 | _=>exact(show False from r).elim
def FA:D->D->Ks KA
 | .int i,.int j=>some (decide (i=j))
 | .bl i,.bl j=>some (decide (i=j))
 | .str i,.str j=>some (decide (i=j))
 | _,_=>none
def IP:D2:=λd e S k=>match FA d e with
 | some b=>k (.bl b) S
 | none=>False
def IF:D2:=λd e S k=>match FA d e with
 | some b=>k (.bl (!b)) S
 | none=>False
theorem C7 {K:Fg} {H:Hp} {d e:D} {x y:V} {b:KA} (h:FA d e=some b) (i1:cn K H d x) (i2:cn K H e y):D4 x y=true/\decide (x=y)=b:=by
 unfold FA at h
 split at h
 ·have e1:=isInt.mp i1;have e2:=isInt.mp i2;subst e1; subst e2
  cases h;exact⟨rfl,by simp⟩
 ·have e1:=ce.mp i1;have e2:=ce.mp i2;subst e1; subst e2
  cases h;exact⟨rfl,by simp⟩
 ·have e1:=iC.mp i1;have e2:=iC.mp i2;subst e1; subst e2
  cases h;exact⟨rfl,by simp⟩
 ·cases h
theorem ej:fW X (compareOp .Eq) (jy X.K IP):=by
 intro KD s σ H x y v u Q I rx ry h;obtain⟨d,e,S,k,i1,i2,hS,r,n⟩:=h;unfold IP at r;cases q:FA d e with
 | none=>rw [q] at r; exact r.elim
 | some b=>
  rw [q] at r;obtain⟨h1,h2⟩:=C7 q i1 i2;exact Gb KD s σ H _ _ v u Q I rx ry ⟨h1,by rw [h2]; exact o9 n hS r (ce.mpr rfl)⟩
theorem AQ:fW X (compareOp .NotEq) (jy X.K IF):=by
 intro KD s σ H x y v u Q I rx ry h;obtain⟨d,e,S,k,i1,i2,hS,r,n⟩:=h;unfold IF at r;cases q:FA d e with
 | none=>rw [q] at r; exact r.elim
 | some b=>
  rw [q] at r;obtain⟨h1,h2⟩:=C7 q i1 i2;exact FS KD s σ H _ _ v u Q I rx ry ⟨h1,by rw [h2]; exact o9 n hS r (ce.mpr rfl)⟩
def vi:D->KA
 | .non=>true
 | _=>false
def IJ:D2:=λd e S k=>match d,e with
 | .bl c,.bl b=>k (.bl (c == b)) S
 | d,.non=>k (.bl (vi d)) S
 | _,_=>False
def zO:D2:=λd e S k=>match d,e with
 | .bl c,.bl b=>k (.bl (!(c == b))) S
 | d,.non=>k (.bl (!vi d)) S
 | _,_=>False
theorem uH {K:Fg} {H:Hp} {d:D} {x:V} (i:cn K H d x):decide (x=.non)=vi d:=by
 cases d with
 | non=>rw [dG.mp i]; rfl
 | bl b=>rw [ce.mp i]; rfl
 | int b=>rw [isInt.mp i]; rfl
 | str b=>rw [iC.mp i]; rfl
 | ref b=>rw [df.mp i]; rfl
 | ty b=>rw [CB.mp i]; rfl
 | tup b=>obtain⟨a,xs,rfl,_⟩:=cr.mp i; rfl
 | rl b=>obtain⟨a,xs,rfl,_⟩:=uB.mp i; rfl
theorem Ag:fW X (compareOp .Is) (jy X.K IJ):=by
 intro KD s σ H x y v u Q I rx ry h;obtain⟨d,e,S,k,i1,i2,hS,r,n⟩:=h;unfold IJ at r
 split at r
 ·rename_i c b
  have e1:=ce.mp i1;have e2:=ce.mp i2;subst e1; subst e2
  cases rx; cases ry
  exact is_bool ⟨.bl _,H,I,rfl,o9 n hS r (ce.mpr rfl)⟩
 ·have e2:=dG.mp i2;exact Ev KD s σ H _ _ v u Q I rx ry ⟨e2,by rw [uH i1]; exact o9 n hS r (ce.mpr rfl)⟩
 ·exact r.elim
theorem pb:fW X (compareOp .IsNot) (jy X.K zO):=by
 intro KD s σ H x y v u Q I rx ry h;obtain⟨d,e,S,k,i1,i2,hS,r,n⟩:=h;unfold zO at r
 split at r
 ·rename_i c b
  have e1:=ce.mp i1;have e2:=ce.mp i2;subst e1; subst e2
  cases rx; cases ry
  exact isnot_bool ⟨.bl _,H,I,rfl,o9 n hS r (ce.mpr rfl)⟩
 ·have e2:=dG.mp i2;exact Cz KD s σ H _ _ v u Q I rx ry ⟨e2,by rw [uH i1]; exact o9 n hS r (ce.mpr rfl)⟩
 ·exact r.elim
def HS:D1:=λd S k=>match d with
 | .int i=>k (.int (-i)) S
 | _=>False
theorem Do:GB X (unaryOp .USub) (IB X.K HS):=by
 intro KD s σ H x v Q I rx h;obtain⟨d,S,k,i1,hS,r,n⟩:=h;cases d with
 | int i=>
  have e1:=isInt.mp i1;subst e1;exact DZ KD s σ H _ v Q I rx ⟨i,rfl,o9 n hS r (isInt.mpr rfl)⟩
 | _=>exact(show False from r).elim
def tR:D2:=λd e S k=>match d,e with
 | .tup ds,.int i=>(match atI ds i with
  | some c=>k c S
  | none=>False)
 | .rl ds,.int i=>(match atI ds i with
  | some c=>k c S
  | none=>False)
 | .ref a,.int i=>(match S a with
  | some (.lst ds)=>(match atI ds i with
   | some c=>k c S
   | none=>False)
  | _=>False)
 | _,_=>False
theorem IsDs.atI {K:Fg} {H:Hp} {ds:List D} {vs:List V} {i:Int} {d:D} (r:IsDs K H ds vs) (h:atI ds i=some d):∃ v,L2.atI vs i=some v/\cn K H d v:=by
 unfold L2.atI at h ⊢;rw [<- r.length];cases q:yQ ds.length i with
 | none=>rw [q] at h; cases h
 | some j=>
  rw [q] at h;exact r.get h
theorem Gj:yt X (jy X.K tR):=by
 intro value slice KD s σ H x y v u Q I rx ry h hs;obtain⟨d,e,S,k,i1,i2,hS,r,n⟩:=h;cases e with
 | int i=>
  have e2:=isInt.mp i2;subst e2;cases d with
  | tup ds=>
   obtain⟨a,vs,rfl,t,j⟩:=cr.mp i1;cases q:atI ds i with
   | none=>simp only [tR,q] at r
   | some c=>
    simp only [tR,q] at r;obtain⟨w,e1,e2⟩:=j.atI q;exact ER value slice KD s σ H _ _ v u Q I rx ry ⟨a,vs,i,w,rfl,rfl,t,e1,o9 n hS r e2⟩ hs
  | rl ds=>
   obtain⟨a,vs,rfl,t,j⟩:=uB.mp i1;cases q:atI ds i with
   | none=>simp only [tR,q] at r
   | some c=>
    simp only [tR,q] at r;obtain⟨w,e1,e2⟩:=j.atI q;exact wH value slice KD s σ H _ _ v u Q I rx ry ⟨a,vs,i,w,rfl,rfl,t.sq,e1,o9 n hS r e2⟩ hs
  | ref a=>
   have e1:=df.mp i1;subst e1;cases z:S a with
   | none=>simp only [tR,z] at r
   | some o=>
    cases o with
    | dic=>simp only [tR,z] at r
    | exc _=>simp only [tR,z] at r
    | fn _=>simp only [tR,z] at r
    | tbl _=>simp only [tR,z] at r
    | gen _=>simp only [tR,z] at r
    | lst ds=>
     obtain⟨vs,hl,j⟩:=hS.lst z;cases q:atI ds i with
     | none=>simp only [tR,z,q] at r
     | some c=>
      simp only [tR,z,q] at r;obtain⟨w,e1,e2⟩:=j.atI q;exact wH value slice KD s σ H _ _ v u Q I rx ry ⟨a,vs,i,w,rfl,rfl,jE.of hl,e1,o9 n hS r e2⟩ hs
  | _=>exact(show False from r).elim
 | _=>
  cases d <;> exact(show False from r).elim
end
abbrev cH:=List D->DH->DK->Prop
def u9 (K:Fg) (r:cH):List V->Hp->VK->Prop:=λxs H Q=>∃ ds S k,IsDs K H ds xs/\Hs K H S/\r ds S k/\∀ d' S' v H',k d' S'->Kp H H'->Hs K H' S'->cn K H' d' v->Q v H'
def rN (r:cH) (t:DA):DE:=λL S k=>t L S λds S1=>r ds S1 k
section
variable {X:Cx} {x:Str} {p pos:Pos} {e:Kt} {es:List Kt} {t:DA} {id T:KB} {r:cH}
theorem uJ {K:Fg}:∀ σ H Q,up K (rN r t) σ H Q->Ht (u9 K r) (tN K t) σ H Q:=fun σ H Q ⟨L,S,k,hL,hS,h,n⟩=>
 tN.go hL hS h λds S1 vs H1 h1 k1 hL1 hS1 i1=>⟨ds,S1,k,i1,hS1,h1,λd' S' v H' q k3 z1 z2=>n d' S' v H' q (k1.trans k3) z1 z2⟩
def dw (K:Fg) (F:cH):Sp:=λvs H Q _=>u9 K F vs H Q
structure aZ (P:Ku) (w:Kw) (K:Fg) (mg:Str->Ks Kq) (base:Kx) (x:Str) (n:Nat) (F:cH):Prop where
 ex:∃ f fd ps,aQ P w K mg base de n f fd ps (dw K F)/\mg x=some (.ref f)/\PySem.W.keepIn K (.ref f)=true/\iD K fd ps []
theorem Eh {n:Nat} {F:cH} (c:aZ X.prog X.w X.K X.mg X.base x n F) (hr:dg n X.A) (hg:Gl X x) (ha:PA X (e::es) (tN X.K t)) (hdb:(x == ("__debug__":Str))=false:=by decide)
  (he:starEach (e::es) X.env=(false,eval e X.env)::starEach es X.env:=by exact dh rfl) (hpl:(backTo pos (starEach es X.env)).any (·.1)=false:=by exact gk rfl):
  PE X (.Call (.Name x p) (e::es) [] pos) (up X.K (rN F t)):=by
 obtain⟨f,fd,ps,F1,h1,h2,h3⟩:=c.ex;refine PE.imp (wF F1 hr hg h1 h2 h3 .nil GI ha hdb he hpl) fun σ H Q z9=>?_
 obtain⟨L,S,k,hL,hS,h,n⟩:=z9;refine tN.go hL hS h λds S1 vs H1 h1 k1 hL1 hS1 i1=>?_
 show dw X.K F (vs++[]) H1 Q E0
 rw [JP];exact⟨ds,S1,k,i1,hS1,h1,λd' S' v H' q k3 z1 z2=>n d' S' v H' q (k1.trans k3) z1 z2⟩
def Gq:cH:=λds S k=>match ds with
 | [.int i]=>k (.int (if i < 0 then -i else i)) S
 | _=>False
theorem kI {K:Fg} {H:Hp} {d:D} {xs:List V} (h:IsDs K H [d] xs):∃ x,xs=[x]/\cn K H d x:=by
 obtain⟨v,r,rfl,h1,h2⟩:=cR.mp h;rw [iJ.mp h2];exact⟨v,rfl,h1⟩
theorem qb {K:Fg} {H:Hp} {d e:D} {xs:List V} (h:IsDs K H [d,e] xs):∃ x y,xs=[x,y]/\cn K H d x/\cn K H e y:=by
 obtain⟨v,r,rfl,h1,h2⟩:=cR.mp h;obtain⟨y,rfl,h3⟩:=kI h2;exact⟨v,y,rfl,h1,h3⟩
theorem xg:eR X (.builtin "abs") (u9 X.K Gq):=by
 intro KD s σ H xs us Q I rs h;obtain⟨ds,S,k,i,hS,r,n⟩:=h;unfold Gq at r
 split at r
 ·obtain⟨x,rfl,i1⟩:=kI i;have e1:=isInt.mp i1;subst e1;exact Am KD s σ H _ us Q I rs ⟨_,rfl,o9 n hS r (isInt.mpr rfl)⟩
 ·exact r.elim
def Ek:cH:=λds S k=>match ds with
 | [.tup xs]=>k (.int xs.length) S
 | [.rl xs]=>k (.int xs.length) S
 | [.ref a]=>(match S a with
  | some (.lst xs)=>k (.int xs.length) S
  | _=>False)
 | _=>False
theorem GP:eR X (.builtin "len") (u9 X.K Ek):=by
 intro KD s σ H xs us Q I rs h;obtain⟨ds,S,k,i,hS,r,n⟩:=h;unfold Ek at r
 split at r
 ·obtain⟨x,rfl,i1⟩:=kI i;obtain⟨a,vs,rfl,t,j⟩:=cr.mp i1;exact jB KD s σ H _ us Q I rs ⟨a,vs,rfl,.inr t,by rw [<- j.length]; exact o9 n hS r (isInt.mpr rfl)⟩
 ·obtain⟨x,rfl,i1⟩:=kI i;obtain⟨a,vs,rfl,t,j⟩:=uB.mp i1;exact jB KD s σ H _ us Q I rs ⟨a,vs,rfl,.inl t.sq,by rw [<- j.length]; exact o9 n hS r (isInt.mpr rfl)⟩
 ·obtain⟨x,rfl,i1⟩:=kI i;have e1:=df.mp i1;subst e1
  split at r
  ·rename_i z
   obtain⟨vs,hl,j⟩:=hS.lst z;exact jB KD s σ H _ us Q I rs ⟨_,vs,rfl,.inl (jE.of hl),by rw [<- j.length]; exact o9 n hS r (isInt.mpr rfl)⟩
  ·exact r.elim
 ·exact r.elim
def GD:cH:=λds S k=>match ds with
 | [.int i,.int j]=>k (.int (if j > i then j else i)) S
 | _=>False
def FQ:cH:=λds S k=>match ds with
 | [.int i,.int j]=>k (.int (if j < i then j else i)) S
 | _=>False
theorem zE (hc:X.calm=true:=by rfl):eR X (.builtin "max") (u9 X.K GD):=by
 intro KD s σ H xs us Q I rs h;obtain⟨ds,S,k,i,hS,r,n⟩:=h;unfold GD at r
 split at r
 ·obtain⟨x,y,rfl,i1,i2⟩:=qb i;have e1:=isInt.mp i1;have e2:=isInt.mp i2;subst e1; subst e2
  exact yi hc KD s σ H _ us Q I rs ⟨_,_,rfl,o9 n hS r (isInt.mpr rfl)⟩
 ·exact r.elim
theorem AY (hc:X.calm=true:=by rfl):eR X (.builtin "min") (u9 X.K FQ):=by
 intro KD s σ H xs us Q I rs h;obtain⟨ds,S,k,i,hS,r,n⟩:=h;unfold FQ at r
 split at r
 ·obtain⟨x,y,rfl,i1,i2⟩:=qb i;have e1:=isInt.mp i1;have e2:=isInt.mp i2;subst e1; subst e2
  exact xQ hc KD s σ H _ us Q I rs ⟨_,_,rfl,o9 n hS r (isInt.mpr rfl)⟩
 ·exact r.elim
def Fw:Ks DO->Ks Ty
 | some (.lst _)=>some .lst
 | some .dic=>some .dic
 | _=>none
def Fv (S:DH):D->Ks Ty
 | .non=>some .non
 | .bl _=>some .bool
 | .int _=>some .int
 | .str _=>some .str
 | .tup _=>some .tup
 | .rl _=>none
 | .ref a=>Fw (S a)
 | .ty _=>none
def t9:Ty->Ty->KA
 | .non,.non=>true | .bool,.bool=>true | .bool,.int=>true | .int,.int=>true | .str,.str=>true | .tup,.tup=>true | .lst,.lst=>true | .dic,.dic=>true | .verr,.verr=>true
 | _,_=>false
theorem zt {K:Fg} (t c:Ty):PySem.W.kitOne K (.type t.name) (.type c.name)=some (t9 t c):=by
 cases t <;> cases c <;> rfl
def G7:D1:=λd S k=>match d with
 | .int i=>k (.int ((Builtin.Int.intBits i:Nat):Int)) S
 | _=>False
def gq (xs:List D) (lo hi:Ks Int):List D:=(xs.drop (HT.cM xs.length 0 lo)).take (HT.cM xs.length xs.length hi - HT.cM xs.length 0 lo)
abbrev CT:=Lo->DH->(Ks Int->DH->Prop)->Prop
def Jk (K:Fg) (g:CT):TO:=fun σ H Q=>∃ L S k,Lc K H L σ/\Hs K H S/\g L S k/\∀ i S' H',k i S'->Kp H H'->Hs K H' S'->Q i H'
def G3:CT:=λ_ S k=>k none S
def Gd (g:DE):CT:=λL S k=>g L S λd S1=>match d with
 | .int i=>k (some i) S1
 | _=>False
end
section
variable {X:Cx} {st:Ky} {kh:List Ky} {g h:DS} {e:Kt} {ge:DE} {pos:Pos}
def FX:DS:=λM L S=>M.nx L S
def ut (g h:DS):DS:=λM L S=>g {M with nx:=h M} L S
theorem CC {K:Fg}:∀ N σ H,zo K (ut g h) N σ H->F8 (zo K g) (zo K h) N σ H:=λN σ H ⟨L,S,M,hL,hS,q,r⟩=>
 ⟨L,S,{M with nx:=h M},hL,hS,q,⟨λL' S' σ' H' q' k' hL' hS'=>⟨L',S',M,hL',hS',q',r.kp k'⟩,r.rt,r.bk,r.ct⟩⟩
def Gz (ge:DE):DS:=λM L S=>ge L S λ_ S1=>M.nx L S1
def Ir (ge:DE):DS:=λM L S=>ge L S M.rt
def Bz (c:DT) (g h:DS):DS:=λM L S=>c L S λb S1=>if b=true then g M L S1 else h M L S1
def EV:DS:=λ_ _ _=>False
def DU (i:Nat) (ge:DE):DS:=λM L S=>ge L S λd S1=>M.nx (L.set i (some d)) S1
def Il (i j:Nat) (ta:DA):DS:=λM L S=>ta L S λds S1=>match ds with
 | [d,e]=>M.nx ((L.set i (some d)).set j (some e)) S1
 | _=>False
abbrev DG:=D->Lo->DH->(Lo->DH->Prop)->Prop
def Fy (K:Fg) (g:DG):TG:=λv σ H Q=>∃ d L S k,cn K H d v/\Lc K H L σ/\Hs K H S/\g d L S k/\∀ L' S' σ' H',k L' S'->Kp H H'->Lc K H' L' σ'->Hs K H' S'->Q σ' H'
theorem PG.imp {e:Kt} {t t':TG} (h:PG X e t) (i:∀ v σ H Q,t' v σ H Q->t v σ H Q):PG X e t':=λKD s σ H v u Q I rv q=>h KD s σ H v u Q I rv (i v σ H Q q)
def nz (i:Nat):DG:=λd L S k=>k (L.set i (some d)) S
abbrev A5:=List D->Lo->DH->(Lo->DH->Prop)->Prop
def Hv (K:Fg) (g:A5):AM:=λv σ H Q=>∃ d L S k,IsDs K H d v/\Lc K H L σ/\Hs K H S/\g d L S k/\∀ L' S' σ' H',k L' S'->Kp H H'->Lc K H' L' σ'->Hs K H' S'->Q σ' H'
theorem ze.imp {e:List Kt} {t t':AM} (h:ze X e t) (i:∀ v σ H Q,t' v σ H Q->t v σ H Q):ze X e t':=λKD s σ H v u Q I rv q=>h KD s σ H v u Q I rv (i v σ H Q q)
def CV:A5:=λds L S k=>ds=[]/\k L S
def vC (t:DG) (u:A5):A5:=λds L S k=>match ds with
 | d::r=>t d L S λL1 S1=>u r L1 S1 k
 | []=>False
def HP (ge:DE) (g:DG):DS:=λM L S=>ge L S λd S1=>g d L S1 M.nx
def EF (c:DT) (b:DS):DS:=λM L S=>∃ W:Nat->Lo->DH->Prop,(∃ m,W m L S)/\∀ m L S,W m L S->
 c L S λt S1=>if t=true then ∃ N:Lo->DH->Prop,(∀ L' S',N L' S'->∃ m',m' < m/\W m' L' S')/\b {M with nx:=N,ct:=N,bk:=M.nx} L S1 else M.nx L S1
def iG (ok:DH->Prop) (g:DG) (b:DS) (M:lF):List D->Lo->DH->Prop
 | [],L,S=>ok S/\M.nx L S
 | d::r,L,S=>ok S/\g d L S λL1 S1=>b {M with nx:=λL2 S2=>iG ok g b M r L2 S2,ct:=λL2 S2=>iG ok g b M r L2 S2,bk:=M.nx} L1 S1
theorem pY {K:Fg} {ok:DH->Prop} {gg:DG} {b:DS} {M:lF} {ds:List D} {L:Lo} {S:DH} {N:mK} {σ:L2.St} {H:Hp} {J:It} (hL:Lc K H L σ) (hS:Hs K H S) (h:iG ok gg b M ds L S) (r:tM K H M N)
  (hgo:∀ i d S1 H1,ds[i]?=some d->Kp H H1->Hs K H1 S1->ok S1->J.go i H1/\∀ x H',J.yld i H1 x H'->H'=H1/\cn K H1 d x)
  (hst:∀ S1 H1,Kp H H1->Hs K H1 S1->ok S1->J.stop ds.length H1):
  ∃ W:Nat->Nat->L2.St->Hp->Prop,(∃ m,W 0 m σ H)/\∀ i m σ H,W i m σ H->
   (J.stop i H/\N.nx σ H)\/(J.go i H/\∃ N':L2.St->Hp->Prop,(∀ σ' H',N' σ' H'->∃ m',m' < m/\W (i+1) m' σ' H')/\∀ x H',J.yld i H x H'->Fy K gg x σ H' fun σ2 H2=>zo K b {N with nx:=N',ct:=N',bk:=N.nx} σ2 H2):=by
 refine⟨λi m σ1 H1=>m=ds.length - i/\i<=ds.length/\∃ L1 S1,Lc K H1 L1 σ1/\Hs K H1 S1/\Kp H H1/\iG ok gg b M (ds.drop i) L1 S1,⟨ds.length,by simp,Kf _,L,S,hL,hS,Kp.refl H,h⟩,?_⟩
 rintro i m σ1 H1 ⟨rfl,hi,L1,S1,hL1,hS1,k1,w1⟩
 by_cases hlt:i < ds.length
 ·have e:ds.drop i=ds[i]::ds.drop (i+1):=Kd hlt;rw [e] at w1;obtain⟨o1,w1⟩:=w1;obtain⟨g1,y1⟩:=hgo i ds[i] S1 H1 (by simp [hlt]) k1 hS1 o1
  refine .inr ⟨g1,fun σ' H'=>i+1<=ds.length/\∃ L' S',Lc K H' L' σ'/\Hs K H' S'/\Kp H H'/\iG ok gg b M (ds.drop (i+1)) L' S',fun σ' H' z9=>by obtain⟨q1,q2⟩:=z9; exact⟨ds.length - (i+1),by omega,rfl,q1,q2⟩,λx H' y=>?_⟩
  obtain⟨rfl,ix⟩:=y1 x H' y;refine⟨ds[i],L1,S1,_,ix,hL1,hS1,w1,λL2 S2 σ2 H2 q k2 hL2 hS2=>⟨L2,S2,_,hL2,hS2,q,?_⟩⟩
  have r2:=r.kp (k1.trans k2);exact⟨λL3 S3 σ3 H3 q3 k3 hL3 hS3=>⟨hlt,L3,S3,hL3,hS3,(k1.trans k2).trans k3,q3⟩,r2.rt,r2.nx,λL3 S3 σ3 H3 q3 k3 hL3 hS3=>⟨hlt,L3,S3,hL3,hS3,(k1.trans k2).trans k3,q3⟩⟩
 ·have e:i=ds.length:=by omega
  subst e;rw [List.drop_length] at w1;obtain⟨o1,w1⟩:=w1;exact .inl ⟨hst S1 H1 k1 hS1 o1,r.nx L1 S1 σ1 H1 w1 k1 hL1 hS1⟩
def aT (S:DH):D->Ks (List D×Ks Kr)
 | .tup ds=>some (ds,none)
 | .rl ds=>some (ds,none)
 | .ref a=>(match S a with
  | some (.lst ds)=>some (ds,some a)
  | _=>none)
 | _=>none
def eE:List D×Ks Kr->DH->Prop
 | (_,none)=>λ_=>True
 | (ds,some a)=>λS=>S a=some (.lst ds)
def Hx (K:Fg) (t:TE):TI:=fun σ H R=>t σ H λx H1=>∃ a,x=.ref a/\(((∃ xs,jE K H1 a xs)/\R (Ga K a) H1)\/((∃ xs,ka K H1 a xs)/\R (GS K a) H1))
theorem vh {tg l:Kt} {tl:TE} (hl:PE X l tl):PI X tg l (Hx X.K tl):=by
 intro KD s σ H R I h;refine cm (hl KD s σ H _ I h) λv s1 z9=>?_
 obtain⟨x,H1,I1,r1,q1⟩:=z9;obtain⟨a,e,q1⟩:=q1;subst e;cases r1;rcases q1 with ⟨⟨xs,hq⟩,q⟩ | ⟨⟨xs,hq⟩,q⟩
 ·obtain⟨its,rv,p,hz⟩:=I1.list hq;refine wpAny_pyIter_list p.isList ?_;refine⟨s1.heap.objs.size,[s1.heap.objs.size],_,_,H1,rfl,I1.kept (t':=s1.toks) λb o e=>pp _ e,yc a _,⟨_,Jt _ rfl,rfl,rfl⟩,λb hb=>?_,q⟩
  have e:b=s1.heap.objs.size:=by simpa using hb
  subst e;exact I1.fpOk (Jw _) (I1.hok.fresh (Jw _))
 ·obtain⟨its,rv,p,hz⟩:=I1.tuple hq;refine wpAny_pyIter_tuple (show s1.heap.IsTuple a its.toArray from p) ?_
  refine⟨s1.heap.objs.size,[s1.heap.objs.size],_,_,H1,rfl,I1.kept (t':=s1.toks) λb o e=>pp _ e,wl a _,⟨_,Jt _ rfl,rfl,rfl⟩,λb hb=>?_,q⟩
  have e:b=s1.heap.objs.size:=by simpa using hb
  subst e;exact I1.fpOk (Jw _) (I1.hok.fresh (Jw _))
def Gg (ta:DA) (g:DG) (b:DS):DS:=λM L S=>ta L S λds S1=>match ds with
 | [.int n]=>(-(2 ^ 62)<=n/\n < 2 ^ 62)/\iG (λ_=>True) g b M ((List.range n.toNat).map λi=>D.int (i:Nat)) L S1
 | _=>False
end
section
variable {P:Ku} {w:Kw} {K:Fg} {mg:Str->Ks Kq} {base:Kx}
theorem _root_.L2.tP.okD {x KE:Str} {st:Ky} {f:Kr} {fd:FuncData} {N ps:List Str} {k:Nat} {F:cH} (Fn:tP K x KE st f fd) (Sc:ar N ps (aj st)) (len:∀ ds S k,F ds S k->ds.length=ps.length)
  (hbody:∀ (cdv:Kq) (A:Kv) (outer:List Env) (s:Ko) (H:Hp) (E:XK),dg k (A.deeper (envOfC KE (aj st) s.heap.objs.size f cdv))->
   ∃ g,oZ (cX de P w K mg base N KE (aj st) f cdv A outer s H E).nox (ci st) (zo K g)/\
    ∀ ds S k,F ds S k->g {nx:=λ_ S'=>k .non S',rt:=k} (ds.map some++List.replicate (N.length - ps.length) none) S):aQ P w K mg base de (k+1) f fd ps (dw K F):=by
 refine Fn.ok Sc (λvs H Q E h=>?_) (λcdv A outer s H vs Q E hr h=>?_)
 ·obtain⟨ds,S,k,i,_,q,_⟩:=h;rw [<- i.length];exact len ds S k q
 ·obtain⟨g,hg,q⟩:=hbody cdv A outer s H E hr;obtain⟨ds,S,k',i,hS,h,n⟩:=h;refine⟨_,hg,ds.map some++List.replicate (N.length - ps.length) none,S,_,?_,hS,q ds S k' h,?_⟩
  ·unfold L2.start;rw [<- i.length,len ds S k' h];exact Lc.start _ i
  ·exact⟨λL S' σ H' h1 k1 _ hS'=>n _ S' _ H' h1 k1 hS' (dG.mpr rfl),λd S' v H' h1 k1 hS' i1=>n d S' v H' h1 k1 hS' i1,λ_ _ _ _ h1=>h1.elim,λ_ _ _ _ h1=>h1.elim⟩
theorem aZ.mk' {x KE:Str} {st:Ky} {f:Kr} {fd:FuncData} {ps:List Str} {n:Nat} {F:cH} (Fn:tP K x KE st f fd) (h:aQ P w K mg base de n f fd ps (dw K F)) (hm:mg x=some (.ref f)) (hb:iD K fd ps []):aZ P w K mg base x n F:=
 ⟨f,fd,ps,h,hm,Fn.kp,hb⟩
end
end DL
namespace DL
open PySem PySem.Spec PyProof.Rows L2 HM
theorem tQ {m n:Nat} {x y:Int} (hx:Bt m x) (hy:Bt n y) (h:m+n<=134217728:=by decide):IntMulOk x y:=IntMulOk.of_le (intBits_le_iff.mpr hx) (intBits_le_iff.mpr hy) h
theorem Hb {m:Nat} {y:Int} (h0:y≠0) (hy:Bt m y) (h:m<=9000:=by decide):ww x y:=⟨h0,(Nat.log2_lt (by omega)).mpr (hy.mono h)⟩
def pr (a b:Int):D:=.tup [.int a,.int b]
def fr (q:Rat):D:=pr q.num (q.den:Int)
end DL
namespace DL
theorem ke {x:D} {r:List D}:L2.atI (x::r) 0=some x:=L2.f' (j:=0) rfl
theorem CG {x y:D} {r:List D}:L2.atI (x::y::r) 1=some y:=L2.f' (j:=1) rfl
theorem GQ {x y z:D} {r:List D}:L2.atI (x::y::z::r) 2=some z:=L2.f' (j:=2) rfl
theorem G5 {n:Nat}:L2.yQ (n+1) 0=some 0:=by
 unfold L2.yQ;rw [if_pos (by decide),if_pos (by omega)]
 rfl
end DL
namespace DL
open PySem PySem.Spec PyProof.Rows L2
def By:D->D->Ks KA
 | .int i,.int j=>some (i == j)
 | .bl i,.bl j=>some (i == j)
 | .str i,.str j=>some (i == j)
 | .non,.non=>some true
 | .non,.int _=>some false
 | .int _,.non=>some false
 | .non,.bl _=>some false
 | .bl _,.non=>some false
 | .bl a,.int j=>some ((if a then 1 else 0) == j)
 | .int i,.bl b=>some (i == (if b then 1 else 0))
 | _,_=>none
def kf (f:D->D->Ks KA):List D->List D->Ks KA
 | [],[]=>some true
 | [],_::_=>some false
 | _::_,[]=>some false
 | x::xs,y::ys=>match f x y,kf f xs ys with
  | some a,some b=>some (a && b)
  | _,_=>none
def mD:Nat->D->D->Ks KA
 | 0,d,e=>By d e
 | n+1,.tup xs,.tup ys=>kf (mD n) xs ys
 | _+1,d,e=>By d e
theorem qh (n:Nat) (d e:D):mD (n+1) d e=(match d,e with | .tup xs,.tup ys=>kf (mD n) xs ys | d,e=>By d e):=by
 cases d <;> cases e <;> rfl
def ja (f:D->D->Ks KA):List D->List D->Nat->KA
 | x::_,y::_,0=>(f x y).getD false
 | _::xs,_::ys,j+1=>ja f xs ys j
 | _,_,_=>false
theorem zJ (e:Nat->KA) (m:Nat):(List.range (m+1)).all e=(e 0 && (List.range m).all λj=>e (j+1)):=by
 rw [List.range_succ_eq_map,List.all_cons,List.all_map]
 rfl
theorem mG {f:D->D->Ks KA}:∀ {xs ys:List D} {b:KA},kf f xs ys=some b->((List.range (min xs.length ys.length)).all (ja f xs ys) && xs.length == ys.length)=b
 | [],[],b,h=>by unfold kf at h; cases h; rfl
 | [],_::_,b,h=>by unfold kf at h; cases h; simp
 | _::_,[],b,h=>by unfold kf at h; cases h; simp
 | x::xs,y::ys,b,h=>by
  unfold kf at h
  split at h
  ·rename_i a c e1 e2
   cases h;have ih:=mG e2;rw [JJ,JJ,Nat.succ_min_succ,zJ];have e3:ja f (x::xs) (y::ys) 0=a:=by unfold ja; rw [e1]; rfl
   rw [e3,Bool.and_assoc];have e4:(λj=>ja f (x::xs) (y::ys) (j+1))=ja f xs ys:=by funext j; rfl
   rw [e4];have e5:(xs.length+1 == ys.length+1)=(xs.length == ys.length):=by simp
   rw [e5,ih]
  ·cases h
theorem oY {f:D->D->Ks KA}:∀ {xs ys:List D} {b:KA} {j:Nat} {x y:D},kf f xs ys=some b->xs[j]?=some x->ys[j]?=some y->f x y=some (ja f xs ys j)
 | [],_,_,_,_,_,_,e,_=>by simp at e
 | _::_,[],_,_,_,_,_,_,e=>by simp at e
 | x::xs,y::ys,b,0,x',y',h,e1,e2=>by
  simp at e1 e2
  subst e1; subst e2
  unfold kf at h
  split at h
  ·rename_i a c q1 q2
   unfold ja;rw [q1]
   rfl
  ·cases h
 | x::xs,y::ys,b,j+1,x',y',h,e1,e2=>by
  unfold kf at h
  split at h
  ·rename_i a c q1 q2
   unfold ja;exact oY q2 (by simpa using e1) (by simpa using e2)
  ·cases h
section
variable {X:Cx} {KD:List (Kr×KC)} {σ:L2.St} {H:Hp} {s:Ko}
theorem rX {K:Fg} {ds es:List D} {xs ys:List V} {us ws:List Kq} {j:Nat} (i1:IsDs K H ds xs) (i2:IsDs K H es ys) (r1:bu xs us) (r2:bu ys ws) (h1:j < us.length) (h2:j < ws.length):
  ∃ d e x y,ds[j]?=some d/\es[j]?=some e/\cn K H d x/\cn K H e y/\b7 x us[j]/\b7 y ws[j]:=by
 have l1:=i1.length;have l2:=i2.length;have l3:=r1.length;have l4:=r2.length;have e1:ds[j]?=some ds[j]:=by simp [show j < ds.length by omega]
 have e2:es[j]?=some es[j]:=by simp [show j < es.length by omega]
 obtain⟨x,q1,d1⟩:=i1.get e1;obtain⟨y,q2,d2⟩:=i2.get e2;obtain⟨u,q3,rx⟩:=r1.get q1;obtain⟨w,q4,ry⟩:=r2.get q2;have f1:us[j]=u:=(J4.mp q3).2;have f2:ws[j]=w:=(J4.mp q4).2;exact⟨_,_,x,y,e1,e2,d1,d2,by rw [f1]; exact rx,by rw [f2]; exact ry⟩
theorem yJ {K:Fg} {A:Kv} {d e:D} {x y:V} {u w:Kq} {b:KA} (h:By d e=some b) (i1:cn K H d x) (i2:cn K H e y) (rx:b7 x u) (ry:b7 y w):SeqAt.EqAt A s u w b/\SeqAt.RcAt A s u w b:=by
 unfold By at h
 split at h
 ·cases h; rw [isInt.mp i1] at rx; rw [isInt.mp i2] at ry; obtain⟨t,rfl⟩:=rx; obtain⟨t',rfl⟩:=ry; exact⟨(SeqAt.EqAt.int_int _ _ _ _),(SeqAt.RcAt.int_int _ _ _ _)⟩
 ·cases h; rw [ce.mp i1] at rx; rw [ce.mp i2] at ry; cases rx; cases ry; exact⟨(SeqAt.EqAt.bool_bool _ _),(SeqAt.RcAt.bool_bool _ _)⟩
 ·cases h; rw [iC.mp i1] at rx; rw [iC.mp i2] at ry; obtain⟨t,rfl⟩:=rx; obtain⟨t',rfl⟩:=ry; exact⟨(SeqAt.EqAt.str_str _ _ _ _),(SeqAt.RcAt.str_str _ _ _ _)⟩
 ·cases h; rw [dG.mp i1] at rx; rw [dG.mp i2] at ry; cases rx; cases ry; exact⟨SeqAt.EqAt.same _,SeqAt.RcAt.none_none⟩
 ·cases h; rw [dG.mp i1] at rx; rw [isInt.mp i2] at ry; cases rx; obtain⟨t',rfl⟩:=ry; exact⟨(SeqAt.EqAt.none_int _ _),(SeqAt.RcAt.none_int _ _)⟩
 ·cases h; rw [isInt.mp i1] at rx; rw [dG.mp i2] at ry; obtain⟨t,rfl⟩:=rx; cases ry; exact⟨(SeqAt.EqAt.int_none _ _),(SeqAt.RcAt.int_none _ _)⟩
 ·cases h; rw [dG.mp i1] at rx; rw [ce.mp i2] at ry; cases rx; cases ry; exact⟨(SeqAt.EqAt.none_bool _),(SeqAt.RcAt.none_bool _)⟩
 ·cases h; rw [ce.mp i1] at rx; rw [dG.mp i2] at ry; cases rx; cases ry; exact⟨(SeqAt.EqAt.bool_none _),(SeqAt.RcAt.bool_none _)⟩
 ·cases h; rw [ce.mp i1] at rx; rw [isInt.mp i2] at ry; cases rx; obtain⟨t',rfl⟩:=ry; exact⟨(SeqAt.EqAt.bool_int _ _ _),(SeqAt.RcAt.bool_int _ _ _)⟩
 ·cases h; rw [isInt.mp i1] at rx; rw [ce.mp i2] at ry; obtain⟨t,rfl⟩:=rx; cases ry; exact⟨(SeqAt.EqAt.int_bool _ _ _),(SeqAt.RcAt.int_bool _ _ _)⟩
 ·cases h
theorem u5 {K:Fg} {d e:D} {x:V} {b:KA} (h:By d e=some b) (i1:cn K H d x) (i2:cn K H e x):b=true:=by
 unfold By at h
 split at h
 ·cases h; have e1:=isInt.mp i1; have e2:=isInt.mp i2; rw [e1] at e2; cases e2; simp
 ·cases h; have e1:=ce.mp i1; have e2:=ce.mp i2; rw [e1] at e2; cases e2; simp
 ·cases h; have e1:=iC.mp i1; have e2:=iC.mp i2; rw [e1] at e2; cases e2; simp
 ·cases h; rfl
 ·have e1:=dG.mp i1; have e2:=isInt.mp i2; rw [e1] at e2; cases e2
 ·have e1:=isInt.mp i1; have e2:=dG.mp i2; rw [e1] at e2; cases e2
 ·have e1:=dG.mp i1; have e2:=ce.mp i2; rw [e1] at e2; cases e2
 ·have e1:=ce.mp i1; have e2:=dG.mp i2; rw [e1] at e2; cases e2
 ·have e1:=ce.mp i1; have e2:=isInt.mp i2; rw [e1] at e2; cases e2
 ·have e1:=isInt.mp i1; have e2:=ce.mp i2; rw [e1] at e2; cases e2
 ·cases h
theorem qS {K:Fg} {f:D->D->Ks KA} (hf:∀ d e x b,f d e=some b->cn K H d x->cn K H e x->b=true):∀ {ds es:List D} {xs:List V} {b:KA},kf f ds es=some b->IsDs K H ds xs->IsDs K H es xs->b=true
 | [],[],_,_,h,_,_=>by unfold kf at h; cases h; rfl
 | [],_::_,_,_,_,i1,i2=>by
  have e1:=iJ.mp i1;obtain⟨v,r,e2,_⟩:=cR.mp i2;rw [e1] at e2; cases e2
 | _::_,[],_,_,_,i1,i2=>by
  have e1:=iJ.mp i2;obtain⟨v,r,e2,_⟩:=cR.mp i1;rw [e1] at e2; cases e2
 | d::ds,e::es,xs,b,h,i1,i2=>by
  obtain⟨v,r,e1,h1,h2⟩:=cR.mp i1;obtain⟨v',r',e2,h3,h4⟩:=cR.mp i2;rw [e1] at e2;cases e2;unfold kf at h
  split at h
  ·rename_i a c q1 q2
   cases h;rw [hf _ _ _ _ q1 h1 h3,qS hf q2 h2 h4]
   rfl
  ·cases h
theorem uU (I:aI X KD σ H s):∀ (n:Nat) (d e:D) (x:V) (b:KA),mD n d e=some b->cn X.K H d x->cn X.K H e x->b=true
 | 0,d,e,x,b,h,i1,i2=>u5 (by unfold mD at h; exact h) i1 i2
 | n+1,d,e,x,b,h,i1,i2=>by
  rw [qh] at h
  split at h
  ·rename_i xs ys
   obtain⟨a,vs,e1,t1,j1⟩:=cr.mp i1;obtain⟨a',vs',e2,t2,j2⟩:=cr.mp i2;rw [e1] at e2;cases e2;have q:=I.tuple_inj t1 t2;subst q;exact qS (λd e x b=>uU I n d e x b) h j1 j2
  ·exact u5 h i1 i2
theorem sQ (I:aI X KD σ H s):∀ (n:Nat) (A:Kv) (d e:D) (x y:V) (u w:Kq) (b:KA),A.units+n < cLine->mD n d e=some b->cn X.K H d x->cn X.K H e y->b7 x u->b7 y w->SeqAt.EqAt A s u w b/\SeqAt.RcAt A s u w b
 | 0,A,d,e,x,y,u,w,b,hu,h,i1,i2,rx,ry=>yJ (by unfold mD at h; exact h) i1 i2 rx ry
 | n+1,A,d,e,x,y,u,w,b,hu,h,i1,i2,rx,ry=>by
  have h0:=h;rw [qh] at h
  split at h
  ·rename_i xs ys
   obtain⟨p,vs,rfl,t1,j1⟩:=cr.mp i1;obtain⟨q,vs',rfl,t2,j2⟩:=cr.mp i2;cases rx;cases ry;obtain⟨us,r1,p1,_⟩:=I.tuple t1;obtain⟨ws,r2,p2,_⟩:=I.tuple t2;have l1:=j1.length;have l2:=j2.length;have l3:=r1.length;have l4:=r2.length;have rc:SeqAt.RcAt A s (.ref p) (.ref q) b:=by
    have e:=mG h;have z:=SeqAt.RcAt.tuples (A:=A) (s:=s) (items:=us.toArray) (items2:=ws.toArray) (e:=ja (mD n) xs ys) (show s.heap.IsTuple p us.toArray from p1) (show s.heap.IsTuple q ws.toArray from p2) (by omega) (λj h1 h2=>by
     simp only [JA] at h1 h2
     obtain⟨d,e,x,y,q1,q2,d1,d2,rx,ry⟩:=rX j1 j2 r1 r2 h1 h2;have:=(sQ I n A.in1 d e x y us[j] ws[j] _ (by show A.units+1+n < cLine; omega) (oY h q1 q2) d1 d2 rx ry).1
     simpa using this)
    simp only [JA] at z;rw [<- l3,<- l4,<- l1,<- l2,e] at z;exact z
   refine⟨?_,rc⟩
   by_cases hpq:p=q
   ·subst hpq;have:=uU I (n+1) _ _ _ _ h0 i1 i2;subst this;exact SeqAt.EqAt.same _
   ·exact SeqAt.EqAt.of_refs hpq rc
  ·exact yJ h i1 i2 rx ry
theorem z_ {K:Fg} {A:Kv} {d e:D} {x y:V} {u w:Kq} {b:KA} (h:By d e=some b) (i1:cn K H d x) (i2:cn K H e y) (rx:b7 x u) (ry:b7 y w):SeqAt.RcNeAt A s u w (!b):=by
 unfold By at h
 split at h
 ·cases h; rw [isInt.mp i1] at rx; rw [isInt.mp i2] at ry; obtain⟨t,rfl⟩:=rx; obtain⟨t',rfl⟩:=ry; exact(SeqAt.RcNeAt.int_int _ _ _ _)
 ·cases h; rw [ce.mp i1] at rx; rw [ce.mp i2] at ry; cases rx; cases ry; exact(SeqAt.RcNeAt.bool_bool _ _)
 ·cases h; rw [iC.mp i1] at rx; rw [iC.mp i2] at ry; obtain⟨t,rfl⟩:=rx; obtain⟨t',rfl⟩:=ry; exact(SeqAt.RcNeAt.str_str _ _ _ _)
 ·cases h; rw [dG.mp i1] at rx; rw [dG.mp i2] at ry; cases rx; cases ry; exact SeqAt.RcNeAt.none_none
 ·cases h; rw [dG.mp i1] at rx; rw [isInt.mp i2] at ry; cases rx; obtain⟨t',rfl⟩:=ry; exact(SeqAt.RcNeAt.none_int _ _)
 ·cases h; rw [isInt.mp i1] at rx; rw [dG.mp i2] at ry; obtain⟨t,rfl⟩:=rx; cases ry; exact(SeqAt.RcNeAt.int_none _ _)
 ·cases h; rw [dG.mp i1] at rx; rw [ce.mp i2] at ry; cases rx; cases ry; exact(SeqAt.RcNeAt.none_bool _)
 ·cases h; rw [ce.mp i1] at rx; rw [dG.mp i2] at ry; cases rx; cases ry; exact(SeqAt.RcNeAt.bool_none _)
 ·cases h; rw [ce.mp i1] at rx; rw [isInt.mp i2] at ry; cases rx; obtain⟨t',rfl⟩:=ry; exact(SeqAt.RcNeAt.bool_int _ _ _)
 ·cases h; rw [isInt.mp i1] at rx; rw [ce.mp i2] at ry; obtain⟨t,rfl⟩:=rx; cases ry; exact(SeqAt.RcNeAt.int_bool _ _ _)
 ·cases h
theorem D8 (I:aI X KD σ H s) (n:Nat) (A:Kv) (d e:D) (x y:V) (u w:Kq) (b:KA) (hu:A.units+n < cLine) (h:mD n d e=some b) (i1:cn X.K H d x) (i2:cn X.K H e y) (rx:b7 x u) (ry:b7 y w):SeqAt.RcNeAt A s u w (!b):=by
 cases n with
 | zero=>exact z_ (by unfold mD at h; exact h) i1 i2 rx ry
 | succ n=>
  rw [qh] at h
  split at h
  ·rename_i xs ys
   obtain⟨p,vs,rfl,t1,j1⟩:=cr.mp i1;obtain⟨q,vs',rfl,t2,j2⟩:=cr.mp i2;cases rx;cases ry;obtain⟨us,r1,p1,_⟩:=I.tuple t1;obtain⟨ws,r2,p2,_⟩:=I.tuple t2;have l1:=j1.length;have l2:=j2.length;have l3:=r1.length;have l4:=r2.length;have e:=mG h;have z:=SeqAt.RcNeAt.tuples (A:=A) (s:=s) (items:=us.toArray) (items2:=ws.toArray) (e:=ja (mD n) xs ys) (show s.heap.IsTuple p us.toArray from p1) (show s.heap.IsTuple q ws.toArray from p2) (by omega) (λj h1 h2=>by
    simp only [JA] at h1 h2
    obtain⟨d,e,x,y,q1,q2,d1,d2,rx,ry⟩:=rX j1 j2 r1 r2 h1 h2;have:=(sQ I n A.in1 d e x y us[j] ws[j] _ (by show A.units+1+n < cLine; omega) (oY h q1 q2) d1 d2 rx ry).1
    simpa using this)
   simp only [JA] at z;rw [<- l3,<- l4,<- l1,<- l2,e] at z;exact z
  ·exact z_ h i1 i2 rx ry
end
structure EJ (X:Cx) (e:Kt) (g:DE):Prop where
 h:PE X e (up X.K g)
structure TJ (X:Cx) (e:Kt) (g:DT):Prop where
 h:PT X e (yf X.K g)
structure WJ (X:Cx) (e:Kt) (g:DT):Prop where
 h:PW X e (yf X.K g)
structure AJ (X:Cx) (e:List Kt) (g:DA):Prop where
 h:PA X e (tN X.K g)
structure SJ (X:Cx) (e:Ky) (g:DS):Prop where
 h:PS X e (zo X.K g)
structure vW (X:Cx) (e:List Ky) (g:DS):Prop where
 h:oZ X e (zo X.K g)
structure GJ (X:Cx) (e:Kt) (g:DG):Prop where
 h:PG X e (Fy X.K g)
structure G6 (X:Cx) (e:List Kt) (g:A5):Prop where
 h:ze X e (Hv X.K g)
structure OJ (X:Cx) (e:Ks Kt) (g:CT):Prop where
 h:PO X e (Jk X.K g)
theorem WJ.pt {X:Cx} {e:Kt} {g:DT} (h:WJ X e g):TJ X e g:=⟨PW.pt h.h⟩
section
variable {X:Cx} {a b c:Kt} {ga gb gc:DE} {pos:Pos}
theorem ah (i:Nat) {x:Str} (hN:X.N[i]?=some x:=by rfl) (hv:u7 X.env.scope x:=by first | exact Or.inl rfl | exact Or.inr (Or.inl rfl) | exact Or.inr (Or.inr rfl)) (hd:(x == ("__debug__":Str))=false:=by decide) (hcd:(x == ("__classdict__":Str))=false:=by decide):EJ X (.Name x pos) (Ar i):=⟨PE.imp (Fk hN hv hd hcd) fun σ H Q ⟨L,S,k,hL,hS,h,n⟩=>by
  unfold Ar at h
  split at h
  ·rename_i d e
   obtain⟨v,e1,e2⟩:=hL.get e;exact⟨v,e1,n d S v H h (Kp.refl H) hS e2⟩
  ·exact h.elim⟩
theorem aq {i j pos}:EJ X (.Constant (.int i) j pos) (dC (.int i)):=⟨Dt E_ λ_=>isInt.mpr rfl⟩
theorem fN {i j pos}:EJ X (.Constant (.bool i) j pos) (dC (.bl i)):=⟨Dt Gm λ_=>ce.mpr rfl⟩
theorem dN {j pos}:EJ X (.Constant .none j pos) (dC .non):=⟨Dt DJ λ_=>dG.mpr rfl⟩
theorem b9 {i j pos}:EJ X (.Constant (.str i) j pos) (dC (.str i)):=⟨Dt Ei λ_=>iC.mpr rfl⟩
theorem qc {x:Str} {n:Ty} (hg:Gl X x) (hm:X.mg x=none) (hv:bootBuiltins x=some (.type n.name)) (hn:x≠"__name__":=by decide) (hd:(x == ("__debug__":Str))=false:=by decide):EJ X (.Name x pos) (dC (.ty n)):=⟨Dt (Cp (v:=.ty n.name) hg hm hv rfl hn hd) λ_=>CB.mpr rfl⟩
theorem ac:AJ X [] Hz:=⟨PA.imp tD fun σ H Q z9=>by obtain⟨L,S,k,hL,hS,h,n⟩:=z9; exact n [] S [] H h (Kp.refl H) hS IsDs.nil⟩
theorem aa {es:List Kt} {t:DA} (ha:EJ X a ga) (hr:AJ X es t) (hs:starEach (a::es) X.env=(false,eval a X.env)::starEach es X.env:=by exact dh rfl):AJ X (a::es) (C0 ga t):=⟨have ha:=ha.h; have hr:=hr.h; PA.imp (o0 ha hr hs) fun σ H Q ⟨L,S,k,hL,hS,h,n⟩=>up.go hL hS h λd S1 v H1 h1 k1 hL1 hS1 i1=>tN.go hL1 hS1 h1 λds S2 vs H2 h2 k2 hL2 hS2 i2=>
  n (d::ds) S2 (v::vs) H2 h2 (k1.trans k2) hS2 (IsDs.cons (i1.kp k2) i2)⟩
theorem aw {X:Cx} {x:Str} {pos:Pos} {es:List Kt} {t:DA} (n:Nat) (hr:AJ X es t) (hN:X.N[n]?=some x:=by rfl) (hv:u7 X.env.scope x:=by first | exact Or.inl rfl | exact Or.inr (Or.inl rfl) | exact Or.inr (Or.inr rfl)) (hd:(x == ("__debug__":Str))=false:=by decide) (hcd:(x == ("__classdict__":Str))=false:=by decide) (hs:starEach (.Name x pos::es) X.env=(false,eval (.Name x pos) X.env)::starEach es X.env:=by exact dh rfl):AJ X (.Name x pos::es) (C0 (Ar n) t):=aa (ah n hN hv hd hcd) hr hs
theorem aA {es:List Kt} {x1} {t:DA} (h:AJ X es t):EJ X (.Tuple es x1 pos) (Ia t):=⟨have h:=h.h; PE.imp (D7 h) fun σ H Q ⟨L,S,k,hL,hS,h,n⟩=>tN.go hL hS h λds S1 vs H1 h1 k1 hL1 hS1 i1=>by
  refine⟨by rw [<- i1.length]; exact h1.1,λp hp=>?_⟩
  have k2:Kp H1 (cb H1 p (.tup vs)):=Kp.new hp;exact n (.tup ds) S1 _ _ h1.2 (k1.trans k2) (hS1.new hp) (cr.mpr ⟨p,vs,rfl,ka.of cA,i1.kp k2⟩)⟩
theorem bU {es:List Kt} {t:DA} (h:AJ X es t):EJ X (.List es pos) (HH t):=⟨have h:=h.h; PE.imp (Fq h) fun σ H Q ⟨L,S,k,hL,hS,h,n⟩=>tN.go hL hS h λds S1 vs H1 h1 k1 hL1 hS1 i1=>by
  refine⟨by rw [<- i1.length]; exact h1.1,λp hp=>?_⟩
  exact n (.ref p) _ _ _ (h1.2 p (hS1.free hp)) (k1.trans (Kp.new hp)) (hS1.newL hp i1) (df.mpr rfl)⟩
theorem aN {op:Operator} {r:D2} (ho:fW X (binaryOp op) (jy X.K r)) (ha:EJ X a ga) (hb:EJ X b gb):EJ X (.BinOp a op b pos) (EB r ga gb):=⟨have ha:=ha.h; have hb:=hb.h; PE.imp (Gr ho ha hb) tG⟩
theorem kM {op:CmpOp} {r:D2} (ho:fW X (compareOp op) (jy X.K r)) (ha:EJ X a ga) (hb:EJ X b gb) (hm:behindInMarks op b=false):EJ X (.Compare a [op] [b] pos) (EB r ga gb):=⟨have ha:=ha.h; have hb:=hb.h; PE.imp (Bq ho ha hb hm) tG⟩
theorem bb {r:D2} (hr:yt X (jy X.K r)) (ha:EJ X a ga) (hb:EJ X b gb) (hs:wY b):EJ X (.Subscript a b pos) (EB r ga gb):=⟨have ha:=ha.h; have hb:=hb.h; PE.imp (F2 hr ha hb hs) tG⟩
theorem CS {op:UnaryOp} {r:D1} (ho:GB X (unaryOp op) (IB X.K r)) (ha:EJ X a ga):EJ X (.UnaryOp op a pos) (IG r ga):=⟨have ha:=ha.h; PE.imp (FF ho ha) fun σ H Q z9=>by obtain⟨L,S,k,hL,hS,h,n⟩:=z9; exact up.go hL hS h λd S1 v H1 h1 k1 hL1 hS1 i1=>⟨d,S1,k,i1,hS1,h1,λd' S' v H' q k3 z1 z2=>n d' S' v H' q (k1.trans k3) z1 z2⟩⟩
theorem au {op:CmpOp} {r:D2} (ho:fW X (compareOp op) (jy X.K r)) (ha:EJ X a ga) (hb:EJ X b gb) (hm:behindInMarks op b=false):TJ X (.Compare a [op] [b] pos) (xa (EB r ga gb)):=⟨have ha:=ha.h; have hb:=hb.h; PT.imp (PT.imp (Cm ho ha hb hm) fun σ H Q h=>tG σ H _ h) tU⟩
theorem bz {e:Kt} {g:DE} (h:EJ X e g) (he:∀ whole,isTrue e X.env whole=(do let v <- whole; standAt e.pos; holding [v] (truthy v)):=by intro _; rfl):TJ X e (xa g):=⟨have h:=h.h; PT.imp (DW h he) tU⟩
end
section
variable {X:Cx} {a b c:Kt} {ga gb gc:DE} {pos:Pos}
variable {tA tB':DT} {kh:List Kt}
theorem cY (ha:TJ X a tA):WJ X (.BoolOp .Or [a] pos) tA:=⟨have ha:=ha.h; EX ha⟩
theorem eH (ha:TJ X a tA) (hb:WJ X (.BoolOp .Or (b::kh) pos) tB'):WJ X (.BoolOp .Or (a::b::kh) pos) (Im tA tB'):=⟨have ha:=ha.h; have hb:=hb.h; PW.imp (GL ha hb) fun σ H Q ⟨L,S,k,hL,hS,h,n⟩=>yf.go hL hS h λc S1 H1 h1 k1 hL1 hS1=>by
  cases c with
  | true=>
   rw [if_pos rfl] at h1 ⊢;exact n true S1 H1 h1 k1 hS1
  | false=>
   rw [if_neg Jz] at h1 ⊢;exact yf.go hL1 hS1 h1 λc2 S2 H2 h2 k2 _ hS2=>n c2 S2 H2 h2 (k1.trans k2) hS2⟩
theorem cg (ha:TJ X a tA):TJ X (.UnaryOp .Not a pos) (FG tA):=⟨have ha:=ha.h; PT.imp (En ha) fun σ H Q z9=>by obtain⟨L,S,k,hL,hS,h,n⟩:=z9; exact yf.go hL hS h λc S1 H1 h1 k1 hL1 hS1=>n _ S1 H1 h1 k1 hS1⟩
theorem l' {op} (h:EJ X a ga):EJ X (.BoolOp op [a] pos) ga:=⟨have h:=h.h; Ft h⟩
theorem lQ (ha:EJ X a ga) (hb:EJ X (.BoolOp .And (b::kh) pos) gb):EJ X (.BoolOp .And (a::b::kh) pos) (Gy ga gb):=⟨have ha:=ha.h; have hb:=hb.h; PE.imp (Dv ha hb) fun σ H Q ⟨L,S,k,hL,hS,h,n⟩=>up.go hL hS h λd S1 v H1 h1 k1 hL1 hS1 i1=>by
  cases d with
  | bl c=>
   have e:=ce.mp i1;subst e;refine⟨c,rfl,?_⟩;have h1:if c=true then _ else _:=h1
   cases c with
   | true=>
    rw [if_pos rfl] at h1 ⊢;exact up.go hL1 hS1 h1 λd2 S2 v2 H2 h2 k2 _ hS2 i2=>n d2 S2 v2 H2 h2 (k1.trans k2) hS2 i2
   | false=>
    rw [if_neg Jz] at h1 ⊢;exact n _ S1 _ H1 h1 k1 hS1 (ce.mpr rfl)
  | _=>exact(show False from h1).elim⟩
theorem EK (ha:EJ X a ga):EJ X (.UnaryOp .Not a pos) (GM ga):=⟨have ha:=ha.h; PE.imp (Ea ha) fun σ H Q ⟨L,S,k,hL,hS,h,n⟩=>up.go hL hS h λd S1 v H1 h1 k1 hL1 hS1 i1=>by
  cases d with
  | bl c=>
   have e:=ce.mp i1;subst e;exact⟨c,rfl,n _ S1 _ H1 h1 k1 hS1 (ce.mpr rfl)⟩
  | _=>exact(show False from h1).elim⟩
theorem uy {c:Kt} (hc:TJ X c tA) (ha:EJ X a ga) (hb:EJ X b gb):EJ X (.IfExp c a b pos) (Jc tA ga gb):=⟨have hc:=hc.h; have ha:=ha.h; have hb:=hb.h; PE.imp (zG hc ha hb) fun σ H Q ⟨L,S,k,hL,hS,h,n⟩=>yf.go hL hS h λd S1 H1 h1 k1 hL1 hS1=>by
  cases d with
  | true=>
   rw [if_pos rfl] at h1 ⊢;exact up.go hL1 hS1 h1 λd2 S2 v2 H2 h2 k2 _ hS2 i2=>n d2 S2 v2 H2 h2 (k1.trans k2) hS2 i2
  | false=>
   rw [if_neg Jz] at h1 ⊢;exact up.go hL1 hS1 h1 λd2 S2 v2 H2 h2 k2 _ hS2 i2=>n d2 S2 v2 H2 h2 (k1.trans k2) hS2 i2⟩
end
section
variable {X:Cx} {x:Str} {p pos:Pos} {e:Kt} {es:List Kt} {t:DA} {id T:KB} {r:cH}
theorem aJ (hc:eR X (.builtin id) (u9 X.K r)) (hg:Gl X x) (hm:X.mg x=none) (hv:bootBuiltins x=some (.builtin id)) (ha:AJ X (e::es) t) (hn:x≠"__name__":=by decide) (hdb:(x == ("__debug__":Str))=false:=by decide) (he:starEach (e::es) X.env=(false,eval e X.env)::starEach es X.env:=by exact dh rfl) (hpl:(backTo pos (starEach es X.env)).any (·.1)=false:=by exact gk rfl):EJ X (.Call (.Name x p) (e::es) [] pos) (rN r t):=⟨have ha:=ha.h; PE.imp (zi hc hg hm hv ha hn hdb he hpl) uJ⟩
theorem ir (hc:eR X (.type T) (u9 X.K r)) (hg:Gl X x) (hm:X.mg x=none) (hv:bootBuiltins x=some (.type T)) (ha:AJ X (e::es) t) (hn:x≠"__name__":=by decide) (hdb:(x == ("__debug__":Str))=false:=by decide) (he:starEach (e::es) X.env=(false,eval e X.env)::starEach es X.env:=by exact dh rfl) (hpl:(backTo pos (starEach es X.env)).any (·.1)=false:=by exact gk rfl):EJ X (.Call (.Name x p) (e::es) [] pos) (rN r t):=⟨have ha:=ha.h; PE.imp (xE hc hg hm hv ha hn hdb he hpl) uJ⟩
theorem B4 {n:Nat} {F:cH} (c:aZ X.prog X.w X.K X.mg X.base x n F) (hr:dg n X.A) (hg:Gl X x) (ha:AJ X (e::es) t) (hdb:(x == ("__debug__":Str))=false:=by decide) (he:starEach (e::es) X.env=(false,eval e X.env)::starEach es X.env:=by exact dh rfl) (hpl:(backTo pos (starEach es X.env)).any (·.1)=false:=by exact gk rfl):EJ X (.Call (.Name x p) (e::es) [] pos) (rN F t):=⟨Eh (c:=c) (hr:=hr) (hg:=hg) (ha:=ha.h) (hdb:=hdb) (he:=he) (hpl:=hpl)⟩
theorem dq {n m:Nat} {F:cH} (c:aZ X.prog X.w X.K X.mg X.base x n F) (hr:dg m X.A) (ha:AJ X (e::es) t) (hg:Gl X x:=by exact rfl) (le:n<=m:=by decide) (hdb:(x == ("__debug__":Str))=false:=by decide) (he:starEach (e::es) X.env=(false,eval e X.env)::starEach es X.env:=by exact dh rfl) (hpl:(backTo pos (starEach es X.env)).any (·.1)=false:=by exact gk rfl):EJ X (.Call (.Name x p) (e::es) [] pos) (rN F t):=B4 c (hr.mono le) hg ha hdb he hpl
theorem B_ {o:Kt} {g:DE} {apos cpos:Pos} (ho:EJ X o g) (hbase:attributeBase o "bit_length" X.env (eval o X.env)=eval o X.env:=by rfl) (hline:(apos.endLine == cpos.line)=true:=by rfl):EJ X (.Call (.Attribute o "bit_length" apos) [] [] cpos) (IG G7 g):=⟨by
 have ho:=ho.h;refine PE.imp (Fj PySem.F.plainAttrs_int PySem.F.slot_int_bit_length PySem.F.type_int_bit_length (r:=λx xs H Q=>∃ i,x=.int i/\xs=[]/\Q (.int ((Builtin.Int.intBits i:Nat):Int)) H) ?_ ho hbase hline) fun σ H Q ⟨L,S,k,hL,hS,h,n⟩=>?_
 ·intro KD s σ H x xs v us Q I rx rs h;obtain⟨i,rfl,rfl,q⟩:=h;obtain⟨t,rfl⟩:=rx;cases rs;exact call_int_bit_length ⟨.int _,H,I.tok _,⟨_,rfl⟩,q⟩
 ·refine up.go hL hS h λd S1 v H1 h1 k1 hL1 hS1 i1=>?_
  cases d with
  | int i=>
   have e1:=isInt.mp i1;subst e1;exact⟨rfl,i,rfl,rfl,n _ S1 _ H1 h1 k1 hS1 (isInt.mpr rfl)⟩
  | _=>exact(show False from h1).elim⟩
theorem dF:OJ X none G3:=⟨by
 intro KD s σ H Q I h;obtain⟨L,S,k,hL,hS,h,n⟩:=h;exact B9 KD s σ H Q I (n none S H h (Kp.refl H) hS)⟩
theorem dB {e:Kt} {g:DE} (he:EJ X e g):OJ X (some e) (Gd g):=⟨by
 have he:=he.h;intro KD s σ H Q I h;obtain⟨L,S,k,hL,hS,h,n⟩:=h;refine BA he KD s σ H Q I (up.go hL hS h λd S1 v H1 h1 k1 hL1 hS1 i1=>?_)
 cases d with
 | int i=>
  have e1:=isInt.mp i1;subst e1;exact⟨i,rfl,n (some i) S1 H1 h1 k1 hS1⟩
 | _=>exact(show False from h1).elim⟩
end
section
variable {X:Cx} {st:Ky} {kh:List Ky} {g h:DS} {e:Kt} {ge:DE} {pos:Pos}
theorem aE:vW X [] FX:=⟨oZ.imp Br λN σ H z9=>by obtain⟨L,S,M,hL,hS,h,r⟩:=z9; exact r.nx L S σ H h (Kp.refl H) hL hS⟩
theorem af (h1:SJ X st g) (h2:vW X kh h):vW X (st::kh) (ut g h):=⟨have h1:=h1.h; have h2:=h2.h; oZ.imp (zq h1 h2) CC⟩
theorem ag (h1:SJ X st g):vW X [st] g:=⟨have h1:=h1.h; CI h1⟩
theorem aS (he:EJ X e ge) (hs:swapsWith e none pos.line X.env=pure false:=by rfl):SJ X (.Expr e pos) (Gz ge):=⟨have he:=he.h; PS.imp (Bv he hs) λN σ H z9=>by obtain⟨L,S,M,hL,hS,h,r⟩:=z9; exact up.go hL hS h λd S1 v H1 h1 k1 hL1 hS1 _=>r.nx L S1 σ H1 h1 k1 hL1 hS1⟩
theorem ai (he:EJ X e ge):SJ X (.Return (some e) pos) (Ir ge):=⟨have he:=he.h; PS.imp (Eg he) λN σ H z9=>by obtain⟨L,S,M,hL,hS,h,r⟩:=z9; exact up.go hL hS h λd S1 v H1 h1 k1 _ hS1 i1=>r.rt d S1 v H1 h1 k1 hS1 i1⟩
theorem av {c:Kt} {a b:List Ky} {gc:DT} (hc:TJ X c gc) (ha:vW X a g) (hb:vW X b h):SJ X (.If c a b pos) (Bz gc g h):=⟨have hc:=hc.h; have ha:=ha.h; have hb:=hb.h; PS.imp (F9 hc ha hb) λN σ H ⟨L,S,M,hL,hS,q,r⟩=>yf.go hL hS q λt S1 H1 h1 k1 hL1 hS1=>by
  cases t with
  | true=>
   rw [if_pos rfl] at h1 ⊢;exact⟨L,S1,M,hL1,hS1,h1,r.kp k1⟩
  | false=>
   rw [if_neg Jz] at h1 ⊢;exact⟨L,S1,M,hL1,hS1,h1,r.kp k1⟩⟩
theorem dn:SJ X st EV:=⟨PS.imp A1 λN σ H z9=>by obtain⟨L,S,M,hL,hS,h,r⟩:=z9; exact h.elim⟩
theorem ak {i:Nat} {x:Str} {pos':Pos} (hN:X.N.Nodup) (he:EJ X e ge) (hi:X.N[i]?=some x:=by rfl) (hx:yr X.env.scope x:=by first | exact Or.inl rfl | exact Or.inr rfl) (hs:swapsWith e (some (.Name x pos')) pos.line X.env=pure false:=by rfl) (hf:X.fn x=true\/X.env.scope.names.lookup x=some .local:=by first | exact .inl rfl | exact .inr rfl | assumption):SJ X (.Assign [.Name x pos'] e pos) (DU i ge):=⟨have he:=he.h; PS.imp (DN hN hi hx he hs hf) λN σ H z9=>by obtain⟨L,S,M,hL,hS,h,r⟩:=z9; exact up.go hL hS h λd S1 v H1 h1 k1 hL1 hS1 i1=>r.nx _ S1 _ H1 h1 k1 (hL1.set i1 i) hS1⟩
theorem um {i j:Nat} {x y:Str} {a b:Kt} {ta:DA} {px py pt:Pos} {kt k2 pt2} (hc:X.calm=true) (hN:X.N.Nodup) (hij:i≠j) (ha:AJ X [a,b] ta) (hi:X.N[i]?=some x:=by rfl) (hj:X.N[j]?=some y:=by rfl) (hx:X.env.scope.names.lookup x=some .local:=by rfl) (hy:X.env.scope.names.lookup y=some .local:=by rfl) (hw:swappedStores [.Tuple [.Name x px,.Name y py] kt pt] (.Tuple [a,b] k2 pt2) X.env=pure (some [x,y]):=by rfl) (hs:swapsWithSole [.Tuple [.Name x px,.Name y py] kt pt] (.Tuple [a,b] k2 pt2) pos.line X.env=pure false:=by rfl):SJ X (.Assign [.Tuple [.Name x px,.Name y py] kt pt] (.Tuple [a,b] k2 pt2) pos) (Il i j ta):=⟨have ha:=ha.h; PS.imp (EW hc hN hi hj hij hx hy ha hw hs) λN σ H ⟨L,S,M,hL,hS,h,r⟩=>tN.go hL hS h λds S1 vs H1 h1 k1 hL1 hS1 i1=>by
  split at h1
  ·obtain⟨v,u,rfl,j1,j2⟩:=qb i1;exact⟨v,u,rfl,r.nx _ S1 _ H1 h1 k1 ((hL1.set j1 i).set j2 j) hS1⟩
  ·exact h1.elim⟩
theorem aG {i:Nat} {x:Str} (hN:X.N.Nodup) (hi:X.N[i]?=some x:=by rfl) (hx:yr X.env.scope x:=by first | exact Or.inl rfl | exact Or.inr rfl) (hf:X.fn x=true\/X.env.scope.names.lookup x=some .local:=by first | exact .inl rfl | exact .inr rfl | assumption):GJ X (.Name x pos) (nz i):=⟨PG.imp (wx hN hi hx hf) λv σ H Q z9=>by obtain⟨d,L,S,k,i1,hL,hS,h,n⟩:=z9; exact n _ S _ H h (Kp.refl H) (hL.set i1 i) hS⟩
theorem cQ:G6 X [] CV:=⟨ze.imp Cw λv σ H Q ⟨d,L,S,k,i1,hL,hS,h,n⟩=>by
 obtain⟨rfl,h⟩:=h;exact⟨iJ.mp i1,n L S σ H h (Kp.refl H) hL hS⟩⟩
theorem aL {es:List Kt} {t:DG} {u:A5} (h1:GJ X e t) (h2:G6 X es u) (hs:(assignEach (e::es) X.env).map (·.2)=assign e X.env::(assignEach es X.env).map (·.2):=by rfl):G6 X (e::es) (vC t u):=⟨have h1:=h1.h; have h2:=h2.h; ze.imp (Ad h1 h2 hs) λvs σ H Q ⟨ds,L,S,k,i1,hL,hS,h,n⟩=>by
  cases ds with
  | nil=>exact(show False from h).elim
  | cons d r=>
   obtain⟨v,vr,rfl,j1,j2⟩:=cR.mp i1;exact⟨v,vr,rfl,d,L,S,_,j1,hL,hS,h,λL1 S1 σ1 H1 q k1 hL1 hS1=>⟨r,L1,S1,k,j2.kp k1,hL1,hS1,q,λL' S' σ' H' q' k'=>n L' S' σ' H' q' (k1.trans k')⟩⟩⟩
theorem kB {tg e:Kt} {g:DG} (he:EJ X e ge) (hg:GJ X tg g) (hs:swapsWithSole [tg] e pos.line X.env=pure false:=by rfl) (hw:swappedStores [tg] e X.env=pure none:=by rfl) (h1:(assignEach [tg] X.env).map (·.2)=[assign tg X.env]:=by rfl):SJ X (.Assign [tg] e pos) (HP ge g):=⟨have he:=he.h; have hg:=hg.h; PS.imp (Fp he hg hs hw h1) λN σ H z9=>by obtain⟨L,S,M,hL,hS,h,r⟩:=z9; exact up.go hL hS h λd S1 v H1 h1 k1 hL1 hS1 i1=>
  ⟨d,L,S1,M.nx,i1,hL1,hS1,h1,λL' S' σ' H' q k' hL' hS'=>r.nx L' S' σ' H' q (k1.trans k') hL' hS'⟩⟩
theorem lU {c:Kt} {body:List Ky} {gc:DT} (hp:PassesOwn (model X.prog X.w) X.A X.env X.xe) (hc:TJ X c gc) (hb:vW X body g):SJ X (.While c body [] pos) (EF gc g):=⟨have hc:=hc.h; have hb:=hb.h; PS.imp (yE hp hc hb) λN σ H ⟨L,S,M,hL,hS,⟨W,⟨m0,w0⟩,turn⟩,r⟩=>by
  refine⟨λm σ H1=>∃ L S,Lc X.K H1 L σ/\Hs X.K H1 S/\W m L S/\Kp H H1,⟨m0,L,S,hL,hS,w0,Kp.refl H⟩,?_⟩
  rintro m σ1 H1 ⟨L1,S1,hL1,hS1,w1,k1⟩;refine yf.go hL1 hS1 (turn m L1 S1 w1) λt S2 H2 h2 k2 hL2 hS2=>?_
  cases t with
  | true=>
   rw [if_pos rfl] at h2 ⊢;obtain⟨N',hN,hb⟩:=h2;refine⟨fun σ' H'=>∃ L' S',Lc X.K H' L' σ'/\Hs X.K H' S'/\N' L' S'/\Kp H H',?_,L1,S2,_,hL2,hS2,hb,?_⟩
   ·rintro σ' H' ⟨L',S',hL',hS',n',k'⟩;obtain⟨m',hm,w'⟩:=hN L' S' n';exact⟨m',hm,L',S',hL',hS',w',k'⟩
   ·have r2:=r.kp (k1.trans k2);exact⟨λL' S' σ' H' n' k' hL' hS'=>⟨L',S',hL',hS',n',(k1.trans k2).trans k'⟩,r2.rt,r2.nx,λL' S' σ' H' n' k' hL' hS'=>⟨L',S',hL',hS',n',(k1.trans k2).trans k'⟩⟩
  | false=>
   rw [if_neg Jz] at h2 ⊢;exact(r.kp (k1.trans k2)).nx L1 S2 σ1 H2 h2 (Kp.refl H2) hL2 hS2⟩
theorem rL {tg a:Kt} {body:List Ky} {ta:DA} {gg:DG} {p pos':Pos} (hp:PassesOwn (model X.prog X.w) X.A X.env X.xe) (hc:X.calm=true) (hgl:Gl X "range") (hm:X.mg "range"=none) (ha:AJ X [a] ta) (hg:GJ X tg gg) (hb:vW X body g) (hs1:starEach [a] X.env=[(false,eval a X.env)]:=by rfl) (hs:∀ x,foldedSetIterable (.Call (.Name "range" p) [a] [] pos') X.env x=pure x:=by intro _; rfl):SJ X (.For tg (.Call (.Name "range" p) [a] [] pos') body [] pos) (Gg ta gg g):=⟨have ha:=ha.h; have hg:=hg.h; have hb:=hb.h; PS.imp (sK hp hc (rK hgl hm ha hs1) hg hb hs) λN σ H ⟨L,S,M,hL,hS,h,r⟩=>tN.go hL hS h λds S1 vs H1 h1 k1 hL1 hS1 i1=>by
  split at h1
  ·obtain⟨v,rfl,j⟩:=kI i1;have e:=isInt.mp j;subst e;obtain⟨⟨h2,h3⟩,h1⟩:=h1;refine⟨_,rfl,h2,h3,pY hL1 hS1 h1 (r.kp k1) (λi d S2 H2 e k2 hS2 _=>?_) λS2 H2 k2 hS2 _=>?_⟩
   ·rw [JX] at e;cases q:(List.range (Int.toNat _))[i]? with
    | none=>rw [q] at e; cases e
    | some z=>
     rw [q] at e;cases e;have hz:=J4.mp q;obtain⟨hz1,hz2⟩:=hz;rw [List.length_range] at hz1;rw [List.getElem_range] at hz2;subst hz2;exact⟨hz1,λx H' y=>⟨y.1,by rw [y.2]; exact isInt.mpr (by rw [Int.zero_add])⟩⟩
   ·rw [Jy,List.length_range];exact Jw _
  ·exact h1.elim⟩
end
section
variable {P:Ku} {w:Kw} {K:Fg} {mg:Str->Ks Kq} {base:Kx}
theorem _root_.L2.tP.okJ {x KE:Str} {st:Ky} {f:Kr} {fd:FuncData} {N ps:List Str} {k:Nat} {F:cH} (Fn:tP K x KE st f fd) (Sc:ar N ps (aj st)) (len:∀ ds S k,F ds S k->ds.length=ps.length)
  (hbody:∀ (cdv:Kq) (A:Kv) (outer:List Env) (s:Ko) (H:Hp) (E:XK),dg k (A.deeper (envOfC KE (aj st) s.heap.objs.size f cdv))->
   ∃ g,vW (cX de P w K mg base N KE (aj st) f cdv A outer s H E).nox (ci st) g/\
    ∀ ds S k,F ds S k->g {nx:=λ_ S'=>k .non S',rt:=k} (ds.map some++List.replicate (N.length - ps.length) none) S):aQ P w K mg base de (k+1) f fd ps (dw K F):=
 Fn.okD Sc len λcdv A outer s H E hr=>let ⟨g,h,q⟩:=hbody cdv A outer s H E hr; ⟨g,h.h,q⟩
end
end DL
namespace L2
open PySem PySem.Spec PyProof.Rows
section
variable {X:Cx} {pos:Pos}
def HE (K:PySem.W.Frag) (n:Nat) (t:AM):TG:=λv σ H Q=>∃ a xs,v=.ref a/\jE K H a xs/\xs.length=n/\t xs σ H Q
theorem EL {es:List Kt} {k:Nat} {t:AM} {n:Nat} (hc:X.calm=true) (h:ze X es t)
  (hn:(assignEach es X.env).length=n:=by rfl) (hst:(assignEach es X.env).findIdx? (·.1)=none:=by rfl):PG X (.Tuple es k pos) (HE X.K n t):=by
 intro KD s σ H v u Q I r hw;obtain⟨a,xs,e1,hq,hl,hw⟩:=hw;subst e1;cases r;obtain⟨its,rv,ht,hz⟩:=I.list hq;have e2:(assignEach es X.env).length=its.toArray.size:=by simp [hn,<- hl,rv.length]
 rw [arm_assign_Tuple];refine gt (wpAny_standAt ?_);unfold unpack;rw [e2,hst];refine gt (JU (PySem.W.kun_itemsOf (I.ok.hd hc) ht.isList λh' hx=>?_))
 have I1:aI X KD σ H {s with heap:=h'}:=I.kept (t':=s.toks) λb o e=>hx b o (JC (Jv e)) e
 exact h KD _ σ H xs _ Q I1 (by simpa using rv) hw
theorem PG.or {e:Kt} {t t':TG} (h:PG X e t) (h':PG X e t'):PG X e (λv σ H Q=>t v σ H Q\/t' v σ H Q):=by
 intro KD s σ H v u Q I r q;rcases q with q | q
 ·exact h KD s σ H v u Q I r q
 ·exact h' KD s σ H v u Q I r q
end
def oq (X:Cx) (scope:Scope):List (Ks Nat)->List Str->Prop
 | some j::r,x::xs=>(X.N[j]?=some x/\(X.env.scope.names.lookup x=some .cell\/X.env.scope.names.lookup x=some .free)/\((relabel scope X.env).names.lookup x=some .cell\/(relabel scope X.env).names.lookup x=some .free))/\oq X scope r xs
 | none::r,_::xs=>oq X scope r xs
 | _,_=>True
theorem oq.get {X:Cx} {scope:Scope}:∀ {cap:List (Ks Nat)} {N:List Str},oq X scope cap N->∀ (i j:Nat) (x:Str),cap[i]?=some (some j)->N[i]?=some x->
  X.N[j]?=some x/\(X.env.scope.names.lookup x=some .cell\/X.env.scope.names.lookup x=some .free)/\((relabel scope X.env).names.lookup x=some .cell\/(relabel scope X.env).names.lookup x=some .free)
 | [],_,_,_,_,_,h,_=>by simp at h
 | _::_,[],_,_,_,_,_,h=>by simp at h
 | some _::_,_::_,h,0,j,x,h1,h2=>by
  simp at h1 h2
  subst h1 h2;exact h.1
 | none::_,_::_,_,0,j,x,h1,_=>by simp at h1
 | some _::_,_::_,h,i+1,j,x,h1,h2=>oq.get h.2 i j x (by simpa using h1) (by simpa using h2)
 | none::r,_::xs,h,i+1,j,x,h1,h2=>oq.get (show oq X scope r xs from h) i j x (by simpa using h1) (by simpa using h2)
def uP (X:Cx):List (Str×Kr)->Prop
 | []=>True
 | p::r=>X.env.cells.lookup p.1=some p.2/\uP X r
theorem uP.mem {X:Cx}:∀ {cl:List (Str×Kr)},uP X cl->∀ p∈cl,X.env.cells.lookup p.1=some p.2
 | [],_,p,hp=>by simp at hp
 | q::r,h,p,hp=>by
  rcases JB.mp hp with e | e
  ·subst e; exact h.1
  ·exact uP.mem h.2 p e
theorem ku {X:Cx} {scope:Scope} {cl:List (Str×Kr)} {N:List Str} {cap:List (Ks Nat)} (h1:scope.kind=.function) (h2:closureFor scope X.env=pure cl) (h3:(scope.names.all λy=>y.2 != NameKind.cell)=true)
  (h4:(scope.names.all λy=>y.2 != NameKind.local || scope.names.lookup y.1 == some NameKind.local)=true) (h5:uP X cl)
  (h6:((relabel scope X.env).names.all λy=>(y.2 != NameKind.cell && y.2 != NameKind.free) || (cl.lookup y.1).isSome)=true) (h7:cap.length=N.length) (h8:oq X scope cap N):g_ X scope cl N cap:=⟨h1,h2,h3,h4,h5.mem,h6,h7,h8.get⟩
end L2
namespace DL
open PySem PySem.Spec PyProof.Rows L2
section
variable {X:Cx} {pos:Pos}
def mm (n:Nat) (t:A5):DG:=λd L S k=>match aT S d with
 | some p=>p.1.length=n/\t p.1 L S k
 | none=>False
theorem Dy {es:List Kt} {k:Nat} {t:A5} {n:Nat} (hc:X.calm=true) (h:G6 X es t) (hn:(assignEach es X.env).length=n:=by rfl) (hst:(assignEach es X.env).findIdx? (·.1)=none:=by rfl):GJ X (.Tuple es k pos) (mm n t):=
 ⟨PG.imp (PG.or (EH hc h.h hn hst) (EL hc h.h hn hst)) λv σ H Q ⟨d,L,S,k,i1,hL,hS,h,m⟩=>by
  cases d with
  | tup ds=>
   obtain⟨a,xs,rfl,t1,j⟩:=cr.mp i1;exact .inl ⟨a,xs,rfl,t1,by rw [<- j.length]; exact h.1,ds,L,S,k,j,hL,hS,h.2,m⟩
  | rl ds=>
   obtain⟨a,xs,rfl,t1,j⟩:=uB.mp i1;exact .inr ⟨a,xs,rfl,t1.sq,by rw [<- j.length]; exact h.1,ds,L,S,k,j,hL,hS,h.2,m⟩
  | ref a=>
   have e1:=df.mp i1;subst e1;cases z:S a with
   | none=>simp only [mm,aT,z] at h
   | some o=>
    cases o with
    | dic=>simp only [mm,aT,z] at h
    | exc _=>simp only [mm,aT,z] at h
    | fn _=>simp only [mm,aT,z] at h
    | tbl _=>simp only [mm,aT,z] at h
    | gen _=>simp only [mm,aT,z] at h
    | lst ds=>
     simp only [mm,aT,z] at h;obtain⟨xs,hl,j⟩:=hS.lst z;exact .inr ⟨a,xs,rfl,jE.of hl,by rw [<- j.length]; exact h.1,ds,L,S,k,j,hL,hS,h.2,m⟩
  | _=>exact(show False from h).elim⟩
end
def zx (cap:List (Ks Nat)) (L:Lo):Lo:=cap.map λo=>match o with
 | some j=>(L[j]?).join
 | none=>none
theorem Lc.cap {K:Fg} {H:Hp} {L:Lo} {σ:L2.St} (hL:Lc K H L σ):∀ cap:List (Ks Nat),Lc K H (zx cap L) (na cap σ)
 | []=>rfl
 | Option.none::r=>⟨_,_,rfl,Lc.cap hL r⟩
 | Option.some j::r=>by
  show Lc K H ((L[j]?).join::zx r L) ((σ[j]?).join::na r σ)
  cases e:L[j]? with
  | none=>exact⟨_,_,rfl,Lc.cap hL r⟩
  | some o=>
   cases o with
   | none=>exact⟨_,_,rfl,Lc.cap hL r⟩
   | some d=>
    obtain⟨v,e1,e2⟩:=hL.get e;rw [e1];exact⟨v,_,rfl,e2,Lc.cap hL r⟩
abbrev DB:=Lo->DH->(Ks D->DH->Prop)->Prop
def mE (ge:DE):DB:=λL S k=>ge L S λv S1=>k (some v) S1
def BG (c:DT) (ge:DE):DB:=λL S k=>c L S λb S1=>if b=true then ge L S1 λv S2=>k (some v) S2 else k none S1
def dL (ok:DH->Prop) (p:Kr) (g:DG) (bd:DB) (k:DK):List D->List D->Lo->DH->Prop
 | [],_,_,S=>ok S/\k (.ref p) S
 | d::r,acc,L,S=>ok S/\g d L S λL1 S1=>bd L1 S1 λo S2=>match o with
  | some v=>S2 p=some (.lst acc)/\acc.length < sizeLine/\dL ok p g bd k r (acc++[v]) L1 (put S2 p (.lst (acc++[v])))
  | none=>dL ok p g bd k r acc L1 S2
def D5 (cap:List (Ks Nat)) (ta:DA) (g:DG) (bd:DB):DE:=λL S k=>ta L S λds S1=>match ds with
 | [.int n]=>(-(2 ^ 62)<=n/\n < 2 ^ 62)/\∀ p,S1 p=none->dL (λ_=>True) p g bd k ((List.range n.toNat).map λi=>D.int (i:Nat)) [] (zx cap L) (put S1 p (.lst []))
 | _=>False
section
variable {K:Fg} {ok:DH->Prop} {gg:DG} {ge:DE} {gc:DT} {k:DK} {ds:List D} {L:Lo} {S:DH} {σ:L2.St} {H:Hp} {J:It} {Q:VK} {p:Kr}
theorem ny (hL:Lc K H L σ) (hS:Hs K H S) (hp:H p=none) (h:dL ok p gg (mE ge) k ds [] L (put S p (.lst [])))
  (n:∀ d S' v H',k d S'->Kp H H'->Hs K H' S'->cn K H' d v->Q v H')
  (hgo:∀ i d S1 H1,ds[i]?=some d->Kp H H1->Hs K H1 S1->ok S1->J.go i H1/\∀ x H',J.yld i H1 x H'->H'=H1/\cn K H1 d x)
  (hst:∀ S1 H1,Kp H H1->Hs K H1 S1->ok S1->J.stop ds.length H1):
  ∃ W:Nat->Nat->L2.St->Hp->Prop,(∃ m,W 0 m σ (cb H p (.lst [])))/\∀ i m σ' H',W i m σ' H'->
   (J.stop i H'/\Q (.ref p) H')\/(J.go i H'/\∃ N:L2.St->Hp->Prop,(∀ σ2 H2,N σ2 H2->∃ m',m' < m/\W (i+1) m' σ2 H2)/\∀ x H2,J.yld i H' x H2->Fy K gg x σ' H2 fun σ3 H3=>up K ge σ3 H3 λv H4=>∃ ys,H4 p=some (.lst ys)/\ys.length < sizeLine/\N σ3 (cb H4 p (.lst (ys++[v])))):=by
 refine⟨λi m σ1 H1=>m=ds.length - i/\i<=ds.length/\∃ acc L1 S1,Lc K H1 L1 σ1/\Hs K H1 S1/\Kp H H1/\dL ok p gg (mE ge) k (ds.drop i) acc L1 S1,⟨ds.length,by simp,Kf _,[],L,_,hL.kp (Kp.new hp),hS.newL hp IsDs.nil,Kp.new hp,h⟩,?_⟩
 rintro i m σ1 H1 ⟨rfl,hi,acc,L1,S1,hL1,hS1,k1,w1⟩
 by_cases hlt:i < ds.length
 ·have e:ds.drop i=ds[i]::ds.drop (i+1):=Kd hlt;rw [e] at w1;obtain⟨o1,w1⟩:=w1;obtain⟨g1,y1⟩:=hgo i ds[i] S1 H1 (by simp [hlt]) k1 hS1 o1
  refine .inr ⟨g1,fun σ' H'=>i+1<=ds.length/\∃ acc L' S',Lc K H' L' σ'/\Hs K H' S'/\Kp H H'/\dL ok p gg (mE ge) k (ds.drop (i+1)) acc L' S',fun σ' H' z9=>by obtain⟨q1,q2⟩:=z9; exact⟨ds.length - (i+1),by omega,rfl,q1,q2⟩,λx H' y=>?_⟩
  obtain⟨rfl,ix⟩:=y1 x H' y;refine⟨ds[i],L1,S1,_,ix,hL1,hS1,w1,λL2 S2 σ2 H2 q k2 hL2 hS2=>up.go hL2 hS2 q λd S3 v H3 h3 k3 hL3 hS3 i3=>?_⟩
  obtain⟨z1,z2,z3⟩:=h3;obtain⟨xs,hl,j⟩:=hS3.lst z1;have k4:Kp H3 (cb H3 p (.lst (xs++[v]))):=Kp.mut hl (λz=>z)
  exact⟨xs,hl,by rw [<- j.length]; exact z2,hlt,_,L2,_,hL3.kp k4,hS3.setL hl (j.append (IsDs.cons i3 IsDs.nil)),((k1.trans k2).trans k3).trans k4,z3⟩
 ·have e:i=ds.length:=by omega
  subst e;rw [List.drop_length] at w1;obtain⟨o1,w1⟩:=w1;exact .inl ⟨hst S1 H1 k1 hS1 o1,n _ S1 _ H1 w1 k1 hS1 (df.mpr rfl)⟩
theorem oh (hL:Lc K H L σ) (hS:Hs K H S) (hp:H p=none) (h:dL ok p gg (BG gc ge) k ds [] L (put S p (.lst [])))
  (n:∀ d S' v H',k d S'->Kp H H'->Hs K H' S'->cn K H' d v->Q v H')
  (hgo:∀ i d S1 H1,ds[i]?=some d->Kp H H1->Hs K H1 S1->ok S1->J.go i H1/\∀ x H',J.yld i H1 x H'->H'=H1/\cn K H1 d x)
  (hst:∀ S1 H1,Kp H H1->Hs K H1 S1->ok S1->J.stop ds.length H1):
  ∃ W:Nat->Nat->L2.St->Hp->Prop,(∃ m,W 0 m σ (cb H p (.lst [])))/\∀ i m σ' H',W i m σ' H'->
   (J.stop i H'/\Q (.ref p) H')\/(J.go i H'/\∃ N:L2.St->Hp->Prop,(∀ σ2 H2,N σ2 H2->∃ m',m' < m/\W (i+1) m' σ2 H2)/\∀ x H2,J.yld i H' x H2->Fy K gg x σ' H2 fun σ3 H3=>yf K gc σ3 H3 λb H3'=>if b=true then up K ge σ3 H3' λv H4=>∃ ys,H4 p=some (.lst ys)/\ys.length < sizeLine/\N σ3 (cb H4 p (.lst (ys++[v]))) else N σ3 H3'):=by
 refine⟨λi m σ1 H1=>m=ds.length - i/\i<=ds.length/\∃ acc L1 S1,Lc K H1 L1 σ1/\Hs K H1 S1/\Kp H H1/\dL ok p gg (BG gc ge) k (ds.drop i) acc L1 S1,⟨ds.length,by simp,Kf _,[],L,_,hL.kp (Kp.new hp),hS.newL hp IsDs.nil,Kp.new hp,h⟩,?_⟩
 rintro i m σ1 H1 ⟨rfl,hi,acc,L1,S1,hL1,hS1,k1,w1⟩
 by_cases hlt:i < ds.length
 ·have e:ds.drop i=ds[i]::ds.drop (i+1):=Kd hlt;rw [e] at w1;obtain⟨o1,w1⟩:=w1;obtain⟨g1,y1⟩:=hgo i ds[i] S1 H1 (by simp [hlt]) k1 hS1 o1
  refine .inr ⟨g1,fun σ' H'=>i+1<=ds.length/\∃ acc L' S',Lc K H' L' σ'/\Hs K H' S'/\Kp H H'/\dL ok p gg (BG gc ge) k (ds.drop (i+1)) acc L' S',fun σ' H' z9=>by obtain⟨q1,q2⟩:=z9; exact⟨ds.length - (i+1),by omega,rfl,q1,q2⟩,λx H' y=>?_⟩
  obtain⟨rfl,ix⟩:=y1 x H' y;refine⟨ds[i],L1,S1,_,ix,hL1,hS1,w1,λL2 S2 σ2 H2 q k2 hL2 hS2=>yf.go hL2 hS2 q λb S2' H2' h2 k2' hL2' hS2'=>?_⟩
  cases b with
  | true=>
   rw [if_pos rfl] at h2 ⊢;refine up.go hL2' hS2' h2 λd S3 v H3 h3 k3 hL3 hS3 i3=>?_
   obtain⟨z1,z2,z3⟩:=h3;obtain⟨xs,hl,j⟩:=hS3.lst z1;have k4:Kp H3 (cb H3 p (.lst (xs++[v]))):=Kp.mut hl (λz=>z)
   exact⟨xs,hl,by rw [<- j.length]; exact z2,hlt,_,L2,_,hL3.kp k4,hS3.setL hl (j.append (IsDs.cons i3 IsDs.nil)),(((k1.trans k2).trans k2').trans k3).trans k4,z3⟩
  | false=>
   rw [if_neg Jz] at h2 ⊢;exact⟨hlt,acc,L2,S2',hL2',hS2',(k1.trans k2).trans k2',h2⟩
 ·have e:i=ds.length:=by omega
  subst e;rw [List.drop_length] at w1;obtain⟨o1,w1⟩:=w1;exact .inl ⟨hst S1 H1 k1 hS1 o1,n _ S1 _ H1 w1 k1 hS1 (df.mpr rfl)⟩
end
theorem AT {K:Fg} {H:Hp} {n:Int}:∀ i d (S1:DH) H1,((List.range n.toNat).map λi=>D.int (i:Nat))[i]?=some d->Kp H H1->Hs K H1 S1->(λ_=>True:DH->Prop) S1->(FW 0 n.toNat).go i H1/\∀ x H',(FW 0 n.toNat).yld i H1 x H'->H'=H1/\cn K H1 d x:=by
 intro i d S1 H1 e _ _ _;rw [JX] at e;cases q:(List.range (Int.toNat _))[i]? with
 | none=>rw [q] at e; cases e
 | some z=>
  rw [q] at e;cases e;obtain⟨hz1,hz2⟩:=J4.mp q;rw [List.length_range] at hz1;rw [List.getElem_range] at hz2;subst hz2;exact⟨hz1,λx H' y=>⟨y.1,by rw [y.2]; exact isInt.mpr (by rw [Int.zero_add])⟩⟩
def mq (K:Fg) (mg:Str->Ks Kq) (x:Str) (ns:List Int):Prop:=∃ p o its n,mg x=some (.ref p)/\K.lookup p=some o/\o.cls=.type "tuple"/\o.data=.seq its n/\its.size<=sizeLine/\bu (ns.map V.int) its.toList
theorem rm {K:Fg} {H:Hp}:∀ ns:List Int,IsDs K H (ns.map D.int) (ns.map V.int)
 | []=>IsDs.nil
 | _::ns=>IsDs.cons (isInt.mpr rfl) (rm ns)
theorem eJ {X:Cx} {x:Str} {ns:List Int} {pos:Pos} (g:mq X.K X.mg x ns) (hg:Gl X x) (hd:(x == ("__debug__":Str))=false:=by decide):EJ X (.Name x pos) (dC (.tup (ns.map D.int))):=by
 obtain⟨p,o,its,n,hm,h1,h2,h3,h4,h5⟩:=g;exact⟨Dt (wZ (v:=.ref p) hg hm rfl hd) λH=>cr.mpr ⟨p,_,rfl,.inr ⟨o,its,n,h1,h2,h3,h4,h5⟩,rm ns⟩⟩
theorem jy.imp {K:Fg} {r r':D2} (i:∀ d e S k,r' d e S k->r d e S k):∀ x y H Q,jy K r' x y H Q->jy K r x y H Q:=λx y H Q z9=>by obtain⟨d,e,S,k,a,b,c,h,n⟩:=z9; exact⟨d,e,S,k,a,b,c,i d e S k h,n⟩
theorem u9.imp {K:Fg} {r r':cH} (i:∀ ds S k,r' ds S k->r ds S k):∀ xs H Q,u9 K r' xs H Q->u9 K r xs H Q:=λxs H Q z9=>by obtain⟨ds,S,k,a,b,h,n⟩:=z9; exact⟨ds,S,k,a,b,i ds S k h,n⟩
theorem yt.imp {X:Cx} {r r':R2} (h:yt X r) (i:∀ x y H Q,r' x y H Q->r x y H Q):yt X r':=λvalue slice KD s σ H x y v u Q I rx ry q=>h value slice KD s σ H x y v u Q I rx ry (i x y H Q q)
theorem eR.imp {X:Cx} {f:Kq} {r r':List V->Hp->VK->Prop} (h:eR X f r) (i:∀ xs H Q,r' xs H Q->r xs H Q):eR X f r':=λKD s σ H xs us Q I rs q=>h KD s σ H xs us Q I rs (i xs H Q q)
def Dw:D2:=λd e S k=>match d,e with
 | .tup ds,.int i=>(match L2.atI ds i with
  | some c=>k c S
  | none=>False)
 | .rl ds,.int i=>∃ c,L2.atI ds i=some c/\k c S
 | .ref a,.int i=>∃ ds c,S a=some (.lst ds)/\L2.atI ds i=some c/\k c S
 | _,_=>False
theorem fB {X:Cx}:yt X (jy X.K Dw):=yt.imp Gj (jy.imp λd e S k h=>by
 unfold Dw at h
 split at h
 ·exact h
 ·obtain⟨c,h1,h2⟩:=h;simp only [tR,h1];exact h2
 ·obtain⟨ds,c,h0,h1,h2⟩:=h;simp only [tR,h0,h1];exact h2
 ·exact h.elim)
theorem bh {X:Cx} {x:Str} {p1 p2 pos:Pos} {c:Int} {j} (n:Nat) (hN:X.N[n]?=some x:=by rfl) (hv:u7 X.env.scope x:=by first | exact Or.inl rfl | exact Or.inr (Or.inl rfl) | exact Or.inr (Or.inr rfl)) (hd:(x == ("__debug__":Str))=false:=by decide) (hcd:(x == ("__classdict__":Str))=false:=by decide):EJ X (.Subscript (.Name x p1) (.Constant (.int c) j p2) pos) (EB Dw (Ar n) (dC (.int c))):=bb fB (ah n hN hv hd hcd) aq Zf
def CZ:cH:=λds S k=>match ds with
 | [.tup xs]=>k (.int xs.length) S
 | [.rl xs]=>k (.int xs.length) S
 | [.ref a]=>∃ xs,S a=some (.lst xs)/\k (.int xs.length) S
 | _=>False
theorem eI {X:Cx}:eR X (.builtin "len") (u9 X.K CZ):=eR.imp GP (u9.imp λds S k h=>by
 unfold CZ at h
 split at h
 ·exact h
 ·exact h
 ·obtain⟨xs,h1,h2⟩:=h;simp only [Ek,h1];exact h2
 ·exact h.elim)
def Gw (gi:DE) (g:DG) (b:DS):DS:=λM L S=>gi L S λd S1=>∃ p,aT S1 d=some p/\iG (eE p) g b M p.1 L S1
def yu (n:Nat) (t:A5):DG:=λd L S k=>∃ p,aT S d=some p/\p.1.length=n/\t p.1 L S k
theorem GJ.imp {X:Cx} {e:Kt} {g g':DG} (h:GJ X e g) (i:∀ d L S k,g' d L S k->g d L S k):GJ X e g':=⟨PG.imp h.h λv σ H Q z9=>by obtain⟨d,L,S,k,a,hL,hS,q,n⟩:=z9; exact⟨d,L,S,k,a,hL,hS,i d L S k q,n⟩⟩
theorem dQ {X:Cx} {pos:Pos} {es:List Kt} {k:Nat} {t:A5} {n:Nat} (hc:X.calm=true) (h:G6 X es t) (hn:(assignEach es X.env).length=n:=by rfl) (hst:(assignEach es X.env).findIdx? (·.1)=none:=by rfl):GJ X (.Tuple es k pos) (yu n t):=
 GJ.imp (Dy hc h hn hst) λd L S k ⟨p,h1,h2⟩=>by
  simp only [mm,h1];exact h2
section
variable {X:Cx} {pos:Pos}
def EC (go gi:DE):DG:=λd L S k=>go L S λo S1=>gi L S1 λi S2=>match o,i with
 | .ref a,.int j=>∃ ds n,S2 a=some (.lst ds)/\yQ ds.length j=some n/\k L (put S2 a (.lst (ds.set n d)))
 | _,_=>False
theorem wU {o i:Kt} {go gi:DE} (ho:EJ X o go) (hi:EJ X i gi)
  (ha:∀ v,assign (.Subscript o i pos) X.env v=(do
   let ov <- holding [v] (eval o X.env)
   let iv <- holding [v,ov] (eval i X.env)
   standAt pos
   holding [v,ov,iv] (setItem ov iv v)
   release [v,ov,iv] []):=by intro _; rfl):GJ X (.Subscript o i pos) (EC go gi):=
 ⟨PG.imp (Fm ho.h hi.h yY ha) λv σ H Q ⟨d,L,S,k,i1,hL,hS,h,n⟩=>up.go hL hS h λc S1 u H1 h1 k1 hL1 hS1 j1=>up.go hL1 hS1 h1 λc2 S2 u2 H2 h2 k2 hL2 hS2 j2=>by
  cases c with
  | ref a=>
   cases c2 with
   | int z=>
    have e1:=df.mp j1;have e2:=isInt.mp j2;subst e1;subst e2;obtain⟨ds,m,w,q,h2⟩:=h2;obtain⟨vs,hl,j⟩:=hS2.lst w;refine⟨a,vs,z,m,rfl,rfl,hl,by rw [<- j.length]; exact q,?_⟩
    have k3:Kp H2 (cb H2 a (.lst (vs.set m v))):=Kp.mut hl (λz=>z)
    exact n L _ σ _ h2 (k1.trans (k2.trans k3)) (hL2.kp k3) (hS2.setL hl (j.set m (i1.kp (k1.trans k2))))
   | _=>exact(show False from h2).elim
  | _=>exact(show False from h2).elim⟩
theorem nP {K:Fg} {S1:DH} {H1:Hp} {d:D} {v:V} {p:List D×Ks Kr} (hS1:Hs K H1 S1) (i1:cn K H1 d v) (hp:aT S1 d=some p):∃ a,v=.ref a/\
  (((∃ xs, jE K H1 a xs) ∧ (∀ i c S2 H2, p.1[i]? = some c → Kp H1 H2 → Hs K H2 S2 → eE p S2 → (Ga K a).go i H2 ∧ ∀ x H', (Ga K a).yld i H2 x H' → H' = H2 ∧ cn K H2 c x) ∧ ∀ S2 H2, Kp H1 H2 → Hs K H2 S2 → eE p S2 → (Ga K a).stop p.1.length H2) ∨
   ((∃ xs,ka K H1 a xs)/\(∀ i c S2 H2,p.1[i]?=some c->Kp H1 H2->Hs K H2 S2->eE p S2->(GS K a).go i H2/\∀ x H',(GS K a).yld i H2 x H'->H'=H2/\cn K H2 c x)/\∀ S2 H2,Kp H1 H2->Hs K H2 S2->eE p S2->(GS K a).stop p.1.length H2)):=by
 cases d with
 | tup ds=>
  cases hp;obtain⟨a,xs,rfl,t,j⟩:=cr.mp i1;refine⟨a,rfl,.inr ⟨⟨xs,t⟩,λi d S2 H2 e k2 hS2 _=>?_,λS2 H2 k2 hS2 _=>⟨xs,k2.tup t,by rw [<- j.length]; exact Jw _⟩⟩⟩
  obtain⟨w,e1,e2⟩:=j.get e;refine⟨⟨xs,w,k2.tup t,e1⟩,λx H' y=>⟨y.1,?_⟩⟩
  have z:=y.2 xs (k2.tup t);rw [e1] at z;cases z;exact e2.kp k2
 | rl ds=>
  cases hp;obtain⟨a,xs,rfl,t,j⟩:=uB.mp i1;refine⟨a,rfl,.inl ⟨⟨xs,t.sq⟩,λi d S2 H2 e k2 hS2 _=>?_,λS2 H2 k2 hS2 _=>⟨xs,(k2.fro t).sq,by rw [<- j.length]; exact Jw _⟩⟩⟩
  obtain⟨w,e1,e2⟩:=j.get e;refine⟨⟨xs,w,(k2.fro t).sq,e1⟩,λx H' y=>⟨y.1,?_⟩⟩
  have z:=y.2 xs (k2.fro t).sq;rw [e1] at z;cases z;exact e2.kp k2
 | ref a=>
  have e1:=df.mp i1;subst e1;cases z:S1 a with
  | none=>simp only [aT,z] at hp; cases hp
  | some o=>
   cases o with
   | dic=>simp only [aT,z] at hp; cases hp
   | exc _=>simp only [aT,z] at hp; cases hp
   | fn _=>simp only [aT,z] at hp; cases hp
   | tbl _=>simp only [aT,z] at hp; cases hp
   | gen _=>simp only [aT,z] at hp; cases hp
   | lst ds=>
    simp only [aT,z] at hp;cases hp;obtain⟨xs,hl,j⟩:=hS1.lst z;refine⟨a,rfl,.inl ⟨⟨xs,jE.of hl⟩,λi d S2 H2 e k2 hS2 o2=>?_,λS2 H2 k2 hS2 o2=>?_⟩⟩
    ·obtain⟨ys,hl2,j2⟩:=hS2.lst o2;obtain⟨w,e1,e2⟩:=j2.get e;refine⟨⟨ys,w,jE.of hl2,e1⟩,λx H' y=>⟨y.1,?_⟩⟩
     have q:=y.2 ys (jE.of hl2);rw [e1] at q;cases q;exact e2
    ·obtain⟨ys,hl2,j2⟩:=hS2.lst o2;exact⟨ys,jE.of hl2,by rw [<- j2.length]; exact Jw _⟩
 | _=>cases hp
theorem dI {tg iter:Kt} {body:List Ky} {gi:DE} {gg:DG} {g:DS} (hp:PassesOwn (model X.prog X.w) X.A X.env X.xe) (hc:X.calm=true) (hi:EJ X iter gi) (hg:GJ X tg gg) (hb:vW X body g)
  (hs:∀ x,foldedSetIterable iter X.env x=pure x:=by intro _; rfl):SJ X (.For tg iter body [] pos) (Gw gi gg g):=
 ⟨PS.imp (sK hp hc (vh hi.h) hg.h hb.h hs) λN σ H ⟨L,S,M,hL,hS,h,r⟩=>up.go hL hS h λd S1 v H1 h1 k1 hL1 hS1 i1=>by
  obtain⟨p,hp,h1⟩:=h1;obtain⟨a,e,q⟩:=nP hS1 i1 hp;refine⟨a,e,?_⟩;rcases q with ⟨q1,q2,q3⟩ | ⟨q1,q2,q3⟩
  ·exact .inl ⟨q1,pY hL1 hS1 h1 (r.kp k1) q2 q3⟩
  ·exact .inr ⟨q1,pY hL1 hS1 h1 (r.kp k1) q2 q3⟩⟩
def yO (cap:List (Ks Nat)) (gi:DE) (g:DG) (bd:DB):DE:=λL S k=>gi L S λd S1=>∃ q,aT S1 d=some q/\∀ p,S1 p=none->dL (eE q) p g bd k q.1 [] (zx cap L) (put S1 p (.lst []))
theorem mB {elt tg iter:Kt} {scope:Scope} {cl:List (Str×Kr)} {N:List Str} {cap:List (Ks Nat)} {gg:DG} {ge gi:DE} (hc:X.calm=true) (Sc:g_ X scope cl N cap) (hi:EJ X iter gi) (hg:∀ s0 H0 ex C,GJ (kl X scope cl N s0 H0 ex C) tg gg) (he:∀ s0 H0 ex C,EJ (kl X scope cl N s0 H0 ex C) elt ge)
  (hs:∀ x,foldedSetIterable iter X.env x=pure x:=by intro _; rfl):EJ X (.ListComp elt [⟨tg,iter,[],0⟩] scope pos) (yO cap gi gg (mE ge)):=
 ⟨PE.imp (wy hc Sc (vh hi.h) (λs0 H0 ex C=>(hg s0 H0 ex C).h) (λs0 H0 ex C=>(he s0 H0 ex C).h) hs) fun σ H Q ⟨L,S,k,hL,hS,h,n⟩=>up.go hL hS h λd S1 v H1 h1 k1 hL1 hS1 i1=>by
  obtain⟨p,hp,h1⟩:=h1;obtain⟨a,e,q⟩:=nP hS1 i1 hp;refine⟨a,e,?_⟩;have n':∀ d S' v H',k d S'->Kp H1 H'->Hs X.K H' S'->cn X.K H' d v->Q v H':=λd S' v H' q k3=>n d S' v H' q (k1.trans k3)
  rcases q with ⟨q1,q2,q3⟩ | ⟨q1,q2,q3⟩
  ·exact .inl ⟨q1,λD hD=>ny (hL1.cap cap) hS1 hD (h1 D (hS1.free hD)) n' q2 q3⟩
  ·exact .inr ⟨q1,λD hD=>ny (hL1.cap cap) hS1 hD (h1 D (hS1.free hD)) n' q2 q3⟩⟩
end
end DL
namespace L2
open PySem PySem.Spec PyProof.Rows
structure ip (P:Ku) (w:Kw) (it l:Kr) (st:Nat->Kx->Prop) (sq:Kz Kq->Kx->Prop):Prop where
 at_:∀ k h h',st k h->(∀ o,h.get? it=some o->h'.get? it=some o)->st k h'
 sqAt:∀ xs h h',sq xs h->(∀ o,h.get? l=some o->h'.get? l=some o)->sq xs h'
 obj:∀ k h,st k h->∃ o,h.get? it=some o/\∀ v,o.data≠.cell v
 item:∀ (A:Kv) (k:Nat) (s:Ko) (xs:Kz Kq) (x:Kq) (Q:Kq->Ko->Prop) (E:Kq->Ko->Prop),st k s.heap->sq xs s.heap->xs[k]?=some x->
  (∀ h',st (k+1) h'->Heap.SameBut it s.heap h'->Q x {s with heap:=h'})->wpAny (model P w) A (Builtin.SmallTypes.nextOf (.ref it)) Q E s
 fin:∀ (A:Kv) (k:Nat) (s:Ko) (xs:Kz Kq) (Q:Kq->Ko->Prop) (E:Kq->Ko->Prop),A.handled=none->st k s.heap->sq xs s.heap->xs[k]?=none->
  (∀ h' e,Heap.ExtBut it s.heap h'->(∃ o,h'.get? e=some o/\o.cls=.type "StopIteration")->E (.ref e) {s with heap:=h'})->wpAny (model P w) A (Builtin.SmallTypes.nextOf (.ref it)) Q E s
theorem ip.list {P:Ku} {w:Kw} (it l:Kr):ip P w it l (λk h=>h.IsListIter it l k) (λxs h=>h.IsList l xs) where
 at_:=λ_ _ _ x y=>x.at y
 sqAt:=λ_ _ _ x y=>x.at y
 obj:=λ_ _ z9=>by obtain⟨o,e,_,d⟩:=z9; exact⟨o,e,λv z=>by rw [d] at z; cases z⟩
 item:=λ_ _ _ _ _ _ _ a b c d=>wpAny_nextOf_list_item a b c d
 fin:=λ_ _ _ _ _ _ hh a b c d=>wpAny_nextOf_list_end hh a b c d
section
variable {prog:Ku} {w:Kw} {A:Kv} {E:Kq->Ko->Prop} {s:Ko}
theorem m5 {it t:Kr} {i:Nat} {items} {x:Kq} {Q:Kq->Ko->Prop} (hit:s.heap.IsTupleIter it t i) (ht:s.heap.IsTuple t items) (hx:items[i]?=some x)
  (hQ:∀ h',h'.IsTupleIter it t (i+1)->Heap.SameBut it s.heap h'->Q x {s with heap:=h'}):wpAny (model prog w) A (Builtin.SmallTypes.nextOf (.ref it)) Q E s:=by
 obtain⟨o,ho,hc,hd⟩:=id hit;obtain⟨ol,hol,_,nl,hdl⟩:=ht;unfold Builtin.SmallTypes.nextOf;refine gt (Kj (name:=Str.ofString "__next__") hit.typeIs F.slot_tuple_iterator_next (Kb F.slot_tuple_iterator_next hit.typeIs F.entry_tuple_iterator_next ?_ (F.args_tuple_iterator_next_1 _)))
 refine gt (m:=field (.ref it) 0) (J6 ho hd (x:=.ref t) rfl ?_)
 show wpAny _ _ (if (Value.ref t == Value.none)=true then _ else _) _ _ s
 rw [if_neg (show ¬ ((Value.ref t == Value.none)=true) from Jz)]
 refine gt (m:=field (.ref it) 1) (J6 ho hd (x:=.int i 0) rfl ?_);refine gt (m:=seqItems? (.ref t)) (J1 hol hdl ?_);simp only [Int.toNat_natCast,hx];refine gt (wpAny_setField ho hd (by simp) (Js ⟨x,rfl,Js (hQ _ ⟨_,J_ _ ho (Obj.isFreed_of_fields (Obj.data_mapFields hd _)),(Obj.cls_mapFields ..).trans hc,?_⟩ (Heap.SameBut.update ..))⟩))
 rw [Obj.data_mapFields hd];simp [rawInt]
theorem nQ {it t:Kr} {i:Nat} {items} {Q:Kq->Ko->Prop} (hh:A.handled=none) (hit:s.heap.IsTupleIter it t i) (ht:s.heap.IsTuple t items) (hx:items[i]?=none)
  (hE:∀ h' e,Heap.ExtBut it s.heap h'->(∃ o,h'.get? e=some o/\o.cls=.type "StopIteration")->E (.ref e) {s with heap:=h'}):wpAny (model prog w) A (Builtin.SmallTypes.nextOf (.ref it)) Q E s:=by
 obtain⟨o,ho,hc,hd⟩:=id hit;obtain⟨ol,hol,_,nl,hdl⟩:=ht;unfold Builtin.SmallTypes.nextOf;refine gt (Kj (name:=Str.ofString "__next__") hit.typeIs F.slot_tuple_iterator_next (Kb F.slot_tuple_iterator_next hit.typeIs F.entry_tuple_iterator_next ?_ (F.args_tuple_iterator_next_1 _)))
 refine gt (m:=field (.ref it) 0) (J6 ho hd (x:=.ref t) rfl ?_)
 show wpAny _ _ (if (Value.ref t == Value.none)=true then _ else _) _ _ s
 rw [if_neg (show ¬ ((Value.ref t == Value.none)=true) from Jz)]
 refine gt (m:=field (.ref it) 1) (J6 ho hd (x:=.int i 0) rfl ?_);refine gt (m:=seqItems? (.ref t)) (J1 hol hdl ?_);simp only [Int.toNat_natCast,hx];refine gt (wpAny_rule (gt (wpAny_setField ho hd (by simp) ?_)))
 refine gt (m:=newExc (.type "StopIteration") []) ?_
 simp only [newExc,newTuple];refine gt (JW ?_ (by size_fits))
 refine gt (m:=firstArgMember _ _) (wpAny_of_eq (a:=Value.none) (by first | rfl | (simp only [firstArgMember]; rfl)) ?_)
 refine JW ?_ (by size_fits)
 simp only [raiseNew];refine gt (wpAny_handled ?_)
 first | rw [show A.in1.handled=none from hh] | rw [hh]
 exact gt (Js (wpAny_throw (hE _ _ (((Heap.SameBut.update ..).extBut.push _).push _) ⟨_,Jt _ rfl,rfl⟩)))
end
theorem ip.tuple {P:Ku} {w:Kw} (it l:Kr):ip P w it l (λk h=>h.IsTupleIter it l k) (λxs h=>h.IsTuple l xs) where
 at_:=λ_ _ _ x y=>x.at y
 sqAt:=λ_ _ _ x y=>x.at y
 obj:=λ_ _ z9=>by obtain⟨o,e,_,d⟩:=z9; exact⟨o,e,λv z=>by rw [d] at z; cases z⟩
 item:=λ_ _ _ _ _ _ _ a b c d=>m5 a b c d
 fin:=λ_ _ _ _ _ _ hh a b c d=>nQ hh a b c d
section
variable {prog:Ku} {w:Kw} {A:Kv} {E:Kq->Ko->Prop} {s:Ko} {z TI TO i1 i2 l1 l2:Kr} {st1 st2:Nat->Kx->Prop} {sq1 vZ:Kz Kq->Kx->Prop} {k1 k2:Nat} {xs ys:Kz Kq} {x y a b:Kq}
theorem zV {Q:Kq->Ko->Prop} (G1:ip prog w i1 l1 st1 sq1) (G2:ip prog w i2 l2 st2 vZ) (D:ZipApart z TI TO i1 i2 l1 l2) (hz:IsZip s.heap z TI TO .none) (hTI:IsPair s.heap TI (.ref i1) (.ref i2)) (hTO:IsPair s.heap TO a b)
  (h1:st1 k1 s.heap) (h2:st2 k2 s.heap) (hl1:sq1 xs s.heap) (hl2:vZ ys s.heap) (hx:xs[k1]?=some x) (hy:ys[k2]?=some y)
  (hQ:∀ h',IsZip h' z TI TO (rawInt s.heap.objs.size)->IsPair h' TO x y->st1 (k1+1) h'->st2 (k2+1) h'->IsPair h' s.heap.objs.size x y->h'.objs.size=s.heap.objs.size+1->
   (∀ c o,c≠z->c≠TO->c≠i1->c≠i2->s.heap.get? c=some o->h'.get? c=some o)->Q (.ref s.heap.objs.size) {s with heap:=h'}):
  wpAny (model prog w) A (Builtin.«zip.__next__» ⟨[.ref z],[]⟩) (λfin s'=>∃ v,fin=.done (.ret v)/\Q v s') E s:=by
 refine gt (m:=field (.ref z) 2) (J6 hz rfl (x:=.bool false) rfl ?_);refine gt (m:=field (.ref z) 3) (J6 hz rfl (x:=.ref TI) rfl ?_);refine gt (J1 hTI rfl ?_);refine gt (m:=Builtin.SmallTypes.ownedTupleIsFree (.ref z)) ?_;unfold Builtin.SmallTypes.ownedTupleIsFree;refine gt (J6 hz rfl (x:=.none) rfl (Js ?_));simp only [if_true];refine gt (wpAny_rule ?_);refine gt (J6 hz rfl (x:=.ref TO) rfl ?_);refine gt (JT hz (by simp) λg1 z1 e1=>?_)
 replace z1:IsZip g1 z TI TO .ellipsis:=z1;refine gt ?_;simp only [List.zipIdx_cons,List.zipIdx_nil,List.forIn_cons,List.forIn_nil];refine gt (gt (wpAny_onRaise ?_));refine gt (m:=Builtin.SmallTypes.nextOf (.ref i1)) (G1.item _ _ _ _ _ _ _ (G1.at_ _ _ _ h1 λo q=>e1.extBut _ _ D.i1z q) (G1.sqAt _ _ _ hl1 λo q=>e1.extBut _ _ D.l1z q) hx λg2 t1 e2=>Js ?_)
 have o2:IsPair g2 TO a b:=e2.extBut _ _ D.TOi1 (e1.extBut _ _ D.TOz hTO);refine gt (J1 o2 rfl ?_);refine gt (wpAny_updateSeq_pair o2 λg3 o3 e3=>?_)
 replace o3:IsPair g3 TO x b:=o3;refine gt (wpAny_letGo (Js ?_));refine gt (gt (wpAny_onRaise ?_));refine gt (m:=Builtin.SmallTypes.nextOf (.ref i2)) (G2.item _ _ _ _ _ _ _ (G2.at_ _ _ _ h2 λo q=>e3.extBut _ _ D.TOi2.symm (e2.extBut _ _ D.i12.symm (e1.extBut _ _ D.i2z q)))
  (G2.sqAt _ _ _ hl2 λo q=>e3.extBut _ _ D.l2TO (e2.extBut _ _ D.l2i1 (e1.extBut _ _ D.l2z q))) hy λg4 t2 e4=>Js ?_)
 have o4:IsPair g4 TO x b:=e4.extBut _ _ D.TOi2 o3;refine gt (J1 o4 rfl ?_);refine gt (wpAny_updateSeq_pair o4 λg5 o5 e5=>?_)
 replace o5:IsPair g5 TO x y:=o5;refine gt (wpAny_letGo (Js (Js ?_)));refine gt (J1 o5 rfl ?_);refine gt (wpAny_newTuple ?_);have hsz:g5.objs.size=s.heap.objs.size:=by rw [e5.1,e4.1,e3.1,e2.1,e1.1]
 have z5:IsZip g5 z TI TO .ellipsis:=e5.extBut _ _ D.TOz.symm (e4.extBut _ _ D.i2z.symm (e3.extBut _ _ D.TOz.symm (e2.extBut _ _ D.i1z.symm z1)));have kk:∀ c o,c≠z->c≠TO->c≠i1->c≠i2->s.heap.get? c=some o->g5.get? c=some o:=λc o c1 c2 c3 c4 e=>
  e5.extBut _ _ c2 (e4.extBut _ _ c4 (e3.extBut _ _ c2 (e2.extBut _ _ c3 (e1.extBut _ _ c1 e))))
 have t15:st1 (k1+1) g5:=G1.at_ _ _ _ t1 λo q=>e5.extBut _ _ D.TOi1.symm (e4.extBut _ _ D.i12 (e3.extBut _ _ D.TOi1.symm q))
 have t25:st2 (k2+1) g5:=G2.at_ _ _ _ t2 λo q=>e5.extBut _ _ D.TOi2.symm q
 have hzlt:z < g5.objs.size:=Jv z5;refine gt (m:=Builtin.SmallTypes.ownedTupleHandOut (.ref z) (.ref g5.objs.size)) ?_;unfold Builtin.SmallTypes.ownedTupleHandOut;have z6:IsZip (g5.push {cls:=.type "tuple",data:=.seq #[x,y]}) z TI TO .ellipsis:=pp _ z5
 refine gt (JT z6 (by simp) λg7 z7 e7=>?_)
 replace z7:IsZip g7 z TI TO (rawInt g5.objs.size):=z7;refine JT z7 (by simp) λg8 z8 e8=>?_
 replace z8:IsZip g8 z TI TO (rawInt g5.objs.size):=z8;have up:∀ c o,c≠z->g5.get? c=some o->g8.get? c=some o:=λc o c1 e=>e8.extBut _ _ c1 (e7.extBut _ _ c1 (pp _ e))
 have t8:IsPair g8 g5.objs.size x y:=e8.extBut _ _ (Nat.ne_of_gt hzlt) (e7.extBut _ _ (Nat.ne_of_gt hzlt) (Jt _ rfl));have n8:g8.objs.size=g5.objs.size+1:=by rw [e8.1,e7.1,Kh]
 rw [hsz] at z8 t8 n8
 refine Js ⟨_,rfl,?_⟩
 show Q (.ref g5.objs.size) _
 rw [hsz];exact hQ g8 z8 (up _ _ D.TOz o5) (G1.at_ _ _ _ t15 λo e=>up _ o D.i1z e) (G2.at_ _ _ _ t25 λo e=>up _ o D.i2z e) t8 n8 λc o c1 c2 c3 c4 e=>up c o c1 (kk c o c1 c2 c3 c4 e)
theorem CL {Q:Fin->Ko->Prop} (G1:ip prog w i1 l1 st1 sq1) (G2:ip prog w i2 l2 st2 vZ) (hh:A.handled=none) (D:ZipApart z TI TO i1 i2 l1 l2) (hz:IsZip s.heap z TI TO .none) (hTI:IsPair s.heap TI (.ref i1) (.ref i2)) (hTO:IsPair s.heap TO a b)
  (h1:st1 k1 s.heap) (h2:st2 k2 s.heap) (hl1:sq1 xs s.heap) (hl2:vZ ys s.heap) (hend:xs[k1]?=none\/ys[k2]?=none)
  (hE:∀ h' e,(∀ c o,c≠z->c≠TO->c≠i1->c≠i2->s.heap.get? c=some o->h'.get? c=some o)->(∃ o,h'.get? e=some o/\o.cls=.type "StopIteration")->E (.ref e) {s with heap:=h'}):
  wpAny (model prog w) A (Builtin.«zip.__next__» ⟨[.ref z],[]⟩) Q E s:=by
 refine gt (m:=field (.ref z) 2) (J6 hz rfl (x:=.bool false) rfl ?_);refine gt (m:=field (.ref z) 3) (J6 hz rfl (x:=.ref TI) rfl ?_);refine gt (J1 hTI rfl ?_);refine gt (m:=Builtin.SmallTypes.ownedTupleIsFree (.ref z)) ?_;unfold Builtin.SmallTypes.ownedTupleIsFree;refine gt (J6 hz rfl (x:=.none) rfl (Js ?_));simp only [if_true];refine gt (wpAny_rule ?_);refine gt (J6 hz rfl (x:=.ref TO) rfl ?_);refine gt (JT hz (by simp) λg1 z1 e1=>?_)
 replace z1:IsZip g1 z TI TO .ellipsis:=z1;refine gt ?_;simp only [List.zipIdx_cons,List.zipIdx_nil,List.forIn_cons,List.forIn_nil];refine gt (gt (wpAny_onRaise ?_));have a1:=G1.at_ _ _ g1 h1 λo q=>e1.extBut _ _ D.i1z q
 have b1:=G1.sqAt _ _ g1 hl1 λo q=>e1.extBut _ _ D.l1z q
 cases hx:xs[k1]? with
 | none=>
  refine gt (m:=Builtin.SmallTypes.nextOf (.ref i1)) (G1.fin _ _ _ _ _ _ hh a1 b1 hx λg2 e e2 he=>?_)
  obtain⟨oe,hoe,hce⟩:=he;have z2:IsZip g2 z TI TO .ellipsis:=e2 _ _ D.i1z.symm z1;have hez:e≠z:=λx=>by subst x; rw [z2] at hoe; cases hoe; simp at hce
  exact JT z2 (by simp) λg3 _ e3=>hE g3 e (λc o c1 _ c3 _ x=>e3.extBut _ _ c1 (e2 _ _ c3 (e1.extBut _ _ c1 x))) ⟨oe,e3.extBut _ _ hez hoe,hce⟩
 | some x=>
  have hy:ys[k2]?=none:=by rcases hend with h | h; rw [hx] at h; cases h; exact h
  refine gt (m:=Builtin.SmallTypes.nextOf (.ref i1)) (G1.item _ _ _ _ _ _ _ a1 b1 hx λg2 t1 e2=>Js ?_)
  have o2:IsPair g2 TO a b:=e2.extBut _ _ D.TOi1 (e1.extBut _ _ D.TOz hTO);refine gt (J1 o2 rfl ?_);refine gt (wpAny_updateSeq_pair o2 λg3 o3 e3=>?_)
  refine gt (wpAny_letGo (Js ?_));refine gt (gt (wpAny_onRaise ?_));refine gt (m:=Builtin.SmallTypes.nextOf (.ref i2)) (G2.fin _ _ _ _ _ _ hh (G2.at_ _ _ _ h2 λo q=>e3.extBut _ _ D.TOi2.symm (e2.extBut _ _ D.i12.symm (e1.extBut _ _ D.i2z q)))
   (G2.sqAt _ _ _ hl2 λo q=>e3.extBut _ _ D.l2TO (e2.extBut _ _ D.l2i1 (e1.extBut _ _ D.l2z q))) hy λg4 e e4 he=>?_)
  obtain⟨oe,hoe,hce⟩:=he;have z4:IsZip g4 z TI TO .ellipsis:=e4 _ _ D.i2z.symm (e3.extBut _ _ D.TOz.symm (e2.extBut _ _ D.i1z.symm z1));have hez:e≠z:=λx=>by subst x; rw [z4] at hoe; cases hoe; simp at hce
  exact JT z4 (by simp) λg5 _ e5=>hE g5 e (λc o c1 c2 c3 c4 x=>e5.extBut _ _ c1 (e4 _ _ c4 (e3.extBut _ _ c2 (e2.extBut _ _ c3 (e1.extBut _ _ c1 x))))) ⟨oe,e5.extBut _ _ hez hoe,hce⟩
theorem oN {Q:Ks Kq->Ko->Prop} (G1:ip prog w i1 l1 st1 sq1) (G2:ip prog w i2 l2 st2 vZ) (D:ZipApart z TI TO i1 i2 l1 l2) (hz:IsZip s.heap z TI TO .none) (hTI:IsPair s.heap TI (.ref i1) (.ref i2)) (hTO:IsPair s.heap TO a b)
  (h1:st1 k1 s.heap) (h2:st2 k2 s.heap) (hl1:sq1 xs s.heap) (hl2:vZ ys s.heap) (hx:xs[k1]?=some x) (hy:ys[k2]?=some y)
  (hQ:∀ h',IsZip h' z TI TO (rawInt s.heap.objs.size)->IsPair h' TO x y->st1 (k1+1) h'->st2 (k2+1) h'->IsPair h' s.heap.objs.size x y->h'.objs.size=s.heap.objs.size+1->
   (∀ c o,c≠z->c≠TO->c≠i1->c≠i2->s.heap.get? c=some o->h'.get? c=some o)->Q (some (.ref s.heap.objs.size)) {s with heap:=h'}):wpAny (model prog w) A (pyNext (.ref z)) Q E s:=by
 have hT:s.TypeIs (.ref z) "zip":=⟨_,hz,rfl⟩
 unfold pyNext;exact gt (wpAny_attempt (Kj (name:=Str.ofString "__next__") hT F.slot_zip_next
  (Kb F.slot_zip_next hT F.entry_zip_next (zV G1 G2 D hz hTI hTO h1 h2 hl1 hl2 hx hy λh' a1 a2 a3 a4 a5 a6 a7=>Js (hQ h' a1 a2 a3 a4 a5 a6 a7)) (F.args_zip_next_1 _))))
theorem p_ {Q:Ks Kq->Ko->Prop} (G1:ip prog w i1 l1 st1 sq1) (G2:ip prog w i2 l2 st2 vZ) (hh:A.handled=none) (D:ZipApart z TI TO i1 i2 l1 l2) (hz:IsZip s.heap z TI TO .none) (hTI:IsPair s.heap TI (.ref i1) (.ref i2)) (hTO:IsPair s.heap TO a b)
  (h1:st1 k1 s.heap) (h2:st2 k2 s.heap) (hl1:sq1 xs s.heap) (hl2:vZ ys s.heap) (hend:xs[k1]?=none\/ys[k2]?=none)
  (hQ:∀ h',(∀ c o,c≠z->c≠TO->c≠i1->c≠i2->s.heap.get? c=some o->h'.get? c=some o)->Q none {s with heap:=h'}):wpAny (model prog w) A (pyNext (.ref z)) Q E s:=by
 have hT:s.TypeIs (.ref z) "zip":=⟨_,hz,rfl⟩
 unfold pyNext;refine gt (wpAny_attempt (Kj (name:=Str.ofString "__next__") hT F.slot_zip_next
  (Kb F.slot_zip_next hT F.entry_zip_next (CL G1 G2 hh D hz hTI hTO h1 h2 hl1 hl2 hend λh' e hk he=>?_) (F.args_zip_next_1 _))))
 obtain⟨o,ho,hc⟩:=he;exact gt (wpAny_isInstance (T:="StopIteration") (b:=true) ⟨o,ho,hc⟩ isSubtype_stop (Js (hQ _ hk)))
end
structure iq (l:Kr) (nm:KB) (sq:Kz Kq->Kx->Prop):Prop where
 iter:∀ (P:Ku) (w:Kw) (A:Kv) (s:Ko) (xs:Kz Kq) (Q:Kq->Ko->Prop) (E:Kq->Ko->Prop),sq xs s.heap->
  Q (.ref s.heap.objs.size) {s with heap:=s.heap.push {cls:=.type nm,data:=.fields #[.ref l,.int 0 0]}}->wpAny (model P w) A (pyIter (.ref l)) Q E s
 sqAt:∀ xs h h',sq xs h->(∀ o,h.get? l=some o->h'.get? l=some o)->sq xs h'
theorem iq.list (l:Kr):iq l "list_iterator" (λxs h=>h.IsList l xs):=⟨λ_ _ _ _ _ _ _ a b=>wpAny_pyIter_list a b,λ_ _ _ x y=>x.at y⟩
theorem iq.tuple (l:Kr):iq l "tuple_iterator" (λxs h=>h.IsTuple l xs):=⟨λ_ _ _ _ _ _ _ a b=>wpAny_pyIter_tuple a b,λ_ _ _ x y=>x.at y⟩
section
variable {l1 l2:Kr} {n1 n2:KB} {sq1 vZ:Kz Kq->Kx->Prop}
abbrev Dh (h:Kx) (n1:KB) (l1:Kr):Kx:=h.push {cls:=.type n1,data:=.fields #[.ref l1,.int 0 0]}
abbrev G' (h:Kx) (n1 n2:KB) (l1 l2:Kr):Kx:=(Dh h n1 l1).push {cls:=.type n2,data:=.fields #[.ref l2,.int 0 0]}
abbrev Hk (h:Kx) (n1 n2:KB) (l1 l2:Kr):Kx:=(G' h n1 n2 l1 l2).push {cls:=.type "tuple",data:=.seq #[.ref h.objs.size,.ref (Dh h n1 l1).objs.size]}
abbrev Hc (h:Kx) (n1 n2:KB) (l1 l2:Kr):Kx:=(Hk h n1 n2 l1 l2).push {cls:=.type "tuple",data:=.seq #[.none,.none]}
abbrev Fz (h:Kx) (n1 n2:KB) (l1 l2:Kr):Kx:=(Hc h n1 n2 l1 l2).push {cls:=.type "zip",data:=.fields #[.none,.bool false,.bool false,.ref (G' h n1 n2 l1 l2).objs.size,.ref (Hk h n1 n2 l1 l2).objs.size]}
theorem yq (B1:iq l1 n1 sq1) (B2:iq l2 n2 vZ) (xs ys:Kz Kq):
  Meets (Builtin.«zip.__new__» ⟨[.type "zip",.ref l1,.ref l2],[]⟩) (λ_ R s=>sq1 xs s.heap/\vZ ys s.heap/\
   R (.ok (.ret (.ref (Hc s.heap n1 n2 l1 l2).objs.size))) {s with heap:=Fz s.heap n1 n2 l1 l2}):=
 .of_wp λprog w A R s h=>by
  obtain⟨hp,g,d,tk,os⟩:=s;obtain⟨a,b,h⟩:=h;have hsub:=sub_zip;have b':vZ ys (Shared.heap ⟨hp.push {cls:=.type n1,data:=.fields #[.ref l1,.int 0 0]},g,d,tk,os⟩):=B2.sqAt _ _ _ b λo q=>pp _ q
  have a':sq1 xs (Shared.heap ⟨hp,g,d,tk,os⟩):=a
  wp_walk using B1.iter _ _ _ _ _ _ _ a',B2.iter _ _ _ _ _ _ _ b'
  exact⟨_,rfl,h⟩
variable {prog:Ku} {w:Kw} {A:Kv} {E:Kq->Ko->Prop} {s:Ko}
theorem y8 (B1:iq l1 n1 sq1) (B2:iq l2 n2 vZ) {xs ys:Kz Kq} {Q:Kq->Ko->Prop} (hl1:sq1 xs s.heap) (hl2:vZ ys s.heap)
  (h:∀ h',IsZip h' (s.heap.objs.size+4) (s.heap.objs.size+2) (s.heap.objs.size+3) .none->IsPair h' (s.heap.objs.size+2) (.ref s.heap.objs.size) (.ref (s.heap.objs.size+1))->
   IsPair h' (s.heap.objs.size+3) .none .none->h'.get? s.heap.objs.size=some {cls:=.type n1,data:=.fields #[.ref l1,.int 0 0]}->h'.get? (s.heap.objs.size+1)=some {cls:=.type n2,data:=.fields #[.ref l2,.int 0 0]}->
   (∀ c o,s.heap.get? c=some o->h'.get? c=some o)->Q (.ref (s.heap.objs.size+4)) {s with heap:=h'}):
  wpAny (model prog w) A (call (.type "zip") [.ref l1,.ref l2]) Q E s:=by
 refine callType_new F.called_zip (by decide) (F.typeCall_zip_2 _ _) (F.newCall_zip_2 _ _) (λobj=>F.args_object_init_3 obj _ _) F.entry_zip_new (yq B1 B2 xs ys) ⟨hl1,hl2,?_⟩
 have z1:(Dh s.heap n1 l1).objs.size=s.heap.objs.size+1:=Kh ..;have z2:(G' s.heap n1 n2 l1 l2).objs.size=s.heap.objs.size+2:=by rw [Kh,z1]
 have z3:(Hk s.heap n1 n2 l1 l2).objs.size=s.heap.objs.size+3:=by rw [Kh,z2]
 have z4:(Hc s.heap n1 n2 l1 l2).objs.size=s.heap.objs.size+4:=by rw [Kh,z3]
 have g5:(Fz s.heap n1 n2 l1 l2).get? (Hc s.heap n1 n2 l1 l2).objs.size=some _:=Jt _ rfl;have g4:(Fz s.heap n1 n2 l1 l2).get? (Hk s.heap n1 n2 l1 l2).objs.size=some _:=pp _ (Jt _ rfl);have g3:(Fz s.heap n1 n2 l1 l2).get? (G' s.heap n1 n2 l1 l2).objs.size=some _:=pp _ (pp _ (Jt _ rfl));have g2:(Fz s.heap n1 n2 l1 l2).get? (Dh s.heap n1 l1).objs.size=some _:=pp _ (pp _ (pp _ (Jt _ rfl)));have g1:(Fz s.heap n1 n2 l1 l2).get? s.heap.objs.size=some _:=pp _ (pp _ (pp _ (pp _ (Jt _ rfl))))
 show _/\_
 rw [z2,z3,z4] at g5;rw [z1,z2] at g3;rw [z3] at g4;rw [z1] at g2;rw [z4];exact⟨⟨_,g5,rfl⟩,h _ g5 g3 g4 g1 g2 λc o x=>pp _ (pp _ (pp _ (pp _ (pp _ x))))⟩
end
section
variable {X:Cx} {KD:List (Kr×KC)} {σ:St} {H:Hp} {s:Ko} {h':Kx}
theorem aI.turnedL {t':Nat} (ch:List Kr) (I:aI X KD σ H s) (k:∀ b o,b∉ch->s.heap.get? b=some o->h'.get? b=some o) (hf:∀ b∈ch,oy X KD H b):aI X KD σ H {s with heap:=h',toks:=t'}:=by
 have nit:∀ b u,H b=some u->b∉ch:=λb u e z=>by rw [(hf b z).1] at e; cases e
 refine I.step (g':=s.gens) (d':=s.drawn) (ch:=ch) (λb hb=>⟨(hf b hb).2.2.2.1,(hf b hb).2.1,(hf b hb).2.2.2.2.1,(hf b hb).2.2.2.2.2⟩) (λb o _ _ hc e _=>k b o hc e) (λb o _ _ hc e _=>⟨o.slots,k b o hc e⟩) (λ_ _ _ _ n=>n)
  (λb o hc e=>⟨o,k b o hc e⟩) (λ_ _ e=>e) (λ_ _ _ e=>e) (λb ps e=>⟨#[],by rw [e]; simp⟩) (λm hm=>?_) (λb u e=>?_) I.bare
 ·obtain⟨o,es,ep,ho,r⟩:=hm;exact⟨o,es,ep,k _ o (λz=>(hf _ z).2.1 rfl) ho,r⟩
 ·refine(I.hok b u e).stay (λc v hc q=>k c v ?_ q) (λ_ q=>q) λ_ _ q=>q
  rcases hc with z | z
  ·rw [z]; exact nit b u e
  ·exact nit c _ z
theorem aI.turnedNew {t':Nat} {T:Kr} {xs:List V} (ch:List Kr) (I:aI X KD σ H s) (k:∀ b o,b∉ch->s.heap.get? b=some o->h'.get? b=some o) (hf:∀ b∈ch,oy X KD H b) (hT:s.heap.objs.size<=T)
  (new:fw X.prog X.w (cb H T (.tup xs)) h' T (.tup xs)):aI X KD σ (cb H T (.tup xs)) {s with heap:=h',toks:=t'}:=by
 have hn:H T=none:=I.hok.fresh hT;have nit:∀ b u,H b=some u->b∉ch:=λb u e z=>by rw [(hf b z).1] at e; cases e
 have neT:∀ b o,s.heap.get? b=some o->b≠T:=λb o e z=>by subst z; exact absurd (JG (Jv e) hT) (Kg _)
 refine I.step (g':=s.gens) (d':=s.drawn) (ch:=ch) (λb hb=>⟨(hf b hb).2.2.2.1,(hf b hb).2.1,(hf b hb).2.2.2.2.1,(hf b hb).2.2.2.2.2⟩) (λb o _ _ hc e _=>k b o hc e) (λb o _ _ hc e _=>⟨o.slots,k b o hc e⟩) (λb o _ e n=>by rw [aM (neT b o e)]; exact n)
  (λb o hc e=>⟨o,k b o hc e⟩) (λb _ e=>by rw [aM (bt e hn)]; exact e) (λb _ _ e=>by rw [aM (bt e hn)]; exact e) (λb ps e=>⟨#[],by rw [aM (bt e hn),e]; simp⟩) (λm hm=>?_) (λb u e=>?_) I.bare
 ·obtain⟨o,es,ep,ho,r⟩:=hm;exact⟨o,es,ep,k _ o (λz=>(hf _ z).2.1 rfl) ho,r⟩
 ·by_cases hb:b=T
  ·subst hb;rw [cA] at e;cases e;exact new
  ·rw [aM hb] at e;refine(I.hok b u e).stay (λc v hc q=>k c v ?_ q) (λc q=>by rw [aM (bt q hn)]; exact q) λc _ q=>by rw [aM (bt q hn)]; exact q
   rcases hc with z | z
   ·rw [z]; exact nit b u e
   ·exact nit c _ z
end
def qZ (b:KA) (K:PySem.W.Frag) (H:Hp) (a:Kr) (xs:List V):Prop:=match b with | true=>jE K H a xs | false=>ka K H a xs
def E4 (b:KA) (it l:Kr) (k:Nat) (h:Kx):Prop:=match b with | true=>h.IsListIter it l k | false=>h.IsTupleIter it l k
def sqB (b:KA) (l:Kr) (xs:Kz Kq) (h:Kx):Prop:=match b with | true=>h.IsList l xs | false=>h.IsTuple l xs
def IK (b:KA):KB:=match b with | true=>"list_iterator" | false=>"tuple_iterator"
theorem cJ {P:Ku} {w:Kw} (b:KA) (it l:Kr):ip P w it l (E4 b it l) (sqB b l):=match b with | true=>ip.list it l | false=>ip.tuple it l
theorem wW (b:KA) (l:Kr):iq l (IK b) (sqB b l):=match b with | true=>iq.list l | false=>iq.tuple l
theorem xj {b:KA} {it l:Kr} {h:Kx} (e:h.get? it=some {cls:=.type (IK b),data:=.fields #[.ref l,.int 0 0]}):E4 b it l 0 h:=match b,e with | true,e=>⟨_,e,rfl,rfl⟩ | false,e=>⟨_,e,rfl,rfl⟩
section
variable {X:Cx} {KD:List (Kr×KC)} {σ:St} {H:Hp} {s:Ko} {a:Kr} {xs ys:List V} {b:KA}
theorem aI.sqB (I:aI X KD σ H s) (h:qZ b X.K H a xs):∃ its:List Kq,bu xs its/\L2.sqB b a its.toArray s.heap:=by
 cases b with
 | true=>obtain⟨its,r,p,_⟩:=I.list h; exact⟨its,r,p.isList⟩
 | false=>obtain⟨its,r,p,_⟩:=I.tuple h; exact⟨its,r,p⟩
theorem aI.sqB_inj (I:aI X KD σ H s) (h:qZ b X.K H a xs) (h':qZ b X.K H a ys):xs=ys:=by
 cases b with
 | true=>exact I.list_inj h h'
 | false=>exact I.tuple_inj h h'
theorem rW {its:Kz Kq} {h:Kx} (e:L2.sqB b a its h):a < h.objs.size:=by
 cases b with
 | true=>obtain⟨o,e,_⟩:=e; exact Jv e
 | false=>obtain⟨o,e,_⟩:=e; exact Jv e
end
def GZ (K:PySem.W.Frag) (b1 b2:KA) (a1 a2:Kr):It:=
 ⟨λi H => ∃ xs ys x y, qZ b1 K H a1 xs ∧ qZ b2 K H a2 ys ∧ xs[i]? = some x ∧ ys[i]? = some y,
  λi H v H'=>∃ T x y,v=.ref T/\H T=none/\H'=cb H T (.tup [x,y])/\∀ xs ys,qZ b1 K H a1 xs->qZ b2 K H a2 ys->xs[i]?=some x/\ys[i]?=some y,
  λi H=>∃ xs ys,qZ b1 K H a1 xs/\qZ b2 K H a2 ys/\(xs.length<=i\/ys.length<=i)⟩
def Jn (b1 b2:KA) (z TI TO i1 i2 a1 a2:Kr) (i:Nat) (h:Kx):Prop:=
 IsZip h z TI TO .none/\IsPair h TI (.ref i1) (.ref i2)/\(∃ a b,IsPair h TO a b)/\E4 b1 i1 a1 i h/\E4 b2 i2 a2 i h
theorem yW {P:Ku} {w:Kw} {K:PySem.W.Frag} {es:List Kt} {k:Nat} {pos:Pos} (b1 b2:KA) {z TI TO i1 i2 a1 a2:Kr} (D:ZipApart z TI TO i1 i2 a1 a2):
  xD P w K (.Tuple es k pos) (GZ K b1 b2 a1 a2) [z,TI,TO,i1,i2] z (Jn b1 b2 z TI TO i1 i2 a1 a2) where
 mem:=by simp
 obj:=λi h st b hb=>by
  obtain⟨hz,hTI,⟨x,y,hTO⟩,h1,h2⟩:=st;have hb':b=z\/b=TI\/b=TO\/b=i1\/b=i2:=by simpa using hb
  rcases hb' with rfl | rfl | rfl | rfl | rfl
  ·exact⟨_,hz,λv q=>by cases q⟩
  ·exact⟨_,hTI,λv q=>by cases q⟩
  ·exact⟨_,hTO,λv q=>by cases q⟩
  ·exact(cJ (P:=P) (w:=w) b1 b a1).obj _ _ h1
  ·exact(cJ (P:=P) (w:=w) b2 b a2).obj _ _ h2
 keep:=λi h h' st q=>by
  obtain⟨hz,hTI,⟨x,y,hTO⟩,h1,h2⟩:=st;exact⟨q z (by simp) _ hz,q TI (by simp) _ hTI,⟨x,y,q TO (by simp) _ hTO⟩,(cJ (P:=P) (w:=w) b1 i1 a1).at_ _ _ _ h1 λo e=>q i1 (by simp) o e,(cJ (P:=P) (w:=w) b2 i2 a2).at_ _ _ _ h2 λo e=>q i2 (by simp) o e⟩
 item:=by
  intro X hP hw hK hc i KD s σ H E I hf st hg;subst hP hw hK;obtain⟨xs,ys,x,y,q1,q2,hx,hy⟩:=hg;obtain⟨its,rv,p⟩:=I.sqB q1;obtain⟨jts,rw',p'⟩:=I.sqB q2;obtain⟨u,hu,ru⟩:=rv.get hx;obtain⟨u',hu',ru'⟩:=rw'.get hy;obtain⟨hz,hTI,⟨c,d,hTO⟩,h1,h2⟩:=st;have hn:H s.heap.objs.size=none:=I.hok.fresh (Jw _);have old:∀ b∈[z,TI,TO,i1,i2],b≠s.heap.objs.size:=λb hb e=>by
   have:∃ o,s.heap.get? b=some o:=by
    have hb':b=z\/b=TI\/b=TO\/b=i1\/b=i2:=by simpa using hb
    rcases hb' with rfl | rfl | rfl | rfl | rfl
    ·exact⟨_,hz⟩
    ·exact⟨_,hTI⟩
    ·exact⟨_,hTO⟩
    ·obtain⟨o,e,_⟩:=(cJ (P:=X.prog) (w:=X.w) b1 b a1).obj _ _ h1; exact⟨o,e⟩
    ·obtain⟨o,e,_⟩:=(cJ (P:=X.prog) (w:=X.w) b2 b a2).obj _ _ h2; exact⟨o,e⟩
   obtain⟨o,eo⟩:=this;exact absurd (Jv eo) (by rw [e]; exact Kg _)
  refine oN (cJ b1 i1 a1) (cJ b2 i2 a2) D hz hTI hTO h1 h2 p p' (x:=u) (y:=u') (by simpa using hu) (by simpa using hu') λh' c1 c2 c3 c4 c5 c6 c7=>?_
  have I1:aI X KD σ (cb H s.heap.objs.size (.tup [x,y])) {s with heap:=h'}:=I.turnedNew (t':=s.toks) [z,TO,i1,i2] (λb o hb e=>c7 b o (λq=>hb (by simp [q])) (λq=>hb (by simp [q])) (λq=>hb (by simp [q])) (λq=>hb (by simp [q])) e)
   (λb hb=>hf b (by rcases(by simpa using hb:b=z\/b=TO\/b=i1\/b=i2) with rfl | rfl | rfl | rfl <;> simp)) (Jw _) ⟨JL rfl,[u,u'],.cons ru (.cons ru' .nil),⟨_,c5,rfl,_,rfl⟩⟩
  refine⟨_,rfl,wpAny_letOwnedTupleGo_zip (s:={s with heap:=h'}) c1 λh2' g1 g2=>?_⟩
  refine⟨.ref s.heap.objs.size,cb H s.heap.objs.size (.tup [x,y]),?_,rfl,⟨_,x,y,rfl,hn,rfl,λxs' ys' e1 e2=>by rw [I.sqB_inj e1 q1,I.sqB_inj e2 q2]; exact⟨hx,hy⟩⟩,?_,λb hb=>?_⟩
  ·refine I1.turnedL (t':=s.toks) [z] (λb o hb e=>g2.extBut _ _ (λq=>hb (by simp [q])) e) λb hb=>?_
   have e:b=z:=by simpa using hb
   subst e;obtain⟨f0,f1,f2,f3,f4,f5⟩:=hf b (by simp)
   exact⟨by rw [aM (old b (by simp))]; exact f0,f1,f2,f3,f4,f5⟩
  ·exact⟨g1,g2.extBut _ _ D.TIz (c7 _ _ D.TIz D.TITO D.TIi1 D.TIi2 hTI),⟨_,_,g2.extBut _ _ D.TOz c2⟩,(cJ (P:=X.prog) (w:=X.w) b1 i1 a1).at_ _ _ _ c3 λo e=>g2.extBut _ _ D.i1z e,(cJ (P:=X.prog) (w:=X.w) b2 i2 a2).at_ _ _ _ c4 λo e=>g2.extBut _ _ D.i2z e⟩
  ·rw [aM (old b hb)];exact(hf b hb).1
 done:=by
  intro X hP hw hK hc i KD s σ H E I hf st hg;subst hP hw hK;obtain⟨xs,ys,q1,q2,hx⟩:=hg;obtain⟨its,rv,p⟩:=I.sqB q1;obtain⟨jts,rw',p'⟩:=I.sqB q2;obtain⟨hz,hTI,⟨c,d,hTO⟩,h1,h2⟩:=st;have l1:=rv.length;have l2:=rw'.length;refine p_ (cJ b1 i1 a1) (cJ b2 i2 a2) (I.ok.hd hc) D hz hTI hTO h1 h2 p p' (hx.imp (λhx=>by simp; omega) (λhx=>by simp; omega)) λh' kk=>⟨rfl,I.turnedL (t':=s.toks) [z,TO,i1,i2] (λb o hb e=>kk b o (λq=>hb (by simp [q])) (λq=>hb (by simp [q])) (λq=>hb (by simp [q])) (λq=>hb (by simp [q])) e) λb hb=>hf b ?_⟩
  have hb':b=z\/b=TO\/b=i1\/b=i2:=by simpa using hb
  rcases hb' with rfl | rfl | rfl | rfl <;> simp
 self:=λ_ _ _ _ _ st h=>wpAny_pyIter_zip st.1 h
theorem Eo (n l1 l2:Nat) (h1:l1 < n) (h2:l2 < n):ZipApart (n+4) (n+2) (n+3) n (n+1) l1 l2:=by
 constructor <;> (intro e; simp only [Addr] at e; omega)
def Hu (K:PySem.W.Frag) (ta:TA):TI:=fun σ H R=>ta σ H λvs H1=>∃ a1 a2 b1 b2,vs=[.ref a1,.ref a2]/\(∃ xs,qZ b1 K H1 a1 xs)/\(∃ ys,qZ b2 K H1 a2 ys)/\R (GZ K b1 b2 a1 a2) H1
theorem AN {X:Cx} {a b:Kt} {ta:TA} {p pos tp:Pos} {es:List Kt} {k:Nat} (hg:Gl X "zip") (hm:X.mg "zip"=none) (ha:PA X [a,b] ta) (hs:starEach [a,b] X.env=[(false,eval a X.env),(false,eval b X.env)]:=by rfl) (hs2:starEach [b] X.env=[(false,eval b X.env)]:=by rfl):
  PI X (.Tuple es k tp) (.Call (.Name "zip" p) [a,b] [] pos) (Hu X.K ta):=by
 intro KD s σ H R I h;refine Call_ (n5 I hg hm boot_zip (PyProof.Rows.callWith_type1 (cm (ha pos KD s σ H _ I h) λus s1 ⟨vs,H1,I1,r1,q1⟩=>?_) (by rw [hs,hs2]) (by rw [hs2]; rfl)))
 obtain⟨a1,a2,b1,b2,e,⟨xs,e1⟩,⟨ys,e2⟩,q⟩:=q1;subst e;cases r1 with
 | cons r rr=>
  cases rr with
  | cons r' rr=>
   cases rr;cases r;cases r';obtain⟨its,rv,p1⟩:=I1.sqB e1;obtain⟨jts,rw',p2⟩:=I1.sqB e2;refine y8 (wW b1 a1) (wW b2 a2) p1 p2 λh' c1 c2 c3 c4 c5 c6=>?_
   refine wpAny_pyIter_zip (s:={s1 with heap:=h'}) c1 ?_
   have fr:∀ j,H1 (s1.heap.objs.size+j)=none:=λj=>I1.hok.fresh (Nat.le_add_right _ _)
   refine⟨_,[s1.heap.objs.size+4,s1.heap.objs.size+2,s1.heap.objs.size+3,s1.heap.objs.size,s1.heap.objs.size+1],_,_,H1,rfl,I1.kept (t':=s1.toks) c6,yW b1 b2 (Eo _ _ _ (rW p1) (rW p2)),⟨c1,c2,⟨_,_,c3⟩,xj c4,xj c5⟩,λb hb=>?_,q⟩
   have hb':b=s1.heap.objs.size+4\/b=s1.heap.objs.size+2\/b=s1.heap.objs.size+3\/b=s1.heap.objs.size\/b=s1.heap.objs.size+1:=by simpa using hb
   rcases hb' with rfl | rfl | rfl | rfl | rfl
   ·exact I1.fpOk (Nat.le_add_right _ _) (fr 4)
   ·exact I1.fpOk (Nat.le_add_right _ _) (fr 2)
   ·exact I1.fpOk (Nat.le_add_right _ _) (fr 3)
   ·exact I1.fpOk (Jw _) (fr 0)
   ·exact I1.fpOk (Nat.le_add_right _ _) (fr 1)
end L2
namespace DL
open PySem PySem.Spec PyProof.Rows L2
section
variable {K:Fg} {ok:DH->Prop} {gg:DG} {ge:DE} {k:DK} {ds:List D} {L:Lo} {S:DH} {σ:L2.St} {H:Hp} {J:It} {p:Kr} {Q:V->Hp->Prop}
theorem vJ (hL:Lc K H L σ) (hS:Hs K H S) (hp:H p=none) (h:dL ok p gg (mE ge) k ds [] L (put S p (.lst [])))
  (n:∀ d S' v H',k d S'->Kp H H'->Hs K H' S'->cn K H' d v->Q v H')
  (hgo:∀ i d S1 H1,ds[i]?=some d->Kp H H1->Hs K H1 S1->ok S1->J.go i H1/\∀ x H',J.yld i H1 x H'->Kp H1 H'/\Hs K H' S1/\cn K H' d x)
  (hst:∀ S1 H1,Kp H H1->Hs K H1 S1->ok S1->J.stop ds.length H1):
  ∃ W:Nat->Nat->L2.St->Hp->Prop,(∃ m,W 0 m σ (cb H p (.lst [])))/\∀ i m σ' H',W i m σ' H'->
   (J.stop i H'/\Q (.ref p) H')\/(J.go i H'/\∃ N:L2.St->Hp->Prop,(∀ σ2 H2,N σ2 H2->∃ m',m' < m/\W (i+1) m' σ2 H2)/\∀ x H2,J.yld i H' x H2->Fy K gg x σ' H2 fun σ3 H3=>up K ge σ3 H3 λv H4=>∃ ys,H4 p=some (.lst ys)/\ys.length < sizeLine/\N σ3 (cb H4 p (.lst (ys++[v])))):=by
 refine⟨λi m σ1 H1=>m=ds.length - i/\i<=ds.length/\∃ acc L1 S1,Lc K H1 L1 σ1/\Hs K H1 S1/\Kp H H1/\dL ok p gg (mE ge) k (ds.drop i) acc L1 S1,⟨ds.length,by simp,Kf _,[],L,_,hL.kp (Kp.new hp),hS.newL hp IsDs.nil,Kp.new hp,h⟩,?_⟩
 rintro i m σ1 H1 ⟨rfl,hi,acc,L1,S1,hL1,hS1,k1,w1⟩
 by_cases hlt:i < ds.length
 ·have e:ds.drop i=ds[i]::ds.drop (i+1):=Kd hlt;rw [e] at w1;obtain⟨o1,w1⟩:=w1;obtain⟨g1,y1⟩:=hgo i ds[i] S1 H1 (by simp [hlt]) k1 hS1 o1
  refine .inr ⟨g1,fun σ' H'=>i+1<=ds.length/\∃ acc L' S',Lc K H' L' σ'/\Hs K H' S'/\Kp H H'/\dL ok p gg (mE ge) k (ds.drop (i+1)) acc L' S',fun σ' H' z9=>by obtain⟨q1,q2⟩:=z9; exact⟨ds.length - (i+1),by omega,rfl,q1,q2⟩,λx H' y=>?_⟩
  obtain⟨k0,hS0,ix⟩:=y1 x H' y;refine⟨ds[i],L1,S1,_,ix,hL1.kp k0,hS0,w1,λL2 S2 σ2 H2 q k2 hL2 hS2=>up.go hL2 hS2 q λd S3 v H3 h3 k3 hL3 hS3 i3=>?_⟩
  obtain⟨z1,z2,z3⟩:=h3;obtain⟨xs,hl,j⟩:=hS3.lst z1;have k4:Kp H3 (cb H3 p (.lst (xs++[v]))):=Kp.mut hl (λz=>z)
  exact⟨xs,hl,by rw [<- j.length]; exact z2,hlt,_,L2,_,hL3.kp k4,hS3.setL hl (j.append (IsDs.cons i3 IsDs.nil)),(((k1.trans k0).trans k2).trans k3).trans k4,z3⟩
 ·have e:i=ds.length:=by omega
  subst e;rw [List.drop_length] at w1;obtain⟨o1,w1⟩:=w1;exact .inl ⟨hst S1 H1 k1 hS1 o1,n _ S1 _ H1 w1 k1 hS1 (df.mpr rfl)⟩
end
theorem nO {K:Fg} {S1:DH} {H1:Hp} {d:D} {v:V} {p:List D×Ks Kr} (hS1:Hs K H1 S1) (i1:cn K H1 d v) (hp:aT S1 d=some p):∃ a b,v=.ref a/\
  (∃ xs,qZ b K H1 a xs)/\∀ S2 H2,Kp H1 H2->Hs K H2 S2->eE p S2->∃ xs,qZ b K H2 a xs/\IsDs K H2 p.1 xs:=by
 cases d with
 | tup ds=>
  cases hp;obtain⟨a,xs,rfl,t,j⟩:=cr.mp i1;exact⟨a,false,rfl,⟨xs,t⟩,λS2 H2 k2 _ _=>⟨xs,k2.tup t,j.kp k2⟩⟩
 | rl ds=>
  cases hp;obtain⟨a,xs,rfl,t,j⟩:=uB.mp i1;exact⟨a,true,rfl,⟨xs,t.sq⟩,λS2 H2 k2 _ _=>⟨xs,(k2.fro t).sq,j.kp k2⟩⟩
 | ref a=>
  have e1:=df.mp i1;subst e1;cases z:S1 a with
  | none=>simp only [aT,z] at hp; cases hp
  | some o=>
   cases o with
   | dic=>simp only [aT,z] at hp; cases hp
   | exc _=>simp only [aT,z] at hp; cases hp
   | fn _=>simp only [aT,z] at hp; cases hp
   | tbl _=>simp only [aT,z] at hp; cases hp
   | gen _=>simp only [aT,z] at hp; cases hp
   | lst ds=>
    simp only [aT,z] at hp;cases hp;obtain⟨xs,hl,j⟩:=hS1.lst z;refine⟨a,true,rfl,⟨xs,jE.of hl⟩,λS2 H2 k2 hS2 o2=>?_⟩
    obtain⟨ys,hl2,j2⟩:=hS2.lst o2;exact⟨ys,jE.of hl2,j2⟩
 | _=>cases hp
def rT (xs ys:List D):List D:=List.zipWith (λa b=>D.tup [a,b]) xs ys
def E8 (cap:List (Ks Nat)) (ta:DA) (g:DG) (bd:DB):DE:=λL S k=>ta L S λds S1=>match ds with
 | [d1,d2]=>∃ q1 q2,aT S1 d1=some q1/\aT S1 d2=some q2/\∀ p,S1 p=none->dL (λS=>eE q1 S/\eE q2 S) p g bd k (rT q1.1 q2.1) [] (zx cap L) (put S1 p (.lst []))
 | _=>False
section
variable {X:Cx} {elt a b:Kt} {es:List Kt} {kt:Nat} {tp:Pos} {scope:Scope} {cl:List (Str×Kr)} {N:List Str} {cap:List (Ks Nat)} {pos p pos':Pos} {gg:DG} {ge:DE} {ta:DA}
theorem AV (hc:X.calm=true) (Sc:g_ X scope cl N cap) (hgl:Gl X "zip") (hm:X.mg "zip"=none) (ha:AJ X [a,b] ta) (hg:∀ s0 H0 ex C,GJ (kl X scope cl N s0 H0 ex C) (.Tuple es kt tp) gg) (he:∀ s0 H0 ex C,EJ (kl X scope cl N s0 H0 ex C) elt ge)
  (hs1:starEach [a,b] X.env=[(false,eval a X.env),(false,eval b X.env)]:=by rfl) (hs2:starEach [b] X.env=[(false,eval b X.env)]:=by rfl) (hs:∀ x,foldedSetIterable (.Call (.Name "zip" p) [a,b] [] pos') X.env x=pure x:=by intro _; rfl):
  EJ X (.ListComp elt [⟨.Tuple es kt tp,.Call (.Name "zip" p) [a,b] [] pos',[],0⟩] scope pos) (E8 cap ta gg (mE ge)):=
 ⟨PE.imp (wy hc Sc (AN hgl hm ha.h hs1 hs2) (λs0 H0 ex C=>(hg s0 H0 ex C).h) (λs0 H0 ex C=>(he s0 H0 ex C).h) hs) fun σ H Q ⟨L,S,k,hL,hS,h,n⟩=>tN.go hL hS h λds S1 vs H1 h1 k1 hL1 hS1 i1=>by
  split at h1
  ·rename_i d1 d2
   obtain⟨v1,v2,rfl,j1,j2⟩:∃ v1 v2,vs=[v1,v2]/\cn X.K H1 d1 v1/\cn X.K H1 d2 v2:=qb i1;obtain⟨q1,q2,e1,e2,h1⟩:=h1;obtain⟨a1,b1,rfl,x1,y1⟩:=nO hS1 j1 e1;obtain⟨a2,b2,rfl,x2,y2⟩:=nO hS1 j2 e2;refine⟨a1,a2,b1,b2,rfl,x1,x2,λpa hD=>vJ (hL1.cap cap) hS1 hD (h1 pa (hS1.free hD)) (λd S' v H' q k3=>n d S' v H' q (k1.trans k3)) (λi c S2 H2 e k2 hS2 o2=>?_) λS2 H2 k2 hS2 o2=>?_⟩
   ·obtain⟨xs,w1,u1⟩:=y1 S2 H2 k2 hS2 o2.1;obtain⟨ys,w2,u2⟩:=y2 S2 H2 k2 hS2 o2.2;obtain⟨c1,c2,f1,f2,rfl⟩:∃ c1 c2,q1.1[i]?=some c1/\q2.1[i]?=some c2/\D.tup [c1,c2]=c:=by
     unfold rT at e;rw [List.getElem?_zipWith] at e;cases z1:q1.1[i]? with
     | none=>rw [z1] at e; cases e
     | some c1=>
      cases z2:q2.1[i]? with
      | none=>rw [z1,z2] at e; cases e
      | some c2=>rw [z1,z2] at e; exact⟨c1,c2,rfl,rfl,J0 e⟩
    obtain⟨v1,g1,r1⟩:=u1.get f1;obtain⟨v2,g2,r2⟩:=u2.get f2;refine⟨⟨xs,ys,v1,v2,w1,w2,g1,g2⟩,?_⟩;rintro x H' ⟨T,x',y',rfl,hT,rfl,al⟩;obtain⟨l1,l2⟩:=al xs ys w1 w2;rw [g1] at l1;rw [g2] at l2;cases l1;cases l2;have kn:Kp H2 (cb H2 T (.tup [v1,v2])):=Kp.new hT;exact⟨kn,hS2.new hT,cr.mpr ⟨T,[v1,v2],rfl,ka.of cA,IsDs.cons (r1.kp kn) (IsDs.cons (r2.kp kn) IsDs.nil)⟩⟩
   ·obtain⟨xs,w1,u1⟩:=y1 S2 H2 k2 hS2 o2.1;obtain⟨ys,w2,u2⟩:=y2 S2 H2 k2 hS2 o2.2;refine⟨xs,ys,w1,w2,?_⟩;rw [<- u1.length,<- u2.length];unfold rT;rw [List.length_zipWith];omega
  ·exact h1.elim⟩
end
theorem uW {K:Fg} {H:Hp}:∀ {bs:List KA} {xs:List V},IsDs K H (bs.map D.bl) xs->xs=bs.map V.bl
 | [],_,h=>iJ.mp h
 | b::bs,_,h=>by
  obtain⟨v,r,rfl,h1,h2⟩:=cR.mp h;rw [ce.mp h1,uW h2]
  rfl
theorem uN:∀ {bs:List KA} {us:List Kq},bu (bs.map V.bl) us->us=bs.map Value.bool
 | [],_,.nil=>rfl
 | b::bs,_,.cons r t=>by
  cases r;rw [uN t]
  rfl
theorem nI:∀ (bs:List KA),(List.range bs.length).all (λi=>bs.getD i true)=bs.all id
 | []=>rfl
 | b::bs=>by
  rw [JJ,List.range_succ_eq_map,List.all_cons,List.all_map,List.all_cons];exact congrArg (b && ·) (nI bs)
theorem Bu {S:DH} {d:D} {q:List D×Ks Kr} (h:aT S d=some q):eE q S:=by
 cases d with
 | tup ds=>cases h; trivial
 | rl ds=>cases h; trivial
 | ref a=>
  simp only [aT] at h
  split at h
  ·rename_i z; cases h; exact z
  ·cases h
 | _=>cases h
def Da:cH:=λds S k=>match ds with
 | [d]=>∃ (q:List D×Ks Kr) (bs:List KA),aT S d=some q/\q.1=bs.map D.bl/\k (.bl (bs.all id)) S
 | _=>False
theorem sf {X:Cx} (hc:X.calm=true:=by rfl):eR X (.builtin "all") (u9 X.K Da):=by
 intro KD s σ H xs us Q I rs h;obtain⟨ds,S,k,i,hS,r,n⟩:=h;unfold Da at r
 split at r
 ·obtain⟨x,rfl,i1⟩:=kI i;obtain⟨q,bs,e1,e2,r⟩:=r;obtain⟨a,b,rfl,_,y⟩:=nO hS i1 e1;obtain⟨vs,w1,w2⟩:=y S H (Kp.refl H) hS (Bu e1);rw [e2] at w2;have ev:=uW w2;subst ev;obtain⟨its,rv,p⟩:=I.sqB w1;have ei:=uN rv;subst ei;cases rs with
  | cons r0 rr=>
   cases rr;cases r0;have hh:X.A.in1.handled=none:=I.ok.hd hc;have hlt:=rW p;have fin:∀ (nm:KB) (h':Kx) (tk:Nat),(∀ c o,c∉[s.heap.objs.size]->(s.heap.push {cls:=.type nm,data:=.fields #[.ref a,.int 0 0]}).get? c=some o->h'.get? c=some o)->
     EP X KD σ Q (.bool (bs.all id)) {s with heap:=h',toks:=tk}:=λnm h' tk kk=>by
    have I1:aI X KD σ H {s with heap:=s.heap.push {cls:=.type nm,data:=.fields #[.ref a,.int 0 0]}}:=I.kept (t':=s.toks) λc o e=>pp _ e
    refine⟨.bl (bs.all id),H,aI.turnedL (s:={s with heap:=s.heap.push {cls:=.type nm,data:=.fields #[.ref a,.int 0 0]}}) (t':=tk) [s.heap.objs.size] I1 kk (λc hc=>?_),rfl,n _ _ _ _ r (Kp.refl H) hS (ce.mpr rfl)⟩
    have e:c=s.heap.objs.size:=by simpa using hc
    subst e;exact I.fpOk (Jw _) (I.hok.fresh (Jw _))
   have len:(bs.map Value.bool).toArray.size=bs.length:=by simp
   have tr:∀ A',TruthOf X.prog X.w A' (λi v=>(bs.map Value.bool).toArray[i]?=some v) (λi=>bs.getD i true):=λA' i v s' Q' E' hP hQ=>by
    have hP':(bs[i]?).map Value.bool=some v:=by simpa using hP
    cases z:bs[i]? with
    | none=>rw [z] at hP'; cases hP'
    | some c=>
     rw [z] at hP';cases hP';refine wpAny_truthy_bool ?_
     simpa [List.getD,z] using hQ
   refine call_all_walk ?_;cases b with
   | true=>
    refine wpAny_pyIter_list (show s.heap.IsList a _ from p) ?_
    refine⟨s.heap.objs.size,_,_,_,_,_,_,rfl,Walks.list hh s.heap.objs.size a (JC hlt) (bs.map Value.bool).toArray,⟨⟨_,Jt _ rfl,rfl,rfl⟩,Heap.IsList.at p λo e=>pp _ e⟩,tr _,λh' tk kk=>?_⟩
    rw [len,nI];exact fin _ h' tk kk
   | false=>
    refine wpAny_pyIter_tuple (show s.heap.IsTuple a _ from p) ?_
    refine⟨s.heap.objs.size,_,_,_,_,_,_,rfl,Walks.tuple hh s.heap.objs.size a (JC hlt) (bs.map Value.bool).toArray,⟨⟨_,Jt _ rfl,rfl,rfl⟩,Heap.IsTuple.at p λo e=>pp _ e⟩,tr _,λh' tk kk=>?_⟩
    rw [len,nI];exact fin _ h' tk kk
 ·exact r.elim
theorem Ax {X:Cx} {KD:List (Kr×KC)} {σ:L2.St} {H:Hp} {s:Ko} {S:DH} {d:D} {x:V} {u:Kq} {t:Ty} (I:aI X KD σ H s) (hS:Hs X.K H S) (i:cn X.K H d x) (r:b7 x u) (h:Fv S d=some t):
  ∃ Hh:Kx->Prop,PySem.W.KitX X.K u (.type t.name) Hh/\Hh s.heap/\u≠.builtin "__main__.__loader__#opaque":=by
 cases d with
 | non=>cases h; rw [dG.mp i] at r; cases (show u=Value.none from r); exact⟨_,PySem.W.kitx_none,True.intro,λz=>nomatch z⟩
 | bl b=>cases h; rw [ce.mp i] at r; cases (show u=Value.bool b from r); exact⟨_,PySem.W.kitx_bool,True.intro,λz=>nomatch z⟩
 | int b=>cases h; rw [isInt.mp i] at r; obtain⟨tk,q⟩:=(show ∃ t,u=Value.int b t from r); cases q; exact⟨_,PySem.W.kitx_int,True.intro,λz=>nomatch z⟩
 | str b=>cases h; rw [iC.mp i] at r; obtain⟨tk,q⟩:=(show ∃ t,u=Value.str b t from r); cases q; exact⟨_,PySem.W.kitx_str,True.intro,λz=>nomatch z⟩
 | tup ds=>
  cases h;obtain⟨a,vs,rfl,q,_⟩:=cr.mp i;cases (show u=Value.ref a from r)
  obtain⟨its,_,⟨o,h1,h2,_⟩,_⟩:=I.tuple q;exact⟨_,PySem.W.kitx_tuple,⟨o,h1,h2⟩,λz=>nomatch z⟩
 | rl ds=>cases h
 | ty n=>cases h
 | ref a=>
  rw [df.mp i] at r;cases (show u=Value.ref a from r)
  have h:Fw (S a)=some t:=h;cases z:S a with
  | none=>rw [z] at h; cases h
  | some o=>
   rw [z] at h;cases o with
   | lst ds=>
    cases h;obtain⟨vs,e,_⟩:=hS.lst z;obtain⟨its,_,⟨o,n,h1,h2,_⟩,_⟩:=I.list (jE.of e);exact⟨_,PySem.W.kitx_list,⟨o,h1,h2⟩,λz=>nomatch z⟩
   | dic=>
    cases h;obtain⟨vs,e⟩:=hS _ _ z;obtain⟨_,_,vs',_,p⟩:=(show fw X.prog X.w H s.heap a (.dK vs) from I.hok a _ e)
    obtain⟨o,es,ep,h1,h2,_⟩:=p;exact⟨_,PySem.W.kitx_dict,⟨o,h1,h2.1⟩,λz=>nomatch z⟩
   | exc _=>cases h
   | fn _=>cases h
   | tbl _=>cases h
   | gen _=>cases h
theorem rM {K:Fg} (t:Ty):∀ cs:List Ty,PySem.W.kitAny K (.type t.name) (cs.map λc=>.type c.name)=some (cs.any (t9 t))
 | []=>rfl
 | c::r=>by
  have ih:=rM (K:=K) t r;rw [JI,PySem.W.kitAny,zt];cases z:t9 t c with
  | true=>simp [z]
  | false=>simp only [List.any_cons,z,Bool.false_or]; exact ih
theorem uL {K:Fg} {H:Hp}:∀ {cs:List Ty} {xs:List V},IsDs K H (cs.map D.ty) xs->xs=cs.map λc=>V.ty c.name
 | [],_,h=>iJ.mp h
 | b::bs,_,h=>by
  obtain⟨v,r,rfl,h1,h2⟩:=cR.mp h;rw [CB.mp h1,uL h2]
  rfl
theorem uK:∀ {cs:List Ty} {us:List Kq},bu (cs.map λc=>V.ty c.name) us->us=cs.map λc=>Value.type c.name
 | [],_,.nil=>rfl
 | b::bs,_,.cons r t=>by
  cases r;rw [uK t]
  rfl
def Dq:cH:=λds S k=>match ds with
 | [d,.ty c]=>∃ t,Fv S d=some t/\k (.bl (t9 t c)) S
 | [d,.tup cs]=>∃ (t:Ty) (ts:List Ty),Fv S d=some t/\cs=ts.map D.ty/\k (.bl (ts.any (t9 t))) S
 | _=>False
theorem lP {X:Cx}:eR X (.builtin "isinstance") (u9 X.K Dq):=by
 intro KD s σ H xs us Q I rs h;obtain⟨ds,S,k,i,hS,r,n⟩:=h;unfold Dq at r
 split at r
 ·rename_i d c
  obtain⟨t,ht,r⟩:=r;obtain⟨x,y,rfl,i1,i2⟩:=qb i;have e2:=CB.mp i2;subst e2;obtain⟨u,w',rfl,r1,r2⟩:=wK rs;cases (show w'=Value.type c.name from r2)
  obtain⟨Hh,kx,p,nb⟩:=Ax I hS i1 r1 ht;exact PySem.W.kia_one kx I.kIn p (zt t c) nb λtk=>⟨.bl (t9 t c),H,I.tok tk,rfl,n _ _ _ _ r (Kp.refl H) hS (ce.mpr rfl)⟩
 ·rename_i d cs
  obtain⟨t,ts,ht,rfl,r⟩:=r;obtain⟨x,y,rfl,i1,i2⟩:=qb i;obtain⟨a,vs,rfl,q,j⟩:=cr.mp i2;have ev:=uL j;subst ev;obtain⟨u,w',rfl,r1,r2⟩:=wK rs;cases (show w'=Value.ref a from r2)
  obtain⟨Hh,kx,p,nb⟩:=Ax I hS i1 r1 ht;obtain⟨its,rv,⟨o,h1,h2,m,h3⟩,_⟩:=I.tuple q;have ei:=uK rv;subst ei;obtain⟨oc,od,odt,os⟩:=o;cases h2;cases h3;exact PySem.W.kia_tup kx I.kIn p h1 (rM t ts) nb λtk=>⟨.bl (ts.any (t9 t)),H,I.tok tk,rfl,n _ _ _ _ r (Kp.refl H) hS (ce.mpr rfl)⟩
 ·exact r.elim
section
variable {X:Cx} {o e a b c:Kt} {go ge ga gb gc:DE} {apos cpos pos:Pos}
def HQ (go ge:DE):DE:=λL S k=>go L S λd S1=>match d with
 | .ref a=>(∃ ds,S1 a=some (.lst ds))/\ge L S1 λe S2=>∃ ds,S2 a=some (.lst ds)/\ds.length < sizeLine/\k .non (put S2 a (.lst (ds++[e])))
 | _=>False
theorem dU (ho:EJ X o go) (he:EJ X e ge) (hbase:attributeBase o "append" X.env (eval o X.env)=eval o X.env:=by rfl)
  (hfew:((backTo cpos (starEach [e] X.env)).all (λx=>!x.1) && (backToKw cpos (keywordEach [] X.env)).all (λx=>x.1.isSome) && decide ([e].length+([]:List Keyword).length+(if ([]:List Keyword).isEmpty then 0 else 1) < 30))=true:=by rfl)
  (hline:(apos.endLine == cpos.line)=true:=by rfl) (hs:starEach [e] X.env=(false,eval e X.env)::starEach [] X.env:=by rfl) (hpl:(backTo cpos (starEach [] X.env)).any (·.1)=false:=by rfl):
  EJ X (.Call (.Attribute o "append" apos) [e] [] cpos) (HQ go ge):=
 ⟨PE.imp (yN PySem.F.plainAttrs_list PySem.F.slot_list_append PySem.F.type_list_append lu ho.h (o0 he.h tD hs) hbase hfew hline hs hpl) fun σ H Q ⟨L,S,k,hL,hS,h,n⟩=>up.go hL hS h λd S1 v H1 h1 k1 hL1 hS1 i1=>by
  cases d with
  | ref a=>
   have e1:=df.mp i1;subst e1;obtain⟨⟨ds1,z1⟩,h1⟩:=h1;obtain⟨xs1,hl1,_⟩:=hS1.lst z1;refine⟨.inl ⟨rfl,xs1,jE.of hl1⟩,up.go hL1 hS1 h1 λd2 S2 v2 H2 h2 k2 hL2 hS2 i2=>?_⟩
   obtain⟨ds,z,hz,w⟩:=h2;obtain⟨xs,hl,j⟩:=hS2.lst z;have k3:Kp H2 (cb H2 a (.lst (xs++[v2]))):=Kp.mut hl (λz=>z)
   exact⟨a,xs,v2,rfl,rfl,hl,by rw [<- j.length]; exact hz,n _ _ _ _ w (k1.trans (k2.trans k3)) (hS2.setL hl (j.append (IsDs.cons i2 IsDs.nil))) (dG.mpr rfl)⟩
  | _=>exact(show False from h1).elim⟩
def Iz (go ge:DE):DE:=λL S k=>go L S λd S1=>match d with
 | .ref a=>(∃ ds,S1 a=some (.lst ds))/\ge L S1 λe S2=>match e with
  | .ref b=>∃ ds es,S2 a=some (.lst ds)/\S2 b=some (.lst es)/\ds.length+es.length<=sizeLine/\k .non (put S2 a (.lst (ds++es)))
  | _=>False
 | _=>False
theorem sH (ho:EJ X o go) (he:EJ X e ge) (hbase:attributeBase o "extend" X.env (eval o X.env)=eval o X.env:=by rfl)
  (hfew:((backTo cpos (starEach [e] X.env)).all (λx=>!x.1) && (backToKw cpos (keywordEach [] X.env)).all (λx=>x.1.isSome) && decide ([e].length+([]:List Keyword).length+(if ([]:List Keyword).isEmpty then 0 else 1) < 30))=true:=by rfl)
  (hline:(apos.endLine == cpos.line)=true:=by rfl) (hs:starEach [e] X.env=(false,eval e X.env)::starEach [] X.env:=by rfl) (hpl:(backTo cpos (starEach [] X.env)).any (·.1)=false:=by rfl):
  EJ X (.Call (.Attribute o "extend" apos) [e] [] cpos) (Iz go ge):=
 ⟨PE.imp (yN PySem.F.plainAttrs_list PySem.F.slot_list_extend PySem.F.type_list_extend xM ho.h (o0 he.h tD hs) hbase hfew hline hs hpl) fun σ H Q ⟨L,S,k,hL,hS,h,n⟩=>up.go hL hS h λd S1 v H1 h1 k1 hL1 hS1 i1=>by
  cases d with
  | ref a=>
   have e1:=df.mp i1;subst e1;obtain⟨⟨ds1,z1⟩,h1⟩:=h1;obtain⟨xs1,hl1,_⟩:=hS1.lst z1;refine⟨.inl ⟨rfl,xs1,jE.of hl1⟩,up.go hL1 hS1 h1 λd2 S2 v2 H2 h2 k2 hL2 hS2 i2=>?_⟩
   cases d2 with
   | ref b=>
    have e2:=df.mp i2;subst e2;obtain⟨ds,es,z,y,hz,w⟩:=h2;obtain⟨xs,hl,j⟩:=hS2.lst z;obtain⟨ys,hm,i⟩:=hS2.lst y;have k3:Kp H2 (cb H2 a (.lst (xs++ys))):=Kp.mut hl (λz=>z)
    exact⟨a,b,xs,ys,rfl,rfl,hl,hm,by rw [<- j.length,<- i.length]; exact hz,n _ _ _ _ w (k1.trans (k2.trans k3)) (hS2.setL hl (j.append i)) (dG.mpr rfl)⟩
   | _=>exact(show False from h2).elim
  | _=>exact(show False from h1).elim⟩
def vA (r r':D2) (ga gb gc:DE):DE:=λL S k=>ga L S λx S1=>gb L S1 λy S2=>r x y S2 λz S3=>match z with
 | .bl t=>if t=true then gc L S3 λw S4=>r' y w S4 k else k (.bl false) S3
 | _=>False
theorem rF {K:Fg} {r r':D2}:∀ σ H Q,up K (vA r r' ga gb gc) σ H Q->vp (jy K r) (jy K r') (up K ga) (up K gb) (up K gc) σ H Q:=fun σ H Q ⟨L,S,k,hL,hS,h,n⟩=>
 up.go hL hS h λd S1 v H1 h1 k1 hL1 hS1 i1=>up.go hL1 hS1 h1 λe S2 u H2 h2 k2 hL2 hS2 i2=>⟨d,e,S2,_,i1.kp k2,i2,hS2,h2,λz S3 w H3 q k3 hS3 i3=>by
  cases z with
  | bl t=>
   refine⟨t,ce.mp i3,?_⟩;have q':if t=true then gc L S3 (λw S4=>r' e w S4 k) else k (.bl false) S3:=q
   cases t with
   | false=>
    rw [if_neg Jz] at q' ⊢;exact n _ _ _ _ q' (k1.trans (k2.trans k3)) hS3 (ce.mpr rfl)
   | true=>
    rw [if_pos rfl] at q' ⊢;exact up.go (hL2.kp k3) hS3 q' λf S4 w4 H4 h4 k4 hL4 hS4 i4=>⟨e,f,S4,k,i2.kp (k3.trans k4),i4,hS4,h4,λd' S' v' H' q k5 z1 z2=>n d' S' v' H' q (k1.trans (k2.trans (k3.trans (k4.trans k5)))) z1 z2⟩
  | _=>exact(show False from q).elim⟩
theorem Az {op op':CmpOp} {r r':D2} (ho:fW X (compareOp op) (jy X.K r)) (ho':fW X (compareOp op') (jy X.K r')) (ha:EJ X a ga) (hb:EJ X b gb) (hc:EJ X c gc)
  (hm:lastMarks [op,op'] [b,c]=false:=by with_unfolding_all rfl):EJ X (.Compare a [op,op'] [b,c] pos) (vA r r' ga gb gc):=⟨PE.imp (zL ho ho' ha.h hb.h hc.h hm) rF⟩
theorem xN {op op':CmpOp} {r r':D2} (ho:fW X (compareOp op) (jy X.K r)) (ho':fW X (compareOp op') (jy X.K r')) (ha:EJ X a ga) (hb:EJ X b gb) (hc:EJ X c gc)
  (hm:lastMarks [op,op'] [b,c]=false:=by with_unfolding_all rfl):TJ X (.Compare a [op,op'] [b,c] pos) (xa (vA r r' ga gb gc)):=
 ⟨PT.imp (zp ho ho' ha.h hb.h hc.h hm) fun σ H Q z9=>by obtain⟨L,S,k,hL,hS,h,n⟩:=z9; exact rF σ H _ ⟨L,S,_,hL,hS,h,λd S' v H' q k1 hS1 i1=>by
  cases d with
  | bl t=>exact⟨t,ce.mp i1,n t S' H' q k1 hS1⟩
  | _=>exact(show False from q).elim⟩⟩
end
theorem rA {K:Fg} {ok:DH->Prop} {gg:DG} {b:DS} {M:lF} {ds:List D} {L:Lo} {S:DH} {N:mK} {σ:L2.St} {H:Hp} {J:It} (hL:Lc K H L σ) (hS:Hs K H S) (h:iG ok gg b M ds L S) (r:tM K H M N)
  (hgo:∀ i d S1 H1,ds[i]?=some d->Kp H H1->Hs K H1 S1->ok S1->J.go i H1/\∀ x H',J.yld i H1 x H'->Kp H1 H'/\Hs K H' S1/\cn K H' d x)
  (hst:∀ S1 H1,Kp H H1->Hs K H1 S1->ok S1->J.stop ds.length H1):
  ∃ W:Nat->Nat->L2.St->Hp->Prop,(∃ m,W 0 m σ H)/\∀ i m σ H,W i m σ H->
   (J.stop i H/\N.nx σ H)\/(J.go i H/\∃ N':L2.St->Hp->Prop,(∀ σ' H',N' σ' H'->∃ m',m' < m/\W (i+1) m' σ' H')/\∀ x H',J.yld i H x H'->Fy K gg x σ H' fun σ2 H2=>zo K b {N with nx:=N',ct:=N',bk:=N.nx} σ2 H2):=by
 refine⟨λi m σ1 H1=>m=ds.length - i/\i<=ds.length/\∃ L1 S1,Lc K H1 L1 σ1/\Hs K H1 S1/\Kp H H1/\iG ok gg b M (ds.drop i) L1 S1,⟨ds.length,by simp,Kf _,L,S,hL,hS,Kp.refl H,h⟩,?_⟩
 rintro i m σ1 H1 ⟨rfl,hi,L1,S1,hL1,hS1,k1,w1⟩
 by_cases hlt:i < ds.length
 ·have e:ds.drop i=ds[i]::ds.drop (i+1):=Kd hlt;rw [e] at w1;obtain⟨o1,w1⟩:=w1;obtain⟨g1,y1⟩:=hgo i ds[i] S1 H1 (by simp [hlt]) k1 hS1 o1
  refine .inr ⟨g1,fun σ' H'=>i+1<=ds.length/\∃ L' S',Lc K H' L' σ'/\Hs K H' S'/\Kp H H'/\iG ok gg b M (ds.drop (i+1)) L' S',fun σ' H' z9=>by obtain⟨q1,q2⟩:=z9; exact⟨ds.length - (i+1),by omega,rfl,q1,q2⟩,λx H' y=>?_⟩
  obtain⟨k0,hS0,ix⟩:=y1 x H' y;have k10:=k1.trans k0;refine⟨ds[i],L1,S1,_,ix,hL1.kp k0,hS0,w1,λL2 S2 σ2 H2 q k2 hL2 hS2=>⟨L2,S2,_,hL2,hS2,q,?_⟩⟩
  have r2:=r.kp (k10.trans k2);exact⟨λL3 S3 σ3 H3 q3 k3 hL3 hS3=>⟨hlt,L3,S3,hL3,hS3,(k10.trans k2).trans k3,q3⟩,r2.rt,r2.nx,λL3 S3 σ3 H3 q3 k3 hL3 hS3=>⟨hlt,L3,S3,hL3,hS3,(k10.trans k2).trans k3,q3⟩⟩
 ·have e:i=ds.length:=by omega
  subst e;rw [List.drop_length] at w1;obtain⟨o1,w1⟩:=w1;exact .inl ⟨hst S1 H1 k1 hS1 o1,r.nx L1 S1 σ1 H1 w1 k1 hL1 hS1⟩
theorem E7 {K:Fg} {H1:Hp} {q1 q2:List D×Ks Kr} {a1 a2:Kr} {b1 b2:KA} (y1:∀ S2 H2,Kp H1 H2->Hs K H2 S2->eE q1 S2->∃ xs,qZ b1 K H2 a1 xs/\IsDs K H2 q1.1 xs) (y2:∀ S2 H2,Kp H1 H2->Hs K H2 S2->eE q2 S2->∃ xs,qZ b2 K H2 a2 xs/\IsDs K H2 q2.1 xs):
  (∀ i d S2 H2,(rT q1.1 q2.1)[i]?=some d->Kp H1 H2->Hs K H2 S2->(eE q1 S2/\eE q2 S2)->(GZ K b1 b2 a1 a2).go i H2/\∀ x H',(GZ K b1 b2 a1 a2).yld i H2 x H'->Kp H2 H'/\Hs K H' S2/\cn K H' d x)/\
  ∀ S2 H2,Kp H1 H2->Hs K H2 S2->(eE q1 S2/\eE q2 S2)->(GZ K b1 b2 a1 a2).stop (rT q1.1 q2.1).length H2:=by
 refine⟨λi c S2 H2 e k2 hS2 o2=>?_,λS2 H2 k2 hS2 o2=>?_⟩
 ·obtain⟨xs,w1,u1⟩:=y1 S2 H2 k2 hS2 o2.1;obtain⟨ys,w2,u2⟩:=y2 S2 H2 k2 hS2 o2.2;obtain⟨c1,c2,f1,f2,rfl⟩:∃ c1 c2,q1.1[i]?=some c1/\q2.1[i]?=some c2/\D.tup [c1,c2]=c:=by
   unfold rT at e;rw [List.getElem?_zipWith] at e;cases z1:q1.1[i]? with
   | none=>rw [z1] at e; cases e
   | some c1=>
    cases z2:q2.1[i]? with
    | none=>rw [z1,z2] at e; cases e
    | some c2=>rw [z1,z2] at e; exact⟨c1,c2,rfl,rfl,J0 e⟩
  obtain⟨v1,g1,r1⟩:=u1.get f1;obtain⟨v2,g2,r2⟩:=u2.get f2;refine⟨⟨xs,ys,v1,v2,w1,w2,g1,g2⟩,?_⟩;rintro x H' ⟨T,x',y',rfl,hT,rfl,al⟩;obtain⟨l1,l2⟩:=al xs ys w1 w2;rw [g1] at l1;rw [g2] at l2;cases l1;cases l2;have kn:Kp H2 (cb H2 T (.tup [v1,v2])):=Kp.new hT;exact⟨kn,hS2.new hT,cr.mpr ⟨T,[v1,v2],rfl,ka.of cA,IsDs.cons (r1.kp kn) (IsDs.cons (r2.kp kn) IsDs.nil)⟩⟩
 ·obtain⟨xs,w1,u1⟩:=y1 S2 H2 k2 hS2 o2.1;obtain⟨ys,w2,u2⟩:=y2 S2 H2 k2 hS2 o2.2;refine⟨xs,ys,w1,w2,?_⟩;rw [<- u1.length,<- u2.length];unfold rT;rw [List.length_zipWith];omega
def FE (ta:DA) (g:DG) (b:DS):DS:=λM L S=>ta L S λds S1=>match ds with
 | [d1,d2]=>∃ q1 q2,aT S1 d1=some q1/\aT S1 d2=some q2/\iG (λS=>eE q1 S/\eE q2 S) g b M (rT q1.1 q2.1) L S1
 | _=>False
section
variable {X:Cx} {a b:Kt} {es:List Kt} {kt:Nat} {tp p pos pos':Pos} {gg:DG} {ta:DA} {g:DS} {body:List Ky} {tg:Kt}
theorem xP (hp:PassesOwn (model X.prog X.w) X.A X.env X.xe) (hc:X.calm=true) (hgl:Gl X "zip") (hm:X.mg "zip"=none) (ha:AJ X [a,b] ta) (hg:GJ X (.Tuple es kt tp) gg) (hb:vW X body g)
  (hs1:starEach [a,b] X.env=[(false,eval a X.env),(false,eval b X.env)]:=by rfl) (hs2:starEach [b] X.env=[(false,eval b X.env)]:=by rfl) (hs:∀ x,foldedSetIterable (.Call (.Name "zip" p) [a,b] [] pos') X.env x=pure x:=by intro _; rfl):
  SJ X (.For (.Tuple es kt tp) (.Call (.Name "zip" p) [a,b] [] pos') body [] pos) (FE ta gg g):=
 ⟨PS.imp (sK hp hc (AN hgl hm ha.h hs1 hs2) hg.h hb.h hs) λN σ H ⟨L,S,M,hL,hS,h,r⟩=>tN.go hL hS h λds S1 vs H1 h1 k1 hL1 hS1 i1=>by
  split at h1
  ·rename_i d1 d2
   obtain⟨v1,v2,rfl,j1,j2⟩:=qb i1;obtain⟨q1,q2,e1,e2,h1⟩:=h1;obtain⟨a1,b1,rfl,x1,y1⟩:=nO hS1 j1 e1;obtain⟨a2,b2,rfl,x2,y2⟩:=nO hS1 j2 e2;obtain⟨z1,z2⟩:=E7 y1 y2;exact⟨a1,a2,b1,b2,rfl,x1,x2,rA hL1 hS1 h1 (r.kp k1) z1 z2⟩
  ·exact h1.elim⟩
end
section
variable {X:Cx} {pos:Pos}
def GE (g:DE) (tl th:CT):DE:=λL S k=>g L S λx S1=>tl L S1 λlo S2=>th L S2 λhi S3=>match x with
 | .tup xs=>¬ (HT.cM xs.length 0 lo=0/\HT.cM xs.length xs.length hi=xs.length)/\k (.tup (gq xs lo hi)) S3
 | .rl xs=>∀ p,S3 p=none->k (.ref p) (put S3 p (.lst (gq xs lo hi)))
 | .ref a=>∃ xs,S3 a=some (.lst xs)/\∀ p,S3 p=none->k (.ref p) (put S3 p (.lst (gq xs lo hi)))
 | _=>False
theorem fY {e:Kt} {g:DE} {lo hi:Ks Kt} {tl th:CT} {p2 pos:Pos} (he:EJ X e g) (hl:OJ X lo tl) (hu:OJ X hi th):EJ X (.Subscript e (.Slice lo hi none p2) pos) (GE g tl th):=
 ⟨PE.imp (uG (A7.or zW A_) he.h hl.h hu.h) fun σ H Q ⟨L,S,k,hL,hS,h,n⟩=>up.go hL hS h λd S1 v H1 h1 k1 hL1 hS1 i1=>by
  refine⟨L,S1,_,hL1,hS1,h1,λlo' S2 H2 h2 k2 hS2=>⟨L,S2,_,hL1.kp k2,hS2,h2,λhi' S3 H3 h3 k3 hS3=>?_⟩⟩
  cases d with
  | tup xs=>
   obtain⟨a,vs,rfl,t,j⟩:=cr.mp i1;have j3:=j.kp (k2.trans k3);refine .inl ⟨a,vs,rfl,(k2.trans k3).tup t,by rw [<- j.length]; exact h3.1,λp hp=>?_⟩
   have k4:Kp H3 (cb H3 p (.tup (oS vs lo' hi'))):=Kp.new hp;refine n _ S3 _ _ h3.2 (k1.trans (k2.trans (k3.trans k4))) (hS3.new hp) (cr.mpr ⟨p,_,rfl,ka.of cA,?_⟩);unfold gq oS;rw [j.length];exact((j3.drop _).take _).kp k4
  | rl xs=>
   obtain⟨a,vs,rfl,t,j⟩:=uB.mp i1;have j3:=j.kp (k2.trans k3);refine .inr ⟨a,vs,rfl,((k2.trans k3).fro t).sq,λp hp=>?_⟩
   refine n _ _ _ _ (h3 p (hS3.free hp)) (k1.trans (k2.trans (k3.trans (Kp.new hp)))) (hS3.newL hp ?_) (df.mpr rfl);unfold gq oS;rw [j.length];exact(j3.drop _).take _
  | ref a=>
   have e1:=df.mp i1;subst e1;obtain⟨xs,z,h3⟩:=h3;obtain⟨vs,hl,j⟩:=hS3.lst z;refine .inr ⟨a,vs,rfl,jE.of hl,λp hp=>?_⟩
   refine n _ _ _ _ (h3 p (hS3.free hp)) (k1.trans (k2.trans (k3.trans (Kp.new hp)))) (hS3.newL hp ?_) (df.mpr rfl);unfold gq oS;rw [j.length];exact(j.drop _).take _
  | _=>exact(show False from h3).elim⟩
theorem pV {elt tg iter c:Kt} {scope:Scope} {cl:List (Str×Kr)} {N:List Str} {cap:List (Ks Nat)} {gg:DG} {ge gi:DE} {gc:DT} (hc:X.calm=true) (Sc:g_ X scope cl N cap) (hi:EJ X iter gi) (hg:∀ s0 H0 ex C,GJ (kl X scope cl N s0 H0 ex C) tg gg) (hcnd:∀ s0 H0 ex C,TJ (kl X scope cl N s0 H0 ex C) c gc) (he:∀ s0 H0 ex C,EJ (kl X scope cl N s0 H0 ex C) elt ge)
  (hs:∀ x,foldedSetIterable iter X.env x=pure x:=by intro _; rfl):EJ X (.ListComp elt [⟨tg,iter,[c],0⟩] scope pos) (yO cap gi gg (BG gc ge)):=
 ⟨PE.imp (xY hc Sc (vh hi.h) (λs0 H0 ex C=>(hg s0 H0 ex C).h) (λs0 H0 ex C=>(hcnd s0 H0 ex C).h) (λs0 H0 ex C=>(he s0 H0 ex C).h) hs) fun σ H Q ⟨L,S,k,hL,hS,h,n⟩=>up.go hL hS h λd S1 v H1 h1 k1 hL1 hS1 i1=>by
  obtain⟨p,hp,h1⟩:=h1;obtain⟨a,e,q⟩:=nP hS1 i1 hp;refine⟨a,e,?_⟩;have n':∀ d S' v H',k d S'->Kp H1 H'->Hs X.K H' S'->cn X.K H' d v->Q v H':=λd S' v H' q k3=>n d S' v H' q (k1.trans k3)
  rcases q with ⟨q1,q2,q3⟩ | ⟨q1,q2,q3⟩
  ·exact .inl ⟨q1,λD hD=>oh (hL1.cap cap) hS1 hD (h1 D (hS1.free hD)) n' q2 q3⟩
  ·exact .inr ⟨q1,λD hD=>oh (hL1.cap cap) hS1 hD (h1 D (hS1.free hD)) n' q2 q3⟩⟩
theorem dP {ok:DH->Prop} {g:DG} {b:DS} {M:lF} (Iv:List D->Lo->DH->Prop) (hok:∀ r L S,Iv r L S->ok S)
  (hs:∀ d r L S N,Iv (d::r) L S->(∀ L' S',Iv r L' S'->N L' S')->g d L S λL1 S1=>b {M with nx:=N,ct:=N,bk:=M.nx} L1 S1) (hd:∀ L S,Iv [] L S->M.nx L S):∀ r L S,Iv r L S->iG ok g b M r L S
 | [],L,S,i=>⟨hok [] L S i,hd L S i⟩
 | d::r,L,S,i=>⟨hok _ L S i,hs d r L S _ i λL' S' i'=>dP Iv hok hs hd r L' S' i'⟩
end
end DL
namespace L2
open PySem PySem.Spec PyProof.Rows
section
variable {X:Cx} {elt tg iter c:Kt} {scope:Scope} {cl:List (Str×Kr)} {N:List Str} {cap:List (Ks Nat)} {pos:Pos} {wi:TI} {g:TG} {te:TE} {tc:TT}
theorem vt (Sc:g_ X scope cl N cap) {KD:List (Kr×KC)} {σ σ3:St} {H2 H3:Hp} {s2 s4:Ko} {fp:List Kr} {h1':Kx} {C:Kr} (I2:aI X KD σ H2 s2) (f2:∀ b∈fp,oy X KD H2 b) {H1:Hp}
  (un3:Un (f_ X.stack) fp H2 H1 s2.heap h1') (I4:aI (kl X scope cl N {s2 with heap:=h1'} H1 fp C) [] σ3 H3 s4) (hC:s2.heap.objs.size<=C) {x:Str} {pos':Pos} {i:Nat} {D:mK} {a:Kr} (pg:PG X (.Name x pos') (rJ i)) (qn:D.nx (σ.set i (some (.ref a))) H3):
  wpAny (model X.prog X.w) X.A (assign (.Name x pos') X.env (.ref a)) (λ_ s''=>∃ m,s''.heap.Ns C m/\∀ h',Heap.SameBut C s''.heap h'->∃ σ' H',aI X KD σ' H' {s'' with heap:=h'}/\D.nx σ' H') X.xe s4:=by
 have J:aI X KD σ H3 s4:=pC Sc I2 f2 un3 I4 (h':=s4.heap) hC ⟨rfl,λ_ _=>rfl⟩
 obtain⟨m,⟨o,es,ep,ho,hd,hr⟩,_⟩:=I4.loc;have ltC:∀ b u,s2.heap.get? b=some u->b≠C:=λb u e=>JC (JG (Jv e) hC)
 have hL:C≠X.env.locals:=λz=>by
  have:=I2.lt;rw [<- z] at this;exact absurd (JG this hC) (Kg _)
 have hn:H3 C=none:=I4.free;have J':aI X ((C,o)::KD) σ H3 s4:=⟨J.ok,J.os,J.bare,J.base,J.loc,J.cell,J.free,J.freeC,λp hp=>by
  rcases List.mem_append.mp hp with hp | hp
  ·exact J.pin p (List.mem_append_left _ hp)
  ·rcases JB.mp hp with rfl | hp
   ·exact⟨ho,hn,hL,I2.nofs hC,λv z=>by rw [hd] at z; cases z⟩
   ·exact J.pin p (JH _ hp),J.hok,J.len⟩
 refine cm (pg _ s4 σ H3 (.ref a) (.ref a) (fun σ' H'=>σ'=σ.set i (some (.ref a))/\H'=H3) J' rfl ⟨rfl,rfl⟩) λ_ s5 h5=>?_
 obtain⟨_,_,I5,rfl,rfl⟩:=h5;have h6:=I5.pin (C,o) (JH _ JD);refine⟨m,⟨o,es,ep,h6.1,hd,hr⟩,λh' sb=>⟨_,_,?_,qn⟩⟩
 have I6:aI X KD (σ.set i (some (.ref a))) _ s5:=⟨I5.ok,I5.os,I5.bare,I5.base,I5.loc,I5.cell,I5.free,I5.freeC,λp hp=>I5.pin p (by
  rcases List.mem_append.mp hp with hp | hp
  ·exact List.mem_append_left _ hp
  ·exact JH _ (JE _ hp)),I5.hok,I5.len⟩
 exact I6.turned (t':=s5.toks) (it:=C) (λb u hb e=>(sb.2 b hb).trans e) hn hL (.inr (J7 I2.sz hC)) (λy c e=>by
  obtain⟨v,u,q,_⟩:=I2.cell y c e;exact ltC c u q) (λp hp=>ltC p.1 p.2 (I2.pin p hp).1)
theorem yF {x:Str} {i:Nat} {pos' spos:Pos} (hN:X.N.Nodup) (hi':X.N[i]?=some x) (hx':X.env.scope.names.lookup x=some .local) (hsw:swapsWith (.ListComp elt [⟨tg,iter,[],0⟩] scope pos) (some (.Name x pos')) spos.line X.env=pure true) (hc:X.calm=true) (Sc:g_ X scope cl N cap) (hi:PI X tg iter wi) (hg:∀ s0 H0 ex C,PG (kl X scope cl N s0 H0 ex C) tg g) (he:∀ s0 H0 ex C,PE (kl X scope cl N s0 H0 ex C) elt te)
  (hs:∀ x,foldedSetIterable iter X.env x=pure x:=by intro _; rfl):PS X (.Assign [.Name x pos'] (.ListComp elt [⟨tg,iter,[],0⟩] scope pos) spos) (BC (C5 cap wi g te) (rJ i)):=by
 intro KD s σ H D I h;have pg:PG X (.Name x pos') (rJ i):=wx hN hi' (.inl hx') (.inr hx');rw [exec_Assign_Name_used _ _ _ _ hsw];refine gt (wpAny_standAt (gt ?_))
 show wpAny _ _ (evalThenUse _ X.env _) _ _ _
 unfold evalThenUse;have Q:=λv H1=>D.nx (σ.set i (some v)) H1
 refine gt (J5 (Q:=λ_ s'=>∃ σ' H',aI X KD σ' H' s'/\D.nx σ' H') ?_ (λv s' q=>Js (Js q)) λ_ _ q=>q)
 have hcell:∀ y∈scope.names,y.2≠.cell:=λy hy=>by simpa using Ki.mp Sc.nocell y hy
 have hnames:∀ y∈scope.names,y.2=.local->scope.names.lookup y.1=some .local:=λy hy e=>by
  have:=Ki.mp Sc.names y hy;rw [e] at this
  simpa using this
 refine wpAny_comprehension_free (use:=some (assign (.Name x pos') X.env)) rfl hs Sc.clos Sc.kind hnames (cm (hi KD s σ H _ I h) λv s1 h1=>cm h1 λitv s2 h2=>?_)
 obtain⟨it,fp,tn,J,H2,e,I2,T,st2,f2,hW⟩:=h2;subst e;refine JW (wpAny_newFunctionEnv hcell (by intro y hy; simp at hy) (λh1 hns hsb=>?_) Sc.kind)
 obtain⟨W,⟨m0,w0⟩,turn⟩:=hW s2.heap.objs.size I2.fresh;dsimp only at hns hsb ⊢
 generalize hD:s2.heap.push {cls:=.type "list",dict:=none,data:=.seq ([]:List Kq).toArray}=h1' at hns hsb ⊢
 obtain⟨I3,un3⟩:=qi (tk:=s2.toks+([]:List (Str×Kq)).length) Sc I2 f2 (λb hb=>let ⟨o,e,_⟩:=T.obj 0 _ st2 b hb; ⟨o,e⟩) hD hns hsb
 have hC:s2.heap.objs.size<=h1'.objs.size:=by rw [<- hD,Kh]; exact Nat.le_succ _
 have k1:∀ b o,s2.heap.get? b=some o->h1.get? b=some o:=λb o e=>by
  have e1:h1'.get? b=some o:=by rw [<- hD]; exact pp _ e
  exact(hsb.2 b (JC (Jv e1))).trans (pp _ e1)
 have st3:tn 0 h1:=T.keep 0 _ _ st2 λb _ o e=>k1 b o e
 have fr3:∀ b∈fp,(cb H2 s2.heap.objs.size (.lst [])) b=none:=λb hb=>by
  obtain⟨o,e,_⟩:=T.obj 0 _ st2 b hb;rw [aM (JC (Jv e))];exact(f2 b hb).1
 have loop:∀ s3:Ko,s3={s2 with heap:=h1,toks:=s2.toks+([]:List (Str×Kq)).length}->
   codeAny (model X.prog X.w) X.A (.compLoop (.ListComp elt [⟨tg,iter,[],0⟩] scope pos) 0 (.ref it) (.ref s2.heap.objs.size) (compEnvC scope cl h1'.objs.size X.env))
    (compPost (model X.prog X.w) X.A X.xe (some (assign (.Name x pos') X.env)) (λ_ s'=>∃ σ' H',aI X KD σ' H' s'/\D.nx σ' H') (.ref s2.heap.objs.size) h1'.objs.size) s3:=by
  rintro s3 rfl;refine mU (λn s'=>∃ i σ' H',aI (kl X scope cl N {s2 with heap:=h1'} (cb H2 s2.heap.objs.size (.lst [])) fp h1'.objs.size) [] σ' H' s'/\tn i s'.heap/\(∀ b∈fp,H' b=none)/\W i n σ' H') ?_ m0 ⟨0,_,_,I3,st3,fr3,w0⟩
  rintro n s3 ⟨i,σ3,H3,I3,st3,fr3,w3⟩;rcases turn i n σ3 H3 w3 with ⟨stop,qn⟩ | ⟨go,Nn,hN,step⟩
  ·refine cm (T.done (kl X scope cl N {s2 with heap:=h1'} (cb H2 s2.heap.objs.size (.lst [])) fp h1'.objs.size) rfl rfl rfl hc i [] s3 σ3 H3 kg I3 (gF I3 fr3) st3 stop) λr s4 z9=>?_
   obtain⟨hr,I4⟩:=z9;subst hr;exact vt Sc I2 f2 un3 I4 hC pg qn
  ·refine cm (T.item (kl X scope cl N {s2 with heap:=h1'} (cb H2 s2.heap.objs.size (.lst [])) fp h1'.objs.size) rfl rfl rfl hc i [] s3 σ3 H3 kg I3 (gF I3 fr3) st3 go) λr s4 z9=>?_
   obtain⟨u,hr,h4⟩:=z9;subst hr;refine cm h4 λ_ s5 z9=>?_
   obtain⟨x,H5,I5,r5,y5,st5,fr5⟩:=z9;have I5':=I5.pinned (gF I5 fr5) (T.obj _ _ st5);refine cm (hg _ _ _ _ _ s5 σ3 H5 x u _ I5' r5 (step x H5 y5)) λ_ s6 z9=>?_
   obtain⟨σ6,H6,I6,q6⟩:=z9;refine cm (he _ _ _ _ _ s6 σ6 H6 _ I6 q6) λuv s7 z9=>?_
   obtain⟨v,H7,I7,r7,ys,hy,hl,q7⟩:=z9;refine cm (lu (X:=kl X scope cl N {s2 with heap:=h1'} (cb H2 s2.heap.objs.size (.lst [])) fp h1'.objs.size) _ s7 σ6 H7 (.ref s2.heap.objs.size) [v] (.ref s2.heap.objs.size) [uv] (λ_ H8=>Nn σ6 H8) I7 rfl (.cons r7 .nil) ⟨_,ys,v,rfl,rfl,hy,hl,q7⟩) λ_ s8 z9=>?_
   obtain⟨_,H8,I8,_,n8⟩:=z9;obtain⟨m',hm,w8⟩:=hN σ6 H8 n8;refine⟨m',hm,i+1,σ6,H8,I8.unpinned,T.keep _ _ _ st5 λb hb o e=>(I8.pin (b,o) (JH _ (JH _ (dX hb e)))).1,λb hb=>?_,w8⟩
   obtain⟨o,e,d⟩:=T.obj _ _ st5 b hb;exact(I8.pin (b,o) (JH _ (JH _ (dX hb e)))).2.1
 exact codeAny_compStart_list (loop _ rfl) (T.self _ 0 _ _ _ st3 (loop _ rfl))
end
end L2
namespace DL
open PySem PySem.Spec PyProof.Rows L2
theorem Ie {K:Fg} {ge:DE} {tc:TE} {i:Nat} (f:∀ σ H Q,up K ge σ H Q->tc σ H Q):∀ N σ H,zo K (DU i ge) N σ H->BC tc (rJ i) N σ H:=λN σ H ⟨L,S,M,hL,hS,h,r⟩=>
 f σ H _ (up.go hL hS h λd S1 v H1 h1 k1 hL1 hS1 i1=>r.nx _ S1 _ H1 h1 k1 (hL1.set i1 i) hS1)
section
variable {X:Cx} {pos pos' p:Pos} {elt tg a b c:Kt} {scope:Scope} {cl:List (Str×Kr)} {N:List Str} {cap:List (Ks Nat)} {gg:DG} {ge gi:DE} {gc:DT} {ta:DA}
theorem ub {xv:Str} {iv:Nat} {pv sv:Pos} (hNv:X.N.Nodup) (hc:X.calm=true) (Sc:g_ X scope cl N cap) (hgl:Gl X "range") (hm:X.mg "range"=none) (ha:AJ X [a] ta) (hg:∀ s0 H0 ex C,GJ (kl X scope cl N s0 H0 ex C) tg gg) (he:∀ s0 H0 ex C,EJ (kl X scope cl N s0 H0 ex C) elt ge)
  (hs1:starEach [a] X.env=[(false,eval a X.env)]:=by exact dh rfl) (hs:∀ x,foldedSetIterable (.Call (.Name "range" p) [a] [] pos') X.env x=pure x:=by intro _; rfl) (hiv:X.N[iv]?=some xv:=by rfl) (hxv:X.env.scope.names.lookup xv=some .local:=by rfl) (hswv:swapsWith (.ListComp elt [⟨tg,.Call (.Name "range" p) [a] [] pos',[],0⟩] scope pos) (some (.Name xv pv)) sv.line X.env=pure true:=by rfl):SJ X (.Assign [.Name xv pv] (.ListComp elt [⟨tg,.Call (.Name "range" p) [a] [] pos',[],0⟩] scope pos) sv) (DU iv (D5 cap ta gg (mE ge))):=
 ⟨PS.imp (yF hNv hiv hxv hswv hc Sc (rK hgl hm ha.h hs1) (λs0 H0 ex C=>(hg s0 H0 ex C).h) (λs0 H0 ex C=>(he s0 H0 ex C).h) hs) (Ie (fun σ H Q ⟨L,S,k,hL,hS,h,n⟩=>tN.go hL hS h λds S1 vs H1 h1 k1 hL1 hS1 i1=>by
  split at h1
  ·obtain⟨v,rfl,j⟩:=kI i1;have e:=isInt.mp j;subst e;obtain⟨⟨h2,h3⟩,h1⟩:=h1;refine⟨_,rfl,h2,h3,λD hD=>ny (hL1.cap cap) hS1 hD (h1 D (hS1.free hD)) (λd S' v H' q k3=>n d S' v H' q (k1.trans k3)) AT λS2 H2 k2 hS2 _=>?_⟩
   rw [Jy,List.length_range];exact Jw _
  ·exact h1.elim))⟩
end
end DL
namespace L2
open PySem PySem.Spec PyProof.Rows
inductive i8 (B:Kx):Kq->Prop
 | last:i8 B .none
 | more {a:Kr} {o:KC} {vs:Kz Kq} {v:Kq}:B.get? a=some o->o.data=.fields vs->vs[2]?=some v->i8 B v->i8 B (.ref a)
def yG (B h:Kx) (e:Kr):Prop:=∃ o vs v,h.get? e=some o/\o.data=.fields vs/\vs[2]?=some v/\i8 B v
def oz (B:Kx) (l:List Env) (e:Kr) (cls a0:Kq) (h:Kx):Prop:=Heap.FlyingW B l e cls a0 h/\yG B h e
def De (B:Kx) (l:List Env) (e:Kr) (cls a0:Kq) (L:Kr) (h:Kx):Prop:=Heap.HeldW B l e cls a0 L h/\yG B h e
section
variable {M:Model} {A:Kv} {E:Kq->Ko->Prop} {s:Ko} {B:Kx} {env:Env} {outer:List Env} {L e:Kr} {Q:Unit->Ko->Prop}
theorem nS {oe:KC} {vs:Kz Kq} {head a0 v2:Kq} {nx:KA} (hfr:A.frames=some (env::outer)) (hl:s.heap.FunFrames B (env::outer)) (hf:env.frame=some L) (he:s.heap.get? e=some oe) (hk:B.StaysIn s.heap) (hn:B.get? e=none) (hd:oe.data=.fields vs) (hz:1 < vs.size) (h0:vs[0]?=some a0) (h2:vs[2]?=some v2) (ok2:i8 B v2)
  (h:∀ h',Heap.NotedW B (env::outer) e oe.cls a0 (rawInt L) s.heap h'->yG B h' e->Q () {s with heap:=h'}):
  wpAny M A (do let a <- frameOf env; let pl <- entryPlaceOf L nx; let b <- EntryCells.newEntry head a .none (rawInt L) .none pl; setField (.ref e) 1 b) Q E s:=by
 have ef:e∉(env::outer).filterMap (·.frame):=λm=>by
  obtain⟨_,o,ho,z⟩:=hl.mem m;rw [he] at ho;cases ho;exact z vs hd
 have nr:∀ b o,s.heap.get? b=some o->(∀ vs,o.data≠.fields vs)->b≠e:=λb o hb z y=>by
  rw [y,he] at hb;cases hb;exact z vs hd
 refine gt (wpAny_frameOf_fun hfr hl hf λh1 hs=>gt (wpAny_entryPlaceOf λpl hp=>?_))
 have e1:h1.get? e=some oe:=(hs.2.1 e ef).trans he;have k1:B.StaysIn h1:=λb o y=>(hs.2.1 b λm=>by rw [(hl.mem m).1] at y; cases y).trans (hk b o y)
 have te:h1.objs.size≠e:=Nat.ne_of_gt (Jv e1);unfold EntryCells.newEntry newFields;refine gt (JW ?_ (hp.sizeOk5 _ _ _ _ _));generalize hT:({cls:=.type "traceback",dict:=none,data:=.fields ([head,.ref L,.none,rawInt L,.none]++(if pl.isEmpty then List.replicate 6 Value.none else pl)).toArray}:KC)=oT
 have e2:=pp (h:=h1) oT e1;have d3:=Obj.data_mapFields hd (·.setIfInBounds 1 (Value.ref h1.objs.size));have e3:=J_ (Obj.mapFields (·.setIfInBounds 1 (Value.ref h1.objs.size))) e2 (Obj.isFreed_of_fields d3);have t3:=(JZ (h1.push oT) (Obj.mapFields (·.setIfInBounds 1 (Value.ref h1.objs.size))) (Ne.symm te)).trans (Jt h1 (by rw [<- hT]; rfl))
 have kp:∀ b o,b≠e->h1.get? b=some o->((h1.push oT).update e (Obj.mapFields (·.setIfInBounds 1 (Value.ref h1.objs.size)))).get? b=some o:=λb o nb hb=>(JZ _ _ (Ne.symm nb)).trans (pp _ hb)
 refine wpAny_setField e2 hd hz (h _ ⟨λb o y=>kp b o (λz=>by rw [z,hn] at y; cases y) (k1 b o y),hl.of_keeps λb o hb z=>?_,?_,λb o hb z=>?_⟩ ⟨_,_,v2,e3,d3,by rw [Array.getElem?_setIfInBounds_ne (by decide)]; exact h2,ok2⟩)
 ·obtain⟨sl,y⟩:=hs.2.2 b o hb;exact⟨_,kp b _ (nr b o hb z) y,rfl⟩
 ·refine⟨_,_,h1.objs.size,oT,_,e3,⟨Obj.cls_mapFields _ _,by rw [Array.getElem?_setIfInBounds_ne (by decide)]; exact h0⟩,d3,by simp [hz],k1.fresh,te,t3,by rw [<- hT],?_⟩
  first | (simp; done) | (rcases hp with rfl | ⟨_,_,_,_,_,_,_,rfl⟩ <;> simp)
 ·obtain⟨sl,y⟩:=hs.2.2 b o hb;exact⟨sl,kp b _ (nr b o hb z) y⟩
theorem lg {l:List Env} {cls a0:Kq} (hh:De B l e cls a0 L s.heap) (hQ:∀ h',oz B l e cls a0 h'->s.heap.UpToSlots h'->Q () {s with heap:=h'}):wpAny M A (setFlight (.ref e) none) Q E s:=by
 obtain⟨⟨f1,f2,f3,oe,vs,T,oT,ts,he,hc,hd,h1,nT,te,hT,dT,h3⟩,oc,vc,w2,gc,dc,c2,ok2⟩:=hh;rw [he] at gc;cases gc;rw [hd] at dc;cases dc;have z3:3 < ts.size:=(Array.getElem?_eq_some_iff.mp h3).1;have ot:∀ b,b≠T->(s.heap.update T (Obj.mapFields (·.setIfInBounds 3 ((none:Ks Kr).elim Value.none λf=>rawInt f)))).get? b=s.heap.get? b:=λb hb=>JZ _ _ (Ne.symm hb)
 have nr:∀ b o,s.heap.get? b=some o->(∀ vs,o.data≠.fields vs)->b≠T:=λb o hb z y=>by
  rw [y,hT] at hb;cases hb;exact z ts dT
 unfold setFlight;refine gt (J6 he hd h1 ?_);rw [if_pos (by simp)]
 have ge:=(ot e (Ne.symm te)).trans he;refine wpAny_setField hT dT z3 (hQ _ ⟨⟨λb o y=>(ot b λz=>by rw [z,nT] at y; cases y).trans (f1 b o y),f2,f3.of_keeps λb o hb z=>⟨o,(ot b (nr b o hb z)).trans hb,rfl⟩,?_⟩,_,_,w2,ge,hd,c2,ok2⟩ λb o hb z=>⟨o.slots,(ot b (nr b o hb z)).trans hb⟩)
 exact⟨oe,vs,T,_,_,ge,hc,hd,h1,nT,te,J_ _ hT (Obj.isFreed_of_fields (Obj.data_mapFields dT _)),Obj.data_mapFields dT _,by simp [z3]⟩
theorem rh {cls a0:Kq} (hfr:A.frames=some (env::outer)) (hf:env.frame=some L) (hfl:oz B (env::outer) e cls a0 s.heap) (hQ:∀ h',De B (env::outer) e cls a0 L h'->s.heap.UpToSlots h'->Q () {s with heap:=h'}):wpAny M A (noteFrame (.ref e) env) Q E s:=by
 obtain⟨⟨f1,f2,f3,oe,vs,T,oT,ts,he,⟨hc,h0⟩,hd,h1,nT,te,hT,dT,h3⟩,oc,vc,w2,gc,dc,c2,ok2⟩:=hfl;rw [he] at gc;cases gc;rw [hd] at dc;cases dc;subst hc;have ot:∀ b,b≠T->(s.heap.update T (Obj.mapFields (·.setIfInBounds 3 Value.none))).get? b=s.heap.get? b:=λb hb=>JZ _ _ (Ne.symm hb)
 have nr:∀ b o,s.heap.get? b=some o->(∀ vs,o.data≠.fields vs)->b≠T:=λb o hb z y=>by
  rw [y,hT] at hb;cases hb;exact z ts dT
 unfold noteFrame;simp only [hf];refine gt (J6 he hd h1 ?_);rw [if_pos (by simp)]
 refine gt (J6 hT dT h3 ?_);rw [if_neg (by simp [rawInt])]
 refine gt (wpAny_setField hT dT (Array.getElem?_eq_some_iff.mp h3).1 ?_);refine nS hfr (f3.of_keeps λb o hb z=>⟨o,(ot b (nr b o hb z)).trans hb,rfl⟩) hf ((ot e (Ne.symm te)).trans he) (λb o y=>(ot b λz=>by rw [z,nT] at y; cases y).trans (f1 b o y)) f2 hd (Array.getElem?_eq_some_iff.mp h1).1 h0 c2 ok2 λh' ⟨x1,x2,x3,x4⟩ cx=>?_
 exact hQ h' ⟨⟨x1,f2,x2,x3⟩,cx⟩ λb o hb z=>x4 b o ((ot b (nr b o hb z)).trans hb) z
theorem td {cls a0:Kq} {h:Kx} (x:oz B (env::outer) e cls a0 h):oz B outer e cls a0 h:=⟨⟨x.1.1,x.1.2.1,x.1.2.2.1.2.2,x.1.2.2.2⟩,x.2⟩
theorem vO {cls a0:Kq} (hfr:A.frames=some (env::outer)) (hf:env.frame=some L) (hfl:oz B (env::outer) e cls a0 s.heap) (hQ:∀ h',oz B outer e cls a0 h'->s.heap.UpToSlots h'->Q () {s with heap:=h'}):wpAny M A (leaving env (.ref e)) Q E s:=by
 unfold leaving;exact gt (rh hfr hf hfl λh1 x1 u1=>lg x1 λh2 x2 u2=>hQ h2 (td x2) (u1.trans u2))
theorem rj {oe:KC} {vs:Kz Kq} {a0 v2:Kq} (hfr:A.frames=some (env::outer)) (hl:s.heap.FunFrames B (env::outer)) (hf:env.frame=some L) (he:s.heap.get? e=some oe) (hk:B.StaysIn s.heap) (hn:B.get? e=none) (hd:oe.data=.fields vs) (h1:vs[1]?=some .none) (h0:vs[0]?=some a0) (h2:vs[2]?=some v2) (ok2:i8 B v2)
  (hQ:∀ h',oz B outer e oe.cls a0 h'->s.heap.UpToSlots h'->Q () {s with heap:=h'}):wpAny M A (leaving env (.ref e)) Q E s:=by
 unfold leaving noteFrame;simp only [hf];refine gt (gt (J6 he hd h1 ?_));rw [if_neg (by decide)]
 refine nS hfr hl hf he hk hn hd (Array.getElem?_eq_some_iff.mp h1).1 h0 h2 ok2 λh' ⟨x1,x2,x3,x4⟩ cx=>?_
 exact lg (s:={s with heap:=h'}) ⟨⟨x1,hn,x2,x3⟩,cx⟩ λh2 y2 u2=>hQ h2 (td y2) (Heap.UpToSlots.trans x4 u2)
end
def fK (P:Ku) (w:Kw):zQ:=λouter H s E e s'=>∃ (ea:Kr) (cls a0:Kq) (H':Hp) (B:Kx),e=.ref ea/\s'.os=s.os/\AllBare s'.gens/\oz B outer ea cls a0 s'.heap/\mv P w H' B/\
 (∀ b o,s.heap.get? b=some o->H b=none->b∉f_ outer->B.get? b=some o)/\(∀ b o,s.heap.get? b=some o->b∉f_ outer->∃ o',B.get? b=some o')/\Un (f_ outer) [] H H' s.heap s'.heap/\E cls none H'
section
variable {P:Ku} {w:Kw} {K:PySem.W.Frag} {mg:Str->Ks Kq} {base:Kx} {N:List Str} {KE:Str} {scope:Scope} {f:Kr} {cd:Kq} {A:Kv} {outer:List Env} {s0:Ko} {H0:Hp} {E:XK}
theorem vQ {KD:List (Kr×KC)} {σ:St} {H H':Hp} {s:Ko} {sx:Ko} {B h':Kx} {ea:Kr} {cls a0:Kq} (I:aI (cX (fK P w) P w K mg base N KE scope f cd A outer s0 H0 E) KD σ H s) (os:sx.os=s.os) (bare:AllBare sx.gens)
  (fl:oz B outer ea cls a0 h') (hok:mv P w H' B) (hB:∀ b o,s.heap.get? b=some o->H b=none->b∉f_ (cX (fK P w) P w K mg base N KE scope f cd A outer s0 H0 E).stack->B.get? b=some o)
  (hB2:∀ b o,s.heap.get? b=some o->b∉f_ (cX (fK P w) P w K mg base N KE scope f cd A outer s0 H0 E).stack->∃ o',B.get? b=some o')
  (hsl:∀ b∈f_ outer,∀ o,s.heap.get? b=some o->∃ sl,h'.get? b=some {o with slots:=sl}) (fr:∀ b o,s.heap.get? b=some o->H b=none->H' b=none) (tu:∀ b xs,H b=some (.tup xs)->H' b=some (.tup xs)) (fz:∀ b o u,H b=some (.frz o u)->H' b=some (.frz o u))
  (tb:∀ b ps,H b=some (.tbl ps)->∃ more,H' b=some (.tbl (ps++more))) (q:E cls none H'):fK P w outer H0 s0 E (.ref ea) {sx with heap:=h'}:=by
 have nst:∀ b o,s0.heap.get? b=some o->b∉f_ outer->b∉f_ (cX (fK P w) P w K mg base N KE scope f cd A outer s0 H0 E).stack:=λb o e hb z=>by
  rcases JB.mp (I.stkSub b z) with z | z
  ·have:=Jv e;have ab:=I.ok.above;rw [z] at this;exact absurd (JG this ab) (Kg _)
  ·exact hb z
 have hkeep:∀ b o,s0.heap.get? b=some o->H0 b=none->b∉f_ outer->B.get? b=some o:=λb o e n hb=>
  hB b o (I.base.keep b o e n hb (λz=>nomatch z)) (I.base.free b o e n (λz=>nomatch z)) (nst b o e hb)
 have hthere:∀ b o,s0.heap.get? b=some o->b∉f_ outer->∃ o',B.get? b=some o':=λb o e hb=>by
  obtain⟨o',e1⟩:=I.base.there b o e (λz=>nomatch z)
  exact hB2 b o' e1 (nst b o e hb)
 refine⟨ea,cls,a0,H',B,rfl,os.trans I.os,bare,fl,hok,hkeep,hthere,⟨λb o e n hb _=>fl.1.1 _ _ (hkeep b o e n hb),λb o e n hb _=>?_,λb o e n _=>?_,λb o e _=>?_,λb xs e=>tu _ _ (I.base.tups b xs e),λb o u e=>fz _ _ _ (I.base.frzs b o u e),λb ps e=>?_⟩,q⟩
 ·obtain⟨sl,e1⟩:=I.base.slot b o e n hb (λz=>nomatch z)
  obtain⟨sl',e2⟩:=hsl b hb _ e1;exact⟨sl',e2⟩
 ·obtain⟨o',e1⟩:=I.base.there b o e (λz=>nomatch z)
  exact fr b o' e1 (I.base.free b o e n (λz=>nomatch z))
 ·by_cases hb:b∈f_ outer
  ·obtain⟨o',e1⟩:=I.base.there b o e (λz=>nomatch z)
   obtain⟨sl',e2⟩:=hsl b hb _ e1;exact⟨_,e2⟩
  ·obtain⟨o',e1⟩:=hthere b o e hb;exact⟨o',fl.1.1 _ _ e1⟩
 ·obtain⟨m1,e1⟩:=I.base.tbls b ps e;obtain⟨m2,e2⟩:=tb b _ e1;exact⟨m1++m2,by rw [e2,Array.append_assoc]⟩
theorem BR:tz (fK P w) (cX (fK P w) P w K mg base N KE scope f cd A outer s0 H0 E) E:=by
 intro KD σ H s e s' I h;obtain⟨ea,cls,a0,H',B,rfl,os,bare,fl,hok,hB,hB2,un,q⟩:=h
 show wpAny _ _ (leaving _ (.ref ea)) _ _ s'
 refine vO I.ok.frames rfl fl λh' fl' up=>?_
 refine vQ (sx:=s') I os bare fl' hok hB hB2 (λb hb o e=>?_) (λb o e n=>un.free b o e n (λz=>nomatch z)) un.tups un.frzs un.tbls q
 have hb':b∈f_ (cX (fK P w) P w K mg base N KE scope f cd A outer s0 H0 E).stack:=JE _ hb;have hn:=I.stkFree b hb';obtain⟨sl,e1⟩:=un.slot b o e hn hb' (λz=>nomatch z)
 obtain⟨_,o2,e2,d2⟩:=fl.1.2.2.1.mem hb';rw [e1] at e2;cases e2;obtain⟨sl',e3⟩:=up b _ e1 d2;exact⟨sl',e3⟩
end
theorem BN {K:PySem.W.Frag} {C:Kr} {bmB:List Kq} {newId:KB} {h:Kx} {x:Str} {mg:Str->Ks Kq} (X:K.In h) (q:PySem.W.excIn K C bmB newId=true) (hm:mg x=some (.ref C)):OwnCls x C bmB newId mg h:=by
 refine⟨hm,?_⟩;unfold PySem.W.excIn at q
 split at q
 ·rename_i d1 c1 sl hlk
  split at q
  ·rename_i C1 bm a0 a1 a2 a3 nn a5 hmro hsl
   simp only [J8,beq_iff_eq,Bool.not_eq_true'] at q;obtain⟨⟨⟨⟨⟨q1,q2⟩,q3⟩,q4⟩,q5⟩,q6⟩:=q;subst q1 q2;obtain⟨v1,v2,v3,v4,v5,v6,v7,v8,v9,v10,v11⟩:=c1;dsimp only at hmro q3 q5 q6
   subst hmro q3;obtain⟨l⟩:=sl;simp only at hsl;subst hsl;exact⟨bm,v4,v1,v5,v2,v6,v7,v8,v9,v10,d1,a0,a1,a2,a3,a5,_,X _ _ hlk,.of_isNs (PySem.W.isNs_of_in X q5),PySem.W.nsMap_none_of_in X q5 q6,PySem.W.tail_of_in X q4⟩
  ·cases q
 ·cases q
section
variable {P:Ku} {w:Kw} {K:PySem.W.Frag} {mg:Str->Ks Kq} {base:Kx} {N:List Str} {KE:Str} {scope:Scope} {f:Kr} {cd:Kq} {A:Kv} {outer:List Env} {s0:Ko} {H0:Hp} {E:XK}
theorem Ai {x t:Str} {C:Kr} {bmB:List Kq} {Bn newId initId:KB} {j:Nat} {p np cpos pos:Pos} (FB:ExcBaseFacts Bn newId initId bmB) (q:PySem.W.excIn K C bmB newId=true) (hm:mg x=some (.ref C))
  (hg:Gl (cX (fK P w) P w K mg base N KE scope f cd A outer s0 H0 E) x) (hd:(x == ("__debug__":Str))=false:=by decide):
  PS (cX (fK P w) P w K mg base N KE scope f cd A outer s0 H0 E) (.Raise (some (.Call (.Name x np) [.Constant (.str t) j p] [] cpos)) none pos) (λ_ _ H=>E (.ref C) none H):=by
 intro KD s σ H D I h;obtain⟨tl,Nn,nm,qn,bs,hdct,sn,sub,ab,col,dd,k0,k1,k2,k3,k5,mN,hC,hN,hni,T⟩:=(BN (x:=x) I.kIn q hm).obj;refine wpAny_Raise_call_subT (C:=C) (nm:=nm) (q:=qn) (N:=Nn) (bs:=bs) (bm:=tl) (hdct:=hdct) (sn:=sn) (sub:=sub) (ab:=ab) (col:=col) (dd:=dd) (k0:=k0) (k1:=k1) (k2:=k2) (k3:=k3) (k5:=k5)
  FB (mN:=mN) (T.hasType FB.hasBase) (I.ok.hd rfl) rfl hni (fv I hg hm ⟨rfl,?_⟩ hd)
 refine Calls.evalArgs_plain (Calls.spliced_cons (Calls.Constant_str (k:=j) (pos:=p) (Calls.spliced_nil ⟨rfl,JL rfl,hC,hN,T,λh' e hx=>?_⟩)))
 show wpAny _ _ (leaving _ (.ref e)) _ _ _
 have I1:=I.tok (s.toks+1);have hin:∀ env∈(cX (fK P w) P w K mg base N KE scope f cd A outer s0 H0 E).stack,∀ b,env.frame=some b->b∈f_ (cX (fK P w) P w K mg base N KE scope f cd A outer s0 H0 E).stack:=λenv he b hb=>List.mem_filterMap.mpr ⟨env,he,hb⟩
 obtain⟨t2,he2,_,_⟩:=hx.there;refine rj (B:=PySem.W.hideAll s.heap (f_ (cX (fK P w) P w K mg base N KE scope f cd A outer s0 H0 E).stack)) (a0:=.ref t2) I.ok.frames ((PySem.W.funFrames_hide I.stack hin).of_keeps λb o hb _=>⟨o,hx.keeps b o hb,rfl⟩) rfl he2 (λb o z=>hx.keeps b o (PySem.W.of_hideAll _ z)) (by
  cases y:(PySem.W.hideAll s.heap (f_ (cX (fK P w) P w K mg base N KE scope f cd A outer s0 H0 E).stack)).get? e with
  | none=>rfl
  | some o=>
   have z:=PySem.W.of_hideAll _ y;rw [show s.heap.get? e=none from hx.new] at z
   cases z) rfl rfl rfl rfl .last λh2 fl up=>?_
 refine vQ (sx:={s with heap:=h',toks:=s.toks+1}) I rfl I.bare fl (λb ob z=>?_) (λb o z _ hb=>PySem.W.hideAll_get _ z hb) (λb o z hb=>⟨o,PySem.W.hideAll_get _ z hb⟩) (λb hb o z=>?_) (λ_ _ _ n=>n) (λ_ _ z=>z) (λ_ _ _ z=>z) (λb ps z=>⟨#[],by rw [z]; simp⟩) h
 ·refine(I.hok b ob z).stay (λc v hc y=>PySem.W.hideAll_get _ y λhf=>?_) (λ_ y=>y) λ_ _ y=>y
  have hn:=I.stkFree c hf;rcases hc with rfl | hc
  ·rw [hn] at z; cases z
  ·rw [hn] at hc; cases hc
 ·obtain⟨_,o2,e2,d2⟩:=I.stack.mem (JE _ hb);rw [z] at e2;cases e2;exact up b o (hx.keeps _ _ z) d2
end
section
variable {X:Cx} {KD:List (Kr×KC)} {σ:St} {H H':Hp} {s s':Ko} {E:XK}
theorem aI.landed {B h5:Kx} {ea:Kr} {cls a0:Kq} (I:aI X KD σ H s) (os:s'.os=s.os) (bare:AllBare s'.gens) (fl:Heap.FlyingW B X.stack ea cls a0 s'.heap) (fl5:Heap.FlyingW B X.stack ea cls a0 h5) (up:s'.heap.UpToSlots h5) (hok:mv X.prog X.w H' B)
  (hB:∀ b o,s.heap.get? b=some o->H b=none->b∉f_ X.stack->B.get? b=some o) (hB2:∀ b o,s.heap.get? b=some o->b∉f_ X.stack->∃ o',B.get? b=some o') (un:Un (f_ X.stack) [] H H' s.heap s'.heap):
  aI X KD σ H' {s' with heap:=h5}:=by
 have fsl:∀ b∈f_ X.stack,∀ o,s.heap.get? b=some o->∃ sl,h5.get? b=some {o with slots:=sl}:=λb hb o e=>by
  obtain⟨sl,e1⟩:=un.slot b o e (I.stkFree b hb) hb (λz=>nomatch z)
  obtain⟨_,o2,e2,d2⟩:=fl.2.2.1.mem hb;rw [e1] at e2;cases e2;obtain⟨sl',e3⟩:=up b _ e1 d2;exact⟨sl',e3⟩
 refine I.call' (s':={s' with heap:=h5}) (ch:=[]) os ⟨λb o e n hb _=>fl5.1 _ _ (hB b o e n hb),λb o e n hb _=>fsl b hb o e,un.free,λb o e _=>?_,un.tups,un.frzs,un.tbls⟩ (hok.kept fl5.1) bare λb z=>nomatch z
 by_cases hb:b∈f_ X.stack
 ·obtain⟨sl,e1⟩:=fsl b hb o e;exact⟨_,e1⟩
 ·obtain⟨o',e1⟩:=hB2 b o e hb;exact⟨o',fl5.1 _ _ e1⟩
theorem aI.freeze {a:Kr} {o:KC} (I:aI X KD σ H s) (e:s.heap.get? a=some o) (hn:H a=none) (h0:X.s₀.heap.get? a=none) (hL:a≠X.env.locals) (hc:∀ x c,X.env.cells.lookup x=some c->c≠a) (hp:∀ p∈X.pn++KD,p.1≠a):
  aI X KD σ (cb H a (.frz o (.ext λ_=>True))) s:=by
 have ne:∀ b u,X.s₀.heap.get? b=some u->b≠a:=λb u z y=>by rw [y,h0] at z; cases z
 refine⟨I.ok,I.os,I.bare,⟨I.base.keep,I.base.slot,λb u z n x=>?_,I.base.there,λb xs z=>?_,λb u v z=>?_,λb ps z=>?_⟩,I.loc,I.cell,?_,λx c z=>?_,λp z=>?_,λb u z=>?_,I.len⟩
 ·rw [aM (ne b u z)]; exact I.base.free b u z n x
 ·have q:=I.base.tups b xs z;rw [aM (bt q hn)]; exact q
 ·have q:=I.base.frzs b u v z;rw [aM (bt q hn)]; exact q
 ·obtain⟨m,q⟩:=I.base.tbls b ps z;exact⟨m,by rw [aM (bt q hn)]; exact q⟩
 ·rw [aM (Ne.symm hL)]; exact I.free
 ·rw [aM (hc x c z)]; exact I.freeC x c z
 ·obtain⟨q1,q2,q3⟩:=I.pin p z;exact⟨q1,by rw [aM (hp p z)]; exact q2,q3⟩
 ·by_cases hb:b=a
  ·subst hb;rw [cA] at z;cases z;exact⟨e,trivial,⟨o,e⟩,λ_ _ _ _=>trivial⟩
  ·rw [aM hb] at z;exact(I.hok b u z).stay (λ_ _ _ q=>q) (λc q=>by rw [aM (bt q hn)]; exact q) λc xs q=>by rw [aM (bt q hn)]; exact q
abbrev Cx.marked (X:Cx) (v:Kq) (W:Kq->Ko->Prop):Cx:={X with A:=X.A.mark (some v),calm:=false,xe:=W}
theorem aI.marked (I:aI X KD σ H s) (v:Kq) (W:Kq->Ko->Prop):aI (X.marked v W) KD σ H s:=
 ⟨⟨I.ok.mod,I.ok.kind,I.ok.glob,I.ok.blt,I.ok.above,I.ok.inj,I.ok.has,I.ok.cab,λz=>(by cases z),I.ok.frames,I.ok.stk,I.ok.exf,I.ok.bs,I.ok.bsz,I.ok.noex,I.ok.exfs,I.ok.funs,I.ok.frf⟩,I.os,I.bare,I.base,I.loc,I.cell,I.free,I.freeC,I.pin,I.hok,I.len⟩
theorem aI.unmarked {v:Kq} {W:Kq->Ko->Prop} (I:aI (X.marked v W) KD σ H s) (hd:X.calm=true->X.A.handled=none):aI X KD σ H s:=
 ⟨⟨I.ok.mod,I.ok.kind,I.ok.glob,I.ok.blt,I.ok.above,I.ok.inj,I.ok.has,I.ok.cab,hd,I.ok.frames,I.ok.stk,I.ok.exf,I.ok.bs,I.ok.bsz,I.ok.noex,I.ok.exfs,I.ok.funs,I.ok.frf⟩,I.os,I.bare,I.base,I.loc,I.cell,I.free,I.freeC,I.pin,I.hok,I.len⟩
end
theorem fw.there {P:Ku} {w:Kw} {H:Hp} {h:Kx} {a:Kr} {o:HO} (x:fw P w H h a o):∃ ob,h.get? a=some ob:=by
 cases o with
 | lst xs=>obtain⟨_,_,_,_,e⟩:=x; exact⟨_,e⟩
 | tup xs=>obtain⟨_,_,_,ob,e,_⟩:=x; exact⟨_,e⟩
 | dK kvs=>obtain⟨_,_,_,_,o,_,_,e,_⟩:=x; exact⟨_,e⟩
 | dT kvs=>obtain⟨_,_,_,_,o,_,_,e,_⟩:=x; exact⟨_,e⟩
 | set S n=>obtain⟨o,_,_,_,e,_⟩:=x; exact⟨_,e⟩
 | ins C dx fs=>obtain⟨_,_,_,e,_⟩:=x; exact⟨_,e⟩
 | own y=>obtain⟨_,e⟩:=x; exact⟨_,e⟩
 | xd fs=>obtain⟨_,⟨_,_,_,e,_⟩,_⟩:=x; exact⟨_,e⟩
 | rng lo hi=>obtain⟨_,_,_,e⟩:=x; exact⟨_,e⟩
 | frz ob u=>obtain⟨e,_⟩:=x; exact⟨_,e⟩
 | tbl ps=>exact⟨_,(show h.get? a=some _ from x)⟩
 | met f y=>exact⟨_,(show h.get? a=some _ from x)⟩
 | ext φ=>obtain⟨_,e,_⟩:=x; exact e
end L2
namespace DL
open PySem PySem.Spec PyProof.Rows L2
abbrev jL:=List D->DH->DK->(Kr->DH->Prop)->Prop
def u6 (K:Fg) (F:jL):Sp:=λvs H Q E=>∃ ds S k x,IsDs K H ds vs/\Hs K H S/\F ds S k x/\(∀ d' S' v H',k d' S'->Kp H H'->Hs K H' S'->cn K H' d' v->Q v H')/\∀ C S' H',x C S'->Hs K H' S'->E (.ref C) none H'
structure kd (P:Ku) (w:Kw) (K:Fg) (mg:Str->Ks Kq) (base:Kx) (x:Str) (n:Nat) (F:jL):Prop where
 ex:∃ f fd ps,aQ P w K mg base (fK P w) n f fd ps (u6 K F)/\mg x=some (.ref f)/\PySem.W.keepIn K (.ref f)=true/\iD K fd ps []
section
variable {P:Ku} {w:Kw} {K:Fg} {mg:Str->Ks Kq} {base:Kx} {N:List Str} {KE:Str} {scope:Scope} {f:Kr} {cd:Kq} {A:Kv} {outer:List Env} {s0:Ko} {H0:Hp} {E:XK} {ex:Kr->DH->Prop}
theorem hV {x t:Str} {C:Kr} {bmB:List Kq} {Bn newId initId:KB} {j:Nat} {p np cpos pos:Pos} (hE:∀ C S' H',ex C S'->Hs K H' S'->E (.ref C) none H') (FB:ExcBaseFacts Bn newId initId bmB) (q:PySem.W.excIn K C bmB newId=true) (hm:mg x=some (.ref C))
  (hg:Gl (cX (fK P w) P w K mg base N KE scope f cd A outer s0 H0 E) x) (hd:(x == ("__debug__":Str))=false:=by decide):
  SJ (cX (fK P w) P w K mg base N KE scope f cd A outer s0 H0 E) (.Raise (some (.Call (.Name x np) [.Constant (.str t) j p] [] cpos)) none pos) (λ_ _ S=>ex C S):=
 ⟨PS.imp (Ai FB q hm hg hd) λ_ _ H z9=>by obtain⟨_,S,_,_,hS,h,_⟩:=z9; exact hE C S H h hS⟩
def yx (F:jL) (ex:Kr->DH->Prop) (t:DA):DE:=λL S k=>t L S λds S1=>F ds S1 k ex
theorem gn {x:Str} {n:Nat} {F:jL} {e:Kt} {es:List Kt} {t:DA} {p pos:Pos} (hE:∀ C S' H',ex C S'->Hs K H' S'->E (.ref C) none H') (c:kd P w K mg base x n F) (hr:dg n (cX (fK P w) P w K mg base N KE scope f cd A outer s0 H0 E).A)
  (hg:Gl (cX (fK P w) P w K mg base N KE scope f cd A outer s0 H0 E) x) (ha:AJ (cX (fK P w) P w K mg base N KE scope f cd A outer s0 H0 E) (e::es) t) (hdb:(x == ("__debug__":Str))=false:=by decide)
  (he:starEach (e::es) (cX (fK P w) P w K mg base N KE scope f cd A outer s0 H0 E).env=(false,eval e (cX (fK P w) P w K mg base N KE scope f cd A outer s0 H0 E).env)::starEach es (cX (fK P w) P w K mg base N KE scope f cd A outer s0 H0 E).env:=by exact dh rfl)
  (hpl:(backTo pos (starEach es (cX (fK P w) P w K mg base N KE scope f cd A outer s0 H0 E).env)).any (·.1)=false:=by exact gk rfl):
  EJ (cX (fK P w) P w K mg base N KE scope f cd A outer s0 H0 E) (.Call (.Name x p) (e::es) [] pos) (yx F ex t):=by
 obtain⟨g,fd,ps,F1,h1,h2,h3⟩:=c.ex;refine⟨PE.imp (wF F1 hr hg h1 h2 h3 .nil BR ha.h hdb he hpl) fun σ H Q ⟨L,S,k,hL,hS,h,n⟩=>?_⟩
 refine tN.go hL hS h λds S1 vs H1 h1 k1 hL1 hS1 i1=>?_
 show u6 K F (vs++[]) H1 Q E
 rw [JP];exact⟨ds,S1,k,ex,i1,hS1,h1,λd' S' v H' q k3 z1 z2=>n d' S' v H' q (k1.trans k3) z1 z2,hE⟩
theorem _root_.L2.tP.okX {x KE:Str} {st:Ky} {f:Kr} {fd:FuncData} {N ps:List Str} {k:Nat} {F:jL} (Fn:tP K x KE st f fd) (Sc:ar N ps (aj st)) (len:∀ ds S k x,F ds S k x->ds.length=ps.length)
  (hbody:∀ (cdv:Kq) (A:Kv) (outer:List Env) (s:Ko) (H:Hp) (E:XK) (ex:Kr->DH->Prop),dg k (A.deeper (envOfC KE (aj st) s.heap.objs.size f cdv))->(∀ C S' H',ex C S'->Hs K H' S'->E (.ref C) none H')->
   ∃ g,vW (cX (fK P w) P w K mg base N KE (aj st) f cdv A outer s H E) (ci st) g/\
    ∀ ds S k,F ds S k ex->g {nx:=λ_ S'=>k .non S',rt:=k} (ds.map some++List.replicate (N.length - ps.length) none) S):aQ P w K mg base (fK P w) (k+1) f fd ps (u6 K F):=by
 obtain⟨oc,od,kV,doc,pm,an,cdv,ct,osl,rfl,lk,hcd⟩:=Fn.ex;refine CP lk hcd Sc (λvs H Q E h=>?_) λA outer s H vs Q E hr h=>?_
 ·obtain⟨ds,S,k,x,i,_,q,_⟩:=h;rw [<- i.length];exact len ds S k x q
 ·obtain⟨ds,S,k',x,i,hS,h,n,hE⟩:=h;obtain⟨g,hg,q⟩:=hbody cdv A outer s H E x hr hE;refine⟨_,hg.h,ds.map some++List.replicate (N.length - ps.length) none,S,_,?_,hS,q ds S k' h,?_⟩
  ·unfold L2.start;rw [<- i.length,len ds S k' x h];exact Lc.start _ i
  ·exact⟨λL S' σ H' h1 k1 _ hS'=>n _ S' _ H' h1 k1 hS' (dG.mpr rfl),λd S' v H' h1 k1 hS' i1=>n d S' v H' h1 k1 hS' i1,λ_ _ _ _ h1=>h1.elim,λ_ _ _ _ h1=>h1.elim⟩
end
end DL
namespace L2
open PySem PySem.Spec PyProof.Rows
def Dx (H:Hp) (KE:Str) (cv:Kq):Prop:=∃ (c':Kr) (oc:KC) (uc:HO) (vs:Kz Kq) (t:Tok),cv=.ref c'/\H c'=some (.frz oc uc)/\oc.data=.fields vs/\vs[1]?=some (.str KE t)
structure GO (H:Hp) (KE:Str) (ps:Kz Kq):Prop where
 tri:TriplesOk ps.toList
 ok:∀ pos cv,codeAmong pos ps.toList=some cv->Dx H KE cv
def pe (mg:Str->Ks Kq) (base:Kx):Prop:=(∃ bm ob,mg "__builtins__"=some (.ref bm)/\bm≠builtinsNs/\base.get? bm=some ob/\ob.cls=.type "module"/\ob.dict=some builtinsNs/\ob.data=.plain)/\base.NoSeer
end L2
namespace DL
open PySem PySem.Spec PyProof.Rows L2
theorem vE {P:Ku} {w:Kw} {outer:List Env} {H:Hp} {s:Ko} {E:XK} {e:Kq} {s':Ko} (h:fK P w outer H s E e s'):fK P w outer H s (λc t H'=>E c t H'/\Kp H H') e s':=by
 obtain⟨ea,cls,a0,H',B,h1,h2,h3,h4,h5,h6,h7,h8,h9⟩:=h;refine⟨ea,cls,a0,H',B,h1,h2,h3,h4,h5,h6,h7,h8,h9,λa o z i=>?_⟩
 cases o with
 | tup xs=>exact h8.tups a xs z
 | frz ob u=>exact h8.frzs a ob u z
 | _=>exact i.elim
def Ja (K:Fg) (ex:Kr->DH->Prop):XK:=λcls _ H'=>∃ C S',cls=.ref C/\ex C S'/\Hs K H' S'
end DL
namespace L2
open PySem PySem.Spec PyProof.Rows
structure wM (tabs:List (Kr×Kr)) (H:Hp):Prop where
 only:∀ b,H b=none\/(∃ o xs,H b=some (.frz o (.lst xs)))\/(b∈tabs.map (·.2)/\H b=some (.tbl #[]))
 all:∀ q∈tabs,H q.2=some (.tbl #[])
theorem xA {P:Ku} {w:Kw} {K:PySem.W.Frag} {mg mb:Str->Ks Kq} {CX:zQ} {k:Nat} {fa a:Kr} {fd:FuncData} {x:Str} {sp:Sp} {s₁:Ko} {vs:List Kq} {ns:List Int} {tabs:List (Kr×Kr)}
  (hT:PySem.W.TabsAt tabs s₁.heap) (hnK:PySem.W.noTabs K=true) (hbm:pe mg s₁.heap)
  (KX:K.In s₁.heap) (hns:s₁.heap.Ns mainGlobals mg) (hb:s₁.heap.Ns builtinsNs mb) (hbb:∀ x:Str,x≠"__name__"->mb x=bootBuiltins x) (hlim:s₁.heap.NoLimit) (hg:s₁.gens=#[])
  (ha:s₁.heap.get? a=some {cls:=.type "list",data:=.seq vs.toArray}) (hi:IntsAre vs ns) (hl:ns.length<=sizeLine) (hr:dg k callerA)
  (F:∀ base:Kx,K.In base->base.Ns mainGlobals mg->pe mg base->PySem.W.CodeAll tabs base->aQ P w K mg base CX k fa fd [x] sp) (hbind:∀ (s:Ko) (u:Kq),BindsTo s fd ⟨[u],[]⟩ [(x,u)])
  (hsp:∀ H:Hp,wM tabs H->jE K H a (ns.map V.int)->sp [.ref a] H (λv _=>v=.bl true) λ_ _ _=>False)
  (hCX:∀ H e s',CX [] H s₁ (λ_ _ _=>False) e s'->False):
  codeAny (model P w) callerA (.call (.ref fa) ⟨[.ref a],[]⟩) (λr s'=>r=.ok (.ret (.bool true))/\OldK s₁.heap s'.heap/\s'.os=s₁.os/\AllBare s'.gens) s₁:=by
 have rv:=rR hi;have lenV:=hi.length;have tabO:∀ b∈tabs.map (·.2),s₁.heap.get? b=some (PySem.W.tabObj #[]):=λb hb=>by
  obtain⟨q,hq,rfl⟩:=Jx.mp hb;exact(hT q hq).2
 have naT:a∉tabs.map (·.2):=λz=>by
  have e:=tabO a z;rw [ha] at e;cases e
 have nKT:∀ b o,K.lookup b=some o->b∉tabs.map (·.2):=λb o e z=>by
  have e1:=KX b o e;rw [tabO b z] at e1;cases e1;have h2:=Ki.mp hnK (b,_) (PySem.W.mem_of_lookupK e);exact absurd (show false=true from h2) Jz
 have core:∀ H:Hp,wM tabs H->jE K H a (ns.map V.int)->mv P w H s₁.heap->(∀ b,H b≠none->b=a\/b∈tabs.map (·.2))->(H a≠none->K.lookup a=none)->
   codeAny (model P w) callerA (.call (.ref fa) ⟨[.ref a],[]⟩) (λr s'=>r=.ok (.ret (.bool true))/\OldK s₁.heap s'.heap/\s'.os=s₁.os/\AllBare s'.gens) s₁:=by
  intro H hO hS hok hA hK;have base_of:∀ {b:Kr} {o:KC},s₁.heap.get? b=some o->H b=none->(pS s₁.heap H).get? b=some o:=λe n=>yL e n
  have noC:∀ {b:Kr} {o:KC},s₁.heap.get? b=some o->o.cls≠.type "list"->o.cls≠.none->H b=none:=λ{b o} e d1 d2=>by
   cases q:H b with
   | none=>rfl
   | some u=>
    rcases hA b (by rw [q]; simp) with e' | e'
    ·subst e';rw [ha] at e; cases e
     exact absurd rfl d1
    ·rw [tabO b e'] at e; cases e
     exact absurd rfl d2
  have noA:∀ {b:Kr} {o:KC} {es:Kz DictEntry} {ep:Nat},s₁.heap.get? b=some o->o.data=.dict es ep->H b=none:=λ{b o es ep} e d=>by
   cases q:H b with
   | none=>rfl
   | some u=>
    rcases hA b (by rw [q]; simp) with e' | e'
    ·subst e';rw [ha] at e; cases e
     have d':Data.seq vs.toArray _=Data.dict es ep:=d;cases d'
    ·rw [tabO b e'] at e; cases e
     cases d
  have nsK:∀ {b:Kr} {m:Str->Ks Kq},s₁.heap.Ns b m->(pS s₁.heap H).Ns b m:=λ{b m} ⟨o,es,ep,e,d,r⟩=>⟨o,es,ep,base_of e (noA e d),d,r⟩
  have hKb:K.In (pS s₁.heap H):=λb o e=>base_of (KX b o e) (by
   cases q:H b with
   | none=>rfl
   | some u=>
    rcases hA b (by rw [q]; simp) with e' | e'
    ·subst e';rw [hK (by rw [q]; simp)] at e; cases e
    ·exact absurd e' (nKT b o e))
  have hBb:pe mg (pS s₁.heap H):=by
   obtain⟨⟨bm,ob,b1,b2,b3,b4,b5⟩,ns⟩:=hbm;refine⟨⟨bm,ob,b1,b2,base_of b3 (noC b3 (by rw [b4]; decide) (by rw [b4]; nofun)),b4,b5⟩,?_,?_,?_,?_⟩
   ·obtain⟨mc,h1,h2⟩:=ns.statics;exact⟨mc,nsK h1,h2⟩
   ·obtain⟨mc,h1,h2⟩:=ns.mods;exact⟨mc,nsK h1,h2⟩
   ·obtain⟨mc,h1,h2⟩:=ns.imp;exact⟨mc,nsK h1,h2⟩
   ·obtain⟨mg',bm',ob',h1,h2,h3,h4,h5⟩:=ns.main;exact⟨mg',bm',ob',nsK h1,h2,base_of h3 (noC h3 (by rw [h4]; decide) (by rw [h4]; nofun)),h4,h5⟩
  have hCb:PySem.W.CodeAll tabs (pS s₁.heap H):=.of λq hq=>by
   obtain⟨o,vs,file,tf,flags,tg,inF,text,tt,e1,r1,r2⟩:=(hT q hq).1;exact⟨o,vs,file,tf,flags,tg,inF,text,tt,base_of e1 (noC e1 (by rw [r1]; decide) (by rw [r1]; nofun)),r1,r2⟩
  have hM:Mod K mg (pS s₁.heap H):=⟨hKb,nsK hns,⟨mb,nsK hb,hbb⟩,let ⟨mc,h1,h2⟩:=hlim; ⟨mc,nsK h1,h2⟩⟩
  have e0:ug P w K mg (pS s₁.heap H) callerA [] s₁ H:=⟨rfl,hM,λb o e=>CH e,Nat.le_of_eq (x_ _ _),trivial,λb hb=>absurd (show b∈([]:List Kr) from hb) (by simp),hok,.of_eq hg⟩
  refine codeAny_mono ((F _ hKb (nsK hns) hBb hCb).run callerA [] s₁ H ⟨[.ref a],[]⟩ [.ref a] [.ref a] _ _ hr e0 (hbind s₁ (.ref a)) (.cons rfl .nil) (hsp H hO hS)) λr s' h=>?_
  cases r with
  | error e=>exact(hCX H e s' h).elim
  | ok fl=>
   cases fl with
   | next=>exact False.elim h
   | brk=>exact False.elim h
   | cont=>exact False.elim h
   | ret u=>
    obtain⟨v,H',os,bare,un,hok',r',q⟩:=h;have q':v=.bl true:=q;subst q';obtain rfl:u=Value.bool true:=r';refine⟨rfl,⟨λb o e=>?_,λb o e=>un.there b o e (by simp)⟩,os,bare⟩
    rcases hO.only b with z | ⟨ob,xs,z⟩ | ⟨hm,z⟩
    ·exact .inl (un.keep b o e z (by intro z; exact absurd (show b∈([]:List Kr) from z) (by simp)) (by simp))
    ·have z2:=un.frzs b ob _ z;obtain⟨e1,_⟩:=hok b _ z;obtain⟨e2,_⟩:=hok' b _ z2;rw [e] at e1; cases e1
     exact .inl e2
    ·obtain⟨more,z2⟩:=un.tbls b _ z;have e2:s'.heap.get? b=some (PySem.W.tabObj (#[]++more)):=hok' b _ z2;have e3:=tabO b hm;obtain⟨q,hq,rfl⟩:=Jx.mp hm;rw [e] at e3;cases e3;exact .inr (.inl ⟨((hT q hq).1.tab (hT q hq).2).isCodeTable,rfl,#[],more,rfl,e2⟩)
 have tb:∀ b,b∈tabs.map (·.2)->mv P w (λ_=>none) s₁.heap->fw P w (λ_=>none) s₁.heap b (.tbl #[]):=λb hb _=>tabO b hb
 cases hk:K.lookup a with
 | some o=>
  have e:=KX a o hk;rw [ha] at e;cases e;refine core (λb=>if b∈tabs.map (·.2) then some (.tbl #[]) else none) ⟨λb=>?_,λq hq=>if_pos (List.mem_map_of_mem hq)⟩ (.inr ⟨_,vs.toArray,_,hk,rfl,rfl,rfl,by rw [JA,lenV]; exact hl,by simpa using rv⟩) (λb u z=>?_) (λb z=>?_) λz=>?_
  ·by_cases hm:b∈tabs.map (·.2)
   ·exact .inr (.inr ⟨hm,if_pos hm⟩)
   ·exact .inl (if_neg hm)
  ·by_cases hm:b∈tabs.map (·.2)
   ·have z':=(if_pos hm).symm.trans z;cases z';exact tabO b hm
   ·have z':=(if_neg hm).symm.trans z;cases z'
  ·by_cases hm:b∈tabs.map (·.2)
   ·exact .inr hm
   ·exact absurd (if_neg hm) z
  ·exact absurd (if_neg naT) z
 | none=>
  refine core (λb=>if b=a then some (.frz {cls:=.type "list",data:=.seq vs.toArray} (.lst (ns.map V.int))) else if b∈tabs.map (·.2) then some (.tbl #[]) else none) ⟨λb=>?_,λq hq=>?_⟩ (.inl (.inr ⟨{cls:=.type "list",data:=.seq vs.toArray},if_pos rfl⟩)) (λb u z=>?_) (λb z=>?_) λ_=>hk
  ·by_cases hb:b=a
   ·exact .inr (.inl ⟨_,_,if_pos hb⟩)
   ·by_cases hm:b∈tabs.map (·.2)
    ·exact .inr (.inr ⟨hm,(if_neg hb).trans (if_pos hm)⟩)
    ·exact .inl ((if_neg hb).trans (if_neg hm))
  ·have hm:q.2∈tabs.map (·.2):=List.mem_map_of_mem hq;have hb:q.2≠a:=λz=>naT (z▸hm)
   exact(if_neg hb).trans (if_pos hm)
  ·by_cases hb:b=a
   ·have z':=(if_pos hb).symm.trans z;cases z';subst hb;exact⟨ha,by rw [Jy]; exact hl,vs,_,rv,ha⟩
   ·by_cases hm:b∈tabs.map (·.2)
    ·have z':=((if_neg hb).trans (if_pos hm)).symm.trans z;cases z';exact tabO b hm
    ·have z':=((if_neg hb).trans (if_neg hm)).symm.trans z;cases z'
  ·by_cases hb:b=a
   ·exact .inl hb
   ·by_cases hm:b∈tabs.map (·.2)
    ·exact .inr hm
    ·exact absurd ((if_neg hb).trans (if_neg hm)) z
theorem AO {l:PySem.W.OpenLaw} {n k:Nat} {q:Ku} {loose:List Str} {XP:(Str->Ks Kq)->Kx->Prop} {YP:Kw->Kx->Prop} {d:DefRec} {K:Params->PySem.W.Frag} {CX:Kw->zQ} {sp:Kw->Sp} {x:Str} {tabs:List (Kr×Kr)}
  (himp:importsNone q=true) (hn:l.most=some n) (hn2:n<=sizeLine) (hdf:d.params.defaults=[]) (hr:dg k callerA)
  (hY:∀ (w:Kw) (h:Kx),YP w h->(K w.params).In h) (hnK:∀ w:Kw,PySem.W.noTabs (K w.params)=true) (hT:∀ (w:Kw) (h:Kx),YP w h->PySem.W.TabsAt tabs h)
  (F:∀ (w:Kw) (mg:Str->Ks Kq) (fa:Kr) (h:Kx),(K w.params).In h->h.Ns mainGlobals mg->mg d.name=some (.ref fa)->
   ∃ fd:FuncData,(∀ (s:Ko) (u:Kq),BindsTo s fd ⟨[u],[]⟩ [(x,u)])/\
    ∀ base:Kx,(K w.params).In base->base.Ns mainGlobals mg->pe mg base->PySem.W.CodeAll tabs base->aQ l.prog w (K w.params) mg base (CX w) k fa fd [x] (sp w))
  (hsp:∀ (w:Kw) (H:Hp) (a:Kr) (ns:List Int),ns.length<=n->wM tabs H->jE (K w.params) H a (ns.map V.int)->sp w [.ref a] H (λv _=>v=.bl true) λ_ _ _=>False)
  (hCX:∀ (w:Kw) (H:Hp) (s:Ko) (e:Kq) (s':Ko),CX w [] H s (λ_ _ _=>False) e s'->False):
  PySem.W.WalkO q loose XP YP l.row.toRowW d [] (λf vs=>PySem.call f vs):=by
 refine Att.attach_call hn hdf λw s₀ s₁ mg mb fa o pm cd doc a vs ns G Y ho hd hcd hmg hobj hints hlen hg=>?_
 have KX:=hY w _ Y;obtain⟨fd,hb,hF⟩:=F w mg fa _ KX G.T.g hmg;have hbm:pe mg s₁.heap:=by
  obtain⟨bm,ob,b1,b2,b3,b4,b5,b6⟩:=G.T.bmain;exact⟨⟨bm,ob,b1,b2,b3,b4,b5,b6⟩,G.T.seer himp⟩
 exact xA (hT w _ Y) (hnK w) hbm KX G.T.g G.T.b G.T.builtins G.T.nolimit hg hobj hints (J7 hlen hn2) hr hF hb (λH hO hS=>hsp w H a ns hlen hO hS) λH e s'=>hCX w H s₁ e s'
end L2
namespace DL
open PySem PySem.Spec PyProof.Rows L2
theorem zH {β:Type}:∀ {l:List (Kr×β)} {a:Kr} {b:β},l.lookup a=some b->(a,b)∈l
 | [],_,_,e=>by cases e
 | (c,x)::r,a,b,e=>by
  rw [List.lookup_cons] at e;cases hb:a == c with
  | true=>rw [hb] at e; cases e; rw [eq_of_beq hb]; exact .head _
  | false=>rw [hb] at e; exact .tail _ (zH e)
def Em (tq:List (Kr×Str)):DH:=λb=>(tq.lookup b).map λq=>DO.tbl λH ps=>GO H q ps
theorem Bk {K:Fg} {H:Hp} {a:Kr} {ns:List Int} {F:cH} {E:XK} {tabs:List (Kr×Kr)} {tq:List (Kr×Str)} (ho:wM tabs H) (hS:jE K H a (ns.map V.int)) (ht:∀ p∈tq,p.1∈tabs.map (·.2)) (h:F [.rl (ns.map D.int)] (Em tq) (λd _=>d=.bl true)):dw K F [.ref a] H (λv _=>v=.bl true) E:=by
 refine⟨[.rl (ns.map D.int)],Em tq,λd _=>d=.bl true,IsDs.cons (uB.mpr ⟨a,ns.map V.int,rfl,?_,?_⟩) IsDs.nil,λb o e=>?_,h,λd' S' v H' e _ _ i=>?_⟩
 ·rcases hS with (h1 | h1) | h1
  ·rcases ho.only a with z | ⟨o,xs,z⟩ | ⟨_,z⟩
   ·rw [z] at h1; cases h1
   ·rw [z] at h1; cases h1
   ·rw [z] at h1; cases h1
  ·exact .inl h1
  ·exact .inr h1
 ·clear h hS
  induction ns with
  | nil=>exact IsDs.nil
  | cons n ns ih=>exact IsDs.cons (isInt.mpr rfl) ih
 ·unfold Em at e;cases q:tq.lookup b with
  | none=>rw [q] at e; cases e
  | some x=>
   rw [q] at e;cases e;obtain⟨t,ht',e2⟩:=Jx.mp (ht _ (zH q));have z:=ho.all t ht';rw [e2] at z;exact⟨#[],z,λH2 _=>⟨trivial,λpos cv z2=>by cases z2⟩⟩
 ·subst e;exact ce.mp i
end DL
namespace L2
open PySem PySem.Spec PyProof.Rows
theorem Bl {X:Cx} {n:Nat} (hr:dg n X.A) (hn:33<=n) (hB:pe X.mg X.base) (hT:X.prog.given.tree=none) (hst:X.stack=X.env::X.outer) (hg:X.env.scope.isGenerator=false) (hc:X.env.scope.isCoroutine=false):
  fW X (binaryOp .FloorDiv) (rI (λ_ j=>j≠0) λi j=>.int (i.fdiv j)):=by
 intro KD s σ H x y v u Q I rx ry h;obtain⟨i,j,rfl,rfl,hj,q⟩:=h;obtain⟨t,rfl⟩:=rx;obtain⟨t',rfl⟩:=ry;have hd:=hr.dp;have hN:s.heap.NoSeer:=hB.2.keeps I.bk;exact floordiv_int hj ⟨.int (i.fdiv j),H,I.tok _,⟨_,rfl⟩,q⟩ (.inr (PylongRoom.of I.nolimit (by show X.A.depth+100 < recursionLimit; omega) (SeerAt.of hN hT (hst▸I.ok.frames) hg hc I.ok.blt I.ok.glob)))
end L2
namespace DL
open PySem PySem.Spec PyProof.Rows L2
abbrev Go:D2:=Ec (λ_ j=>j≠0) λi j=>.int (i.fdiv j)
theorem lT {X:Cx} {n:Nat} (hr:dg n X.A) (hB:pe X.mg X.base) (hT:X.prog.given.tree=none) (hst:X.stack=X.env::X.outer) (hg:X.env.scope.isGenerator=false) (hc:X.env.scope.isCoroutine=false) (hn:33<=n):
  fW X (binaryOp .FloorDiv) (jy X.K Go):=xT (C:=λ_ j=>j≠0) (gV:=λi j=>.int (i.fdiv j)) (Bl hr hn hB hT hst hg hc) λ_ _ _=>isInt.mpr rfl
section
variable {X:Cx} {KD:List (Kr×KC)} {σ:L2.St} {H:Hp} {s:Ko}
theorem AS (I:aI X KD σ H s) {S:DH} {a c:Kr} {ds es:List D} {b:KA} (hS:Hs X.K H S) (h1:S a=some (.lst ds)) (h2:S c=some (.lst es)) (hl:ds.length=es.length) (A:Kv) (hu:A.units+8 < cLine) (h:kf (mD 7) ds es=some b):
  SeqAt.RcAt A s (.ref a) (.ref c) b/\SeqAt.RcNeAt A s (.ref a) (.ref c) (!b):=by
 obtain⟨xs,q1,j1⟩:=hS.lst h1;obtain⟨ys,q2,j2⟩:=hS.lst h2;obtain⟨us,r1,p1,_⟩:=I.list (jE.of q1);obtain⟨ws,r2,p2,_⟩:=I.list (jE.of q2);have l1:=j1.length;have l2:=j2.length;have l3:=r1.length;have l4:=r2.length;have hsz:us.toArray.size=ws.toArray.size:=by simp only [JA]; omega
 have he:∀ j (h1:j < us.toArray.size) (h2:j < ws.toArray.size),SeqAt.EqAt A.in1 s us.toArray[j] ws.toArray[j] (ja (mD 7) ds es j):=λj h1 h2=>by
  simp only [JA] at h1 h2
  obtain⟨d,e,x,y,q1,q2,d1,d2,rx,ry⟩:=rX j1 j2 r1 r2 h1 h2;have:=(sQ I 7 A.in1 d e x y us[j] ws[j] _ (by show A.units+1+7 < cLine; omega) (oY h q1 q2) d1 d2 rx ry).1
  simpa using this
 have e:=mG h;rw [hl,Nat.min_self] at e;have e:(List.range us.toArray.size).all (ja (mD 7) ds es)=b:=by
  simp only [JA];rw [<- l3,<- l1,hl]
  simpa using e
 refine⟨?_,?_⟩
 ·have z:=SeqAt.RcAt.lists p1.isList p2.isList hsz (by omega) he
  rw [e] at z;exact z
 ·have z:=SeqAt.RcNeAt.lists p1.isList p2.isList hsz (by omega) he
  rw [e] at z;exact z
end
def FL:D2:=λd e S k=>match d,e with
 | .ref a,.ref c=>∃ xs ys b,S a=some (.lst xs)/\S c=some (.lst ys)/\xs.length=ys.length/\kf (mD 7) xs ys=some b/\k (.bl b) S
 | d,e=>∃ b,mD 8 d e=some b/\k (.bl b) S
def G9:D2:=λd e S k=>match d,e with
 | .ref a,.ref c=>∃ xs ys b,S a=some (.lst xs)/\S c=some (.lst ys)/\xs.length=ys.length/\kf (mD 7) xs ys=some b/\k (.bl (!b)) S
 | d,e=>∃ b,mD 8 d e=some b/\k (.bl (!b)) S
theorem Di {X:Cx} {n:Nat} (hr:dg n X.A):fW X (compareOp .Eq) (jy X.K FL):=by
 intro KD s σ H x y v u Q I rx ry h;obtain⟨d,e,S,k,i1,i2,hS,r,m⟩:=h;have hu:=hr.units;unfold FL at r
 split at r
 ·obtain⟨xs,ys,b,h1,h2,h3,h4,w⟩:=r;have e1:=df.mp i1;have e2:=df.mp i2;subst e1 e2;cases rx;cases ry;exact(AS I hS h1 h2 h3 X.A (by omega) h4).1 X.prog X.w X.xe _ ⟨.bl b,H,I,rfl,o9 m hS w (ce.mpr rfl)⟩
 ·obtain⟨b,h1,w⟩:=r;exact(sQ I 8 X.A d e x y v u b (by omega) h1 i1 i2 rx ry).2 X.prog X.w X.xe _ ⟨.bl b,H,I,rfl,o9 m hS w (ce.mpr rfl)⟩
theorem n_ {X:Cx} {n:Nat} (hr:dg n X.A):fW X (compareOp .NotEq) (jy X.K G9):=by
 intro KD s σ H x y v u Q I rx ry h;obtain⟨d,e,S,k,i1,i2,hS,r,m⟩:=h;have hu:=hr.units;unfold G9 at r
 split at r
 ·obtain⟨xs,ys,b,h1,h2,h3,h4,w⟩:=r;have e1:=df.mp i1;have e2:=df.mp i2;subst e1 e2;cases rx;cases ry;exact(AS I hS h1 h2 h3 X.A (by omega) h4).2 X.prog X.w X.xe _ ⟨.bl (!b),H,I,rfl,o9 m hS w (ce.mpr rfl)⟩
 ·obtain⟨b,h1,w⟩:=r;exact D8 I 8 X.A d e x y v u b (by omega) h1 i1 i2 rx ry X.prog X.w X.xe _ ⟨.bl (!b),H,I,rfl,o9 m hS w (ce.mpr rfl)⟩
theorem kd.mk' {P:Ku} {w:Kw} {K:Fg} {mg:Str->Ks Kq} {base:Kx} {x KE:Str} {st:Ky} {f:Kr} {fd:FuncData} {ps:List Str} {n:Nat} {F:jL} (Fn:tP K x KE st f fd) (h:aQ P w K mg base (fK P w) n f fd ps (u6 K F)) (hm:mg x=some (.ref f)) (hb:iD K fd ps []):kd P w K mg base x n F:=
 ⟨f,fd,ps,h,hm,Fn.kp,hb⟩
def zr:cH:=λds S k=>match ds with
 | [.tup xs]=>k (.tup xs) S
 | [.ref a]=>∃ xs,S a=some (.lst xs)/\k (.tup xs) S
 | _=>False
theorem jf {X:Cx}:eR X (.type "tuple") (u9 X.K zr):=by
 intro KD s σ H xs us Q I rs h;obtain⟨ds,S,k,i,hS,r,n⟩:=h;unfold zr at r
 split at r
 ·obtain⟨x,rfl,i1⟩:=kI i;obtain⟨a,vs,rfl,t,j⟩:=cr.mp i1;exact lx KD s σ H _ us Q I rs ⟨a,vs,rfl,.inr ⟨t,n _ S _ H r (Kp.refl H) hS i1⟩⟩
 ·obtain⟨x,rfl,i1⟩:=kI i;have e1:=df.mp i1;subst e1;obtain⟨xs,z,r⟩:=r;obtain⟨vs,hl,j⟩:=hS.lst z;refine lx KD s σ H _ us Q I rs ⟨_,vs,rfl,.inl ⟨jE.of hl,λp hp=>?_⟩⟩
  have kp:Kp H (cb H p (.tup vs)):=Kp.new hp;exact n _ S _ _ r kp (hS.new hp) (cr.mpr ⟨p,vs,rfl,ka.of cA,j.kp kp⟩)
 ·exact r.elim
end DL
namespace L2
open PySem PySem.Spec PyProof.Rows
theorem xB:bootBuiltins "enumerate"=some (.type "enumerate"):=by decide +kernel
theorem yA {P:Ku} {w:Kw} {A:Kv} (b:KA) (it l:Kr) (xs:Kz Kq) (hh:A.handled=none) (hne:it≠l):Draws P w A it [it,l] xs.size (λi x=>xs[i]?=some x) (λi h=>E4 b it l i h/\sqB b l xs h) where
 live:=λi h st=>by obtain⟨o,e,_⟩:=(cJ (P:=P) (w:=w) b it l).obj _ _ st.1; exact⟨o,e⟩
 frame:=λi h h' st q=>⟨(cJ (P:=P) (w:=w) b it l).at_ _ _ _ st.1 λo e=>q it (by simp) o e,(cJ (P:=P) (w:=w) b it l).sqAt _ _ _ st.2 λo e=>q l (by simp) o e⟩
 item:=λi s Q E hi st hQ=>(cJ (P:=P) (w:=w) b it l).item A i s xs xs[i] Q E st.1 st.2 (by simp [hi]) λh' a1 a2=>hQ _ h' s.toks (by simp [hi]) ⟨a1,(cJ (P:=P) (w:=w) b it l).sqAt _ _ _ st.2 λo e=>a2.extBut _ _ (Ne.symm hne) e⟩ a2
 done:=λs Q E st hE=>(cJ (P:=P) (w:=w) b it l).fin _ _ _ _ _ _ hh st.1 st.2 (by simp) hE
def GK (K:PySem.W.Frag) (b:KA) (a:Kr):It:=
 ⟨λi H => ∃ xs x, qZ b K H a xs ∧ xs[i]? = some x,
  λi H v H'=>∃ T x,v=.ref T/\H T=none/\H'=cb H T (.tup [.int (i:Nat),x])/\∀ xs,qZ b K H a xs->xs[i]?=some x,
  λi H=>∃ xs,qZ b K H a xs/\xs.length=i⟩
def IQ (b:KA) (e it a:Kr) (i:Nat) (h:Kx):Prop:=(∃ old,IsEnum h e it (i:Nat) old)/\E4 b it a i h
theorem xJ {P:Ku} {w:Kw} {K:PySem.W.Frag} {es:List Kt} {k:Nat} {pos:Pos} (b:KA) {e it a:Kr} (h1:e≠it) (h2:e≠a) (h3:it≠a):
  xD P w K (.Tuple es k pos) (GK K b a) [e,it] e (IQ b e it a) where
 mem:=by simp
 obj:=λi h st c hc=>by
  obtain⟨⟨old,he⟩,hi⟩:=st;have hc':c=e\/c=it:=by simpa using hc
  rcases hc' with rfl | rfl
  ·exact⟨_,he,λv q=>by cases q⟩
  ·exact(cJ (P:=P) (w:=w) b c a).obj _ _ hi
 keep:=λi h h' st q=>by
  obtain⟨⟨old,he⟩,hi⟩:=st;exact⟨⟨old,q e (by simp) _ he⟩,(cJ (P:=P) (w:=w) b it a).at_ _ _ _ hi λo x=>q it (by simp) o x⟩
 item:=by
  intro X hP hw hK hc i KD s σ H E I hf st hg;subst hP hw hK;obtain⟨xs,x,q1,hx⟩:=hg;obtain⟨its,rv,p⟩:=I.sqB q1;obtain⟨u,hu,ru⟩:=rv.get hx;obtain⟨⟨old,he⟩,hi⟩:=st;have hn:H s.heap.objs.size=none:=I.hok.fresh (Jw _);have helt:e < s.heap.objs.size:=Jv he;have hilt:it < s.heap.objs.size:=by obtain⟨o,z,_⟩:=(cJ (P:=X.prog) (w:=X.w) b it a).obj _ _ hi; exact Jv z
  have hlt:i < its.toArray.size:=by
   have:=J4.mp hu;obtain⟨z,_⟩:=this
   simpa using z
  refine wpAny_pyNext_enum_itemD (yA b it a its.toArray (show X.A.in1.handled=none from I.ok.hd hc) h3) he ⟨hi,p⟩ hlt h1 (by simp [h1,h2]) λx' h' tk hx' ho hst hT hsz hk=>?_
  have ex:x'=u:=by
   have z:its[i]?=some x':=by simpa using hx'
   rw [hu] at z;exact(J0 z).symm
  subst ex;have I1:aI X KD σ (cb H s.heap.objs.size (.tup [.int (i:Nat),x])) {s with heap:=h',toks:=tk+1}:=
   I.turnedNew (t':=tk+1) [e,it] (λc o hb y=>hk c o (λq=>hb (by simp [q])) (λq=>hb (by simp [q])) y) hf (Jw _) ⟨JL rfl,[.int (i:Nat) tk,x'],.cons ⟨tk,rfl⟩ (.cons ru .nil),⟨_,hT,rfl,_,rfl⟩⟩
  refine⟨_,rfl,wpAny_letOwnedTupleGo_enum (s:={s with heap:=h',toks:=tk+1}) ho λh2' g1 g2=>?_⟩
  refine⟨.ref s.heap.objs.size,cb H s.heap.objs.size (.tup [.int (i:Nat),x]),?_,rfl,⟨_,x,rfl,hn,rfl,λxs' e1=>by rw [I.sqB_inj e1 q1]; exact hx⟩,⟨⟨x',by simpa using g1⟩,?_⟩,λc hb=>?_⟩
  ·refine I1.turnedL (t':=tk+1) [e] (λc o hb y=>g2.extBut _ _ (λq=>hb (by simp [q])) y) λc hb=>?_
   have z:c=e:=by simpa using hb
   subst z;obtain⟨f0,f1,f2,f3,f4,f5⟩:=hf c (by simp)
   exact⟨by rw [aM (JC helt)]; exact f0,f1,f2,f3,f4,f5⟩
  ·exact(cJ (P:=X.prog) (w:=X.w) b it a).at_ _ _ _ hst.1 λo z=>g2.extBut _ _ (Ne.symm h1) z
  ·have hc':c=e\/c=it:=by simpa using hb
   rw [aM (by rcases hc' with rfl | rfl; exact JC helt; exact JC hilt)]
   exact(hf c hb).1
 done:=by
  intro X hP hw hK hc i KD s σ H E I hf st hg;subst hP hw hK;obtain⟨xs,q1,hx⟩:=hg;obtain⟨its,rv,p⟩:=I.sqB q1;obtain⟨⟨old,he⟩,hi⟩:=st;have l1:=rv.length;have ez:i=its.toArray.size:=by simp; omega
  refine wpAny_pyNext_enum_endD (yA b it a its.toArray (show X.A.in1.handled=none from I.ok.hd hc) h3) he ⟨by rw [<- ez]; exact hi,p⟩ λh' kk=>⟨rfl,I.turnedL (t':=s.toks) [it] (λc o hb y=>kk c o (λq=>hb (by simp [q])) y) λc hb=>hf c ?_⟩
  have z:c=it:=by simpa using hb
  subst z;simp
 self:=λ_ _ _ _ _ st h=>by
  obtain⟨⟨old,he⟩,_⟩:=st;exact wpAny_pyIter_enum he h
theorem ur (l:Kr) (xs:Kz Kq) (n:Nat) (dct:Ks Kr) (sl:Kz (Ks Kq)):
  Meets (Builtin.«enumerate.__new__» ⟨[.type "enumerate",.ref l],[]⟩) (λ_ R s=>s.heap.get? l=some ⟨.type "tuple",dct,.seq xs n,sl⟩/\
   R (.ok (.ret (.ref (Dh s.heap "tuple_iterator" l).objs.size))) {s with heap:=(Dh s.heap "tuple_iterator" l).push {cls:=.type "enumerate",data:=.fields #[.none,.bool false,.ref s.heap.objs.size,rawInt 0,.none,.none]}}):=
 .of_wp λprog w A R s h=>by
  obtain⟨hp,g,d,tk,os⟩:=s;obtain⟨hl,h⟩:=h;have hsub:=sub_enumerate;have hT:Heap.IsTuple (Shared.heap ⟨hp,g,d,tk,os⟩) l xs:=⟨_,hl,rfl,n,rfl⟩
  wp_walk using AutoSeq1.wpAny_loadPart' hl
  refine wpAny_stack_any λ_=>Js ?_
  split
  ·rename_i c _ _ _ _ _
   cases (c == Value.type "enumerate") <;> (wp_walk using AutoSeq1.wpAny_loadPart' hl,wpAny_pyIter_tuple hT; exact⟨_,rfl,h⟩)
  ·wp_walk using AutoSeq1.wpAny_loadPart' hl,wpAny_pyIter_tuple hT
   exact⟨_,rfl,h⟩
section
variable {prog:Ku} {w:Kw} {A:Kv} {E:Kq->Ko->Prop} {s:Ko}
theorem vS {l:Kr} {xs:Kz Kq} {Q:Kq->Ko->Prop} (hL:s.heap.IsTuple l xs)
  (h:∀ h',IsEnum h' (s.heap.objs.size+1) s.heap.objs.size 0 .none->h'.get? s.heap.objs.size=some {cls:=.type "tuple_iterator",data:=.fields #[.ref l,.int 0 0]}->(∀ c o,s.heap.get? c=some o->h'.get? c=some o)->Q (.ref (s.heap.objs.size+1)) {s with heap:=h'}):
  wpAny (model prog w) A (call (.type "enumerate") [.ref l]) Q E s:=by
 obtain⟨⟨c,dct,dt,sl⟩,hl,hc,n,hd⟩:=hL;obtain rfl:c=.type "tuple":=hc
 obtain rfl:dt=.seq xs n:=hd;refine callType_new F.called_enumerate (by decide) (F.typeCall_enumerate_1 _) (F.newCall_enumerate_1 _) (λobj=>F.args_object_init_2 obj _) F.entry_enumerate_new (ur l xs n dct sl) ⟨hl,?_⟩
 have z1:(Dh s.heap "tuple_iterator" l).objs.size=s.heap.objs.size+1:=Kh ..
 have g5:=Jt (Dh s.heap "tuple_iterator" l) (o:={cls:=.type "enumerate",data:=.fields #[.none,.bool false,.ref s.heap.objs.size,rawInt 0,.none,.none]}) rfl
 show _/\_
 rw [z1] at g5 ⊢;exact⟨⟨_,g5,rfl⟩,h _ g5 (pp _ (Jt _ rfl)) λc o x=>pp _ (pp _ x)⟩
theorem vD {b:KA} {l:Kr} {xs:Kz Kq} {Q:Kq->Ko->Prop} (hL:sqB b l xs s.heap)
  (h:∀ h',IsEnum h' (s.heap.objs.size+1) s.heap.objs.size 0 .none->E4 b s.heap.objs.size l 0 h'->(∀ c o,s.heap.get? c=some o->h'.get? c=some o)->Q (.ref (s.heap.objs.size+1)) {s with heap:=h'}):
  wpAny (model prog w) A (call (.type "enumerate") [.ref l]) Q E s:=by
 cases b with
 | true=>exact call_enumerate_list hL λh' a1 a2 _ a4=>h h' a1 a2 a4
 | false=>exact vS hL λh' a1 a2 a4=>h h' a1 ⟨_,a2,rfl,rfl⟩ a4
end
def FJ (K:PySem.W.Frag) (ta:TA):TI:=fun σ H R=>ta σ H λvs H1=>∃ a b,vs=[.ref a]/\(∃ xs,qZ b K H1 a xs)/\R (GK K b a) H1
theorem Bo {X:Cx} {a:Kt} {ta:TA} {p pos tp:Pos} {es:List Kt} {k:Nat} (hg:Gl X "enumerate") (hm:X.mg "enumerate"=none) (ha:PA X [a] ta) (hs:starEach [a] X.env=[(false,eval a X.env)]:=by rfl):
  PI X (.Tuple es k tp) (.Call (.Name "enumerate" p) [a] [] pos) (FJ X.K ta):=by
 intro KD s σ H R I h;refine Call_ (n5 I hg hm xB (PyProof.Rows.callWith_type1 (cm (ha pos KD s σ H _ I h) λus s1 ⟨vs,H1,I1,r1,q1⟩=>?_) (by rw [hs]; rfl) rfl))
 obtain⟨a1,b,rfl,⟨xs,e1⟩,q⟩:=q1;cases r1 with
 | cons r rr=>
  cases rr;cases r;obtain⟨its,rv,p1⟩:=I1.sqB e1;have al:=rW p1;refine vD p1 λh' c1 c2 c3=>?_
  refine wpAny_pyIter_enum (s:={s1 with heap:=h'}) c1 ?_
  have fr:∀ j,H1 (s1.heap.objs.size+j)=none:=λj=>I1.hok.fresh (Nat.le_add_right _ _)
  refine⟨_,[s1.heap.objs.size+1,s1.heap.objs.size],_,_,H1,rfl,I1.kept (t':=s1.toks) c3,xJ b (Nat.succ_ne_self _) (Nat.ne_of_gt (Nat.lt_succ_of_lt al)) (Nat.ne_of_gt al),⟨⟨_,c1⟩,c2⟩,λc hb=>?_,q⟩
  have hb':c=s1.heap.objs.size+1\/c=s1.heap.objs.size:=by simpa using hb
  rcases hb' with rfl | rfl
  ·exact I1.fpOk (Nat.le_add_right _ _) (fr 1)
  ·exact I1.fpOk (Jw _) (fr 0)
end L2
namespace DL
open PySem PySem.Spec PyProof.Rows L2
def j7:Nat->List D->List D
 | _,[]=>[]
 | j,d::r=>.tup [.int (j:Nat),d]::j7 (j+1) r
theorem rC:∀ {ds:List D} {j i:Nat} {c:D},(j7 j ds)[i]?=some c->∃ d,ds[i]?=some d/\c=.tup [.int ((j+i:Nat):Int),d]
 | [],_,_,_,h=>by cases h
 | d::r,j,0,c,h=>⟨d,rfl,(J0 h).symm⟩
 | d::r,j,i+1,c,h=>by
  obtain⟨e,h1,h2⟩:=rC (ds:=r) (j:=j+1) (i:=i) h;exact⟨e,h1,by rw [h2,show j+1+i=j+(i+1) by omega]⟩
theorem rB:∀ {ds:List D} {j:Nat},(j7 j ds).length=ds.length
 | [],_=>rfl
 | _::r,j=>congrArg (·+1) (rB (ds:=r) (j:=j+1))
theorem Bx {K:Fg} {H1:Hp} {q:List D×Ks Kr} {a:Kr} {b:KA} (y:∀ S2 H2,Kp H1 H2->Hs K H2 S2->eE q S2->∃ xs,qZ b K H2 a xs/\IsDs K H2 q.1 xs):
  (∀ i d S2 H2,(j7 0 q.1)[i]?=some d->Kp H1 H2->Hs K H2 S2->eE q S2->(GK K b a).go i H2/\∀ x H',(GK K b a).yld i H2 x H'->Kp H2 H'/\Hs K H' S2/\cn K H' d x)/\
  ∀ S2 H2,Kp H1 H2->Hs K H2 S2->eE q S2->(GK K b a).stop (j7 0 q.1).length H2:=by
 refine⟨λi c S2 H2 e k2 hS2 o2=>?_,λS2 H2 k2 hS2 o2=>?_⟩
 ·obtain⟨xs,w1,u1⟩:=y S2 H2 k2 hS2 o2;obtain⟨d,f1,rfl⟩:=rC e;obtain⟨v1,g1,r1⟩:=u1.get f1;refine⟨⟨xs,v1,w1,g1⟩,?_⟩;rintro x H' ⟨T,x',rfl,hT,rfl,al⟩;have l1:=al xs w1;rw [g1] at l1;cases l1;have kn:Kp H2 (cb H2 T (.tup [.int (i:Nat),v1])):=Kp.new hT;exact⟨kn,hS2.new hT,cr.mpr ⟨T,[.int (i:Nat),v1],rfl,ka.of cA,IsDs.cons (isInt.mpr (by rw [Nat.zero_add])) (IsDs.cons (r1.kp kn) IsDs.nil)⟩⟩
 ·obtain⟨xs,w1,u1⟩:=y S2 H2 k2 hS2 o2;refine⟨xs,w1,?_⟩;rw [<- u1.length,rB]
def EG (ta:DA) (g:DG) (b:DS):DS:=λM L S=>ta L S λds S1=>match ds with
 | [d]=>∃ q,aT S1 d=some q/\iG (eE q) g b M (j7 0 q.1) L S1
 | _=>False
section
variable {X:Cx} {a:Kt} {es:List Kt} {kt:Nat} {tp p pos pos':Pos} {gg:DG} {ta:DA} {g:DS} {body:List Ky}
theorem fR (hp:PassesOwn (model X.prog X.w) X.A X.env X.xe) (hc:X.calm=true) (hgl:Gl X "enumerate") (hm:X.mg "enumerate"=none) (ha:AJ X [a] ta) (hg:GJ X (.Tuple es kt tp) gg) (hb:vW X body g)
  (hs1:starEach [a] X.env=[(false,eval a X.env)]:=by rfl) (hs:∀ x,foldedSetIterable (.Call (.Name "enumerate" p) [a] [] pos') X.env x=pure x:=by intro _; rfl):
  SJ X (.For (.Tuple es kt tp) (.Call (.Name "enumerate" p) [a] [] pos') body [] pos) (EG ta gg g):=
 ⟨PS.imp (sK hp hc (Bo hgl hm ha.h hs1) hg.h hb.h hs) λN σ H ⟨L,S,M,hL,hS,h,r⟩=>tN.go hL hS h λds S1 vs H1 h1 k1 hL1 hS1 i1=>by
  split at h1
  ·rename_i d1
   obtain⟨v1,rfl,j1⟩:=kI i1;obtain⟨q1,e1,h1⟩:=h1;obtain⟨a1,b1,rfl,x1,y1⟩:=nO hS1 j1 e1;obtain⟨z1,z2⟩:=Bx y1;exact⟨a1,b1,rfl,x1,rA hL1 hS1 h1 (r.kp k1) z1 z2⟩
  ·exact h1.elim⟩
end
def EY:D2:=λd e S k=>match d,e with
 | .tup ds,.int i=>∃ c,L2.atI ds i=some c/\k c S
 | .rl ds,.int i=>∃ c,L2.atI ds i=some c/\k c S
 | .ref a,.int i=>∃ ds c,S a=some (.lst ds)/\L2.atI ds i=some c/\k c S
 | _,_=>False
theorem b_ {X:Cx}:yt X (jy X.K EY):=yt.imp Gj (jy.imp λd e S k h=>by
 unfold EY at h
 split at h
 ·obtain⟨c,h1,h2⟩:=h;simp only [tR,h1];exact h2
 ·obtain⟨c,h1,h2⟩:=h;simp only [tR,h1];exact h2
 ·obtain⟨ds,c,h0,h1,h2⟩:=h;simp only [tR,h0,h1];exact h2
 ·exact h.elim)
theorem ft {X:Cx} {x:Str} {p1 p2 pos:Pos} {c:Int} {j} (n:Nat) (hN:X.N[n]?=some x:=by rfl) (hv:u7 X.env.scope x:=by first | exact Or.inl rfl | exact Or.inr (Or.inl rfl) | exact Or.inr (Or.inr rfl)) (hd:(x == ("__debug__":Str))=false:=by decide) (hcd:(x == ("__classdict__":Str))=false:=by decide):EJ X (.Subscript (.Name x p1) (.Constant (.int c) j p2) pos) (EB EY (Ar n) (dC (.int c))):=bb b_ (ah n hN hv hd hcd) aq Zf
theorem lX {K:Fg} {H:Hp}:∀ {ns:List Int} {vs:List V},IsDs K H (ns.map D.int) vs->vs=ns.map V.int
 | [],vs,h=>by
  have:=h.length;exact Kn.mp this.symm
 | n::ns,vs,h=>by
  obtain⟨u,r,rfl,h1,h2⟩:=cR.mp h;rw [isInt.mp h1,lX h2]
  rfl
end DL
namespace HT
open PySem PyProof.Rows
section
variable {prog:Ku} {w:Kw} {A:Kv} {E:Kq->Ko->Prop} {s:Ko}
theorem lw {t sl:Kr} {items:Kz Kq} {vl vu:Kq} {lo hi:Ks Int} {Q:Kq->Ko->Prop} (ht:IsTup s.heap t items) (hs:s.heap.IsSliceOf sl vl vu .none) (pl:IsPart vl lo) (pu:IsPart vu hi)
  (hw:cM items.size 0 lo=0/\cM items.size items.size hi=items.size) (h:Q (.ref t) s):wpAny (model prog w) A (getItem (.ref t) (.ref sl)) Q E s:=by
 obtain⟨os,hos,hcs,hds⟩:=id hs;have hTs:s.TypeIs (.ref sl) "slice":=⟨os,hos,hcs⟩
 unfold getItem
 try with_reducible refine JU ?_
 first | refine gt (Js ?_) | skip
 refine gt (wpAny_sequenceKey ht.typeIs (by decide) ?_)
 refine gt (Kj (name:=Str.ofString "__getitem__") ht.typeIs PyProof.Rows.slot_tuple_getitem
  (Kb PyProof.Rows.slot_tuple_getitem ht.typeIs entry_tuple_getitem ?_ (args_tuple_getitem _ _)))
 show wpAny _ _ (Builtin.Tuple.tupleItemsOf (.ref t) >>= _) _ _ s
 refine gt (tupleItemsOf_ ht (gt (wpAny_typeOf hTs ?_)));rw [if_pos (by decide)]
 refine gt (iY hs pl pu ?_);rw [hw.1,hw.2]
 show wpAny _ _ (if ((((0:Nat):Int) == 0) && (1:Int) == 1 && (items.size - 0) == items.size)=true then _ else _) _ _ s
 rw [if_pos (by simp)]
 refine gt (m:=Builtin.Tuple.tupleIsExact (.ref t)) (gt (wpAny_typeOf ht.typeIs (Js ?_)));rw [if_pos (by decide)]
 first
  | exact Js ⟨_,rfl,Js h⟩
  | exact gt (Js (Js ⟨_,rfl,Js h⟩))
  | (wp_walk; exact⟨_,rfl,Js h⟩)
end
end HT
namespace L2
open PySem PySem.Spec PyProof.Rows
section
variable {X:Cx}
theorem BQ:A7 X (λx lo hi H Q=>∃ a xs,x=.ref a/\ka X.K H a xs/\(HT.cM xs.length 0 lo=0/\HT.cM xs.length xs.length hi=xs.length)/\Q (.ref a) H):=by
 intro KD s σ H x v vl vu lo hi sl Q I rx hs pl pu h;obtain⟨a,xs,rfl,hx,hw,q⟩:=h;cases rx;obtain⟨its,r,ht,hz⟩:=I.tuple hx;have hlen:its.toArray.size=xs.length:=by rw [JA]; exact r.length.symm
 refine⟨"tuple",_,PyProof.Rows.slot_tuple_getitem.lookup,ht.typeIs,?_⟩
 exact HT.lw ht hs pl pu (by rw [hlen]; exact hw) ⟨.ref a,H,I,rfl,q⟩
end
end L2
namespace DL
open PySem PySem.Spec PyProof.Rows L2
def F0 (g:DE) (tl th:CT):DE:=λL S k=>g L S λx S1=>tl L S1 λlo S2=>th L S2 λhi S3=>match x with
 | .tup xs=>k (.tup (gq xs lo hi)) S3
 | _=>False
theorem yj {xs:List D} {lo hi:Ks Int} (h:HT.cM xs.length 0 lo=0/\HT.cM xs.length xs.length hi=xs.length):gq xs lo hi=xs:=by
 unfold gq;rw [h.1,h.2];simp
theorem wt {X:Cx} {e:Kt} {g:DE} {lo hi:Ks Kt} {tl th:CT} {p2 pos:Pos} (he:EJ X e g) (hl:OJ X lo tl) (hu:OJ X hi th):EJ X (.Subscript e (.Slice lo hi none p2) pos) (F0 g tl th):=
 ⟨PE.imp (uG (A7.or zW BQ) he.h hl.h hu.h) fun σ H Q ⟨L,S,k,hL,hS,h,n⟩=>up.go hL hS h λd S1 v H1 h1 k1 hL1 hS1 i1=>by
  refine⟨L,S1,_,hL1,hS1,h1,λlo' S2 H2 h2 k2 hS2=>⟨L,S2,_,hL1.kp k2,hS2,h2,λhi' S3 H3 h3 k3 hS3=>?_⟩⟩
  cases d with
  | tup xs=>
   obtain⟨a,vs,rfl,t,j⟩:=cr.mp i1;have j3:=j.kp (k2.trans k3)
   by_cases hw:HT.cM xs.length 0 lo'=0/\HT.cM xs.length xs.length hi'=xs.length
   ·refine .inr ⟨a,vs,rfl,(k2.trans k3).tup t,by rw [<- j.length]; exact hw,?_⟩
    have h3:k (.tup (gq xs lo' hi')) S3:=h3;rw [yj hw] at h3;exact n _ S3 _ _ h3 (k1.trans (k2.trans k3)) hS3 (cr.mpr ⟨a,vs,rfl,(k2.trans k3).tup t,j3⟩)
   ·refine .inl ⟨a,vs,rfl,(k2.trans k3).tup t,by rw [<- j.length]; exact hw,λp hp=>?_⟩
    have k4:Kp H3 (cb H3 p (.tup (oS vs lo' hi'))):=Kp.new hp;refine n _ S3 _ _ h3 (k1.trans (k2.trans (k3.trans k4))) (hS3.new hp) (cr.mpr ⟨p,_,rfl,ka.of cA,?_⟩);unfold gq oS;rw [j.length];exact((j3.drop _).take _).kp k4
  | _=>exact(show False from h3).elim⟩
def AX (mg:Str->Ks Kq) (x:Str) (n:Int):Prop:=∃ t,mg x=some (.int n t)
theorem Ah {X:Cx} {x:Str} {n:Int} {pos:Pos} (g:AX X.mg x n) (hg:Gl X x) (hd:(x == ("__debug__":Str))=false:=by decide):EJ X (.Name x pos) (dC (.int n)):=by
 obtain⟨t,hm⟩:=g;exact⟨Dt (wZ (v:=.int n) hg hm ⟨t,rfl⟩ hd) λH=>isInt.mpr rfl⟩
end DL
set_option linter.all false
namespace DT
abbrev Mx:=Nat->Nat->Rat
def sg (n:Nat):Rat:=if n % 2=0 then 1 else -1
def cl (M:Mx) (a:Nat) (u:Nat->Rat):Mx:=λr c=>if c=a then u r else M r c
end DT
namespace PySem
open Sem (wp)
open Builtin DL
section
variable {prog:Ku} {w:Kw}
section
variable {A:Kv} {E:Kq->Ko->Prop} {s:Ko} {it d v:Kr} {es:Kz DictEntry} {i ep:Nat} {e:DictEntry} {ok ov:Kq}
inductive Ha where
 | k | v
def Ha.nm:Ha->KB
 | .k=>"dict_keyiterator"
 | .v=>"dict_valueiterator"
def Ha.of (e:DictEntry):Ha->Kq
 | .k=>e.key
 | .v=>e.val
end
end
end PySem
namespace DL
open PySem PySem.Spec PyProof.Rows L2
def jv (k:List Int):D:=.tup (k.map .int)
abbrev Jm:=Lo->DH->(List D->(DH->Prop)->DH->Prop)->Prop
end DL
namespace PySem
open Builtin DL
abbrev Sx:=Nat×Tok
end PySem
namespace ST
open PySem PySem.SetTable
def IV (mask:Nat) (p:Probe):Probe:=
 if p.more > 0 then {p with j:=p.j+1,more:=p.more - 1} else {p with j:=(leap mask p.i p.perturb).1,more:=runEnd mask (leap mask p.i p.perturb).1 - (leap mask p.i p.perturb).1,i:=(leap mask p.i p.perturb).1,perturb:=(leap mask p.i p.perturb).2}
def Jo (mask i pt:Nat):Probe:={j:=i,more:=runEnd mask i - i,i:=i,perturb:=pt,dummy:=none}
def sq (mask:Nat) (h:Int):Nat->Probe
 | 0=>Jo mask (bits h % (mask+1)) (bits h)
 | n+1=>IV mask (sq mask h n)
def lp (mask:Nat) (h:Int):Nat->Nat×Nat
 | 0=>(bits h % (mask+1),bits h)
 | n+1=>leap mask (lp mask h n).1 (lp mask h n).2
def IW (mask:Nat):Prop:=mask=7\/mask=31\/mask=127
def Jf (xs:Kz Nat):Prop:=∀ i j:Nat,i < j->∀ a b:Nat,xs[i]?=some a->xs[j]?=some b->a < b
def On (t:SetTable) (j:Nat):Prop:=∃ i:Nat,t.place[i]?=some j
def Jl (t:SetTable) (h:Int) (j:Nat):Prop:=∃ n,(sq t.mask h n).j=j/\∀ m,m < n->On t (sq t.mask h m).j
structure TI (t:SetTable) (hs:List Int):Prop where
 dm:t.dummies=#[]
 ris:Jf t.place
 sz:t.place.size=hs.length
 le:∀ j,On t j->j < t.mask+1
 msk:IW t.mask
 way:∀ q∈t.place.toList.zip hs,Jl t q.2 q.1
def Jq (t:SetTable):Prop:=t.place.size*5 < t.mask*3
end ST
namespace ST
open PySem PySem.SetTable PySem.Spec
section
variable {prog:Ku} {w:Kw} {K:Type} [DecidableEq K] {knd:KeyKind prog w K} {A:Kv} {E:Kq->Ko->Prop} {s:Ko}
def ent (knd:KeyKind prog w K) (x:List K×Kr):Int×Kq:=(tupleKeyHash knd x.1,.ref x.2)
structure Iy (knd:KeyKind prog w K) (h:Kx) (a:Kr) (o:KC) (es:Kz (Int×Kq)) (ep:Nat) (t:SetTable) (xs:List (List K×Kr)):Prop where
 get:h.get? a=some o
 ex:o.ExactSet
 data:o.data=.set es ep t
 ent:es.toList=xs.map (ent knd)
 is:∀ x∈xs,IsTupleKey knd h x.1 x.2
 ti:TI t (xs.map λx=>tupleKeyHash knd x.1)
 lax:Jq t
end
end ST
namespace ST
open PySem PySem.SetTable PySem.Spec PyProof.Rows
def FU {α:Type} [DecidableEq α] (a:List α) (k:α):List α:=if k∈a then a else a++[k]
def dd {α:Type} [DecidableEq α] (l:List α):List α:=l.foldl FU []
section
variable {prog:Ku} {w:Kw} {K:Type} [DecidableEq K] {knd:KeyKind prog w K} {A:Kv} {R:Result->Ko->Prop} {I:Kr} {fp wr:List Kr} {G:Kz GenState->Kz GenState->Prop} {n:Nat} {P:Nat->Kq->Prop} {St:Nat->Ko->Prop}
def Holds (knd:KeyKind prog w K) (h:Kx) (S:Kr) (V:Kr->Prop) (l:List (List K)):Prop:=∃ o es ep t xs,Iy knd h S o es ep t xs/\xs.length=(dd l).length/\(∀ k,k∈xs.map (·.1)↔k∈dd l)/\∀ x∈xs,V x.2
end
end ST
namespace L2
open PySem PySem.Spec PyProof.Rows ST
section
variable {X:Cx}
theorem uV:∀ {bs:List (List Int×Kr)} {us:List Kq},bu (bs.map λq=>V.ref q.2) us->us=bs.map λq=>Value.ref q.2
 | [],us,h=>by cases h; rfl
 | q::bs,us,h=>by
  rw [JI] at h;cases h with
  | cons h1 h2=>
   cases h1;rw [uV h2]
   rfl
theorem lz {P:Ku} {w:Kw}:∀ {ns:List Int} {us:List Kq},bu (ns.map V.int) us->ItemsAre (intKind P w) ns us
 | [],us,h=>by cases h; exact .nil
 | n::ns,us,h=>by
  rw [JI] at h;cases h with
  | cons h1 h2=>
   obtain⟨t,rfl⟩:=h1;exact .cons (intKind_is _ _ _ _) (lz h2)
end
end L2
namespace DL
open PySem PySem.Spec PyProof.Rows L2 ST
theorem qR {K:Fg} {H:Hp}:∀ {nss:List (List Int)} {vs:List V},IsDs K H (nss.map λns=>D.tup (ns.map D.int)) vs->∃ bs:List (List Int×Kr),bs.map (·.1)=nss/\vs=bs.map (λq=>V.ref q.2)/\∀ q∈bs,ka K H q.2 (q.1.map V.int)
 | [],vs,h=>⟨[],rfl,iJ.mp h,λ_ z=>by cases z⟩
 | ns::nss,vs,h=>by
  obtain⟨u,r,rfl,h1,h2⟩:=cR.mp h;obtain⟨b,xs,rfl,t,j⟩:=cr.mp h1;have e:=lX j;subst e;obtain⟨bs,e1,rfl,e3⟩:=qR h2;refine⟨(ns,b)::bs,by rw [JI,e1],rfl,λq hq=>?_⟩
  rcases JB.mp hq with rfl | hq
  ·exact t
  ·exact e3 q hq
end DL
namespace L2
open PySem PySem.Spec PyProof.Rows ST
theorem vP {prog:Ku} {w:Kw} {A:Kv} {E:Kq->Ko->Prop} {s:Ko} {Q:Kq->Ko->Prop} (l:Kr) (items:Kz Kq) (n:Nat) (x:Kq) (e:Kq->KA) (hl:s.heap.get? l=some {cls:=.type "list",dict:=none,data:=.seq items n,slots:=#[]})
  (he:∀ A':Kv,A'.units<=A.units+8->∀ y,y∈items->SeqAt.EqAt A' s y x (e y)) (h:Q (.int (items.toList.countP e:Nat) s.toks) {s with toks:=s.toks+1}):
  wpAny (model prog w) A (call (.builtin "list.count") [.ref l,x]) Q E s:=by
 have h1:=SeqAt.list_countAt l items n none #[] x e;have h2:=@call_meets prog w A E s "list" "count" "list.count" _ (.ref l) [x] _ Q F.slot_list_count ⟨_,hl,rfl⟩ F.entry_list_count (F.args_list_count_2 _ _) h1
 refine h2 ⟨hl,λy hy=>he _ ?_ y hy,h⟩
 show A.units+_<=A.units+8
 omega
section
variable {X:Cx}
def po (bs:List (List Int×Kr)) (ns:List Int):Kq->KA
 | .ref c=>(bs.find? λq=>q.2 == c).any λq=>decide (q.1=ns)
 | _=>false
def Ep (X:Cx):V->List V->Hp->VK->Prop:=λx vs H Q=>∃ (l b:Kr) (bs:List (List Int×Kr)) (ns:List Int),x=.ref l/\vs=[.ref b]/\H l=some (.lst (bs.map λq=>V.ref q.2))/\(∀ q∈bs,ka X.K H q.2 (q.1.map V.int))/\ka X.K H b (ns.map V.int)/\Q (.int ((bs.map (·.1)).count ns:Nat)) H
theorem wO:∀ {ns ms:List Int},ns.map V.int=ms.map V.int->ns=ms
 | [],[],_=>rfl
 | [],_::_,h=>by cases h
 | _::_,[],h=>by cases h
 | n::ns,m::ms,h=>by
  rw [JI,JI] at h;injection h with h1 h2
  injection h1 with h1
  rw [h1,wO h2]
theorem Ay {m:Nat} (hr:dg m X.A):HV X "list.count" (Ep X):=by
 intro KD s σ H x vs v us Q I rx rv h;obtain⟨l,b,bs,ns,rfl,rfl,hH,ht,hb,q⟩:=h;cases rx;obtain⟨z,its,n,r,hl,e⟩:=I.lstM hH;obtain⟨u,rfl,ru⟩:=rv.one;cases ru;have ev:=uV r;subst ev;have key:∀ {c:Kr} {ms:List Int},ka X.K H c (ms.map V.int)->∀ (P:Ku) (w:Kw),IsTupleKey (intKind P w) s.heap ms c:=λ{c ms} h P w=>by
  obtain⟨its,r1,⟨o,w1,w2,w3,w4⟩,_⟩:=I.tuple h;exact⟨o,its.toArray,w3,w1,w2,w4,by simpa using lz r1⟩
 have kv:∀ q∈bs,po bs ns (.ref q.2)=decide (q.1=ns):=λq hq=>by
  show(bs.find? λq'=>q'.2 == q.2).any (λq=>decide (q.1=ns))=_
  cases hf:bs.find? λq'=>q'.2 == q.2 with
  | none=>
   have:=List.find?_eq_none.mp hf q hq;simp at this
  | some q'=>
   have h1:=List.mem_of_find?_eq_some hf;have h2:q'.2=q.2:=by simpa using List.find?_some hf
   have h3:q'.1=q.1:=wO (I.tuple_inj (by rw [<- h2]; exact ht q' h1) (ht q hq))
   show decide (q'.1=ns)=_
   rw [h3]
 have hu:=hr.units;refine vP l (bs.map λq=>Value.ref q.2).toArray n (.ref b) (po bs ns) e (λA' hA y hy=>?_) ?_
 ·obtain⟨q',hq',rfl⟩:=Jx.mp (by simpa using hy:y∈bs.map λq=>Value.ref q.2)
  rw [kv q' hq'];exact λP w E Q hq=>wpAny_eqBool_tuple (knd:=intKind P w) (by omega) (key (ht q' hq') P w) (key hb P w) hq
 ·have ec:(bs.map λq=>Value.ref q.2).toArray.toList.countP (po bs ns)=(bs.map (·.1)).count ns:=by
   show(bs.map λq=>Value.ref q.2).countP (po bs ns)=(bs.map (·.1)).countP (· == ns)
   rw [List.countP_map,List.countP_map];refine List.countP_congr λq hq=>?_
   show po bs ns (.ref q.2)=true↔(q.1 == ns)=true
   rw [kv q hq];simp
  rw [ec];exact⟨.int ((bs.map (·.1)).count ns:Nat),H,I.tok _,⟨s.toks,rfl⟩,q⟩
end
end L2
namespace DL
open PySem PySem.Spec PyProof.Rows L2 ST
def Hw (go ge:DE):DE:=λL S k=>go L S λd S1=>match d with
 | .ref a=>(∃ ds,S1 a=some (.lst ds))/\ge L S1 λe S2=>∃ (nss:List (List Int)) (ns:List Int),S2 a=some (.lst (nss.map λns=>D.tup (ns.map D.int)))/\e=.tup (ns.map D.int)/\k (.int (nss.count ns:Nat)) S2
 | _=>False
section
variable {X:Cx} {o e1:Kt} {go ge:DE} {apos cpos:Pos}
theorem Ew {m:Nat} (hr:dg m X.A) (ho:EJ X o go) (he:EJ X e1 ge) (hbase:attributeBase o "count" X.env (eval o X.env)=eval o X.env:=by rfl)
  (hfew:((backTo cpos (starEach [e1] X.env)).all (λx=>!x.1) && (backToKw cpos (keywordEach [] X.env)).all (λx=>x.1.isSome) && decide ([e1].length+([]:List Keyword).length+(if ([]:List Keyword).isEmpty then 0 else 1) < 30))=true:=by rfl)
  (hline:(apos.endLine == cpos.line)=true:=by rfl) (hs:starEach [e1] X.env=(false,eval e1 X.env)::starEach [] X.env:=by rfl) (hpl:(backTo cpos (starEach [] X.env)).any (·.1)=false:=by rfl):
  EJ X (.Call (.Attribute o "count" apos) [e1] [] cpos) (Hw go ge):=
 ⟨PE.imp (yN PySem.F.plainAttrs_list PySem.F.slot_list_count PySem.F.type_list_count (Ay hr) ho.h (o0 he.h tD hs) hbase hfew hline hs hpl) fun σ H Q ⟨L,S,k,hL,hS,h,n⟩=>up.go hL hS h λd S1 v H1 h1 k1 hL1 hS1 i1=>by
  cases d with
  | ref a=>
   have q1:=df.mp i1;subst q1;obtain⟨⟨ds1,z1⟩,h1⟩:=h1;obtain⟨xs1,hl1,_⟩:=hS1.lst z1;refine⟨.inl ⟨rfl,xs1,jE.of hl1⟩,up.go hL1 hS1 h1 λd2 S2 v2 H2 h2 k2 hL2 hS2 i2=>?_⟩
   obtain⟨nss,ns,z,rfl,w⟩:=h2;obtain⟨b,ys,rfl,t,j2⟩:=cr.mp i2;have e:=lX j2;subst e;obtain⟨xs,hl3,j⟩:=hS2.lst z;obtain⟨bs,rfl,rfl,ht⟩:=qR j;exact⟨a,b,bs,ns,rfl,rfl,hl3,ht,t,n _ _ _ _ w (k1.trans k2) hS2 (isInt.mpr rfl)⟩
  | _=>exact(show False from h1).elim⟩
end
end DL
namespace DL
open PySem PySem.Spec PyProof.Rows L2
theorem AC:bootBuiltins "range"=some (.type "range"):=by decide +kernel
end DL
namespace L2
open PySem PySem.Spec PyProof.Rows
section
variable {X:Cx} {KD:List (Kr×KC)} {σ:St} {H:Hp} {s s':Ko} {E:XK}
theorem BB {e:Kq} (hex:X.ex=[]) (hst:X.stack=X.env::X.outer) (hf:X.env.frame=some X.env.locals) (I:aI X KD σ H s) (h:fK X.prog X.w X.stack H s E e s') {Cn:Str} {cv:Kq} {p1 hp:Pos} {b0:Ky} {suite:List Ky} {Q:Flow->Ko->Prop}
  (hg:Gl X Cn) (hm:X.mg Cn=some cv) (hdb:(Cn == ("__debug__":Str))=false) (hx:∀ c H',E c none H'->PySem.W.exmOne X.K c cv=some true)
  (k:∀ ea c H' o s6,E c none H'->H' ea=none->o.cls=c->aI X KD σ (cb H' ea (.frz o (.ext λ_=>True))) s6->
   wpAny (model X.prog X.w) (X.A.mark (some (.ref ea))) (execs (b0::suite) X.env) Q kg s6):
  wpAny (model X.prog X.w) X.A (noteFrame e X.env) (λ_ s2=>wpAny (model X.prog X.w) X.A (setFlight e none) (λ_ s3=>wpAny (model X.prog X.w) X.A (handleBy e X.env [.ExceptHandler (some (.Name Cn p1)) none (b0::suite) hp]) Q X.xe s3) X.xe s2) X.xe s':=by
 obtain⟨ea,cls,a0,H',B,rfl,os,bare,fl,hok,hB,hB2,un,q⟩:=h;have fl:=fl.1;have fr0:X.A.frames=some (X.env::X.outer):=by rw [<- hst]; exact I.ok.frames
 have fl0:Heap.FlyingW B (X.env::X.outer) ea cls a0 s'.heap:=by rw [<- hst]; exact fl
 refine wpAny_looks_onW fr0 hf fl0 λh4 held4 up4=>?_
 refine wpAny_landsW held4 λh5 fl5 up5=>?_
 have up45:=up4.trans up5;have I5:=I.landed os bare fl (by rw [hst]; exact fl5) up45 hok hB hB2 un
 obtain⟨ob,hob,hobc⟩:=fl5.there;refine wpAny_handleBy_cons (codeAny_handlers_test (fv (X:=X.marked (.ref ea) kg) (I5.marked (.ref ea) _) hg hm ?_ hdb)) (by intro z; cases z)
 have LT:PySem.W.Looks (model X.prog X.w) h5 (typeOf (.ref ea)) cls:=by
  subst hobc;exact(PySem.W.Looks.ld hob).andThen .now
 refine PySem.W.exm_one I5.kIn LT (hx cls H' q) _ _ _ _ (λ_ _ z=>z) ?_
 refine codeAny_handlers_suite ?_;refine lands_againW fl5 λh6 fl6 up6=>?_
 have I6:=I.landed os bare fl (by rw [hst]; exact fl6) (up45.trans up6) hok hB hB2 un
 obtain⟨o6,ho6,hc6⟩:=fl6.there;have nfr:ea∉f_ X.stack:=λz=>by
  obtain⟨_,o2,e2,d2⟩:=fl.2.2.1.mem z;obtain⟨oe,vs,T,oT,ts,w1,w2,w3,w4⟩:=fl.2.2.2;rw [w1] at e2;cases e2;exact d2 _ w3
 have nB:B.get? ea=none:=fl.2.1;have nw:∀ b o,s.heap.get? b=some o->b≠ea:=λb o z y=>by
  subst y;obtain⟨o',z'⟩:=hB2 b o z nfr;rw [nB] at z';cases z'
 have hn:H' ea=none:=by
  cases y:H' ea with
  | none=>rfl
  | some u=>
   obtain⟨o',z'⟩:=(hok ea u y).there;rw [nB] at z';cases z'
 have h0:X.s₀.heap.get? ea=none:=by
  cases y:X.s₀.heap.get? ea with
  | none=>rfl
  | some u=>
   obtain⟨o',z'⟩:=I.base.there ea u y (by rw [hex]; simp)
   exact absurd rfl (nw ea o' z')
 have I7:=I6.freeze ho6 hn h0 (λz=>nfr (by rw [hst,z]; unfold f_; rw [List.filterMap_cons,hf]; exact JD)) (λx c z=>by
  obtain⟨v,o,z2,_⟩:=I.cell x c z;exact nw c o z2) (λp z=>nw p.1 p.2 (I.pin p z).1)
 exact J5 (k ea cls H' o6 _ q hn hc6 I7) (λ_ _ z=>z) λ_ _ z=>z.elim
end
abbrev Cx.still (X:Cx):Cx:={X with xe:=kg}
theorem aI.still {X:Cx} {KD:List (Kr×KC)} {σ:St} {H:Hp} {s:Ko} (I:aI X KD σ H s):aI X.still KD σ H s:=
 ⟨⟨I.ok.mod,I.ok.kind,I.ok.glob,I.ok.blt,I.ok.above,I.ok.inj,I.ok.has,I.ok.cab,I.ok.hd,I.ok.frames,I.ok.stk,I.ok.exf,I.ok.bs,I.ok.bsz,I.ok.noex,I.ok.exfs,I.ok.funs,I.ok.frf⟩,I.os,I.bare,I.base,I.loc,I.cell,I.free,I.freeC,I.pin,I.hok,I.len⟩
theorem aI.unstill {X:Cx} {KD:List (Kr×KC)} {σ:St} {H:Hp} {s:Ko} (I:aI X.still KD σ H s):aI X KD σ H s:=
 ⟨⟨I.ok.mod,I.ok.kind,I.ok.glob,I.ok.blt,I.ok.above,I.ok.inj,I.ok.has,I.ok.cab,I.ok.hd,I.ok.frames,I.ok.stk,I.ok.exf,I.ok.bs,I.ok.bsz,I.ok.noex,I.ok.exfs,I.ok.funs,I.ok.frf⟩,I.os,I.bare,I.base,I.loc,I.cell,I.free,I.freeC,I.pin,I.hok,I.len⟩
def XW (X:Cx) (KD:List (Kr×KC)) (σ:St) (R:Hp->Prop) (E:XK) (e:Kq) (s':Ko):Prop:=∃ H1 s1,aI X KD σ H1 s1/\R H1/\fK X.prog X.w X.stack H1 s1 E e s'
abbrev TX:=St->Hp->VK->(Hp->Prop)->Prop
def xy (X:Cx) (E:XK) (e:Kt) (t:TX):Prop:=∀ (KD:List (Kr×KC)) (s:Ko) (σ:St) (H:Hp) (Q:VK) (R:Hp->Prop),aI X KD σ H s->t σ H Q R->wpAny (model X.prog X.w) X.A (eval e X.env) (EP X KD σ Q) (XW X KD σ R E) s
section
variable {X:Cx} {E:XK}
theorem xy.imp {e:Kt} {t t':TX} (h:xy X E e t) (i:∀ σ H Q R,t' σ H Q R->t σ H Q R):xy X E e t':=λKD s σ H Q R I q=>h KD s σ H Q R I (i σ H Q R q)
theorem CJ {fn:Str} {f:Kr} {fd:FuncData} {ps:List Str} {sp:Sp} {k:Nat} {e:Kt} {es:List Kt} {ta:TA} {fp cp:Pos}
  (F:aQ X.prog X.w X.K X.mg X.base (fK X.prog X.w) k f fd ps sp) (hr:dg k X.A) (hgf:Gl X fn) (hmf:X.mg fn=some (.ref f)) (hkf:PySem.W.keepIn X.K (.ref f)=true) (hb:iD X.K fd ps []) (ha:PA X.still (e::es) ta)
  (hdf:(fn == ("__debug__":Str))=false:=by decide) (he:starEach (e::es) X.env=(false,eval e X.env)::starEach es X.env:=by rfl) (hpl:(backTo cp (starEach es X.env)).any (·.1)=false:=by rfl):
  xy X E (.Call (.Name fn fp) (e::es) [] cp) (fun σ H Q R=>ta σ H λvs H1=>R H1/\sp vs H1 Q E):=by
 intro KD s σ H Q R I h;refine wpAny_Call_Name_kw (fv I hgf hmf ?_ hdf);refine PySem.W.callWith_K (h₀:=X.base) I.ok.mod.kin hkf (J5 (ha cp KD s σ H _ I.still h) (λus s1 ⟨vs,H1,I1,r,hR,q⟩=>?_) λ_ _ z=>z.elim) he hpl
 have I1:aI X KD σ H1 s1:=I1.unstill;refine⟨I1.kIn,?_⟩;have r2:bu (vs++[]) (us++[]):=by rw [JP,JP]; exact r
 have q2:sp (vs++[]) H1 Q E:=by rw [JP]; exact q
 have hl:(us++[]).length=ps.length:=by rw [<- r2.length]; exact F.len _ _ _ _ q2
 refine wpAny_call (codeAny_mono (F.run X.A X.stack s1 H1 ⟨us,[]⟩ (us++[]) (vs++[]) _ E hr I1.env0 (hb s1 us I1.kIn hl) r2 q2) λr s' hq=>?_)
 cases r with
 | ok fl=>
  cases fl with
  | ret u=>exact I1.after hq
  | next=>exact False.elim hq
  | brk=>exact False.elim hq
  | cont=>exact False.elim hq
 | error e=>exact⟨H1,s1,I1,hR,hq⟩
theorem xL {KD:List (Kr×KC)} {σ:St} {R:Hp->Prop} {s':Ko} {e:Kq} {Cn:Str} {cv:Kq} {p1 hp:Pos} {b0:Ky} {suite:List Ky} {D:mK} {t:TS} (h:XW X KD σ R E e s') (hd:X.calm=true->X.A.handled=none) (hex:X.ex=[]) (hst:X.stack=X.env::X.outer) (hf:X.env.frame=some X.env.locals)
  (hg:Gl X Cn) (hm:X.mg Cn=some cv) (hdb:(Cn == ("__debug__":Str))=false) (hs:∀ v,oZ (X.marked v kg) (b0::suite) t) (hE:∀ c H',E c none H'->PySem.W.exmOne X.K c cv=some true)
  (kk:∀ H1 ea c H' o,R H1->E c none H'->DL.Kp H1 H'->H' ea=none->o.cls=c->t D σ (cb H' ea (.frz o (.ext λ_=>True)))):
  wpAny (model X.prog X.w) X.A (noteFrame e X.env) (λ_ s2=>wpAny (model X.prog X.w) X.A (setFlight e none) (λ_ s3=>wpAny (model X.prog X.w) X.A (handleBy e X.env [.ExceptHandler (some (.Name Cn p1)) none (b0::suite) hp]) (SP X KD D) X.xe s3) X.xe s2) X.xe s':=by
 obtain⟨H1,s1,I1,hR,hq⟩:=h;refine BB hex hst hf I1 (DL.vE hq) hg hm hdb (λc H' z=>hE c H' z.1) λea c H' o s6 y1 y2 y3 I6=>?_
 refine cm (hs (.ref ea) KD s6 _ _ _ (I6.marked (.ref ea) kg) (kk H1 ea c H' o hR y1.1 y1.2 y2 y3)) λf s7 y=>?_
 cases f with
 | next=>
  obtain⟨σ7,H7,I7,q⟩:=y;exact⟨σ7,H7,I7.unmarked hd,q⟩
 | brk=>
  obtain⟨σ7,H7,I7,q⟩:=y;exact⟨σ7,H7,I7.unmarked hd,q⟩
 | cont=>
  obtain⟨σ7,H7,I7,q⟩:=y;exact⟨σ7,H7,I7.unmarked hd,q⟩
 | ret v=>
  obtain⟨v,σ7,H7,I7,r,q⟩:=y;exact⟨v,σ7,H7,I7.unmarked hd,r,q⟩
def C6 (K:PySem.W.Frag) (E:XK) (cv:Kq) (te:TX) (k:mK->St->VK) (t:TS):TS:=λD σ H=>(∀ c H',E c none H'->PySem.W.exmOne K c cv=some true)/\
 ∃ R:Hp->Prop,te σ H (k D σ) R/\∀ H1 ea c H' o,R H1->E c none H'->DL.Kp H1 H'->H' ea=none->o.cls=c->t D σ (cb H' ea (.frz o (.ext λ_=>True)))
theorem BI {x Cn:Str} {cv:Kq} {i:Nat} {e:Kt} {te:TX} {t:TS} {b0:Ky} {suite:List Ky} {xp ap p1 hp pos:Pos} (he:xy X E e te)
  (hd:X.calm=true->X.A.handled=none) (hex:X.ex=[]) (hst:X.stack=X.env::X.outer) (hf:X.env.frame=some X.env.locals) (hg:Gl X Cn) (hm:X.mg Cn=some cv) (hN:X.N.Nodup) (hi:X.N[i]?=some x) (hx:yr X.env.scope x) (hs:∀ v,oZ (X.marked v kg) (b0::suite) t)
  (hsw:swapsWith e (some (.Name x xp)) ap.line X.env=pure false:=by rfl) (hfx:X.fn x=true\/X.env.scope.names.lookup x=some .local:=by first | exact .inl rfl | exact .inr rfl | assumption) (hdb:(Cn == ("__debug__":Str))=false:=by decide):
  PS X (.Try [.Assign [.Name x xp] e ap] [.ExceptHandler (some (.Name Cn p1)) none (b0::suite) hp] [] [] pos) (C6 X.K E cv te (λD σ v H=>D.nx (σ.set i (some v)) H) t):=by
 intro KD s σ H D I h;obtain⟨hE,R,h,kk⟩:=h;refine wpAny_Try_except (wpAny_execs_cons (wpAny_Assign_Name (J5 (he KD s σ H _ R I h) (λv s1 ⟨y,H1,I1,r1,q1⟩=>?_) λe s' z=>?_) hsw))
 ·exact iw I1 hN hi hx r1 (λs2 I2=>wpAny_execs_nil (wpAny_execs_nil ⟨_,H1,I2,q1⟩)) hfx
 ·exact xL z hd hex hst hf hg hm hdb hs hE kk
end
end L2
namespace DL
open PySem PySem.Spec PyProof.Rows L2
def IY (K:Fg) (g:DE):TX:=fun σ H Q R=>∃ L S k,Lc K H L σ/\Hs K H S/\g L S k/\(∀ d S' v H',k d S'->Kp H H'->Hs K H' S'->cn K H' d v->Q v H')/\∀ H1,Kp H H1->R H1
structure DD (X:Cx) (ex:Kr->DH->Prop) (e:Kt) (g:DE):Prop where
 h:xy X (Ja X.K ex) e (IY X.K g)
section
variable {X:Cx} {ex:Kr->DH->Prop}
theorem mo {fn:Str} {n:Nat} {F:jL} {e:Kt} {es:List Kt} {ta:DA} {fp cp:Pos} (c:kd X.prog X.w X.K X.mg X.base fn n F) (hr:dg n X.A) (hgf:Gl X fn) (ha:AJ X.still (e::es) ta)
  (hdf:(fn == ("__debug__":Str))=false:=by decide) (he:starEach (e::es) X.env=(false,eval e X.env)::starEach es X.env:=by exact dh rfl) (hpl:(backTo cp (starEach es X.env)).any (·.1)=false:=by exact gk rfl):
  DD X ex (.Call (.Name fn fp) (e::es) [] cp) (yx F ex ta):=by
 obtain⟨g,fd,ps,F1,h1,h2,h3⟩:=c.ex;refine⟨xy.imp (CJ F1 hr hgf h1 h2 h3 ha.h hdf he hpl) fun σ H Q R ⟨L,S,k,hL,hS,h,n,hR⟩=>?_⟩
 refine tN.go hL hS h λds S1 vs H1 h1 k1 hL1 hS1 i1=>?_
 exact⟨hR H1 k1,ds,S1,k,ex,i1,hS1,h1,λd' S' v H' q k3 z1 z2=>n d' S' v H' q (k1.trans k3) z1 z2,λC S' H' z zs=>⟨C,S',rfl,z,zs⟩⟩
def Ds (K:Fg) (cv:Kq) (g:(Kr->DH->Prop)->DE) (i:Nat) (t:DS):DS:=λM L S=>g (λC S2=>PySem.W.exmOne K (.ref C) cv=some true/\t M L S2) L S λd S2=>M.nx (L.set i (some d)) S2
theorem xo {x Cn:Str} {cv:Kq} {i:Nat} {e:Kt} {g:(Kr->DH->Prop)->DE} {t:DS} {b0:Ky} {suite:List Ky} {xp ap p1 hp pos:Pos} (he:∀ ex,DD X ex e (g ex))
  (hd:X.calm=true->X.A.handled=none) (hex:X.ex=[]) (hst:X.stack=X.env::X.outer) (hf:X.env.frame=some X.env.locals) (hg:Gl X Cn) (hm:X.mg Cn=some cv) (hN:X.N.Nodup) (hi:X.N[i]?=some x) (hx:yr X.env.scope x) (hs:∀ v,vW (X.marked v kg) (b0::suite) t)
  (hsw:swapsWith e (some (.Name x xp)) ap.line X.env=pure false:=by rfl) (hfx:X.fn x=true\/X.env.scope.names.lookup x=some .local:=by first | exact .inl rfl | exact .inr rfl | assumption) (hdb:(Cn == ("__debug__":Str))=false:=by decide):
  SJ X (.Try [.Assign [.Name x xp] e ap] [.ExceptHandler (some (.Name Cn p1)) none (b0::suite) hp] [] [] pos) (Ds X.K cv g i t):=by
 refine⟨λKD s σ H N I ⟨L,S,M,hL,hS,h,r⟩=>BI (t:=zo X.K t) (he (λC S2=>PySem.W.exmOne X.K (.ref C) cv=some true/\t M L S2)).h hd hex hst hf hg hm hN hi hx (λv=>(hs v).h) hsw hfx hdb KD s σ H N I ⟨?_,Kp H,⟨L,S,_,hL,hS,h,λd S' v H' q k1 hS' i1=>r.nx _ _ _ _ q k1 ((hL.kp k1).set i1 i) hS',λ_ z=>z⟩,?_⟩⟩
 ·rintro c H' ⟨C,S',rfl,z,_⟩;exact z.1
 ·rintro H1 ea c H' o k0 ⟨C,S',rfl,z,zs⟩ kp hn ho;have k2:Kp H (cb H' ea (.frz o (.ext λ_=>True))):=k0.trans (kp.trans (Kp.new hn))
  exact⟨L,S',M,hL.kp k2,zs.new hn,z.2,r.kp k2⟩
end
inductive FR (K:Fg) (n:Str) (st:Ky) (f:Kr) (cd:Kq):Prop where
 | mk {oc kV doc pm ct:Kq} {od an:Ks Kr} {osl:Kz (Ks Kq)} (l:K.lookup f=some ⟨oc,od,.func (PySem.W.fnOf n n (eC st) (ci st) (aj st) .none kV doc pm an cd ct),osl⟩):FR K n st f cd
structure DI (K:Fg) (n:Str) (st:Ky) (f:Kr) (cd:Kq):Prop where
 a:PySem.W.nsIn K mainGlobals n=some (some (.ref f))
 x:FR K n st f cd
 e:PySem.W.codeIn K cd n=true
 k:PySem.W.keepIn K (.ref f)=true
def Bd (n:Str) (st:Ky) (ps:List Str):Prop:=∀ (kV doc pm:Kq) (an:Ks Kr) (cdv ct:Kq) (us:List Kq),us.length=ps.length->bindArgs (PySem.W.fnOf n n (eC st) (ci st) (aj st) .none kV doc pm an cdv ct) ⟨us,[]⟩=pure (ps.zip us)
theorem lc {us:List Kq} {n:Nat} (h:us.length=n+1):∃ u r,us=u::r/\r.length=n:=by
 cases us with
 | nil=>cases h
 | cons u r=>exact⟨u,r,rfl,Nat.succ.inj h⟩
theorem IE {n a1:Str} {st:Ky} (h:∀ (kV doc pm:Kq) (an:Ks Kr) (cdv ct u1:Kq),bindArgs (PySem.W.fnOf n n (eC st) (ci st) (aj st) .none kV doc pm an cdv ct) ⟨[u1],[]⟩=pure (List.zip [a1] [u1])):Bd n st [a1]:=λ_ _ _ _ _ _ us hl=>by obtain⟨u1,us,rfl,h1⟩:=lc hl; cases Kn.mp h1; exact h _ _ _ _ _ _ u1
theorem IN {n a1 a2:Str} {st:Ky} (h:∀ (kV doc pm:Kq) (an:Ks Kr) (cdv ct u1 u2:Kq),bindArgs (PySem.W.fnOf n n (eC st) (ci st) (aj st) .none kV doc pm an cdv ct) ⟨[u1,u2],[]⟩=pure (List.zip [a1,a2] [u1,u2])):Bd n st [a1,a2]:=λ_ _ _ _ _ _ us hl=>by obtain⟨u1,us,rfl,h1⟩:=lc hl; obtain⟨u2,us,rfl,h2⟩:=lc h1; cases Kn.mp h2; exact h _ _ _ _ _ _ u1 u2
theorem IH {n a1 a2 a3:Str} {st:Ky} (h:∀ (kV doc pm:Kq) (an:Ks Kr) (cdv ct u1 u2 u3:Kq),bindArgs (PySem.W.fnOf n n (eC st) (ci st) (aj st) .none kV doc pm an cdv ct) ⟨[u1,u2,u3],[]⟩=pure (List.zip [a1,a2,a3] [u1,u2,u3])):Bd n st [a1,a2,a3]:=λ_ _ _ _ _ _ us hl=>by obtain⟨u1,us,rfl,h1⟩:=lc hl; obtain⟨u2,us,rfl,h2⟩:=lc h1; obtain⟨u3,us,rfl,h3⟩:=lc h2; cases Kn.mp h3; exact h _ _ _ _ _ _ u1 u2 u3
theorem IC {n a1 a2 a3 a4:Str} {st:Ky} (h:∀ (kV doc pm:Kq) (an:Ks Kr) (cdv ct u1 u2 u3 u4:Kq),bindArgs (PySem.W.fnOf n n (eC st) (ci st) (aj st) .none kV doc pm an cdv ct) ⟨[u1,u2,u3,u4],[]⟩=pure (List.zip [a1,a2,a3,a4] [u1,u2,u3,u4])):Bd n st [a1,a2,a3,a4]:=λ_ _ _ _ _ _ us hl=>by obtain⟨u1,us,rfl,h1⟩:=lc hl; obtain⟨u2,us,rfl,h2⟩:=lc h1; obtain⟨u3,us,rfl,h3⟩:=lc h2; obtain⟨u4,us,rfl,h4⟩:=lc h3; cases Kn.mp h4; exact h _ _ _ _ _ _ u1 u2 u3 u4
inductive Bs (P:Ku) (w:Kw) (base:Kx):Prop where
 | mk:Bs P w base
section
variable {P:Ku} {w:Kw} {K:Fg} {mg:Str->Ks Kq} {base h:Kx} {n:Str} {st:Ky} {f:Kr} {cd:Kq} {ps:List Str} {k:Nat}
theorem DI.own {F:cH} (d:DI K n st f cd) (_:Bs P w base) (X:K.In h) (G:h.Ns mainGlobals mg) (ok:∀ fd,tP K n n st f fd->fd.code=cd->aQ P w K mg base de k f fd ps (dw K F))
  (hb:Bd n st ps:=by first | exact IE λ_ _ _ _ _ _ _=>rfl | exact IN λ_ _ _ _ _ _ _ _=>rfl | exact IH λ_ _ _ _ _ _ _ _ _=>rfl | exact IC λ_ _ _ _ _ _ _ _ _ _=>rfl | exact bd5 λ_ _ _ _ _ _ _ _ _ _ _=>rfl | exact bd6 λ_ _ _ _ _ _ _ _ _ _ _ _=>rfl | exact bd7 λ_ _ _ _ _ _ _ _ _ _ _ _ _=>rfl):aZ P w K mg base n k F:=by
 obtain⟨lk⟩:=d.x;have Fn:=sL lk d.e d.k;exact aZ.mk' Fn (ok _ Fn rfl) (PySem.W.mg_of X G d.a) (Fn.binds hb)
theorem DI.fn (d:DI K n st f cd) (hb:∀ (kV doc pm:Kq) (an:Ks Kr) (ct v:Kq),bindArgs (PySem.W.fnOf n n (eC st) (ci st) (aj st) .none kV doc pm an cd ct) ⟨[v],[]⟩=pure [(("script":Str),v)]:=by exact λ_ _ _ _ _ _=>rfl):∃ fd:FuncData,tP K n n st f fd/\fd.code=cd/\∀ (s:Ko) (v:Kq),BindsTo s fd ⟨[v],[]⟩ [("script",v)]:=by
 obtain⟨lk⟩:=d.x;exact⟨_,sL lk d.e d.k,rfl,λs v=>.of_eq (hb _ _ _ _ _ v)⟩
theorem DI.ownX {F:jL} (d:DI K n st f cd) (_:Bs P w base) (X:K.In h) (G:h.Ns mainGlobals mg) (ok:∀ fd,tP K n n st f fd->aQ P w K mg base (fK P w) k f fd ps (u6 K F))
  (hb:Bd n st ps:=by first | exact IE λ_ _ _ _ _ _ _=>rfl | exact IN λ_ _ _ _ _ _ _ _=>rfl | exact IH λ_ _ _ _ _ _ _ _ _=>rfl | exact IC λ_ _ _ _ _ _ _ _ _ _=>rfl | exact bd5 λ_ _ _ _ _ _ _ _ _ _ _=>rfl | exact bd6 λ_ _ _ _ _ _ _ _ _ _ _ _=>rfl | exact bd7 λ_ _ _ _ _ _ _ _ _ _ _ _ _=>rfl):kd P w K mg base n k F:=by
 obtain⟨lk⟩:=d.x;have Fn:=sL lk d.e d.k;exact kd.mk' Fn (ok _ Fn) (PySem.W.mg_of X G d.a) (Fn.binds hb)
end
end DL
namespace L2
open PySem PySem.Spec PyProof.Rows
abbrev wj (h:Kx) (C:Kr) (vs:List Kq):Kx:=(h.push {cls:=.type "tuple",data:=.seq vs.toArray}).push {cls:=.ref C,data:=.fields #[.ref h.objs.size,.none,.none,.none,.bool false,.none]}
inductive iI (h:Kx) (bmB:List Kq) (n:Str):List Kq->Prop
 | base:iI h bmB n bmB
 | own {a:Kr} {c0:Kq} {dd:Ks Kr} {cd:ClassData} {sl:Kz (Ks Kq)} {m:Str->Ks Kq} {tl:List Kq}:h.get? a=some ⟨c0,dd,.cls cd,sl⟩->h.Ns cd.ns m->m n=none->iI h bmB n tl->iI h bmB n (.ref a::tl)
section
variable {prog:Ku} {w:Kw} {A:Kv} {E:Kq->Ko->Prop} {h:Kx} {g:Kz GenState} {d:Drawn} {t:Nat} {os:OsState}
variable {nm q:Str} {C N:Kr} {bs bm bmB:List Kq} {hdct:KA} {sn:List Str} {sub:List Kq} {ab:KA} {col:Ks KA} {dd:Ks Kr} {k0 k1 k2 k3 k5:Ks Kq} {B newId initId:KB} {mN:Str->Ks Kq}
theorem vm {M:Model} {n:Str} {tl:List Kq} {y:Ks Kq} {Q:Ks Kq->Ko->Prop} (T:iI h bmB n tl) (hr:lookupAlong bmB n=pure y) (hq:Q y ⟨h,g,d,t,os⟩):wpAny M A (lookupAlong tl n) Q E ⟨h,g,d,t,os⟩:=by
 induction T with
 | base=>rw [hr]; exact Js hq
 | own a b c _ ih=>
  rw [lookupAlong_cons];refine gt (wpAny_classOwn_cls a b ?_);rw [c];exact ih
theorem pA {M:Model} {n:Str} {y:Ks Kq} {Q:Ks Kq->Ko->Prop} (hC:h.get? C=some (excClassObj nm q C N bs bm hdct sn sub ab col dd k0 k1 k2 k3 k5 newId)) (hn:h.Ns N mN) (T:iI h bmB n bm) (hm:mroOf (.type B)=pure bmB) (hB:typeLookup (.type B) n=pure y) (h0:mN n=none)
  (hq:Q y ⟨h,g,d,t,os⟩):wpAny M A (typeLookup (.ref C) n) Q E ⟨h,g,d,t,os⟩:=by
 rw [typeLookup_eq,hm] at hB;rw [typeLookup_eq];refine gt (wpAny_mroOf_exc hC ?_);rw [lookupAlong_cons];refine gt (wpAny_classOwn_exc hC hn ?_);rw [h0];exact vm T hB hq
theorem zd (F:ExcBaseFacts B newId initId bmB) (T:OwnTail h bmB bm) {vs:List Kq} {fI:Kr} {oI:KC} {Q:Fin->Ko->Prop} (hC:h.get? C=some (excClassObj nm q C N bs bm hdct sn sub ab col dd k0 k1 k2 k3 k5 newId)) (hn:h.Ns N mN) (hi:mN "__init__"=some (.ref fI)) (hf:h.get? fI=some oI) (hc:oI.cls=.type "function")
  (hq:wpAny (model prog w) A (call (.ref fI) (.ref (h.objs.size+1)::vs)) (λr s'=>r=.none/\Q (.done (.ret (.ref (h.objs.size+1)))) s') E ⟨wj h C vs,g,d,t,os⟩) (hv:vs.length<=sizeLine):wpAny (model prog w) A (Builtin.«type.__call__» ⟨.ref C::vs,[]⟩) Q E ⟨h,g,d,t,os⟩:=by
 have kp:∀ b o,h.get? b=some o->(wj h C vs).get? b=some o:=λb o e=>pp _ (pp _ e)
 have C1:=kp _ _ hC;have f1:=kp _ _ hf;have n1:=hn.keeps kp;have T1:=T.keeps kp;have g1:(wj h C vs).get? (h.objs.size+1)=some {cls:=.ref C,data:=.fields #[.ref h.objs.size,.none,.none,.none,.bool false,.none]}:=by heap_get
 have cC:(Value.ref C::bm).contains (.ref C)=true:=by simp
 repeat (first | with_reducible refine wpAny_loadPart_at hC ?_ | with_reducible refine wpAny_madeBy_exc hC ?_ | wp_step)
 refine codeAny_call_builtin_code (Code.quiet_builtin _ F.quiet) (wpAny_check_new_subT F T hC (codeAny_exc_new_subT F T hC ?_ hv))
 show wpAny _ _ _ _ _ _
 unfold isInstance
 repeat (first | with_reducible refine wpAny_loadPart_at g1 ?_ | (with_reducible refine wpAny_isSubtype_exc C1 ?_; rw [cC]) | wp_step)
 show wpAny _ _ (typeLookup (.ref C) _) _ _ _
 refine wpAny_typeLookup_tail C1 n1 T1 F.mroIs F.init.lookup ?_;rw [hi];refine JU (gt ?_);unfold bindSpecial;refine gt (wpAny_typeOf (T:="function") ⟨_,f1,hc⟩ ?_)
 rw [if_pos (by decide)]
 refine Js (gt (J5 hq (λr s' hr=>?_) λ_ _ z=>z))
 obtain⟨rfl,hQ⟩:=hr
 wp_walk
 exact hQ
theorem zh (F:ExcBaseFacts B newId initId bmB) (T:OwnTail h bmB bm) {vs:List Kq} {fI:Kr} {oI:KC} {Q:Kq->Ko->Prop} (hC:h.get? C=some (excClassObj nm q C N bs bm hdct sn sub ab col dd k0 k1 k2 k3 k5 newId)) (hn:h.Ns N mN) (hi:mN "__init__"=some (.ref fI)) (hf:h.get? fI=some oI) (hc:oI.cls=.type "function")
  (hq:wpAny (model prog w) (A.under (.builtin "type.__call__" ⟨.ref C::vs,[]⟩)) (call (.ref fI) (.ref (h.objs.size+1)::vs)) (λr s'=>r=.none/\Q (.ref (h.objs.size+1)) s') E ⟨wj h C vs,g,d,t,os⟩) (hv:vs.length<=sizeLine):wpAny (model prog w) A (call (.ref C) vs) Q E ⟨h,g,d,t,os⟩:=by
 have f1:=tc_lookup;have f2:=tc_bind (.ref C);have hT:(⟨h,g,d,t,os⟩:Ko).TypeIs (.ref C) "type":=⟨_,hC,rfl⟩
 refine wpAny_call (codeAny_of_tree ?_)
 show wpAny _ _ (callAny (.ref C) _) _ _ _
 repeat (any_goals (first | assumption | with_reducible refine wpAny_loadPart_at hC ?_ | wp_step))
 exact⟨rfl,codeAny_call_builtin_at (Code.quiet_builtin _ (by decide +kernel)) entry_typeCall (wpAny_check_type_call_sub hC (zd F T hC hn hi hf hc hq hv))⟩
end
end L2
namespace L2
open PySem PySem.Spec PyProof.Rows Builtin Builtin.ObjectAttr
section
variable {prog:Ku} {w:Kw} {A:Kv} {E:Kq->Ko->Prop} {h:Kx} {g:Kz GenState} {d:Drawn} {t:Nat} {os:OsState}
variable {nm q:Str} {C N x:Kr} {bs bm bmB:List Kq} {sn:List Str} {sub:List Kq} {ab:KA} {col:Ks KA} {dd:Ks Kr} {k0 k1 k2 k3 k5:Ks Kq} {B newId sa owner:KB} {mN:Str->Ks Kq} {name:Str} {v:Kq}
def uO (h:Kx) (e C:Kr) (vs:Kz Kq):Prop:=∃ o,h.get? e=some o/\o.cls=.ref C/\o.data=.fields vs
theorem rS {n what:Str} {self:Kq} {tl:List Kq} (T:iI h bmB n tl):refuseLoop self what tl=refuseLoop self what bmB:=by
 induction T with
 | base=>rfl
 | own _ _ _ _ ih=>rw [refuseLoop_ref,ih]
theorem xV {n:Str} {tl:List Kq} {X:KB} {b:KA} (T:iI h bmB n tl) (hb:bmB.contains (.type X)=b):tl.contains (.type X)=b:=by
 induction T with
 | base=>exact hb
 | own _ _ _ _ ih=>rw [List.contains_cons,ih]; rfl
theorem yl {M:Model} {o:KC} {nv:Kq} {n:Str} {Q:Unit->Ko->Prop} (SF:StoreFacts B bmB sa owner) (T:iI h bmB n bm) (hC:h.get? C=some (excClassObj nm q C N bs bm true sn sub ab col dd k0 k1 k2 k3 k5 newId)) (hx:h.get? x=some o) (hc:o.cls=.ref C) (hq:Q () ⟨h,g,d,t,os⟩):
  wpAny M A (checkBuiltinCall sa ⟨[.ref x,nv,v],[]⟩) Q E ⟨h,g,d,t,os⟩:=by
 have cB:(Value.ref C::bm).contains (.type owner)=true:=by rw [List.contains_cons,xV T SF.hasOwner,Bool.or_true]
 have ao:=SF.args (.ref x) nv v;simp only [checkBuiltinCall,SF.kind,SF.split];refine gt ?_;unfold isInstance
 repeat (first | (with_reducible refine wpAny_loadPart_at hx ?_; rw [hc]) | (with_reducible refine wpAny_isSubtype_exc hC ?_; rw [cB]) | wp_step)
 cases sg:Manifest.signature? sa with
 | none=>exact Js hq
 | some z=>
  simp only [argsOk,sg] at ao
  show wpAny M A (Bind.checkArgs sa z ⟨[.ref x,nv,v],[]⟩) Q E _
  rw [show Bind.checkArgs sa z ⟨[.ref x,nv,v],[]⟩=pure () from ao]
  exact Js hq
theorem xC {tk:Tok} {vs:Kz Kq} {o:KC} {Q:Fin->Ko->Prop} (SF:StoreFacts B bmB sa owner) (hC:h.get? C=some (excClassObj nm q C N bs bm true sn sub ab col dd k0 k1 k2 k3 k5 newId)) (hn:h.Ns N mN) (T:iI h bmB name bm) (ha:mN name=none) (hB:typeLookup (.type B) name=pure none)
  (hx:h.get? x=some o) (hc:o.cls=.ref C) (hd:o.data=.fields vs) (h0:o.dict=none) (hq:∀ h' tk',uO h' x C vs->(∀ b o,b≠x->h.get? b=some o->h'.get? b=some o)->Q (.done (.ret .none)) ⟨h',g,d,tk',os⟩):
  wpAny (model prog w) A (Builtin.«object.__setattr__» ⟨[.ref x,.str name tk,v],[]⟩) Q E ⟨h,g,d,t,os⟩:=by
 have pz:=(rS (self:=.ref x) (what:="__setattr__") T).trans (SF.passes (.ref x))
 have xs:x≠h.objs.size:=JC (Jv hx);have x1:(h.push {cls:=.type "dict",data:=.dict #[]}).get? x=some o:=pp _ hx
 unfold Builtin.«object.__setattr__»
 repeat (first | rw [refuse_eq] | (rw [refuseLoop_ref,pz]) | (with_reducible refine wpAny_loadPart_at hx ?_; rw [hc]) | with_reducible refine wpAny_mroOf_exc hC ?_ | with_reducible refine pA hC hn T SF.mro hB ha ?_ | wp_step)
 rw [h0,if_neg (by simp [typeHasDict])]
 split
 ·rename_i z
  cases z
 split
 ·rename_i c z
  rw [hd] at z;cases z
 refine gt (wpAny_alloc' (gt (wpAny_update' x1 (Js ?_))));generalize hh:((h.push {cls:=.type "dict",data:=.dict #[]}).update x λo=>{cls:=o.cls,dict:=some h.objs.size,data:=o.data,slots:=o.slots})=hu
 have gd:hu.get? h.objs.size=some {cls:=.type "dict",data:=.dict #[]}:=by rw [<- hh]; exact(Heap.get?_update_ne _ _ _ _ xs.symm).trans (Heap.get?_push_at rfl rfl)
 have gx:hu.get? x=some {cls:=o.cls,dict:=some h.objs.size,data:=o.data,slots:=o.slots}:=by
  rw [<- hh];refine J_ _ x1 ?_;rw [hd]
  rfl
 have nd:hu.Ns h.objs.size (λ_=>none):=⟨_,#[],_,gd,rfl,λe he=>absurd he (by simp),λ_=>rfl⟩
 show wpAny _ _ (storeInDict h.objs.size (.str name tk) name v) _ _ _
 unfold storeInDict newKeyGuard;refine gt (Js (gt (wpAny_nsSet1 (Heap.Ns1.of_empty nd) λh' n' hs=>?_)))
 obtain⟨oD,eD,pD,gD,dD,cD⟩:=n'.count (Within.cons name v Within.nil);refine gt (wpAny_lookBehind gD (by rw [dD]; exact pastItsLine_dict (J7 cD (by rw [JJ,List.length_nil,sizeLine_eq]; omega))) ?_)
 wp_walk
 refine hq h' _ ⟨_,(hs.2 x xs).trans gx,hc,hd⟩ λb ob nb e=>(hs.2 b (JC (Jv e))).trans ?_
 rw [<- hh];exact(Heap.get?_update_ne _ _ _ _ nb).trans (pp _ e)
theorem A0 {vs:Kz Kq} {o:KC} {Q:Unit->Ko->Prop} (SF:StoreFacts B bmB sa owner) (hC:h.get? C=some (excClassObj nm q C N bs bm true sn sub ab col dd k0 k1 k2 k3 k5 newId)) (hn:h.Ns N mN) (T0:iI h bmB "__setattr__" bm) (T:iI h bmB name bm) (hs:mN "__setattr__"=none) (ha:mN name=none) (hB:typeLookup (.type B) name=pure none)
  (hx:h.get? x=some o) (hc:o.cls=.ref C) (hd:o.data=.fields vs) (h0:o.dict=none) (hq:∀ h' tk',uO h' x C vs->(∀ b o,b≠x->h.get? b=some o->h'.get? b=some o)->Q () ⟨h',g,d,tk',os⟩):
  wpAny (model prog w) A (setAttr (.ref x) name v) Q E ⟨h,g,d,t,os⟩:=by
 have f3:=SF.slot.bind (.ref x);unfold setAttr callSpecial? specialOf
 repeat (any_goals (first | assumption | (with_reducible refine wpAny_loadPart_at hx ?_; rw [hc]) | with_reducible refine pA hC hn T0 SF.mro SF.slot.lookup hs ?_ | wp_step))
 refine codeAny_call_builtin SF.slot.plain SF.entry (yl SF T hC hx hc (xC SF hC hn T ha hB hx hc hd h0 λh' tk' e1 e2=>?_))
 repeat (any_goals (first | assumption | wp_step))
 exact hq h' tk' e1 e2
end
end L2
namespace L2
open PySem PySem.Spec PyProof.Rows
def mr (K:PySem.W.Frag) (bmB:List Kq) (n:Str):List Kq->KA
 | []=>bmB == []
 | v::r=>((v::r) == bmB) || (match v with
  | .ref a=>(match K.lookup a with
   | some ⟨_,_,.cls cd,_⟩=>(PySem.W.nsOkIn K cd.ns && (PySem.W.nsIn K cd.ns n == some none)) && mr K bmB n r
   | _=>false)
  | _=>false)
theorem pW {K:PySem.W.Frag} {h:Kx} {bmB:List Kq} {n:Str} (X:K.In h):∀ {l:List Kq},mr K bmB n l=true->iI h bmB n l
 | [],e=>by
  have e:(bmB == [])=true:=e;rw [<- beq_iff_eq.mp e];exact .base
 | v::r,e=>by
  unfold mr at e;rcases Bool.or_eq_true_iff.mp e with z | z
  ·rw [beq_iff_eq.mp z];exact .base
  ·split at z
   ·split at z
    ·rename_i y
     simp only [J8,beq_iff_eq] at z;exact .own (X _ _ y) (.of_isNs (PySem.W.isNs_of_in X z.1.1)) (PySem.W.nsMap_none_of_in X z.1.1 z.1.2) (pW X z.2)
    ·cases z
   ·cases z
theorem DF {K:PySem.W.Frag} {h:Kx} {N:Kr} {m:Str->Ks Kq} {n:Str} {v:Kq} (X:K.In h) (G:h.Ns N m) (e:PySem.W.nsIn K N n=some (some v)):m n=some v:=by
 obtain⟨o,es,ep,ho,hd,_,hf⟩:=G;unfold PySem.W.nsIn at e
 split at e
 ·rename_i z
  have y:=X _ _ z;rw [ho] at y;cases y;cases hd;rw [<- hf];unfold nsFind findBy;rw [<- Array.find?_toList]
  split at e
  ·rename_i u
   cases e;rw [u]
   rfl
  ·split at e <;> cases e
 ·cases e
def E1 (K:PySem.W.Frag) (f:Kr):KA:=match K.lookup f with
 | some o=>o.cls == .type "function"
 | none=>false
theorem GX {K:PySem.W.Frag} {f:Kr} (h:E1 K f=true):∃ o,K.lookup f=some o/\o.cls=.type "function":=by
 unfold E1 at h
 split at h
 ·rename_i o e
  exact⟨o,e,beq_iff_eq.mp h⟩
 ·cases h
def xk (K:PySem.W.Frag) (C:Kr) (bmB:List Kq) (newId:KB) (fI:Kr) (n:Str):KA:=match K.lookup C with
 | some ⟨.type "type",_,.cls cd,sl⟩=>(match cd.mro,sl.toList with
  | .ref C'::bm,[_,_,_,_,some (.builtin m),_]=>(C' == C) && ((m == newId) && ((!cd.hasDel) && (cd.hasDict && (PySem.W.tailIn K bmB bm && (mr K bmB "__setattr__" bm && (mr K bmB n bm && (PySem.W.nsOkIn K cd.ns && ((PySem.W.nsIn K cd.ns "__init__" == some (some (.ref fI))) && ((PySem.W.nsIn K cd.ns "__setattr__" == some none) && ((PySem.W.nsIn K cd.ns n == some none) && (E1 K fI && (PySem.W.keepIn K (.ref C)))))))))))))
  | _,_=>false)
 | _=>false
structure HF (K:PySem.W.Frag) (C:Kr) (bmB:List Kq) (newId:KB) (fI:Kr) (n:Str):Prop where
 obj:∃ (tl:List Kq) (N:Kr) (nm q:Str) (bs:List Kq) (sn:List Str) (sub:List Kq) (ab:KA) (col:Ks KA) (dd:Ks Kr) (k0 k1 k2 k3 k5:Ks Kq),
  K.lookup C=some (excClassObj nm q C N bs tl true sn sub ab col dd k0 k1 k2 k3 k5 newId)/\(∃ oI,K.lookup fI=some oI/\oI.cls=.type "function")/\PySem.W.keepIn K (.ref C)=true/\∀ h:Kx,K.In h->∃ mN,h.Ns N mN/\mN "__init__"=some (.ref fI)/\mN "__setattr__"=none/\mN n=none/\OwnTail h bmB tl/\iI h bmB "__setattr__" tl/\iI h bmB n tl
theorem sM {K:PySem.W.Frag} {C:Kr} {bmB:List Kq} {newId:KB} {fI:Kr} {n:Str} (q:xk K C bmB newId fI n=true):HF K C bmB newId fI n:=by
 refine⟨?_⟩;unfold xk at q
 split at q
 ·rename_i d1 c1 sl hlk
  split at q
  ·rename_i C1 bm a0 a1 a2 a3 nn a5 hmro hsl
   simp only [J8,beq_iff_eq,Bool.not_eq_true'] at q;obtain⟨q1,q2,q3,q4,q5,q6,q7,q8,q9,q10,q11,q12,q13⟩:=q;subst q1 q2;obtain⟨v1,v2,v3,v4,v5,v6,v7,v8,v9,v10,v11⟩:=c1;dsimp only at hmro q3 q4 q8 q9 q10 q11
   subst hmro q3 q4;obtain⟨l⟩:=sl;simp only at hsl;subst hsl;exact⟨bm,v4,v1,v5,v2,v7,v8,v9,v10,d1,a0,a1,a2,a3,a5,hlk,GX q12,q13,λh X=>⟨_,.of_isNs (PySem.W.isNs_of_in X q8),DF X (.of_isNs (PySem.W.isNs_of_in X q8)) q9,PySem.W.nsMap_none_of_in X q8 q10,PySem.W.nsMap_none_of_in X q8 q11,PySem.W.tail_of_in X q5,pW X q6,pW X q7⟩⟩
  ·cases q
 ·cases q
section
variable {M:Model} {A:Kv} {E:Kq->Ko->Prop} {env:Env}
variable {nm q:Str} {C N:Kr} {bs bm:List Kq} {hdct:KA} {sn:List Str} {sub:List Kq} {ab:KA} {col:Ks KA} {dd:Ks Kr} {k0 k1 k2 k3 k5:Ks Kq} {newId:KB}
theorem xG {s:Ko} {x:Sem Kq} {Q:Flow->Ko->Prop} (hbase:bm.contains (.type "BaseException")=true) (hh:A.handled=none)
  (h:wpAny M A x (λv s1=>∃ e o vs,v=.ref e/\s1.heap.get? C=some (excClassObj nm q C N bs bm hdct sn sub ab col dd k0 k1 k2 k3 k5 newId)/\s1.heap.get? e=some o/\o.cls=.ref C/\o.data=.fields vs/\vs[1]?=some .none/\E (.ref e) s1) E s):wpAny M A (raiseStmt env (some x) none) Q E s:=by
 have cB:(Value.ref C::bm).contains (.type "BaseException")=true:=by rw [List.contains_cons,hbase,Bool.or_true]
 unfold raiseStmt;refine gt (J5 h (λv s1 h1=>?_) λ_ _ z=>z)
 obtain⟨e,o,vs,rfl,hC,he,hc,hd,hv,hE⟩:=h1;obtain⟨hp,g,d,tk,os⟩:=s1
 repeat (first | (with_reducible refine wpAny_loadPart_at he ?_; rw [hc]) | with_reducible refine wpAny_loadPart_at hC ?_ | (with_reducible refine wpAny_isSubtype_exc hC ?_; rw [cB]) | with_reducible refine J6 he hd hv ?_ | wp_step)
 exact wpAny_raiseNew_none hh hE
end
section
variable {P:Ku} {w:Kw} {K:PySem.W.Frag} {mg:Str->Ks Kq} {base:Kx} {N:List Str} {KE:Str} {scope:Scope} {f:Kr} {cd:Kq} {A:Kv} {outer:List Env} {s0:Ko} {H0:Hp} {E:XK}
abbrev nh (P:Ku) (w:Kw) (K:PySem.W.Frag) (mg:Str->Ks Kq) (base:Kx) (N:List Str) (KE:Str) (scope:Scope) (f:Kr) (cd:Kq) (A:Kv) (outer:List Env) (s0:Ko) (H0:Hp) (E:XK):Cx:=cX (fK P w) P w K mg base N KE scope f cd A outer s0 H0 E
end
inductive tM (h:Kx):Kr->Kr->Prop
 | one {a b:Kr} {o:KC} {vs:Kz Kq}:h.get? a=some o->o.data=.fields vs->vs[2]?=some (.ref b)->tM h a b
 | step {a b c:Kr} {o:KC} {vs:Kz Kq}:h.get? a=some o->o.data=.fields vs->vs[2]?=some (.ref b)->tM h b c->tM h a c
theorem tM.snoc {h:Kx} {a b c:Kr} {o:KC} {vs:Kz Kq} (x:tM h a b) (g:h.get? b=some o) (d:o.data=.fields vs) (v:vs[2]?=some (.ref c)):tM h a c:=by
 induction x with
 | one p q r=>exact .step p q r (.one g d v)
 | step p q r _ ih=>exact .step p q r (ih g)
theorem tM.next {h:Kx} {a c:Kr} (x:tM h a c):∃ b o vs,h.get? a=some o/\o.data=.fields vs/\vs[2]?=some (.ref b)/\(b=c\/tM h b c):=by
 cases x with
 | one p q r=>exact⟨_,_,_,p,q,r,.inl rfl⟩
 | step p q r y=>exact⟨_,_,_,p,q,r,.inr y⟩
theorem lB:entryFor table "proto.unchain"=some Builtin.«proto.unchain»:=entryFor_of_tree (by kernel_rfl)
section
variable {prog:Ku} {w:Kw} {A:Kv} {R:Result->Ko->Prop} {h B:Kx} {g:Kz GenState} {d:Drawn} {t:Nat} {os:OsState} {e:Kr}
theorem unchain (hB:B.StaysIn h) (ne:∀ a o,B.get? a=some o->a≠e) (hR:R (.ok (.ret .none)) ⟨h,g,d,t,os⟩) {v:Kq} (c:i8 B v):∀ {cur sl:Kr} {tg:KA} {o:KC} {vs:Kz Kq},h.get? cur=some o->o.data=.fields vs->vs[2]?=some v->(tg=false->sl=cur\/tM h sl cur)->(tg=true->tM h sl cur)->
  codeAny (model prog w) A (.builtin "proto.unchain" ⟨[.ref e,.ref cur,.ref sl,.bool tg],[]⟩) R ⟨h,g,d,t,os⟩:=by
 induction c with
 | last=>
  intro cur sl tg o vs hc hd hv _ _;refine codeAny_builtin lB ?_;unfold Builtin.«proto.unchain»;refine gt (J6 hc hd hv ?_)
  wp_walk
  exact hR
 | more ga gd gv cc ih=>
  rename_i a oa va v'
  intro cur sl tg o vs hc hd hv h1 h2;have ae:=ne _ _ ga;have ha:=hB _ _ ga;refine codeAny_builtin lB ?_;unfold Builtin.«proto.unchain»;refine gt (J6 hc hd hv ?_);have z1:(Value.ref a == Value.none)=false:=rfl;have z2:(Value.ref a == Value.ref e)=false:=by simp [ae]
  simp only [z1,z2,Bool.false_eq_true,if_false]
  by_cases as:a=sl
  ·subst as;simp only [beq_self_eq_true,if_true]
   wp_walk
   exact hR
  ·have z3:(Value.ref a == Value.ref sl)=false:=by simp [as]
   simp only [z3,Bool.false_eq_true,if_false];cases tg with
   | false=>
    simp only [Bool.false_eq_true,if_false];refine gt (Js ?_);refine Js ⟨Code.quiet_builtin _ (by decide +kernel),ih ha gd gv (λz=>by cases z) λ_=>?_⟩
    rcases h1 rfl with rfl | y
    ·exact .one hc hd hv
    ·exact y.snoc hc hd hv
   | true=>
    obtain⟨b,ob,vb,x1,x2,x3,x4⟩:=(h2 rfl).next;simp only [if_true];refine gt (J6 x1 x2 x3 ?_);refine Js ⟨Code.quiet_builtin _ (by decide +kernel),ih ha gd gv (λ_=>?_) λz=>by cases z⟩
    rcases x4 with rfl | y
    ·exact .inr (.one hc hd hv)
    ·exact .inr (y.snoc hc hd hv)
end
theorem vj {X:Cx} {A':Kv} {KD:List (Kr×KC)} {s:Ko} {σ:St} {H:Hp} {E:Kq->Ko->Prop} {Q:Kq->Ko->Prop} {i:Nat} {x:Str} {pos:Pos} {v:V} (I:aI X KD σ H s) (hN:X.N[i]?=some x) (hv:u7 X.env.scope x) (hd:(x == ("__debug__":Str))=false) (hcd:(x == ("__classdict__":Str))=false) (e:σ[i]?=some (some v))
  (fin:∀ u,b7 v u->Q u s):wpAny (model X.prog X.w) A' (eval (.Name x pos) X.env) Q E s:=by
 obtain⟨m,hn,hl⟩:=I.loc;obtain⟨u,r,l⟩:=hl i x v hN e hv;rcases l with ⟨hk,hm⟩ | ⟨hk,c,hc,hcell⟩
 ·exact wpAny_Name (wpAny_loadName_local I.ok.kind hk hn hm (fin u r)) hd
 ·rcases hk with hk | hk
  ·exact wpAny_Name (wpAny_loadName_cell I.ok.kind hk hc hcell (fin u r)) hd
  ·exact wpAny_Name (wpAny_loadName_free I.ok.kind hk hc hcell (fin u r) hcd) hd
structure zT (K:PySem.W.Frag) (C fI:Kr) (bmB:List Kq) (newId:KB) (n y nmI KE:Str) (st:Ky) (fd:FuncData):Prop where
 fn:tP K nmI KE st fI fd
 sc:ar ["self",y] ["self",y] (aj st)
 body:∃ p1 p2 p3 pos,ci st=[.Assign [.Attribute (.Name "self" p1) n p2] (.Name y p3) pos]
 v1:u7 (aj st) "self"
 v2:u7 (aj st) y
 d2:(y == ("__debug__":Str))=false
 c2:(y == ("__classdict__":Str))=false
 ini:xk K C bmB newId fI n=true
theorem vG {P:Ku} {w:Kw} {K:PySem.W.Frag} {mg:Str->Ks Kq} {base:Kx} {C fI:Kr} {bmB:List Kq} {B newId sa owner:KB} {n y nmI KE:Str} {st:Ky} {fd:FuncData} (F:zT K C fI bmB newId n y nmI KE st fd)
  (SF:StoreFacts B bmB sa owner) (hB:typeLookup (.type B) n=pure none) {A A':Kv} {outer:List Env} {h:Kx} {g:Kz GenState} {d:Drawn} {t:Nat} {os:OsState} {H:Hp} {e:Kr} {us:Kz Kq} {o:KC} {v:V} {u:Kq} {R:Result->Ko->Prop} (hr:dg 1 A) (hA:A'.depth < recursionLimit) (e0:ug P w K mg base A outer ⟨h,g,d,t,os⟩ H)
  (bi:BindsTo ⟨h,g,d,t,os⟩ fd ⟨[.ref e,u],[]⟩ (([("self":Str),y]:List Str).zip [.ref e,u])) (r:b7 v u) (he:h.get? e=some o) (hc:o.cls=.ref C) (hd:o.data=.fields us) (h0:o.dict=none)
  (q:∀ h' tk',uO h' e C us->(∀ b o,b≠e->h.get? b=some o->h'.get? b=some o)->R (.ok (.ret .none)) ⟨h',g,d,tk',os⟩):codeAny (model P w) A' (.call (.ref fI) ⟨[.ref e,u],[]⟩) R ⟨h,g,d,t,os⟩:=by
 obtain⟨Ff,S,⟨p1,p2,p3,pos,hb⟩,v1,v2,d2,c2,hK⟩:=F;obtain⟨oc,od,kV,doc,pm,an,cdv,ct,osl,rfl,lk,hcd⟩:=Ff.ex;have KX:K.In h:=e0.mod.kin.keeps λb o e=>(e0.bs b o e).1
 have li:h.NoLimit:=e0.mod.nolimit.keeps λb o e=>(e0.bs b o e).1
 have hkind:∀ x∈([("self":Str),y]:List Str).zip [Value.ref e,u],(aj st).names.lookup x.1=some .local\/((aj st).names.lookup x.1=some .cell/\((cellsFrom (h.objs.size+1) (aj st).names []).lookup x.1).isSome=true):=λ⟨m,a⟩ hy=>by
  rcases S.par m (List.of_mem_zip hy).1 with k | k
  ·exact .inl k
  ·exact .inr ⟨k,PySem.W.cellsFrom_some _ _ _ (.inl k)⟩
 refine codeAny_call_function hA (KX _ _ lk) rfl S.co S.gen rfl (PySem.W.codeRec_of KX hcd) (bi _ _ _ _ ?_);refine wpAny_newFunctionEnv_cells S.kind hkind λenv he' s1 x=>?_
 subst he';refine⟨li.keeps x.toInCall.keep,codeAny_func ?_⟩;have rr:bu [V.ref e,v] [Value.ref e,u]:=.cons rfl (.cons r .nil);have I:aI (cX de P w K mg base ["self",y] KE (aj st) fI cdv A outer ⟨h,g,d,t,os⟩ H E0) [] (start ["self",y] [V.ref e,v]) H s1:=re S hr.hd e0 rfl rr x
 obtain⟨tl,N,nm,qn,bs,sn,sub,ab,col,dd,k0,k1,k2,k3,k5,lk,_,_,al⟩:=(sM hK).obj;have hC:=I.kIn _ _ lk;obtain⟨mN,hn,hi,hse,hna,T,T0,T1⟩:=al _ I.kIn;obtain⟨h1,tk,rfl,hk⟩:=x.done;have he1:=hk _ _ he
 show wpAny (model P w) _ (execs (ci st) _) _ _ _
 rw [hb];refine wpAny_execs_cons (plainObj_wpAny_Assign_Attribute (vj I (i:=1) rfl v2 d2 c2 rfl λu2 r2=>?_) rfl)
 refine vj I (i:=0) rfl v1 rfl rfl rfl λu1 r1=>?_
 cases (show u1=Value.ref e from r1)
 refine A0 SF hC hn T0 T1 hse hna hB he1 hc hd h0 λh' tk' er kp=>?_
 exact wpAny_execs_nil (q h' tk' er λb o nb gg=>kp b o nb (hk b o gg))
section
variable {prog:Ku} {w:Kw} {A:Kv} {E:Kq->Ko->Prop} {env:Env}
variable {nm q:Str} {C N:Kr} {bs bm:List Kq} {hdct:KA} {sn:List Str} {sub:List Kq} {ab:KA} {col:Ks KA} {dd:Ks Kr} {k0 k1 k2 k3 k5:Ks Kq} {newId:KB}
theorem vV {s:Ko} {x c:Sem Kq} {Q:Flow->Ko->Prop} {ea:Kr} (hbase:bm.contains (.type "BaseException")=true) (hh:A.handled=some (.ref ea)) (hc:∀ {Q:Kq->Ko->Prop} {s:Ko},Q .none s->wpAny (model prog w) A c Q E s)
  (h:wpAny (model prog w) A x (λv s1=>∃ e o vs,v=.ref e/\s1.heap.get? C=some (excClassObj nm q C N bs bm hdct sn sub ab col dd k0 k1 k2 k3 k5 newId)/\C≠e/\s1.heap.get? e=some o/\o.cls=.ref C/\o.data=.fields vs/\vs.size=6/\vs[1]?=some .none/\ea≠e/\
   (∃ (B:Kx) (oa:KC) (va:Kz Kq) (w2:Kq),B.StaysIn s1.heap/\(∀ a o,B.get? a=some o->a≠e)/\s1.heap.get? ea=some oa/\oa.data=.fields va/\va[2]?=some w2/\i8 B w2)/\
   ∀ h',uO h' e C (((vs.setIfInBounds 3 .none).setIfInBounds 4 (.bool true)).setIfInBounds 2 (.ref ea))->(∀ b o,b≠e->s1.heap.get? b=some o->h'.get? b=some o)->E (.ref e) {s1 with heap:=h'}) E s):wpAny (model prog w) A (raiseStmt env (some x) (some c)) Q E s:=by
 have cB:(Value.ref C::bm).contains (.type "BaseException")=true:=by rw [List.contains_cons,hbase,Bool.or_true]
 unfold raiseStmt;refine gt (J5 h (λv s1 h1=>?_) λ_ _ z=>z)
 obtain⟨e,o,vs,rfl,hC,Ce,he,hcl,hd,hz,hv,ae,⟨B,oa,va,w2,hB,hn,ga,da,a2,cx⟩,hE⟩:=h1;obtain⟨hp,g,d,tk,os⟩:=s1;refine gt (JU (hc ?_));have d1:=Obj.data_mapFields hd (·.setIfInBounds 3 Value.none);have e1:=J_ (Obj.mapFields (·.setIfInBounds 3 Value.none)) he (Obj.isFreed_of_fields d1);have d2:=Obj.data_mapFields d1 (·.setIfInBounds 4 (Value.bool true));have e2:=J_ (Obj.mapFields (·.setIfInBounds 4 (Value.bool true))) e1 (Obj.isFreed_of_fields d2)
 repeat (first | (with_reducible refine wpAny_loadPart_at he ?_; rw [hcl]) | with_reducible refine wpAny_loadPart_at hC ?_ | (with_reducible refine wpAny_isSubtype_exc hC ?_; rw [cB]) | wp_step)
 rw [hd];dsimp only;rw [if_pos (by omega)]
 have c1:(Obj.mapFields (·.setIfInBounds 3 Value.none) o).cls=.ref C:=(Obj.cls_mapFields _ _).trans hcl;have c2:(Obj.mapFields (·.setIfInBounds 4 (Value.bool true)) (Obj.mapFields (·.setIfInBounds 3 Value.none) o)).cls=.ref C:=(Obj.cls_mapFields _ _).trans c1;refine wpAny_update' he (gt (wpAny_setField e1 d1 (by rw [Array.size_setIfInBounds]; omega) ?_))
 have ot:∀ b,b≠e->((hp.update e (Obj.mapFields (·.setIfInBounds 3 Value.none))).update e (Obj.mapFields (·.setIfInBounds 4 (Value.bool true)))).get? b=hp.get? b:=λb nb=>(JZ _ _ (Ne.symm nb)).trans (JZ _ _ (Ne.symm nb))
 have C2:=(ot C Ce).trans hC;have v2:((vs.setIfInBounds 3 Value.none).setIfInBounds 4 (Value.bool true))[1]?=some .none:=by rw [Array.getElem?_setIfInBounds_ne (by decide),Array.getElem?_setIfInBounds_ne (by decide)]; exact hv
 generalize hh2:(hp.update e (Obj.mapFields (·.setIfInBounds 3 Value.none))).update e (Obj.mapFields (·.setIfInBounds 4 (Value.bool true)))=h2 at e2 ot C2 ⊢
 generalize ho2:Obj.mapFields (·.setIfInBounds 4 (Value.bool true)) (Obj.mapFields (·.setIfInBounds 3 Value.none) o)=o2 at e2 d2 c2 ⊢
 repeat (first | (with_reducible refine wpAny_loadPart_at e2 ?_; rw [c2]) | with_reducible refine wpAny_loadPart_at C2 ?_ | (with_reducible refine wpAny_isSubtype_exc C2 ?_; rw [cB]) | with_reducible refine J6 e2 d2 v2 ?_ | wp_step)
 have hB2:B.StaysIn h2:=λa o p=>(ot a (hn a o p)).trans (hB a o p)
 have ga2:=(ot ea ae).trans ga;refine gt (wpAny_handled ?_);rw [hh];dsimp only;rw [if_pos (by simp [ae])]
 refine gt (JU (wpAny_runValue (unchain hB2 hn ?_ cx ga2 da a2 (λ_=>.inl rfl) (λz=>by cases z))))
 have z2:((vs.setIfInBounds 3 Value.none).setIfInBounds 4 (Value.bool true)).size=6:=by rw [Array.size_setIfInBounds,Array.size_setIfInBounds]; exact hz
 have d3:=Obj.data_mapFields d2 (·.setIfInBounds 2 (Value.ref ea));have e3:=J_ (Obj.mapFields (·.setIfInBounds 2 (Value.ref ea))) e2 (Obj.isFreed_of_fields d3);have c3:(Obj.mapFields (·.setIfInBounds 2 (Value.ref ea)) o2).cls=.ref C:=(Obj.cls_mapFields _ _).trans c2;dsimp only;refine gt (wpAny_setField (a:=e) e2 d2 (by rw [z2]; decide) ?_)
 refine wpAny_throw (hE _ ⟨_,e3,c3,d3⟩ λb o nb g=>?_)
 exact(JZ _ _ (Ne.symm nb)).trans ((ot b nb).trans g)
end
theorem i8.mono {B B':Kx} {v:Kq} (c:i8 B v) (k:∀ a o vs,B.get? a=some o->o.data=.fields vs->B'.get? a=some o):i8 B' v:=by
 induction c with
 | last=>exact .last
 | more ga gd gv _ ih=>exact .more (k _ _ _ ga gd) gd gv ih
section
variable {M:Model} {A A':Kv} {E E':Kq->Ko->Prop} {s:Ko} {B:Kx} {env:Env} {outer:List Env} {L e:Kr} {Q:Unit->Ko->Prop}
theorem xc {l:List Env} {cls a0 f0:Kq} (fr:Ks Kr) (x1:B.StaysIn s.heap) (x2:B.get? e=none) (x3:s.heap.FunFrames B l) (x4:s.heap.TracedAtW B e cls a0 f0) (x5:yG B s.heap e)
  (hQ:∀ h',B.StaysIn h'->h'.FunFrames B l->h'.TracedAtW B e cls a0 (fr.elim Value.none λf=>rawInt f)->yG B h' e->s.heap.UpToSlots h'->Q () {s with heap:=h'}):wpAny M A (setFlight (.ref e) fr) Q E s:=by
 obtain⟨oe,vs,T,oT,ts,he,hc,hd,h1,nT,te,hT,dT,h3⟩:=x4;obtain⟨oc,vc,w2,gc,dc,c2,ok2⟩:=x5;rw [he] at gc;cases gc;rw [hd] at dc;cases dc;have z3:3 < ts.size:=(Array.getElem?_eq_some_iff.mp h3).1;have ot:∀ b,b≠T->(s.heap.update T (Obj.mapFields (·.setIfInBounds 3 (fr.elim Value.none λf=>rawInt f)))).get? b=s.heap.get? b:=λb hb=>JZ _ _ (Ne.symm hb)
 have nr:∀ b o,s.heap.get? b=some o->(∀ vs,o.data≠.fields vs)->b≠T:=λb o hb z y=>by
  rw [y,hT] at hb;cases hb;exact z ts dT
 unfold setFlight;refine gt (J6 he hd h1 ?_);rw [if_pos (by simp)]
 have ge:=(ot e (Ne.symm te)).trans he;refine wpAny_setField hT dT z3 (hQ _ (λb o y=>(ot b λz=>by rw [z,nT] at y; cases y).trans (x1 b o y)) (x3.of_keeps λb o hb z=>⟨o,(ot b (nr b o hb z)).trans hb,rfl⟩) ?_ ⟨_,_,w2,ge,hd,c2,ok2⟩ λb o hb z=>⟨o.slots,(ot b (nr b o hb z)).trans hb⟩)
 exact⟨oe,vs,T,_,_,ge,hc,hd,h1,nT,te,J_ _ hT (Obj.isFreed_of_fields (Obj.data_mapFields dT _)),Obj.data_mapFields dT _,by simp [z3]⟩
theorem zD {W:Kq->Ko->Prop} {oe:KC} {vs:Kz Kq} {a0 v2:Kq} (hW:∀ s2,wpAny M A (leaving env (.ref e)) Q E s2->W (.ref e) s2) (hfr:A'.frames=some (env::outer)) (hl:s.heap.FunFrames B (env::outer)) (hf:env.frame=some L) (he:s.heap.get? e=some oe) (hk:B.StaysIn s.heap) (hn:B.get? e=none) (hd:oe.data=.fields vs) (h1:vs[1]?=some .none) (h0:vs[0]?=some a0) (h2:vs[2]?=some v2) (ok2:i8 B v2)
  (hQ:∀ h',oz B outer e oe.cls a0 h'->s.heap.UpToSlots h'->Q () {s with heap:=h'}):wpAny M A' (noteFrame (.ref e) env) (λ_ s1=>cameBackBy M A env W (.ref e) s1) E' s:=by
 unfold noteFrame;simp only [hf];refine gt (J6 he hd h1 ?_);rw [if_neg (by decide)]
 refine nS hfr hl hf he hk hn hd (Array.getElem?_eq_some_iff.mp h1).1 h0 h2 ok2 λh' ⟨x1,x2,x3,x4⟩ cx=>?_
 have x3':=x3;obtain⟨oe',vs',T,oT,ts,he',hc,hd',h1',nT,te,hT,dT,h3⟩:=x3';unfold cameBackBy;refine gt (J6 he' hd' h1' ?_);rw [if_neg (by simp),hf]
 refine xc (some L) x1 hn x2 x3 cx λh3 y1 y2 y3 y4 y5=>?_
 refine hW _ ?_;unfold leaving;refine gt (wpAny_noteFrame_againW hf y3 ?_);exact lg (s:={s with heap:=h3}) ⟨⟨y1,hn,y2,y3⟩,y4⟩ λh4 z2 u2=>hQ h4 (td z2) (Heap.UpToSlots.trans x4 (Heap.UpToSlots.trans y5 u2))
end
section
variable {P:Ku} {w:Kw} {K:PySem.W.Frag} {mg:Str->Ks Kq} {base:Kx} {N:List Str} {KE:Str} {scope:Scope} {f:Kr} {cd:Kq} {A:Kv} {outer:List Env} {s0:Ko} {H0:Hp} {E:XK}
theorem xl {KD:List (Kr×KC)} {σ:St} {H:Hp} {s s3:Ko} {C e:Kr} {a0:Kq} {h':Kx} (I:aI (nh P w K mg base N KE scope f cd A outer s0 H0 E) KD σ H s) (I3:aI (nh P w K mg base N KE scope f cd A outer s0 H0 E) KD σ H s3)
  (ne:s.heap.get? e=none) (k3:∀ b o,s.heap.get? b=some o->s3.heap.get? b=some o) (fl:oz (PySem.W.hideAll s3.heap (e::f_ (nh P w K mg base N KE scope f cd A outer s0 H0 E).stack)) outer e (.ref C) a0 h') (up:s3.heap.UpToSlots h') (q:E (.ref C) none H):fK P w outer H0 s0 E (.ref e) {s3 with heap:=h'}:=by
 have He:H e=none:=by
  cases y:H e with
  | none=>rfl
  | some u=>
   obtain⟨o',z⟩:=(I.hok e u y).there;rw [ne] at z;cases z
 have bne:∀ b o,s.heap.get? b=some o->b≠e:=λb o z y=>by rw [y,ne] at z; cases z
 have hide:∀ b o,s.heap.get? b=some o->b∉f_ (nh P w K mg base N KE scope f cd A outer s0 H0 E).stack->(PySem.W.hideAll s3.heap (e::f_ (nh P w K mg base N KE scope f cd A outer s0 H0 E).stack)).get? b=some o:=λb o z hb=>PySem.W.hideAll_get _ (k3 b o z) λy=>by
  rcases JB.mp y with y | y
  ·exact bne b o z y
  ·exact hb y
 refine vQ (sx:=s3) I (I3.os.trans I.os.symm) I3.bare fl (λb ob z=>?_) (λb o z n hb=>hide b o z hb) (λb o z hb=>⟨o,hide b o z hb⟩) (λb hb o z=>?_) (λ_ _ _ n=>n) (λ_ _ z=>z) (λ_ _ _ z=>z) (λb ps z=>⟨#[],by rw [z]; simp⟩) q
 ·have be:b≠e:=λy=>by rw [y,He] at z; cases z
  refine(I3.hok b ob z).stay (λc v hc y=>PySem.W.hideAll_get _ y λhf=>?_) (λ_ y=>y) λ_ _ y=>y
  rcases JB.mp hf with rfl | hf
  ·rcases hc with rfl | hc
   ·exact be rfl
   ·rw [He] at hc; cases hc
  ·have hn:=I3.stkFree c hf;rcases hc with rfl | hc
   ·rw [hn] at z; cases z
   ·rw [hn] at hc; cases hc
 ·have hb':b∈f_ (nh P w K mg base N KE scope f cd A outer s0 H0 E).stack:=JE _ hb;have e1:=k3 b o z;obtain⟨_,o2,e2,d2⟩:=I3.stack.mem hb';rw [e1] at e2;cases e2;exact up b _ e1 d2
end
theorem wQ {X:Cx} {KD:List (Kr×KC)} {σ:St} {H:Hp} {h:Kx} {g:Kz GenState} {d:Drawn} {t:Nat} {os:OsState} {x ay yI n nmI qI:Str} {C fI:Kr} {bmB:List Kq} {B newId initId sa owner:KB} {st:Ky} {fd:FuncData} {A':Kv} {j:Nat} {v:V} {np ap cpos:Pos} {Q:Kq->Ko->Prop} {W:Kq->Ko->Prop} (FB:ExcBaseFacts B newId initId bmB) (F:zT X.K C fI bmB newId n yI nmI qI st fd) (SF:StoreFacts B bmB sa owner) (hB:typeLookup (.type B) n=pure none) (hb:iD X.K fd ["self",yI] []) (hm:X.mg x=some (.ref C))
  (hr:dg 2 X.A) (hA:∀ c,(A'.under c).depth=(X.A.under c).depth) (I:aI X KD σ H ⟨h,g,d,t,os⟩) (hx:∀ {Q:Kq->Ko->Prop},Q (.ref C) ⟨h,g,d,t,os⟩->wpAny (model X.prog X.w) A' (eval (.Name x np) X.env) Q W ⟨h,g,d,t,os⟩) (hN:X.N[j]?=some ay) (hv:u7 X.env.scope ay) (hd:(ay == ("__debug__":Str))=false) (hcd:(ay == ("__classdict__":Str))=false) (e1:σ[j]?=some (some v))
  (he:starEach [.Name ay ap] X.env=[(false,eval (.Name ay ap) X.env)])
  (hq:∀ h' tk' a,h.get? (h.objs.size+1)=none->(∀ b o,h.get? b=some o->h'.get? b=some o)->uO h' (h.objs.size+1) C #[.ref a,.none,.none,.none,.bool false,.none]->Q (.ref (h.objs.size+1)) ⟨h',g,d,tk',os⟩):
  wpAny (model X.prog X.w) A' (eval (.Call (.Name x np) [.Name ay ap] [] cpos) X.env) Q W ⟨h,g,d,t,os⟩:=by
 obtain⟨tl,Nn,nm,qn,bs,sn,sub,ab,col,dd,k0,k1,k2,k3,k5,lk,⟨oI,lI,cI⟩,kp,al⟩:=(sM F.ini).obj;obtain⟨mN,hn,hi,_,_,T,_,_⟩:=al _ I.kIn;refine wpAny_Call_Name_kw (hx ?_);refine PySem.W.callWith_K (h₀:=X.base) I.ok.mod.kin kp ?_ he rfl;rw [he]
 show wpAny _ _ (spliced [(false,eval (.Name ay ap) X.env)]) _ _ _
 refine Calls.spliced_cons (vj I hN hv hd hcd e1 λu r=>Calls.spliced_nil ⟨I.kIn,?_⟩)
 show wpAny _ _ (call (.ref C) [u]) _ _ _
 refine zh FB T (I.kIn _ _ lk) hn hi (I.kIn _ _ lI) cI ?_ (JL rfl);have kk:∀ b o,h.get? b=some o->(wj h C [u]).get? b=some o:=λb o z=>pp _ (pp _ z)
 have g1:(wj h C [u]).get? (h.objs.size+1)=some {cls:=.ref C,data:=.fields #[.ref h.objs.size,.none,.none,.none,.bool false,.none]}:=by heap_get
 have I2:aI X KD σ H ⟨wj h C [u],g,d,t,os⟩:=I.kept kk;have hr':=hr.make C [u] [];refine wpAny_call (vG F SF hB hr' ?_ (I2.env0.make C [u] []) (hb _ [.ref (h.objs.size+1),u] I2.kIn rfl) r g1 rfl rfl rfl λh' tk' er kp=>⟨rfl,?_⟩)
 ·rw [hA]; exact hr'.depth
 ·have nw:h.get? (h.objs.size+1)=none:=Heap.get?_none_of_le (Nat.le_succ _);exact hq h' tk' _ nw (λb o z=>kp b o (λy=>by rw [y,nw] at z; cases z) (kk b o z)) er
theorem Co {X:Cx} {KD:List (Kr×KC)} {σ:St} {H:Hp} {s s':Ko} {E:XK} {e:Kq} (hex:X.ex=[]) (hst:X.stack=X.env::X.outer) (hf:X.env.frame=some X.env.locals) (I:aI X KD σ H s) (h:fK X.prog X.w X.stack H s E e s') {Cn:Str} {cv:Kq} {p1 hp:Pos} {b0:Ky} {suite:List Ky} {Q:Flow->Ko->Prop}
  (hg:Gl X Cn) (hm:X.mg Cn=some cv) (hdb:(Cn == ("__debug__":Str))=false) (hx:∀ c H',E c none H'->PySem.W.exmOne X.K c cv=some true)
  (k:∀ ea c H' o s6 B vs v2,E c none H'->H' ea=none->o.cls=c->ea∉f_ X.stack->o.data=.fields vs->vs[2]?=some v2->i8 B v2->B.StaysIn s6.heap->s6.heap.get? ea=some o->aI X KD σ (cb H' ea (.frz o (.ext λ_=>True))) s6->
   wpAny (model X.prog X.w) (X.A.mark (some (.ref ea))) (execs (b0::suite) X.env) Q (notedBy (model X.prog X.w) (X.A.mark (some (.ref ea))) X.env λx s2=>cameBackBy (model X.prog X.w) X.A X.env X.xe x s2) s6):
  wpAny (model X.prog X.w) X.A (noteFrame e X.env) (λ_ s2=>wpAny (model X.prog X.w) X.A (setFlight e none) (λ_ s3=>wpAny (model X.prog X.w) X.A (handleBy e X.env [.ExceptHandler (some (.Name Cn p1)) none (b0::suite) hp]) Q X.xe s3) X.xe s2) X.xe s':=by
 obtain⟨ea,cls,a0,H',B,rfl,os,bare,flc,hok,hB,hB2,un,q⟩:=h;have fl:=flc.1;have fr0:X.A.frames=some (X.env::X.outer):=by rw [<- hst]; exact I.ok.frames
 have fl0:oz B (X.env::X.outer) ea cls a0 s'.heap:=by rw [<- hst]; exact flc
 refine rh fr0 hf fl0 λh4 held4 up4=>?_
 refine lg held4 λh5 fl5 up5=>?_
 have up45:=up4.trans up5;have I5:=I.landed os bare fl (by rw [hst]; exact fl5.1) up45 hok hB hB2 un
 obtain⟨ob,hob,hobc⟩:=fl5.1.there;refine wpAny_handleBy_cons (codeAny_handlers_test (fv (X:=X.marked (.ref ea) kg) (I5.marked (.ref ea) _) hg hm ?_ hdb)) (by intro z; cases z)
 have LT:PySem.W.Looks (model X.prog X.w) h5 (typeOf (.ref ea)) cls:=by
  subst hobc;exact(PySem.W.Looks.ld hob).andThen .now
 refine PySem.W.exm_one I5.kIn LT (hx cls H' q) _ _ _ _ (λ_ _ z=>z) ?_
 refine codeAny_handlers_suite ?_;refine xc none fl5.1.1 fl5.1.2.1 fl5.1.2.2.1 fl5.1.2.2.2.at fl5.2 λh6 y1 y2 y3 y4 up6=>?_
 have fl6:Heap.FlyingW B (X.env::X.outer) ea cls a0 h6:=⟨y1,fl5.1.2.1,y2,y3⟩;have I6:=I.landed os bare fl (by rw [hst]; exact fl6) (up45.trans up6) hok hB hB2 un
 obtain⟨o6,ho6,hc6⟩:=fl6.there;obtain⟨oc,vc,v2,gc,dc,c2,cx⟩:=y4;rw [ho6] at gc;cases gc;have nfr:ea∉f_ X.stack:=λz=>by
  obtain⟨_,o2,e2,d2⟩:=fl.2.2.1.mem z;obtain⟨oe,vs,T,oT,ts,w1,w2,w3,w4⟩:=fl.2.2.2;rw [w1] at e2;cases e2;exact d2 _ w3
 have nB:B.get? ea=none:=fl.2.1;have nw:∀ b o,s.heap.get? b=some o->b≠ea:=λb o z y=>by
  subst y;obtain⟨o',z'⟩:=hB2 b o z nfr;rw [nB] at z';cases z'
 have hn:H' ea=none:=by
  cases y:H' ea with
  | none=>rfl
  | some u=>
   obtain⟨o',z'⟩:=(hok ea u y).there;rw [nB] at z';cases z'
 have h0:X.s₀.heap.get? ea=none:=by
  cases y:X.s₀.heap.get? ea with
  | none=>rfl
  | some u=>
   obtain⟨o',z'⟩:=I.base.there ea u y (by rw [hex]; simp)
   exact absurd rfl (nw ea o' z')
 have I7:=I6.freeze ho6 hn h0 (λz=>nfr (by rw [hst,z]; unfold f_; rw [List.filterMap_cons,hf]; exact JD)) (λx c z=>by
  obtain⟨v,o,z2,_⟩:=I.cell x c z;exact nw c o z2) (λp z=>nw p.1 p.2 (I.pin p z).1)
 exact k ea cls H' o6 _ B vc v2 q hn hc6 nfr dc c2 cx y1 ho6 I7
section
variable {P:Ku} {w:Kw} {K:PySem.W.Frag} {mg:Str->Ks Kq} {base:Kx} {N:List Str} {KE:Str} {scope:Scope} {f:Kr} {cd:Kq} {A:Kv} {outer:List Env} {s0:Ko} {H0:Hp} {E:XK}
def FH (E:XK) (C:Kr) (j:Nat):TS:=λ_ σ H=>(∃ v,σ[j]?=some (some v))/\E (.ref C) none H
theorem zF {stack:List Env} {h:Kx} {e:Kr}:∀ env∈stack,∀ b,env.frame=some b->b∈e::f_ stack:=λenv he b hb=>JE _ (List.mem_filterMap.mpr ⟨env,he,hb⟩)
theorem xS {x ay yI n nmI qI:Str} {C fI:Kr} {bmB:List Kq} {B newId initId sa owner:KB} {st:Ky} {fd:FuncData} {j:Nat} {np ap cpos pos:Pos} (FB:ExcBaseFacts B newId initId bmB) (F:zT K C fI bmB newId n yI nmI qI st fd) (SF:StoreFacts B bmB sa owner) (hB:typeLookup (.type B) n=pure none) (hb:iD K fd ["self",yI] []) (hm:mg x=some (.ref C))
  (hr:dg 2 (nh P w K mg base N KE scope f cd A outer s0 H0 E).A) (hg:Gl (nh P w K mg base N KE scope f cd A outer s0 H0 E) x) (hN:N[j]?=some ay) (hv:u7 scope ay) (hdx:(x == ("__debug__":Str))=false:=by decide) (hd:(ay == ("__debug__":Str))=false:=by decide) (hcd:(ay == ("__classdict__":Str))=false:=by decide)
  (he:starEach [.Name ay ap] (nh P w K mg base N KE scope f cd A outer s0 H0 E).env=[(false,eval (.Name ay ap) (nh P w K mg base N KE scope f cd A outer s0 H0 E).env)]:=by rfl):
  PS (nh P w K mg base N KE scope f cd A outer s0 H0 E) (.Raise (some (.Call (.Name x np) [.Name ay ap] [] cpos)) none pos) (FH E C j):=by
 intro KD s σ H D I h;obtain⟨⟨v,e1⟩,q⟩:=h;obtain⟨tl,Nn,nm,qn,bs,sn,sub,ab,col,dd,k0,k1,k2,k3,k5,lk,⟨oI,lI,cI⟩,kp,al⟩:=(sM F.ini).obj;obtain⟨_,_,_,_,_,T0,_,_⟩:=al _ I.kIn;rw [arm_exec_Raise];simp only [evalOpt,Option.map];refine gt (wpAny_standAt (xG (C:=C) (nm:=nm) (q:=qn) (N:=Nn) (bs:=bs) (bm:=tl) (hdct:=true) (sn:=sn) (sub:=sub) (ab:=ab) (col:=col) (dd:=dd) (k0:=k0) (k1:=k1) (k2:=k2) (k3:=k3) (k5:=k5) (newId:=newId) (T0.hasType FB.hasBase) (I.ok.hd rfl) ?_));obtain⟨hp,g,d,tk,os⟩:=s;refine gt (wQ FB F SF hB hb hm hr (λ_=>rfl) I (λz=>fv I hg hm z hdx) hN hv hd hcd e1 he λh' tk' a ne kk er=>gt (wpAny_standAt (Js ?_)))
 obtain⟨o,go,gc,gd⟩:=er;have I3:aI (nh P w K mg base N KE scope f cd A outer s0 H0 E) KD σ H ⟨h',g,d,tk',os⟩:=I.kept kk;refine⟨_,o,_,rfl,I3.kIn _ _ lk,go,gc,gd,rfl,?_⟩
 show wpAny _ _ (leaving _ (.ref _)) _ _ _
 refine rj (B:=PySem.W.hideAll h' ((hp.objs.size+1)::f_ (nh P w K mg base N KE scope f cd A outer s0 H0 E).stack)) I.ok.frames (PySem.W.funFrames_hide I3.stack (zF (h:=h'))) rfl go (λb o z=>PySem.W.of_hideAll _ z) (PySem.W.hideAll_none _ JD) gd rfl rfl rfl .last λh2 fl up=>?_
 rw [gc] at fl;exact xl I I3 ne kk fl up q
theorem BM {x0 Cn x ay yI n nmI qI:Str} {cv:Kq} {E':XK} {i k9:Nat} {e:Kt} {te:TX} {C fI:Kr} {bmB:List Kq} {B newId initId sa owner:KB} {st:Ky} {fd:FuncData} {j:Nat} {xp xap p1 hp np ap cpos npos rpos pos:Pos} (hpe:xy (nh P w K mg base N KE scope f cd A outer s0 H0 E) E' e te) (FB:ExcBaseFacts B newId initId bmB) (F:zT K C fI bmB newId n yI nmI qI st fd) (SF:StoreFacts B bmB sa owner) (hB:typeLookup (.type B) n=pure none) (hb:iD K fd ["self",yI] []) (hm:mg x=some (.ref C))
  (hr:dg 2 (nh P w K mg base N KE scope f cd A outer s0 H0 E).A) (hg:Gl (nh P w K mg base N KE scope f cd A outer s0 H0 E) x) (hN:N[j]?=some ay) (hv:u7 scope ay) (hgC:Gl (nh P w K mg base N KE scope f cd A outer s0 H0 E) Cn) (hmC:mg Cn=some cv) (hNd:N.Nodup) (hi:N[i]?=some x0) (hx0:yr scope x0)
  (hsw:swapsWith e (some (.Name x0 xp)) xap.line (nh P w K mg base N KE scope f cd A outer s0 H0 E).env=pure false:=by rfl) (hdb:(Cn == ("__debug__":Str))=false:=by decide) (hdx:(x == ("__debug__":Str))=false:=by decide) (hd:(ay == ("__debug__":Str))=false:=by decide) (hcd:(ay == ("__classdict__":Str))=false:=by decide)
  (he:starEach [.Name ay ap] (nh P w K mg base N KE scope f cd A outer s0 H0 E).env=[(false,eval (.Name ay ap) (nh P w K mg base N KE scope f cd A outer s0 H0 E).env)]:=by rfl):
  PS (nh P w K mg base N KE scope f cd A outer s0 H0 E) (.Try [.Assign [.Name x0 xp] e xap] [.ExceptHandler (some (.Name Cn p1)) none [.Raise (some (.Call (.Name x np) [.Name ay ap] [] cpos)) (some (.Constant .none k9 npos)) rpos] hp] [] [] pos) (C6 K E' cv te (λD σ v H=>D.nx (σ.set i (some v)) H) (FH E C j)):=by
 intro KD s σ H D I h;obtain⟨hE,R,h,kk⟩:=h;refine wpAny_Try_except (wpAny_execs_cons (wpAny_Assign_Name (J5 (hpe KD s σ H _ R I h) (λv s1 ⟨y,H1,I1,r1,q1⟩=>?_) λe s' z=>?_) hsw))
 ·exact iw I1 hNd hi hx0 r1 (λs2 I2=>wpAny_execs_nil (wpAny_execs_nil ⟨_,H1,I2,q1⟩)) (.inl rfl)
 obtain⟨H1,s1,I1,hR,hq⟩:=z;refine Co rfl rfl rfl I1 (DL.vE hq) hgC hmC hdb (λc H' z=>hE c H' z.1) λea c H' oa s6 B0 va v2 y1 y2 y3 nfr da a2 cx hB0 ga I6=>?_
 obtain⟨⟨v,e1⟩,q⟩:=kk H1 ea c H' oa hR y1.1 y1.2 y2 y3;obtain⟨tl,Nn,nm,qn,bs,sn,sub,ab,col,dd,k0,k1,k2,k3,k5,lk,⟨oI,lI,cI⟩,kp,al⟩:=(sM F.ini).obj;obtain⟨_,_,_,_,_,T0,_,_⟩:=al _ I6.kIn;refine wpAny_execs_cons ?_;rw [arm_exec_Raise];simp only [evalOpt,Option.map];refine gt (wpAny_standAt (vV (C:=C) (ea:=ea) (nm:=nm) (q:=qn) (N:=Nn) (bs:=bs) (bm:=tl) (hdct:=true) (sn:=sn) (sub:=sub) (ab:=ab) (col:=col) (dd:=dd) (k0:=k0) (k1:=k1) (k2:=k2) (k3:=k3) (k5:=k5) (newId:=newId) (T0.hasType FB.hasBase) rfl (λz=>?_) ?_))
 ·exact gt (wpAny_Constant_none (gt (wpAny_standAt (Js z))))
 obtain⟨hp6,g,d,tk,os⟩:=s6;refine gt (wQ FB F SF hB hb hm hr (λ_=>rfl) I6 (λz=>fv (X:=(nh P w K mg base N KE scope f cd A outer s0 H0 E).marked (.ref ea) kg) (I6.marked (.ref ea) _) hg hm z hdx) hN hv hd hcd e1 he λh' tk' a ne k7 er=>gt (wpAny_standAt (Js ?_)))
 obtain⟨o,go,gc,gd⟩:=er;have I3:aI (nh P w K mg base N KE scope f cd A outer s0 H0 E) KD σ _ ⟨h',g,d,tk',os⟩:=I6.kept k7;have nB0:∀ a o,B0.get? a=some o->a≠hp6.objs.size+1:=λa o z y=>by
  have z:=hB0 a o z;rw [y] at z;exact absurd (z.symm.trans ne) (by simp)
 have nea:ea≠hp6.objs.size+1:=λy=>by
  rw [y] at ga;exact absurd (ga.symm.trans ne) (by simp)
 have lkC:=I3.kIn _ _ lk;have Cne:C≠hp6.objs.size+1:=λy=>by
  have z:=I6.kIn _ _ lk;rw [y] at z;exact absurd (z.symm.trans ne) (by simp)
 refine⟨_,o,_,rfl,lkC,Cne,go,gc,gd,rfl,rfl,nea,⟨B0,oa,va,v2,λb o z=>k7 b o (hB0 b o z),nB0,k7 _ _ ga,da,a2,cx⟩,λh8 er8 k8=>?_⟩
 have k9:∀ b o,hp6.get? b=some o->h8.get? b=some o:=λb o z=>k8 b o (λy=>by rw [y] at z; exact absurd (z.symm.trans ne) (by simp)) (k7 b o z)
 have I8:aI (nh P w K mg base N KE scope f cd A outer s0 H0 E) KD σ _ ⟨h8,g,d,tk',os⟩:=I6.kept k9;obtain⟨o8,g8,c8,d8⟩:=er8;have nst:∀ a o vs,hp6.get? a=some o->o.data=.fields vs->a∉f_ (nh P w K mg base N KE scope f cd A outer s0 H0 E).stack:=λa o vs z y hf=>by
  obtain⟨_,o2,e2,d2⟩:=I6.stack.mem hf;rw [z] at e2;cases e2;exact d2 _ y
 have hid:∀ a o vs,hp6.get? a=some o->o.data=.fields vs->(PySem.W.hideAll h8 ((hp6.objs.size+1)::f_ (nh P w K mg base N KE scope f cd A outer s0 H0 E).stack)).get? a=some o:=λa o vs z y=>PySem.W.hideAll_get _ (k9 a o z) λhf=>by
  rcases JB.mp hf with rfl | hf
  ·exact absurd (z.symm.trans ne) (by simp)
  ·exact nst a o vs z y hf
 show wpAny _ _ (noteFrame _ _) _ _ _
 refine zD (λ_ z=>z) (A':=(nh P w K mg base N KE scope f cd A outer s0 H0 E).A.mark (some (.ref ea))) (B:=PySem.W.hideAll h8 ((hp6.objs.size+1)::f_ (nh P w K mg base N KE scope f cd A outer s0 H0 E).stack)) I6.ok.frames (PySem.W.funFrames_hide I8.stack (zF (h:=h8))) rfl g8 (λb o z=>PySem.W.of_hideAll _ z) (PySem.W.hideAll_none _ JD) d8 rfl rfl rfl (.more (hid ea oa va ga da) da a2 (cx.mono λa o vs z y=>hid a o vs (hB0 a o z) y)) λh9 fl up=>?_
 rw [c8] at fl;exact xl I6 I8 ne k9 fl up q
end
end L2
namespace DL
open PySem PySem.Spec PyProof.Rows L2
inductive F3 (K:Fg) (q:Str) (st:Ky) (f:Kr) (cd:Kq):Prop where
 | mk {oc kV doc pm ct:Kq} {od an:Ks Kr} {osl:Kz (Ks Kq)} (l:K.lookup f=some ⟨oc,od,.func (PySem.W.fnOf "__init__" q (eC st) (ci st) (aj st) .none kV doc pm an cd ct),osl⟩):F3 K q st f cd
structure EI (K:Fg) (bmB:List Kq) (q n:Str) (st:Ky) (C f:Kr) (cd:Kq):Prop where
 b:PySem.W.findIn K (.ref C) "__init__"=some (some (.ref f))
 x:F3 K q st f cd
 e:PySem.W.codeIn K cd q=true
 k:PySem.W.keepIn K (.ref f)=true
 i:xk K C bmB "ValueError.__new__" f n=true
structure yK (K:Fg) (mg:Str->Ks Kq) (x:Str) (C:Kr):Prop where
 ex:∃ (fI:Kr) (bmB:List Kq) (B newId initId sa owner:KB) (n yI nmI qI:Str) (st:Ky) (fd:FuncData),ExcBaseFacts B newId initId bmB/\zT K C fI bmB newId n yI nmI qI st fd/\StoreFacts B bmB sa owner/\typeLookup (.type B) n=pure none/\iD K fd ["self",yI] []/\mg x=some (.ref C)
theorem EI.err {K:Fg} {mg:Str->Ks Kq} {bmB:List Kq} {initId sa owner:KB} {x q n y:Str} {st:Ky} {C f:Kr} {cd:Kq} (d:EI K bmB q n st C f cd) (hm:mg x=some (.ref C)) (FB:ExcBaseFacts "ValueError" "ValueError.__new__" initId bmB) (SF:StoreFacts "ValueError" bmB sa owner) (sc:ar ["self",y] ["self",y] (aj st)) (body:∃ p1 p2 p3 pos,ci st=[.Assign [.Attribute (.Name "self" p1) n p2] (.Name y p3) pos])
  (hB:typeLookup (.type "ValueError") n=pure none) (v1:u7 (aj st) "self":=by exact .inl rfl) (v2:u7 (aj st) y:=by exact .inl rfl) (d2:(y == ("__debug__":Str))=false:=by decide) (c2:(y == ("__classdict__":Str))=false:=by decide)
  (hb:∀ (kV doc pm:Kq) (an:Ks Kr) (cdv ct u1 u2:Kq),bindArgs (PySem.W.fnOf "__init__" q (eC st) (ci st) (aj st) .none kV doc pm an cdv ct) ⟨[u1,u2],[]⟩=pure (List.zip [("self":Str),y] [u1,u2]):=by exact λ_ _ _ _ _ _ _ _=>rfl):yK K mg x C:=by
 obtain⟨lk⟩:=d.x;have Fn:=sL lk d.e d.k;exact⟨f,bmB,_,_,initId,sa,owner,n,y,_,q,st,_,FB,⟨Fn,sc,body,v1,v2,d2,c2,d.i⟩,SF,hB,Fn.binds λ_ _ _ _ _ _ us hl=>match us,hl with | [u1,u2],_=>hb _ _ _ _ _ _ _ _,hm⟩
section
variable {P:Ku} {w:Kw} {K:Fg} {mg:Str->Ks Kq} {base:Kx} {N:List Str} {KE:Str} {scope:Scope} {f:Kr} {cd:Kq} {A:Kv} {outer:List Env} {s0:Ko} {H0:Hp} {E:XK} {ex:Kr->DH->Prop}
def D6 (ex:Kr->DH->Prop) (C:Kr) (j:Nat):DS:=λ_ L S=>(∃ d,L[j]?=some (some d))/\ex C S
theorem uS {x ay:Str} {C:Kr} {j:Nat} {np ap cpos pos:Pos} (hE:∀ C S' H',ex C S'->Hs K H' S'->E (.ref C) none H') (q:yK K mg x C) (hr:dg 2 (cX (fK P w) P w K mg base N KE scope f cd A outer s0 H0 E).A)
  (hg:Gl (cX (fK P w) P w K mg base N KE scope f cd A outer s0 H0 E) x) (hN:N[j]?=some ay) (hv:u7 scope ay) (hdx:(x == ("__debug__":Str))=false:=by decide) (hd:(ay == ("__debug__":Str))=false:=by decide) (hcd:(ay == ("__classdict__":Str))=false:=by decide):
  SJ (cX (fK P w) P w K mg base N KE scope f cd A outer s0 H0 E) (.Raise (some (.Call (.Name x np) [.Name ay ap] [] cpos)) none pos) (D6 ex C j):=by
 obtain⟨fI,bmB,B,newId,initId,sa,owner,n,yI,nmI,qI,st,fd,FB,F,SF,hB,hb,hm⟩:=q.ex;refine⟨PS.imp (xS FB F SF hB hb hm hr hg hN hv hdx hd hcd rfl) λ_ σ H z9=>by obtain⟨L,S,_,hL,hS,⟨⟨d,e⟩,h⟩,_⟩:=z9; exact⟨let ⟨v,z,_⟩:=hL.get e; ⟨v,z⟩,hE C S H h hS⟩⟩
theorem xI {x0 Cn x ay:Str} {cv:Kq} {i j k9:Nat} {e:Kt} {g:(Kr->DH->Prop)->DE} {C:Kr} {xp xap p1 hp np ap cpos npos rpos pos:Pos} (hE:∀ C S' H',ex C S'->Hs K H' S'->E (.ref C) none H') (q:yK K mg x C) (he:∀ ex,DD (cX (fK P w) P w K mg base N KE scope f cd A outer s0 H0 E) ex e (g ex)) (hr:dg 2 (cX (fK P w) P w K mg base N KE scope f cd A outer s0 H0 E).A)
  (hg:Gl (cX (fK P w) P w K mg base N KE scope f cd A outer s0 H0 E) x) (hN:N[j]?=some ay) (hv:u7 scope ay) (hgC:Gl (cX (fK P w) P w K mg base N KE scope f cd A outer s0 H0 E) Cn) (hmC:mg Cn=some cv) (hNd:N.Nodup) (hi:N[i]?=some x0) (hx0:yr scope x0)
  (hsw:swapsWith e (some (.Name x0 xp)) xap.line (cX (fK P w) P w K mg base N KE scope f cd A outer s0 H0 E).env=pure false:=by rfl) (hdb:(Cn == ("__debug__":Str))=false:=by decide) (hdx:(x == ("__debug__":Str))=false:=by decide) (hd:(ay == ("__debug__":Str))=false:=by decide) (hcd:(ay == ("__classdict__":Str))=false:=by decide):
  SJ (cX (fK P w) P w K mg base N KE scope f cd A outer s0 H0 E) (.Try [.Assign [.Name x0 xp] e xap] [.ExceptHandler (some (.Name Cn p1)) none [.Raise (some (.Call (.Name x np) [.Name ay ap] [] cpos)) (some (.Constant .none k9 npos)) rpos] hp] [] [] pos) (Ds K cv g i (D6 ex C j)):=by
 obtain⟨fI,bmB,B,newId,initId,sa,owner,n,yI,nmI,qI,st,fd,FB,F,SF,hB,hb,hm⟩:=q.ex;refine⟨λKD s σ H M0 I ⟨L,S,M,hL,hS,h,r⟩=>BM (he (λC' S2=>PySem.W.exmOne K (.ref C') cv=some true/\D6 ex C j M L S2)).h FB F SF hB hb hm hr hg hN hv hgC hmC hNd hi hx0 hsw hdb hdx hd hcd rfl KD s σ H M0 I ⟨?_,Kp H,⟨L,S,_,hL,hS,h,λd S' v H' q k1 hS' i1=>r.nx _ _ _ _ q k1 ((hL.kp k1).set i1 i) hS',λ_ z=>z⟩,?_⟩⟩
 ·rintro c H' ⟨C',S',rfl,z,_⟩;exact z.1
 ·rintro H1 ea c H' o k0 ⟨C',S',rfl,⟨_,⟨d,e⟩,z⟩,zs⟩ kp hn ho;exact⟨let ⟨v,z,_⟩:=hL.get e; ⟨v,z⟩,hE C S' _ z (zs.new hn)⟩
end
def oD:Ks Kr->D
 | none=>.non
 | some l=>.ref l
end DL
namespace L2
open PySem PySem.Spec PyProof.Rows
theorem t_ {base h:Kx} {l:List Env} {e:Kr} {cls a0:Kq} (o:KC) (x:Heap.FlyingW base l e cls a0 h):Heap.FlyingW base l e cls a0 (h.push o):=by
 obtain⟨f1,f2,f3,oe,vs,T,oT,ts,he,hc,hd,h1,hnT,hTe,hT,hdT,h3⟩:=x;exact⟨λb u z=>pp _ (f1 b u z),f2,f3.of_keeps λb u z _=>⟨u,pp _ z,rfl⟩,oe,vs,T,oT,ts,pp _ he,hc,hd,h1,hnT,hTe,pp _ hT,hdT,h3⟩
theorem Bw {h:Kx} (o:KC):h.UpToSlots (h.push o):=Heap.UpToSlots.of_keeps λ_ _ z=>pp _ z
section
variable {X:Cx} {KD:List (Kr×KC)} {σ:St} {H:Hp} {s s':Ko} {E:XK}
theorem BU {e:Kq} (hex:X.ex=[]) (hst:X.stack=X.env::X.outer) (hf:X.env.frame=some X.env.locals) (I:aI X KD σ H s) (h:fK X.prog X.w X.stack H s E e s') {C1 C2 C3:Str} {c1 c2 c3:Kq} {p1 p2 p3 tp hp:Pos} {tc} {b0:Ky} {suite:List Ky} {Q:Flow->Ko->Prop}
  (hg1:Gl X C1) (hm1:X.mg C1=some c1) (hg2:Gl X C2) (hm2:X.mg C2=some c2) (hg3:Gl X C3) (hm3:X.mg C3=some c3)
  (hd1:(C1 == ("__debug__":Str))=false) (hd2:(C2 == ("__debug__":Str))=false) (hd3:(C3 == ("__debug__":Str))=false)
  (hx:∀ c H',E c none H'->PySem.W.exmAny X.K c [c1,c2,c3]=some true)
  (k:∀ ea c H' o s6,E c none H'->H' ea=none->o.cls=c->aI X KD σ (cb H' ea (.frz o (.ext λ_=>True))) s6->
   wpAny (model X.prog X.w) (X.A.mark (some (.ref ea))) (execs (b0::suite) X.env) Q kg s6):
  wpAny (model X.prog X.w) X.A (noteFrame e X.env) (λ_ s2=>wpAny (model X.prog X.w) X.A (setFlight e none) (λ_ s3=>wpAny (model X.prog X.w) X.A (handleBy e X.env [.ExceptHandler (some (.Tuple [.Name C1 p1,.Name C2 p2,.Name C3 p3] tc tp)) none (b0::suite) hp]) Q X.xe s3) X.xe s2) X.xe s':=by
 obtain⟨ea,cls,a0,H',B,rfl,os,bare,fl,hok,hB,hB2,un,q⟩:=h;have fl:=fl.1;have fr0:X.A.frames=some (X.env::X.outer):=by rw [<- hst]; exact I.ok.frames
 have fl0:Heap.FlyingW B (X.env::X.outer) ea cls a0 s'.heap:=by rw [<- hst]; exact fl
 refine wpAny_looks_onW fr0 hf fl0 λh4 held4 up4=>?_
 refine wpAny_landsW held4 λh5 fl5 up5=>?_
 have up45:=up4.trans up5;have I5:=I.landed os bare fl (by rw [hst]; exact fl5) up45 hok hB hB2 un
 obtain⟨ob,hob,hobc⟩:=fl5.there;have I5m:=I5.marked (.ref ea) (kg:Kq->Ko->Prop);refine wpAny_handleBy_cons (codeAny_handlers_test (wpAny_Tuple_spliced (Calls.spliced_cons (fv (X:=X.marked (.ref ea) kg) I5m hg1 hm1 (Calls.spliced_cons (fv (X:=X.marked (.ref ea) kg) I5m hg2 hm2 (Calls.spliced_cons (fv (X:=X.marked (.ref ea) kg) I5m hg3 hm3 (Calls.spliced_nil ⟨by show 3<=sizeLine; decide,?_⟩) hd3)) hd2)) hd1)))) (by intro z; cases z)
 have fl5:=t_ {cls:=.type "tuple",data:=.seq [c1,c2,c3].toArray} fl5
 have up45:=up45.trans (Bw (h:=h5) {cls:=.type "tuple",data:=.seq [c1,c2,c3].toArray})
 have I5:=I.landed os bare fl (by rw [hst]; exact fl5) up45 hok hB hB2 un
 have hob:=pp {cls:=.type "tuple",data:=.seq [c1,c2,c3].toArray} hob
 have LT:PySem.W.Looks (model X.prog X.w) (h5.push {cls:=.type "tuple",data:=.seq [c1,c2,c3].toArray}) (typeOf (.ref ea)) cls:=by
  subst hobc;exact(PySem.W.Looks.ld hob).andThen .now
 refine PySem.W.exm_tup3 I5.kIn LT (Jt h5 rfl) (hx cls H' q) _ _ _ _ (λ_ _ z=>z) ?_
 refine codeAny_handlers_suite ?_;refine lands_againW fl5 λh6 fl6 up6=>?_
 have I6:=I.landed os bare fl (by rw [hst]; exact fl6) (up45.trans up6) hok hB hB2 un
 obtain⟨o6,ho6,hc6⟩:=fl6.there;have nfr:ea∉f_ X.stack:=λz=>by
  obtain⟨_,o2,e2,d2⟩:=fl.2.2.1.mem z;obtain⟨oe,vs,T,oT,ts,w1,w2,w3,w4⟩:=fl.2.2.2;rw [w1] at e2;cases e2;exact d2 _ w3
 have nB:B.get? ea=none:=fl.2.1;have nw:∀ b o,s.heap.get? b=some o->b≠ea:=λb o z y=>by
  subst y;obtain⟨o',z'⟩:=hB2 b o z nfr;rw [nB] at z';cases z'
 have hn:H' ea=none:=by
  cases y:H' ea with
  | none=>rfl
  | some u=>
   obtain⟨o',z'⟩:=(hok ea u y).there;rw [nB] at z';cases z'
 have h0:X.s₀.heap.get? ea=none:=by
  cases y:X.s₀.heap.get? ea with
  | none=>rfl
  | some u=>
   obtain⟨o',z'⟩:=I.base.there ea u y (by rw [hex]; simp)
   exact absurd rfl (nw ea o' z')
 have I7:=I6.freeze ho6 hn h0 (λz=>nfr (by rw [hst,z]; unfold f_; rw [List.filterMap_cons,hf]; exact JD)) (λx c z=>by
  obtain⟨v,o,z2,_⟩:=I.cell x c z;exact nw c o z2) (λp z=>nw p.1 p.2 (I.pin p z).1)
 exact J5 (k ea cls H' o6 _ q hn hc6 I7) (λ_ _ z=>z) λ_ _ z=>z.elim
theorem wk {R:Hp->Prop} {e:Kq} {C1 C2 C3:Str} {c1 c2 c3:Kq} {p1 p2 p3 tp hp:Pos} {tc} {b0:Ky} {suite:List Ky} {D:mK} {t:TS} (h:XW X KD σ R E e s') (hd:X.calm=true->X.A.handled=none) (hex:X.ex=[]) (hst:X.stack=X.env::X.outer) (hf:X.env.frame=some X.env.locals)
  (hg1:Gl X C1) (hm1:X.mg C1=some c1) (hg2:Gl X C2) (hm2:X.mg C2=some c2) (hg3:Gl X C3) (hm3:X.mg C3=some c3)
  (hd1:(C1 == ("__debug__":Str))=false) (hd2:(C2 == ("__debug__":Str))=false) (hd3:(C3 == ("__debug__":Str))=false)
  (hs:∀ v,oZ (X.marked v kg) (b0::suite) t) (hE:∀ c H',E c none H'->PySem.W.exmAny X.K c [c1,c2,c3]=some true)
  (kk:∀ H1 ea c H' o,R H1->E c none H'->DL.Kp H1 H'->H' ea=none->o.cls=c->t D σ (cb H' ea (.frz o (.ext λ_=>True)))):
  wpAny (model X.prog X.w) X.A (noteFrame e X.env) (λ_ s2=>wpAny (model X.prog X.w) X.A (setFlight e none) (λ_ s3=>wpAny (model X.prog X.w) X.A (handleBy e X.env [.ExceptHandler (some (.Tuple [.Name C1 p1,.Name C2 p2,.Name C3 p3] tc tp)) none (b0::suite) hp]) (SP X KD D) X.xe s3) X.xe s2) X.xe s':=by
 obtain⟨H1,s1,I1,hR,hq⟩:=h;refine BU hex hst hf I1 (DL.vE hq) hg1 hm1 hg2 hm2 hg3 hm3 hd1 hd2 hd3 (λc H' z=>hE c H' z.1) λea c H' o s6 y1 y2 y3 I6=>?_
 refine cm (hs (.ref ea) KD s6 _ _ _ (I6.marked (.ref ea) kg) (kk H1 ea c H' o hR y1.1 y1.2 y2 y3)) λf s7 y=>?_
 cases f with
 | next=>
  obtain⟨σ7,H7,I7,q⟩:=y;exact⟨σ7,H7,I7.unmarked hd,q⟩
 | brk=>
  obtain⟨σ7,H7,I7,q⟩:=y;exact⟨σ7,H7,I7.unmarked hd,q⟩
 | cont=>
  obtain⟨σ7,H7,I7,q⟩:=y;exact⟨σ7,H7,I7.unmarked hd,q⟩
 | ret v=>
  obtain⟨v,σ7,H7,I7,r,q⟩:=y;exact⟨v,σ7,H7,I7.unmarked hd,r,q⟩
end
section
variable {X:Cx} {E:XK}
def GY (K:PySem.W.Frag) (E:XK) (c1 c2 c3:Kq) (te:TX) (k:mK->St->VK) (t:TS):TS:=λD σ H=>(∀ c H',E c none H'->PySem.W.exmAny K c [c1,c2,c3]=some true)/\
 ∃ R:Hp->Prop,te σ H (k D σ) R/\∀ H1 ea c H' o,R H1->E c none H'->DL.Kp H1 H'->H' ea=none->o.cls=c->t D σ (cb H' ea (.frz o (.ext λ_=>True)))
theorem Ch {x C1 C2 C3:Str} {c1 c2 c3:Kq} {i:Nat} {e:Kt} {te:TX} {t:TS} {b0:Ky} {suite:List Ky} {xp ap p1 p2 p3 tp hp pos:Pos} {tc} (he:xy X E e te)
  (hd:X.calm=true->X.A.handled=none) (hex:X.ex=[]) (hst:X.stack=X.env::X.outer) (hf:X.env.frame=some X.env.locals)
  (hg1:Gl X C1) (hm1:X.mg C1=some c1) (hg2:Gl X C2) (hm2:X.mg C2=some c2) (hg3:Gl X C3) (hm3:X.mg C3=some c3) (hN:X.N.Nodup) (hi:X.N[i]?=some x) (hx:yr X.env.scope x) (hs:∀ v,oZ (X.marked v kg) (b0::suite) t)
  (hsw:swapsWith e (some (.Name x xp)) ap.line X.env=pure false:=by rfl) (hfx:X.fn x=true\/X.env.scope.names.lookup x=some .local:=by first | exact .inl rfl | exact .inr rfl | assumption)
  (hd1:(C1 == ("__debug__":Str))=false:=by decide) (hd2:(C2 == ("__debug__":Str))=false:=by decide) (hd3:(C3 == ("__debug__":Str))=false:=by decide):
  PS X (.Try [.Assign [.Name x xp] e ap] [.ExceptHandler (some (.Tuple [.Name C1 p1,.Name C2 p2,.Name C3 p3] tc tp)) none (b0::suite) hp] [] [] pos) (GY X.K E c1 c2 c3 te (λD σ v H=>D.nx (σ.set i (some v)) H) t):=by
 intro KD s σ H D I h;obtain⟨hE,R,h,kk⟩:=h;refine wpAny_Try_except (wpAny_execs_cons (wpAny_Assign_Name (J5 (he KD s σ H _ R I h) (λv s1 ⟨y,H1,I1,r1,q1⟩=>?_) λe s' z=>?_) hsw))
 ·exact iw I1 hN hi hx r1 (λs2 I2=>wpAny_execs_nil (wpAny_execs_nil ⟨_,H1,I2,q1⟩)) hfx
 ·exact wk z hd hex hst hf hg1 hm1 hg2 hm2 hg3 hm3 hd1 hd2 hd3 hs hE kk
theorem BW {a b:Kt} {ta tb:TX} {tc} {pos:Pos} (ha:xy X E a ta) (hb:xy X E b tb) (hs:starEach [a,b] X.env=[(false,eval a X.env),(false,eval b X.env)]:=by rfl):
  xy X E (.Tuple [a,b] tc pos) (fun σ H Q R=>ta σ H (λx H1=>tb σ H1 (λy H2=>∀ p,H2 p=none->Q (.ref p) (cb H2 p (.tup [x,y]))) R) R):=by
 intro KD s σ H Q R I h;refine wpAny_Tuple_spliced ?_;rw [hs]
 show wpAny _ _ (spliced [(false,eval a X.env),(false,eval b X.env)]) _ _ s
 refine Calls.spliced_cons (cm (ha KD s σ H _ R I h) λu s1 ⟨x,H1,I1,r1,q1⟩=>Calls.spliced_cons (cm (hb KD s1 σ H1 _ R I1 q1) λw s2 ⟨y,H2,I2,r2,q2⟩=>Calls.spliced_nil ⟨by show 2<=sizeLine; decide,?_⟩))
 have hf:H2 s2.heap.objs.size=none:=I2.hok.fresh (Jw _);refine⟨.ref s2.heap.objs.size,cb H2 s2.heap.objs.size (.tup [x,y]),I2.laid (t':=s2.toks) (λb u e=>pp _ e) (Jw _) ?_,rfl,q2 _ hf⟩
 exact⟨by show 2<=sizeLine; decide,[u,w],.cons r1 (.cons r2 .nil),⟨_,Jt _ rfl,rfl,_,rfl⟩⟩
end
end L2
namespace DL
open PySem PySem.Spec PyProof.Rows L2
section
variable {X:Cx} {ex:Kr->DH->Prop}
def GT (ga gb:DE):DE:=λL S k=>ga L S λd S1=>gb L S1 λe S2=>k (.tup [d,e]) S2
theorem y9 {a b:Kt} {ga gb:DE} {tc} {pos:Pos} (ha:DD X ex a ga) (hb:DD X ex b gb) (hs:starEach [a,b] X.env=[(false,eval a X.env),(false,eval b X.env)]:=by rfl):DD X ex (.Tuple [a,b] tc pos) (GT ga gb):=by
 refine⟨xy.imp (BW ha.h hb.h hs) fun σ H Q R ⟨L,S,k,hL,hS,h,n,hR⟩=>?_⟩
 refine⟨L,S,_,hL,hS,h,λd S1 v H1 h1 k1 hS1 i1=>?_,hR⟩
 refine⟨L,S1,_,hL.kp k1,hS1,h1,λe S2 u H2 h2 k2 hS2 i2 p hp=>?_,λH2 k2=>hR H2 (k1.trans k2)⟩
 have k3:Kp H2 (cb H2 p (.tup [v,u])):=Kp.new hp;exact n (.tup [d,e]) S2 _ _ h2 (k1.trans (k2.trans k3)) (hS2.new hp) (cr.mpr ⟨p,[v,u],rfl,ka.of cA,IsDs.cons ((i1.kp k2).kp k3) (IsDs.cons (i2.kp k3) IsDs.nil)⟩)
def Gk (K:Fg) (c1 c2 c3:Kq) (g:(Kr->DH->Prop)->DE) (i:Nat) (t:DS):DS:=λM L S=>g (λC S2=>PySem.W.exmAny K (.ref C) [c1,c2,c3]=some true/\t M L S2) L S λd S2=>M.nx (L.set i (some d)) S2
theorem xx {x C1 C2 C3:Str} {c1 c2 c3:Kq} {i:Nat} {e:Kt} {g:(Kr->DH->Prop)->DE} {t:DS} {b0:Ky} {suite:List Ky} {xp ap p1 p2 p3 tp hp pos:Pos} {tc} (he:∀ ex,DD X ex e (g ex))
  (hd:X.calm=true->X.A.handled=none) (hex:X.ex=[]) (hst:X.stack=X.env::X.outer) (hf:X.env.frame=some X.env.locals)
  (hg1:Gl X C1) (hm1:X.mg C1=some c1) (hg2:Gl X C2) (hm2:X.mg C2=some c2) (hg3:Gl X C3) (hm3:X.mg C3=some c3) (hN:X.N.Nodup) (hi:X.N[i]?=some x) (hx:yr X.env.scope x) (hs:∀ v,vW (X.marked v kg) (b0::suite) t)
  (hsw:swapsWith e (some (.Name x xp)) ap.line X.env=pure false:=by rfl) (hfx:X.fn x=true\/X.env.scope.names.lookup x=some .local:=by first | exact .inl rfl | exact .inr rfl | assumption)
  (hd1:(C1 == ("__debug__":Str))=false:=by decide) (hd2:(C2 == ("__debug__":Str))=false:=by decide) (hd3:(C3 == ("__debug__":Str))=false:=by decide):
  SJ X (.Try [.Assign [.Name x xp] e ap] [.ExceptHandler (some (.Tuple [.Name C1 p1,.Name C2 p2,.Name C3 p3] tc tp)) none (b0::suite) hp] [] [] pos) (Gk X.K c1 c2 c3 g i t):=by
 refine⟨λKD s σ H N I ⟨L,S,M,hL,hS,h,r⟩=>Ch (t:=zo X.K t) (he (λC S2=>PySem.W.exmAny X.K (.ref C) [c1,c2,c3]=some true/\t M L S2)).h hd hex hst hf hg1 hm1 hg2 hm2 hg3 hm3 hN hi hx (λv=>(hs v).h) hsw hfx hd1 hd2 hd3 KD s σ H N I ⟨?_,Kp H,⟨L,S,_,hL,hS,h,λd S' v H' q k1 hS' i1=>r.nx _ _ _ _ q k1 ((hL.kp k1).set i1 i) hS',λ_ z=>z⟩,?_⟩⟩
 ·rintro c H' ⟨C,S',rfl,z,_⟩;exact z.1
 ·rintro H1 ea c H' o k0 ⟨C,S',rfl,z,zs⟩ kp hn ho;have k2:Kp H (cb H' ea (.frz o (.ext λ_=>True))):=k0.trans (kp.trans (Kp.new hn))
  exact⟨L,S',M,hL.kp k2,zs.new hn,z.2,r.kp k2⟩
end
def BD (i j:Int):Prop:=0<=j/\(Builtin.Int.intBits i:Int)+j<=2 ^ 27
abbrev Gh:D2:=Ec BD λi j=>.int (i*2 ^ j.toNat)
theorem DX {X:Cx}:fW X (binaryOp .LShift) (jy X.K Gh):=xT (C:=BD) (gV:=λi j=>.int (i*2 ^ j.toNat)) (F' (C:=BD) λ_ _ _ _ _ _ _ hc q=>lshift_int hc.1 hc.2 q) λ_ _ _=>isInt.mpr rfl
end DL
namespace My
abbrev FN (K:PySem.W.Frag) (n:PySem.Str) (st:PySem.Stmt) (f:PySem.Addr) (fd:PySem.FuncData):=L2.tP K n n st f fd
variable {P:Ku} {w:Kw} {K:Fg} {mg:Str->Ks Kq} {base:Kx} {f:Kr} {fd:FuncData}
open PySem PySem.Spec PyProof.Rows L2 DL HM
set_option maxHeartbeats 4000000
def d_ (i : Nat) : Ky := PySem.Challenge.pw_hingedraw_k44_whole_stands_are_places.main.body.getD i (.Pass ⟨0, 0, 0, 0⟩)
abbrev fU:Ky:=d_ 13
abbrev sI:Ky:=d_ 14
abbrev vX:Ky:=d_ 15
abbrev tH:Ky:=d_ 16
abbrev tm:Ky:=d_ 17
abbrev wc:Ky:=d_ 18
abbrev l8:Ky:=d_ 19
abbrev g6:Ky:=d_ 20
abbrev je:Ky:=d_ 21
abbrev dO:Ky:=d_ 22
abbrev nL:Ky:=d_ 23
abbrev l_:Ky:=d_ 25
abbrev il:Ky:=d_ 26
abbrev wd:Ky:=d_ 27
abbrev jP:Ky:=d_ 29
abbrev tE:Ky:=d_ 30
abbrev p9:Ky:=d_ 31
abbrev gs:Ky:=d_ 32
abbrev kq:Ky:=d_ 33
abbrev jm:Ky:=d_ 34
abbrev jM:Ky:=d_ 35
abbrev iL:Ky:=d_ 41
abbrev gr:Ky:=d_ 42
abbrev iQ:Ky:=d_ 38
abbrev ma:Ky:=d_ 39
abbrev kR:Ky:=d_ 45
abbrev fD:Ky:=d_ 46
abbrev tF:Ky:=d_ 47
abbrev gB:Ky:=d_ 48
abbrev jG:Ky:=d_ 49
abbrev dr:Ky:=d_ 50
abbrev kO:Ky:=d_ 28
abbrev eS:Ky:=d_ 40
abbrev fE:Ky:=d_ 51
abbrev ie:Ky:=d_ 63
abbrev kr:Ky:=d_ 64
abbrev fQ:Ky:=d_ 37
abbrev gO:Ky:=d_ 65
abbrev lf:Ky:=d_ 44
abbrev gY:Ky:=d_ 72
abbrev jF:Ky:=d_ 73
abbrev kz:Ky:=d_ 74
abbrev iA:Ky:=d_ 75
abbrev jc:Ky:=d_ 76
abbrev jk:Ky:=d_ 79
abbrev ju:Ky:=d_ 81
abbrev jW:Ky:=d_ 82
abbrev fH:Ky:=d_ 83
abbrev jO:Ky:=d_ 85
abbrev o_:Ky:=d_ 66
abbrev eZ:Ky:=d_ 67
abbrev fJ:Ky:=d_ 68
abbrev fF:Ky:=d_ 69
abbrev gN:Ky:=d_ 70
abbrev fX:Ky:=d_ 60
abbrev mf:Ky:=d_ 10
abbrev iR:Ky:=d_ 11
abbrev fC:Ky:=d_ 12
abbrev lO:Ky:=d_ 55
abbrev pj:Ky:=d_ 57
abbrev km:Ky:=d_ 56
abbrev lV:Ky:=d_ 58
abbrev jz:Ky:=d_ 59
abbrev ia:Ky:=d_ 43
abbrev nD:Ky:=d_ 61
abbrev iP:Ky:=d_ 84
abbrev kF:Ky:=d_ 86
abbrev jN:Ky:=d_ 87
abbrev yv:Ky:=d_ 88
abbrev wL:Ky:=Cq (d_ 5) 0
theorem yD:ar ["self","step"] ["self","step"] (aj wL):=dZ
theorem sT:bootBuiltins "abs"=some (.builtin "abs"):=by decide +kernel
theorem eK:bootBuiltins "len"=some (.builtin "len"):=by decide +kernel
theorem AC:bootBuiltins "range"=some (.type "range"):=by decide +kernel
theorem dy:bootBuiltins "tuple"=some (.type "tuple"):=by decide +kernel
theorem ve:bootBuiltins "max"=some (.builtin "max"):=by decide +kernel
theorem vI:bootBuiltins "min"=some (.builtin "min"):=by decide +kernel
theorem cS:bootBuiltins "isinstance"=some (.builtin "isinstance"):=by decide +kernel
theorem CO:bootBuiltins "bool"=some (.type "bool"):=by decide +kernel
theorem E5:bootBuiltins "int"=some (.type "int"):=by decide +kernel
theorem sD:bootBuiltins "all"=some (.builtin "all"):=by decide +kernel
theorem EN {y:Int} {A B:Prop} (h1:y≠0->A) (h2:y=0->B):if (!decide (y=0))=true then A else B:=by
 by_cases h:y=0
 ·rw [if_neg (by simp [h])]; exact h2 h
 ·rw [if_pos (by simp [h])]; exact h1 h
theorem aV {p:Prop} [Decidable p] {A B:Prop} (h1:p->A) (h2:¬ p->B):if decide p=true then A else B:=by
 by_cases h:p
 ·rw [if_pos (by simp [h])]; exact h1 h
 ·rw [if_neg (by simp [h])]; exact h2 h
theorem dE {p:Prop} [Decidable p] {A B:Prop} (h1:¬ p->A) (h2:p->B):if (!decide p)=true then A else B:=by
 by_cases h:p
 ·rw [if_neg (by simp [h])]; exact h2 h
 ·rw [if_pos (by simp [h])]; exact h1 h
theorem uY {c:KA} {A B:Prop} (h1:c=true->A) (h2:c=false->B):if c=true then A else B:=by
 cases c
 ·exact GA (h2 rfl)
 ·exact vF (h1 rfl)
theorem dj {c:KA} {A B:Prop} (h1:c=false->A) (h2:c=true->B):if (!c)=true then A else B:=by
 cases c
 ·exact vF (h1 rfl)
 ·exact GA (h2 rfl)
theorem oV {ds:List D} {i:Int} (h0:0<=i) (h1:i < (ds.length:Int)):∃ d,L2.atI ds i=some d/\d∈ds:=by
 obtain⟨n,rfl⟩:=Int.eq_ofNat_of_zero_le h0;have hn:n < ds.length:=by omega
 exact⟨ds[n],f' (by simp [hn]),Kk hn⟩
theorem uz {ok:DH->Prop} {g:DG} {b:DS} {M:lF} {P:D->Prop} (Iv:Lo->DH->Prop) (hok:∀ L S,Iv L S->ok S)
  (hs:∀ d L S N,P d->Iv L S->(∀ L' S',Iv L' S'->N L' S')->g d L S λL1 S1=>b {M with nx:=N,ct:=N,bk:=M.nx} L1 S1) (hd:∀ L S,Iv L S->M.nx L S):∀ r,(∀ d∈r,P d)->∀ L S,Iv L S->iG ok g b M r L S
 | [],_,L,S,i=>⟨hok L S i,hd L S i⟩
 | d::r,hp,L,S,i=>⟨hok L S i,hs d L S _ (hp d JD) i λL' S' i'=>uz Iv hok hs hd r (λe he=>hp e (JE _ he)) L' S' i'⟩
instance {n:Nat} {x:Int}:Decidable (Bt n x):=inferInstanceAs (Decidable (x.natAbs < 2 ^ n))
theorem bZ {ds:List D} (h:Nat.ble ds.length sizeLine=true:=by rfl):ds.length<=sizeLine:=JL h
def tO (S:DH) (a:Kr):Prop:=∃ n b,S a=some (.lst [.int n,.bl b])/\(b=false->0<=n/\n < 2147483647)
def Dr (a:Kr) (S S':DH):Prop:=tO S' a/\∀ b o,b≠a->S b=some o->S' b=some o
theorem Dr.trans {a:Kr} {S S1 S2:DH} (h1:Dr a S S1) (h2:Dr a S1 S2):Dr a S S2:=⟨h2.1,λb o n e=>h2.2 b o n (h1.2 b o n e)⟩
theorem tO.ne {a p:Kr} {S:DH} (h:tO S a) (hp:S p=none):p≠a:=by
 obtain⟨n,b,e,_⟩:=h;intro z;subst z;rw [e] at hp;cases hp
theorem tO.new {a p:Kr} {S:DH} {o:DO} (h:tO S a) (hp:S p=none):tO (put S p o) a:=by
 have z:=h.ne hp;obtain⟨n,b,e,q⟩:=h;exact⟨n,b,by rw [bV (Ne.symm z)]; exact e,q⟩
theorem Dr.new {a p:Kr} {S:DH} {o:DO} (h:tO S a) (hp:S p=none):Dr a S (put S p o):=
 ⟨h.new hp,λb u n e=>by rw [bV (AR e hp)]; exact e⟩
theorem yo {x:Int} (h1:0<=x) (h2:x < 2147483648):Bt 31 x:=by
 unfold Bt;omega
def N (u a b:Rat):D:=.tup [fr a,fr (ss b*u)]
structure Fd (u:Rat):Prop where
 pos:0 < u
 no:kb u
 sz:Sz 6200000 u
structure Sm (n:Nat) (a b:Rat):Prop where
 a:Sz n a
 b:Sz n b
theorem Sm.mono {m n:Nat} {a b:Rat} (h:Sm m a b) (hm:m<=n):Sm n a b:=⟨h.a.mono hm,h.b.mono hm⟩
theorem Sm.add {m n:Nat} {a b c d:Rat} (h:Sm m a b) (h':Sm n c d):Sm (m+n+1) (a+c) (b+d):=⟨h.a.add h'.a,h.b.add h'.b⟩
theorem Sm.sub {m n:Nat} {a b c d:Rat} (h:Sm m a b) (h':Sm n c d):Sm (m+n+1) (a - c) (b - d):=⟨h.a.sub h'.a,h.b.sub h'.b⟩
theorem Fl {q:Rat}:D.tup [.int (-q.num),.int (q.den:Int)]=fr (-q):=by
 show _=D.tup [.int (-q).num,.int ((-q).den:Int)]
 rw [Rat.neg_num,Rat.neg_den]
theorem FM {q:Rat}:D.tup [.int (if q.num < 0 then -q.num else q.num),.int (q.den:Int)]=fr (ab q):=by
 show _=D.tup [.int (ab q).num,.int ((ab q).den:Int)]
 rw [DQ,Ej]
theorem zn {n:Nat} {t b:Int} (h:b≠0) (hb:Bt n b):Bt n ((Int.gcd t b:Nat):Int):=by
 refine hb.le ?_;have h1:Int.gcd t b ∣ b.natAbs:=by
  have:=Int.gcd_dvd_right t b;exact(by have:=Int.natAbs_dvd_natAbs.mpr this; simpa using this)
 have:=Nat.le_of_dvd (by omega) h1
 omega
def c_:cH:=λds S k=>match ds with
 | [.int a,.int b]=>k (.int ((Int.gcd a b:Nat):Int)) S
 | _=>False
theorem dR:ar ["one","other","rest"] ["one","other"] (aj fU):=dZ
theorem mS (Fn:FN K "common_divisor" fU f fd) (lG:mg "abs"=none):
  aQ P w K mg base de 1 f fd ["one","other"] (dw K c_):=by
 refine Fn.okJ dR (λds S k h=>?_) (λcdv A outer s H E hr=>⟨_,(af (lU PassesOwn.never (au AQ (ah 1) aq (aD _)) (af (ak (i:=2) dR.nd (aN mW (ah 0) (ah 1))) (af (ak (i:=0) dR.nd (ah 1)) (ag (ak (i:=1) dR.nd (ah 2)))))) (ag (ai (aJ xg rfl lG sT (aw 0 ac))))),λds S k h=>?_⟩)
 ·unfold c_ at h
  split at h
  ·rfl
  ·exact h.elim
 ·unfold c_ at h
  split at h
  ·rename_i a b
   refine⟨λm L S'=>S'=S/\∃ x y r,L=[some (.int x),some (.int y),r]/\m=y.natAbs/\Int.gcd x y=Int.gcd a b,⟨_,rfl,a,b,_,rfl,rfl,rfl⟩,?_⟩
   rintro m L S' ⟨rfl,x,y,r,rfl,rfl,e⟩;refine EN (λhy=>⟨λL' S''=>∃ m',m' < y.natAbs/\S''=S'/\∃ x y r,L'=[some (.int x),some (.int y),r]/\m'=y.natAbs/\Int.gcd x y=Int.gcd a b,λ_ _ z=>z,hy,?_⟩) (λhy=>?_)
   ·exact⟨_,wR x y hy,rfl,y,x.fmod y,_,rfl,rfl,(uZ x y).trans e⟩
   ·subst hy;have e2:=uk x;rw [e] at e2
    show k (.int (if x < 0 then -x else x)) S'
    rw [<- e2];exact h
  ·exact h.elim
def iF:cH:=λds S k=>match ds with
 | [.int t,.int b]=>b≠0/\Bt 130000000 b/\k (fr (Rat.divInt t b)) S
 | _=>False
theorem nc {S:DH} {k:DK} {t b:Int} {q:Rat} (e:Rat.divInt t b=q) (h0:b≠0) (hb:Bt 130000000 b) (h:k (fr q) S):iF [.int t,.int b] S k:=by subst e; exact⟨h0,hb,h⟩
theorem pP:ar ["top","bottom","shared"] ["top","bottom"] (aj sI):=dZ
theorem zR (Fn:FN K "ratio" sI f fd) (cy:aZ P w K mg base "common_divisor" 1 c_) (hBl:pe mg base) (hTr:P.given.tree=none):
  aQ P w K mg base de 34 f fd ["top","bottom"] (dw K iF):=by
 refine Fn.okJ pP (λds S k h=>?_) (λcdv A outer s H E hr=>⟨_,(af (av (au ej (ah 1) aq (aD _)) (ag dn) aE) (af (ak (i:=2) pP.nd (dq cy hr (aw 0 (aw 1 ac)))) (af (av (au sS (ah 1) aq (aD _)) (ag (ak (i:=2) pP.nd (CS Do (ah 2)))) aE) (ag (ai (aA (aa (aN (lT hr hBl hTr rfl rfl rfl (by decide)) (ah 0) (ah 2)) (aa (aN (lT hr hBl hTr rfl rfl rfl (by decide)) (ah 1) (ah 2)) ac)))))))),λds S k h=>?_⟩)
 ·unfold iF at h
  split at h
  ·rfl
  ·exact h.elim
 ·unfold iF at h
  split at h
  ·rename_i t b
   obtain⟨h0,hb,q⟩:=h;have hg:=zn (t:=t) h0 hb;have hs:=zS (t:=t) h0;have e1:=oW (t:=t) h0;have e2:=m7 (t:=t) h0;have qq:k (.tup [.int (t.fdiv (x9 t b)),.int (b.fdiv (x9 t b))]) S:=by rw [e1,e2]; exact q
   unfold x9 at qq hs
   refine aV (λz=>absurd z h0) (λ_=>aV (λhl=>?_) (λhl=>?_))
   ·rw [if_pos hl] at qq hs
    exact⟨hs,hs,bZ,qq⟩
   ·rw [if_neg hl] at qq hs
    exact⟨hs,hs,bZ,qq⟩
  ·exact h.elim
def jq:cH:=λds S k=>∃ p q:Rat,ds=[fr p,fr q]/\Sz 60000000 p/\Sz 60000000 q/\k (fr (p+q)) S
theorem Cu:ar ["one","other"] ["one","other"] (aj vX):=dZ
theorem Bc (Fn:FN K "plus" vX f fd) (eW:aZ P w K mg base "ratio" 34 iF):
  aQ P w K mg base de 35 f fd ["one","other"] (dw K jq):=by
 refine Fn.okJ Cu (λds S k h=>?_) (λcdv A outer s H E hr=>⟨_,(ag (ai (dq eW hr (aa (aN fL (aN fu (bh 0) (bh 1)) (aN fu (bh 1) (bh 0))) (aa (aN fu (bh 0) (bh 1)) ac))))),λds S k h=>?_⟩)
 ·obtain⟨_,_,rfl,_⟩:=h
  rfl
 ·obtain⟨p,q,rfl,hp,hq,w⟩:=h;exact⟨tQ hp.num hq.den,tQ hq.num hp.den,tQ hp.den hq.den,nc (zz p q) (e_ p q) ((hp.den.mul hq.den).mono (by decide)) w⟩
def jp:cH:=λds S k=>∃ p q:Rat,ds=[fr p,fr q]/\Sz 60000000 p/\Sz 60000000 q/\k (fr (p - q)) S
theorem A3:ar ["one","other"] ["one","other"] (aj tH):=dZ
theorem zI (Fn:FN K "minus" tH f fd) (eW:aZ P w K mg base "ratio" 34 iF):
  aQ P w K mg base de 35 f fd ["one","other"] (dw K jp):=by
 refine Fn.okJ A3 (λds S k h=>?_) (λcdv A outer s H E hr=>⟨_,(ag (ai (dq eW hr (aa (aN pq (aN fu (bh 0) (bh 1)) (aN fu (bh 1) (bh 0))) (aa (aN fu (bh 0) (bh 1)) ac))))),λds S k h=>?_⟩)
 ·obtain⟨_,_,rfl,_⟩:=h
  rfl
 ·obtain⟨p,q,rfl,hp,hq,w⟩:=h;exact⟨tQ hp.num hq.den,tQ hq.num hp.den,tQ hp.den hq.den,nc (Aa p q) (e_ p q) ((hp.den.mul hq.den).mono (by decide)) w⟩
def eu:cH:=λds S k=>∃ p q:Rat,ds=[fr p,fr q]/\Sz 60000000 p/\Sz 60000000 q/\k (fr (p*q)) S
theorem AH:ar ["one","other"] ["one","other"] (aj tm):=dZ
theorem zA (Fn:FN K "times" tm f fd) (eW:aZ P w K mg base "ratio" 34 iF):
  aQ P w K mg base de 35 f fd ["one","other"] (dw K eu):=by
 refine Fn.okJ AH (λds S k h=>?_) (λcdv A outer s H E hr=>⟨_,(ag (ai (dq eW hr (aa (aN fu (bh 0) (bh 1)) (aa (aN fu (bh 0) (bh 1)) ac))))),λds S k h=>?_⟩)
 ·obtain⟨_,_,rfl,_⟩:=h
  rfl
 ·obtain⟨p,q,rfl,hp,hq,w⟩:=h;exact⟨tQ hp.num hq.num,tQ hp.den hq.den,nc (vT p q) (e_ p q) ((hp.den.mul hq.den).mono (by decide)) w⟩
def nV:cH:=λds S k=>∃ p q:Rat,ds=[fr p,fr q]/\q≠0/\Sz 60000000 p/\Sz 60000000 q/\k (fr (p / q)) S
theorem Bp:ar ["one","other"] ["one","other"] (aj wc):=dZ
theorem BP (Fn:FN K "over" wc f fd) (eW:aZ P w K mg base "ratio" 34 iF):
  aQ P w K mg base de 35 f fd ["one","other"] (dw K nV):=by
 refine Fn.okJ Bp (λds S k h=>?_) (λcdv A outer s H E hr=>⟨_,(ag (ai (dq eW hr (aa (aN fu (bh 0) (bh 1)) (aa (aN fu (bh 0) (bh 1)) ac))))),λds S k h=>?_⟩)
 ·obtain⟨_,_,rfl,_⟩:=h
  rfl
 ·obtain⟨p,q,rfl,h0,hp,hq,w⟩:=h;exact⟨tQ hp.num hq.den,tQ hp.den hq.num,nc (AE p q) (Int.mul_ne_zero (tJ p) (vn h0)) ((hp.den.mul hq.num).mono (by decide)) w⟩
def ff:cH:=λds S k=>∃ q:Rat,ds=[fr q]/\k (fr (-q)) S
theorem t6:ar ["one"] ["one"] (aj l8):=dZ
theorem uq (Fn:FN K "negative" l8 f fd):
  aQ P w K mg base de 1 f fd ["one"] (dw K ff):=by
 refine Fn.okJ t6 (λds S k h=>?_) (λcdv A outer s H E hr=>⟨_,(ag (ai (aA (aa (CS Do (bh 0)) (aa (bh 0) ac))))),λds S k h=>?_⟩)
 ·obtain⟨_,rfl,_⟩:=h
  rfl
 ·obtain⟨q,rfl,w⟩:=h;rw [<- Fl] at w;exact⟨bZ,w⟩
def dW:cH:=λds S k=>∃ q:Rat,ds=[fr q]/\k (fr (ab q)) S
theorem oP:ar ["one"] ["one"] (aj g6):=dZ
theorem oG (Fn:FN K "without_sign" g6 f fd) (lG:mg "abs"=none):
  aQ P w K mg base de 1 f fd ["one"] (dw K dW):=by
 refine Fn.okJ oP (λds S k h=>?_) (λcdv A outer s H E hr=>⟨_,(ag (ai (aA (aa (aJ xg rfl lG sT (aa (bh 0) ac)) (aa (bh 0) ac))))),λds S k h=>?_⟩)
 ·obtain⟨_,rfl,_⟩:=h
  rfl
 ·obtain⟨q,rfl,w⟩:=h;rw [<- FM] at w;exact⟨bZ,w⟩
set_option maxHeartbeats 4000000
structure Gu (n g:Int):Prop where
 pos:0 < g
 ge:j9 n<=g
theorem Gu.next {n g:Int} (h0:1<=n) (h:Gu n g) (hl:(g+n.fdiv g).fdiv 2 < g):Gu n ((g+n.fdiv g).fdiv 2):=by
 have rt:=ko (n:=n) (by omega)
 have r1:1<=j9 n:=rt.le_of (by omega)
 rw [qT _ (by decide),qT _ h.pos] at hl ⊢
 have h1:=xu h.pos rt.nn rt.le;exact⟨by omega,h1⟩
theorem Gu.last {n g:Int} (h0:1<=n) (h:Gu n g) (hl:¬ (g+n.fdiv g).fdiv 2 < g):g=j9 n:=by
 have rt:=ko (n:=n) (by omega)
 rw [qT _ (by decide),qT _ h.pos] at hl
 have h1:=h.ge;rcases Int.lt_or_le (j9 n) g with h2 | h2
 ·exact absurd (xU (by omega) rt h2) hl
 ·omega
theorem Gu.first {n:Int} {b:Nat} (h0:1<=n) (hn:n.natAbs < 2 ^ b):Gu n ((1:Int)*2 ^ ((((b:Nat):Int)+1).fdiv 2).toNat):=by
 have e:((((b:Nat):Int)+1).fdiv 2).toNat=(b+1) / 2:=by rw [qT _ (by decide)]; omega
 rw [e,Int.one_mul];have hp:(0:Int) < 2 ^ ((b+1) / 2):=Int.pow_pos (by decide)
 have rt:=ko (n:=n) (by omega)
 refine⟨hp,?_⟩;apply Int.not_lt.mp;intro hl;have h1:=mJ (Int.le_of_lt hp) (Int.le_of_lt hl);have h2:=rt.le;have h3:(2:Int) ^ ((b+1) / 2)*2 ^ ((b+1) / 2)=2 ^ ((b+1) / 2+(b+1) / 2):=(Int.pow_add _ _ _).symm;have h4:2 ^ b<=2 ^ ((b+1) / 2+(b+1) / 2):=p0 (by omega)
 have h5:((2 ^ ((b+1) / 2+(b+1) / 2):Nat):Int)=(2:Int) ^ ((b+1) / 2+(b+1) / 2):=by rw [Int.natCast_pow]; rfl
 have h6:((2 ^ b:Nat):Int)<=((2 ^ ((b+1) / 2+(b+1) / 2):Nat):Int):=Int.ofNat_le.mpr h4;have h7:(n.natAbs:Int) < ((2 ^ b:Nat):Int):=Int.ofNat_lt.mpr hn;rw [h3] at h1;rw [h5] at h6;omega
def mL:cH:=λds S k=>∃ n:Int,ds=[.int n]/\0<=n/\Bt 34000000 n/\k (.int (j9 n)) S
theorem eO:ar ["number","guess","better"] ["number"] (aj je):=dZ
theorem qA (Fn:FN K "whole_root" je f fd) (hBl:pe mg base) (hTr:P.given.tree=none):
  aQ P w K mg base de 34 f fd ["number"] (dw K mL):=by
 refine Fn.okJ eO (λds S k h=>?_) (λcdv A outer s H E hr=>⟨_,(af (av (au ej (ah 0) aq (aD _)) (ag (ai aq)) aE) (af (ak (i:=1) eO.nd (aN DX aq (aN (lT hr hBl hTr rfl rfl rfl (by decide)) (aN fL (B_ (ah 0)) aq) aq))) (af (ak (i:=2) eO.nd (aN (lT hr hBl hTr rfl rfl rfl (by decide)) (aN fL (ah 1) (aN (lT hr hBl hTr rfl rfl rfl (by decide)) (ah 0) (ah 1))) aq)) (af (lU PassesOwn.never (au sS (ah 2) (ah 1) (aD _)) (af (ak (i:=1) eO.nd (ah 2)) (ag (ak (i:=2) eO.nd (aN (lT hr hBl hTr rfl rfl rfl (by decide)) (aN fL (ah 1) (aN (lT hr hBl hTr rfl rfl rfl (by decide)) (ah 0) (ah 1))) aq))))) (ag (ai (ah 1))))))),λds S k h=>?_⟩)
 ·obtain⟨_,rfl,_⟩:=h
  rfl
 ·obtain⟨n,rfl,h0,hb,q⟩:=h;refine aV (λe=>?_) (λe=>?_)
  ·subst e;rw [Aw] at q;exact q
  ·have hbits:Builtin.Int.intBits n<=34000000:=intBits_le_iff.mpr hb;have h1:1<=n:=by omega
   have hn:n.natAbs < 2 ^ Builtin.Int.intBits n:=intBits_le_iff.mp (Jw _);have G:=Gu.first h1 hn;have hc:BD 1 ((((Builtin.Int.intBits n:Nat):Int)+1).fdiv 2):=by
    have e2:=qT (((Builtin.Int.intBits n:Nat):Int)+1) (b:=2) (by decide)
    exact⟨by rw [e2]; omega,by rw [e2]; show(1:Int)+_<=134217728; omega⟩
   have two:(2:Int)≠0:=by decide
   have dv:∀ g:Int,Gu n g->g≠0:=λg G=>by have:=G.pos; omega
   refine⟨two,hc,dv _ G,two,λm L S'=>S'=S/\∃ g,L=[some (.int n),some (.int g),some (.int ((g+n.fdiv g).fdiv 2))]/\m=g.toNat/\Gu n g,⟨_,rfl,_,rfl,rfl,G⟩,?_⟩
   rintro m L S' ⟨rfl,g,rfl,rfl,G⟩;refine aV (λhl=>⟨λL' S''=>∃ m',m' < g.toNat/\S''=S'/\∃ g,L'=[some (.int n),some (.int g),some (.int ((g+n.fdiv g).fdiv 2))]/\m'=g.toNat/\Gu n g,λ_ _ z=>z,dv _ (G.next h1 hl),two,?_⟩) (λhl=>?_)
   ·have G2:=G.next h1 hl;exact⟨_,by have:=G2.pos; have:=G.pos; omega,rfl,_,rfl,rfl,G2⟩
   ·rw [<- G.last h1 hl] at q;exact q
def Dn (n:Int):D:=if j9 n*j9 n=n then .int (j9 n) else .non
def fM:cH:=λds S k=>∃ n:Int,ds=[.int n]/\0<=n/\Bt 34000000 n/\k (Dn n) S
theorem fA:ar ["number","root"] ["number"] (aj dO):=dZ
theorem jl (Fn:FN K "square_root_or_none" dO f fd) (jR:aZ P w K mg base "whole_root" 34 mL):
  aQ P w K mg base de 35 f fd ["number"] (dw K fM):=by
 refine Fn.okJ fA (λds S k h=>?_) (λcdv A outer s H E hr=>⟨_,(af (ak (i:=1) fA.nd (dq jR hr (aw 0 ac))) (ag (ai (uy (au ej (aN fu (ah 1) (ah 1)) (ah 0) (aD _)) (ah 1) dN)))),λds S k h=>?_⟩)
 ·obtain⟨_,rfl,_⟩:=h
  rfl
 ·obtain⟨n,rfl,h0,hb,q⟩:=h;have b2:=E9 h0 hb;refine⟨n,rfl,h0,hb,tQ b2 b2,aV (λe=>?_) (λe=>?_)⟩
  ·rw [Dn,if_pos e] at q;exact q
  ·rw [Dn,if_neg e] at q;exact q
def lj:cH:=λds S k=>∃ q:Rat,ds=[fr q]/\0<=q/\Sz 34000000 q/\(∀ r,0<=r->r*r=q->k (fr r) S)/\(kb q->k .non S)
theorem lZ:ar ["one","top","bottom"] ["one"] (aj nL):=dZ
theorem we (Fn:FN K "root_in" nL f fd) (cF:aZ P w K mg base "square_root_or_none" 35 fM):
  aQ P w K mg base de 36 f fd ["one"] (dw K lj):=by
 refine Fn.okJ lZ (λds S k h=>?_) (λcdv A outer s H E hr=>⟨_,(af (ak (i:=1) lZ.nd (dq cF hr (aa (bh 0) ac))) (af (av (au Ag (ah 1) dN (aD _)) (ag (ai dN)) aE) (af (ak (i:=2) lZ.nd (dq cF hr (aa (bh 0) ac))) (af (av (au Ag (ah 2) dN (aD _)) (ag (ai dN)) aE) (ag (ai (aA (aw 1 (aw 2 ac))))))))),λds S k h=>?_⟩)
 ·obtain⟨_,rfl,_⟩:=h
  rfl
 ·obtain⟨q,rfl,h0,hs,h1,h2⟩:=h;have n0:=vf h0
  by_cases e:j9 q.num*j9 q.num=q.num
  ·by_cases e2:j9 (q.den:Int)*j9 (q.den:Int)=(q.den:Int)
   ·obtain⟨r,r0,rr⟩:=vM h0 e e2;obtain⟨e3,e4⟩:=mh r0 rr;have w:=h1 r r0 rr;refine⟨q.num,rfl,n0,hs.num,?_⟩;rw [show Dn q.num=.int (j9 q.num) from if_pos e]
    refine⟨(q.den:Int),rfl,by omega,hs.den,?_⟩
    rw [show Dn (q.den:Int)=.int (j9 (q.den:Int)) from if_pos e2,e3,e4]
    exact⟨bZ,w⟩
   ·refine⟨q.num,rfl,n0,hs.num,?_⟩;rw [show Dn q.num=.int (j9 q.num) from if_pos e]
    refine⟨(q.den:Int),rfl,by omega,hs.den,?_⟩
    rw [show Dn (q.den:Int)=.non from if_neg e2]
    refine h2 λr rr=>e2 ?_
    have:=congrArg (λz:Rat=>(z.den:Int)) rr
    simp only [sr,Int.natCast_mul] at this;exact y_ this
  ·refine⟨q.num,rfl,n0,hs.num,?_⟩;rw [show Dn q.num=.non from if_neg e]
   refine h2 λr rr=>e ?_
   have:=congrArg Rat.num rr;rw [pO] at this;exact y_ this
def fg:cH:=λds S k=>∃ x q,ds=[.tup [x,fr q]]/\k (.bl (decide (q=0))) S
theorem uw:ar ["one"] ["one"] (aj l_):=dZ
theorem uI (Fn:FN K "is_plain" l_ f fd):
  aQ P w K mg base de 1 f fd ["one"] (dw K fg):=by
 refine Fn.okJ uw (λds S k h=>?_) (λcdv A outer s H E hr=>⟨_,(ag (ai (kM ej (bb fB (bh 0) aq Zf) aq (aD _)))),λds S k h=>?_⟩)
 ·obtain⟨_,_,rfl,_⟩:=h
  rfl
 ·obtain⟨x,q,rfl,w⟩:=h;have e:decide (q.num=0)=decide (q=0):=by
   by_cases h0:q=0
   ·subst h0; rfl
   ·rw [Ke h0,Ke (vn h0)]
  rw [<- e] at w;exact w
def dS:cH:=λds S k=>∃ p q:Rat,ds=[fr p,fr q]/\k (fr (sg p q)) S
theorem oE:ar ["one","other"] ["one","other"] (aj il):=dZ
theorem ow (Fn:FN K "with_sign_of" il f fd) (a8:aZ P w K mg base "negative" 1 ff):
  aQ P w K mg base de 2 f fd ["one","other"] (dw K dS):=by
 refine Fn.okJ oE (λds S k h=>?_) (λcdv A outer s H E hr=>⟨_,(ag (ai (uy (au sS (bh 1) aq (aD _)) (dq a8 hr (aw 0 ac)) (ah 0)))),λds S k h=>?_⟩)
 ·obtain⟨_,_,rfl,_⟩:=h
  rfl
 ·obtain⟨p,q,rfl,w⟩:=h;unfold sg at w;refine aV (λhn=>?_) (λhn=>?_)
  ·rw [if_pos ((fo q).mp hn)] at w;exact⟨p,rfl,w⟩
  ·rw [if_neg (λz=>hn ((fo q).mpr z))] at w
   exact w
set_option maxHeartbeats 4000000
theorem qQ (n:Nat):n<=n*n:=by
 rcases Nat.eq_zero_or_pos n with h | h
 ·subst h; decide
 ·exact Nat.le_mul_of_pos_left n h
theorem _root_.HM.Sz.root {n:Nat} {q r:Rat} (h:Sz n q) (e:r*r=q):Sz n r:=by
 subst e;refine⟨h.num.le ?_,h.den.le ?_⟩
 ·rw [pO,Int.natAbs_mul];exact qQ _
 ·rw [sr];have:=qQ r.den;omega
open Classical in
noncomputable def A6 (p q:Rat):D:=if h:∃ r,0<=r/\r*r=ab q then .tup [fr (p+sg h.choose q),fr 0] else .tup [fr p,fr q]
theorem rz {r r' q:Rat} (h0:0<=r) (h1:0<=r') (e:r*r=q) (e':r'*r'=q):r=r':=by
 obtain⟨a1,a2⟩:=mh h0 e;obtain⟨b1,b2⟩:=mh h1 e';refine Rat.ext (a1.symm.trans b1) ?_;have:=a2.symm.trans b2;omega
theorem pX {p q r:Rat} (r0:0<=r) (rr:r*r=ab q):A6 p q=.tup [fr (p+sg r q),fr 0]:=by
 have h:∃ r,0<=r/\r*r=ab q:=⟨r,r0,rr⟩;unfold A6;rw [dif_pos h,rz h.choose_spec.1 r0 h.choose_spec.2 rr]
theorem yM {p q:Rat} (no:kb (ab q)):A6 p q=.tup [fr p,fr q]:=by
 unfold A6;rw [dif_neg λz9=>by obtain⟨r,_,e⟩:=z9; exact no r e]
theorem zw {p:Rat}:A6 p 0=.tup [fr p,fr 0]:=by
 rw [pX (r:=0) (by decide) (by unfold ab; grind),show p+sg 0 0=p by unfold sg; grind]
def AG:cH:=λds S k=>∃ p q:Rat,ds=[fr p,fr q]/\Sz 800000 p/\Sz 800000 q/\k (A6 p q) S
theorem wT:ar ["part","under","root"] ["part","under"] (aj wd):=dZ
theorem CD (Fn:FN K "made" wd f fd) (eB:aZ P w K mg base "root_in" 36 lj) (a_:aZ P w K mg base "without_sign" 1 dW) (bL:aZ P w K mg base "plus" 35 jq) (bf:aZ P w K mg base "with_sign_of" 2 dS) (a9:mq K mg "NOUGHT" [0,1]):
  aQ P w K mg base de 37 f fd ["part","under"] (dw K AG):=by
 refine Fn.okJ wT (λds S k h=>?_) (λcdv A outer s H E hr=>⟨_,(af (ak (i:=2) wT.nd (dq eB hr (aa (dq a_ hr (aw 1 ac)) ac))) (af (av (au Ag (ah 2) dN (aD _)) (ag (ai (aA (aw 0 (aw 1 ac))))) aE) (ag (ai (aA (aa (dq bL hr (aw 0 (aa (dq bf hr (aw 2 (aw 1 ac))) ac))) (aa (eJ a9 rfl) ac))))))),λds S k h=>?_⟩)
 ·obtain⟨_,_,rfl,_⟩:=h
  rfl
 ·obtain⟨p,q,rfl,hp,hq,w⟩:=h;refine⟨q,rfl,ab q,rfl,mT q,hq.ab.mono (by decide),λr r0 rr=>?_,λno=>⟨bZ,?_⟩⟩
  ·rw [pX r0 rr] at w;exact⟨r,q,rfl,p,sg r q,rfl,hp.mono (by decide),((hq.ab.root rr).sg).mono (by decide),bZ,w⟩
  ·rw [yM no] at w;exact w
def jS:cH:=λds S k=>∃ u a b c d:Rat,ds=[N u a b,N u c d]/\0 < u/\k (fr (pick b d*pick b d*u)) S
theorem qE:ar ["one","other"] ["one","other"] (aj jP):=dZ
theorem qJ (Fn:FN K "field_base" jP f fd) (a_:aZ P w K mg base "without_sign" 1 dW) (ba:aZ P w K mg base "is_plain" 1 fg):
  aQ P w K mg base de 2 f fd ["one","other"] (dw K jS):=by
 refine Fn.okJ qE (λds S k h=>?_) (λcdv A outer s H E hr=>⟨_,(ag (ai (dq a_ hr (aa (uy (bz (dq ba hr (aw 0 ac))) (bh 1) (bh 0)) ac)))),λds S k h=>?_⟩)
 ·obtain⟨_,_,_,_,_,rfl,_⟩:=h
  rfl
 ·obtain⟨u,a,b,c,d,rfl,u0,w⟩:=h;refine⟨fr a,ss b*u,rfl,aV (λe=>⟨_,rfl,?_⟩) (λe=>⟨_,rfl,?_⟩)⟩
  ·have e2:b=0:=(ls u0).mp e;rw [show pick b d=d from if_pos e2] at w
   rw [rQ u0];exact w
  ·have e2:¬ b=0:=λz=>e ((ls u0).mpr z)
   rw [show pick b d=b from if_neg e2] at w
   rw [rQ u0];exact w
def rZ:cH:=λds S k=>∃ u a b e:Rat,ds=[N u a b,fr (e*e*u)]/\0 < u/\(b=0\/e≠0)/\Sm 5000000 b e/\Sz 6200000 u/\k (fr (b / ab e)) S
theorem ud:ar ["one","base","root"] ["one","base"] (aj tE):=dZ
theorem yB (Fn:FN K "share" tE f fd) (ba:aZ P w K mg base "is_plain" 1 fg) (eB:aZ P w K mg base "root_in" 36 lj) (dM:aZ P w K mg base "over" 35 nV) (a_:aZ P w K mg base "without_sign" 1 dW) (bf:aZ P w K mg base "with_sign_of" 2 dS) (a9:mq K mg "NOUGHT" [0,1]):
  aQ P w K mg base de 37 f fd ["one","base"] (dw K rZ):=by
 refine Fn.okJ ud (λds S k h=>?_) (λcdv A outer s H E hr=>⟨_,(af (av (bz (dq ba hr (aw 0 ac))) (ag (ai (eJ a9 rfl))) aE) (af (ak (i:=2) ud.nd (dq eB hr (aa (dq dM hr (aa (dq a_ hr (aa (bh 0) ac)) (aw 1 ac))) ac))) (af (av (au Ag (ah 2) dN (aD _)) (ag dn) aE) (ag (ai (dq bf hr (aw 2 (aa (bh 0) ac)))))))),λds S k h=>?_⟩)
 ·obtain⟨_,_,_,_,rfl,_⟩:=h
  rfl
 ·obtain⟨u,a,b,e,rfl,u0,hbe,hs,hu,w⟩:=h;refine⟨fr a,ss b*u,rfl,aV (λz=>?_) (λz=>?_)⟩
  ·have e2:b=0:=(ls u0).mp z;subst e2;rw [show (0:Rat) / ab e=0 by grind] at w
   exact w
  ·have e2:¬ b=0:=λq=>z ((ls u0).mpr q)
   have e0:e≠0:=hbe.resolve_left e2;have ne:e*e*u≠0:=by grind
   have ea:ab (ss b*u)=b*b*u:=rQ u0;have s1:Sz 16200000 (ab (ss b*u)):=(hs.a.ss.mul hu).ab;have s2:Sz 16200000 (e*e*u):=(hs.b.mul hs.b).mul hu;have nn:0<=ab (ss b*u) / (e*e*u):=kP (mT _) (JQ (cW e) (Rat.le_of_lt u0));refine⟨_,rfl,ab (ss b*u),e*e*u,rfl,ne,s1.mono (by decide),s2.mono (by decide),_,rfl,nn,(s1.div s2 ne).mono (by decide),λr r0 rr=>?_,λno=>?_⟩
   ·rw [ea] at rr;have er:=vd u0 e0 r0 rr;subst er;refine⟨_,ss b*u,rfl,?_⟩;rw [AK u0];exact w
   ·rw [ea] at no;exact absurd (Af u0 e0) (no _)
def qf:cH:=λds S k=>∃ a p c:Rat,ds=[fr a,fr p,fr c]/\Sz 24000000 p/\Sz 17000000 c/\k (.tup [fr a,fr (ss p*c)]) S
theorem qV:ar ["part","portion","base","under"] ["part","portion","base"] (aj p9):=dZ
theorem yn (Fn:FN K "joined" p9 f fd) (aK:aZ P w K mg base "times" 35 eu) (bf:aZ P w K mg base "with_sign_of" 2 dS):
  aQ P w K mg base de 36 f fd ["part","portion","base"] (dw K qf):=by
 refine Fn.okJ qV (λds S k h=>?_) (λcdv A outer s H E hr=>⟨_,(af (ak (i:=3) qV.nd (dq aK hr (aa (dq aK hr (aw 1 (aw 1 ac))) (aw 2 ac)))) (ag (ai (aA (aw 0 (aa (dq bf hr (aw 3 (aw 1 ac))) ac)))))),λds S k h=>?_⟩)
 ·obtain⟨_,_,_,rfl,_⟩:=h
  rfl
 ·obtain⟨a,p,c,rfl,hp,hc,w⟩:=h;refine⟨p,p,rfl,hp.mono (by decide),hp.mono (by decide),p*p,c,rfl,(hp.mul hp).mono (by decide),hc.mono (by decide),p*p*c,p,rfl,bZ,?_⟩
  rw [Av];exact w
def j4:cH:=λds S k=>∃ u a b:Rat,ds=[N u a b]/\k (N u (-a) (-b)) S
theorem nu:ar ["one"] ["one"] (aj gs):=dZ
theorem nJ (Fn:FN K "root_negative" gs f fd) (a8:aZ P w K mg base "negative" 1 ff):
  aQ P w K mg base de 2 f fd ["one"] (dw K j4):=by
 refine Fn.okJ nu (λds S k h=>?_) (λcdv A outer s H E hr=>⟨_,(ag (ai (aA (aa (dq a8 hr (aa (bh 0) ac)) (aa (dq a8 hr (aa (bh 0) ac)) ac))))),λds S k h=>?_⟩)
 ·obtain⟨_,_,_,rfl,_⟩:=h
  rfl
 ·obtain⟨u,a,b,rfl,w⟩:=h;refine⟨a,rfl,ss b*u,rfl,bZ,?_⟩;unfold N at w;rw [qX,show -ss b*u=-(ss b*u) by grind] at w
  exact w
def bs (u b d:Rat):Rat:=pick b d*pick b d*u
theorem Df {u b d:Rat} (hu:Fd u) (hb:Sz 5000000 b) (hd:Sz 5000000 d):Sz 16200000 (bs u b d):=((hb.pick hd).mul (hb.pick hd)).mul hu.sz
theorem Dg {b d e:Rat} (hb:Sz 5000000 b) (he:Sz 5000000 e):Sz 10000100 (b / ab e):=(hb.div' he.ab).mono (by decide)
structure Sn (a b:Rat):Prop where
 a:Sz 12000000 a
 b:Sz 5000000 b
theorem Sn.neg {a b:Rat} (h:Sn a b):Sn (-a) (-b):=⟨h.a.neg,h.b.neg⟩
theorem Sm.sn {n:Nat} {a b:Rat} (h:Sm n a b) (hn:n<=5000000):Sn a b:=⟨h.a.mono (by omega),h.b.mono hn⟩
def gp:cH:=λds S k=>∃ u a b c d:Rat,ds=[N u a b,N u c d]/\Fd u/\Sn a b/\Sn c d/\k (N u (a+c) (b+d)) S
theorem jA:ar ["one","other","base","portion"] ["one","other"] (aj kq):=dZ
theorem s_ (Fn:FN K "root_plus" kq f fd) (eA:aZ P w K mg base "field_base" 2 jS) (bL:aZ P w K mg base "plus" 35 jq) (iK:aZ P w K mg base "share" 37 rZ) (i5:aZ P w K mg base "joined" 36 qf):
  aQ P w K mg base de 38 f fd ["one","other"] (dw K gp):=by
 refine Fn.okJ jA (λds S k h=>?_) (λcdv A outer s H E hr=>⟨_,(af (ak (i:=2) jA.nd (dq eA hr (aw 0 (aw 1 ac)))) (af (ak (i:=3) jA.nd (dq bL hr (aa (dq iK hr (aw 0 (aw 2 ac))) (aa (dq iK hr (aw 1 (aw 2 ac))) ac)))) (ag (ai (dq i5 hr (aa (dq bL hr (aa (bh 0) (aa (bh 1) ac))) (aw 3 (aw 2 ac)))))))),λds S k h=>?_⟩)
 ·obtain⟨_,_,_,_,_,rfl,_⟩:=h
  rfl
 ·obtain⟨u,a,b,c,d,rfl,hu,h1,h2,w⟩:=h;have hp:=h1.b.pick h2.b;have s1:=Dg (d:=d) h1.b hp;have s2:=Dg (d:=d) h2.b hp;refine⟨u,a,b,c,d,rfl,hu.pos,u,a,b,pick b d,rfl,hu.pos,y7,⟨h1.b,hp⟩,hu.sz,u,c,d,pick b d,rfl,hu.pos,Ao,⟨h2.b,hp⟩,hu.sz,_,_,rfl,s1.mono (by decide),s2.mono (by decide),?_⟩
  refine⟨a,c,rfl,h1.a.mono (by decide),h2.a.mono (by decide),_,_,_,rfl,(s1.add s2).mono (by decide),(Df hu h1.b h2.b).mono (by decide),?_⟩
  rw [yp];exact w
def gS:cH:=λds S k=>∃ u a b c d:Rat,ds=[N u a b,N u c d]/\Fd u/\Sn a b/\Sn c d/\k (N u (a - c) (b - d)) S
theorem ql:ar ["one","other"] ["one","other"] (aj jm):=dZ
theorem qy (Fn:FN K "root_minus" jm f fd) (bg:aZ P w K mg base "root_plus" 38 gp) (gC:aZ P w K mg base "root_negative" 2 j4):
  aQ P w K mg base de 39 f fd ["one","other"] (dw K gS):=by
 refine Fn.okJ ql (λds S k h=>?_) (λcdv A outer s H E hr=>⟨_,(ag (ai (dq bg hr (aw 0 (aa (dq gC hr (aw 1 ac)) ac))))),λds S k h=>?_⟩)
 ·obtain⟨_,_,_,_,_,rfl,_⟩:=h
  rfl
 ·obtain⟨u,a,b,c,d,rfl,hu,h1,h2,w⟩:=h;refine⟨u,c,d,rfl,u,a,b,-c,-d,rfl,hu,h1,h2.neg,?_⟩;rw [show a - c=a+-c by grind,show b - d=b+-d by grind] at w
  exact w
def gH:cH:=λds S k=>∃ u a b c d:Rat,ds=[N u a b,N u c d]/\Fd u/\Sm 1200000 a b/\Sm 1200000 c d/\k (N u (a*c+b*d*u) (a*d+b*c)) S
theorem dJ:ar ["one","other","base","mine","theirs","part","portion"] ["one","other"] (aj jM):=dZ
theorem qN (Fn:FN K "root_times" jM f fd) (eA:aZ P w K mg base "field_base" 2 jS) (iK:aZ P w K mg base "share" 37 rZ) (bL:aZ P w K mg base "plus" 35 jq) (aK:aZ P w K mg base "times" 35 eu) (i5:aZ P w K mg base "joined" 36 qf):
  aQ P w K mg base de 38 f fd ["one","other"] (dw K gH):=by
 refine Fn.okJ dJ (λds S k h=>?_) (λcdv A outer s H E hr=>⟨_,(af (ak (i:=2) dJ.nd (dq eA hr (aw 0 (aw 1 ac)))) (af (ak (i:=3) dJ.nd (dq iK hr (aw 0 (aw 2 ac)))) (af (ak (i:=4) dJ.nd (dq iK hr (aw 1 (aw 2 ac)))) (af (ak (i:=5) dJ.nd (dq bL hr (aa (dq aK hr (aa (bh 0) (aa (bh 1) ac))) (aa (dq aK hr (aa (dq aK hr (aw 3 (aw 4 ac))) (aw 2 ac))) ac)))) (af (ak (i:=6) dJ.nd (dq bL hr (aa (dq aK hr (aa (bh 0) (aw 4 ac))) (aa (dq aK hr (aa (bh 1) (aw 3 ac))) ac)))) (ag (ai (dq i5 hr (aw 5 (aw 6 (aw 2 ac))))))))))),λds S k h=>?_⟩)
 ·obtain⟨_,_,_,_,_,rfl,_⟩:=h
  rfl
 ·obtain⟨u,a,b,c,d,rfl,hu,h1,h2,w⟩:=h;have b1:=h1.b.mono (n:=5000000) (by decide)
  have b2:=h2.b.mono (n:=5000000) (by decide)
  have hp0:=h1.b.pick h2.b;have hp:=b1.pick b2;have s1:Sz 2400001 (b / ab (pick b d)):=h1.b.div' hp0.ab;have s2:Sz 2400001 (d / ab (pick b d)):=h2.b.div' hp0.ab;have s3:=Df hu b1 b2;refine⟨u,a,b,c,d,rfl,hu.pos,u,a,b,pick b d,rfl,hu.pos,y7,⟨b1,hp⟩,hu.sz,u,c,d,pick b d,rfl,hu.pos,Ao,⟨b2,hp⟩,hu.sz,?_⟩;refine⟨a,c,rfl,h1.a.mono (by decide),h2.a.mono (by decide),_,_,rfl,s1.mono (by decide),s2.mono (by decide),_,_,rfl,(s1.mul s2).mono (by decide),s3.mono (by decide),_,_,rfl,(h1.a.mul h2.a).mono (by decide),((s1.mul s2).mul s3).mono (by decide),?_⟩
  refine⟨a,_,rfl,h1.a.mono (by decide),s2.mono (by decide),c,_,rfl,h2.a.mono (by decide),s1.mono (by decide),_,_,rfl,(h1.a.mul s2).mono (by decide),(h2.a.mul s1).mono (by decide),?_⟩
  refine⟨_,_,_,rfl,((h1.a.mul s2).add (h2.a.mul s1)).mono (by decide),s3.mono (by decide),?_⟩
  rw [vq,vL];exact w
set_option maxHeartbeats 4000000
def b8 (S S':DH):Prop:=∀ b o,S b=some o->S' b=some o
theorem b8.refl (S:DH):b8 S S:=λ_ _ h=>h
theorem b8.trans {S S1 S2:DH} (a:b8 S S1) (b:b8 S1 S2):b8 S S2:=λc o h=>b c o (a c o h)
theorem b8.new {S:DH} {p:Kr} {o:DO} (h:S p=none):b8 S (put S p o):=λb u e=>by
 unfold put
 split
 ·rename_i z; subst z; rw [h] at e; cases e
 ·exact e
theorem b8.put {S S1:DH} {p:Kr} {o:DO} (e:b8 S S1) (h:S p=none):b8 S (put S1 p o):=λb u z=>by
 unfold DL.put
 split
 ·rename_i y; subst y; rw [h] at z; cases z
 ·exact e b u z
theorem b8.none {S S1:DH} {p:Kr} (e:b8 S S1) (h:S1 p=none):S p=none:=by
 cases q:S p with
 | none=>rfl
 | some o=>rw [e p o q] at h; cases h
theorem hJ {u r:Rat}:D.tup [fr r,fr 0]=N u r 0:=by
 unfold N;rw [show ss 0*u=0 by unfold ss; grind]
abbrev Q:=Rat×Rat
def qa (x y:Q):Q:=(x.1+y.1,x.2+y.2)
def qs (x y:Q):Q:=(x.1 - y.1,x.2 - y.2)
def qm (u:Rat) (x y:Q):Q:=(x.1*y.1+x.2*y.2*u,x.1*y.2+x.2*y.1)
abbrev Sq (n:Nat) (x:Q):Prop:=Sm n x.1 x.2
theorem I0 {m n:Nat} {x y:Q} (h:Sq m x) (h':Sq n y):Sq (m+n+1) (qa x y):=h.add h'
theorem Fc {m n:Nat} {x y:Q} (h:Sq m x) (h':Sq n y):Sq (m+n+1) (qs x y):=h.sub h'
def Pq (u:Rat) (x y:Q):D:=.tup [N u x.1 x.2,N u y.1 y.2]
def qo (p:Rat):Q:=(p,0)
theorem FV {n:Nat} {p:Rat} (h:Sz n p) (hn:1<=n):Sq n (qo p):=⟨h,Sz.zero.mono hn⟩
def bJ (u:Rat) (x y:Q):Q:=qa (qm u x x) (qm u y y)
def j6 (u:Rat) (x y z w p q:Q):Q:=qa x (qs (qm u p (qs z x)) (qm u q (qs w y)))
def j_ (u:Rat) (x y z w p q:Q):Q:=qa y (qa (qm u p (qs w y)) (qm u q (qs z x)))
def wX (u:Rat) (x y z w a b:Q):Q:=qs (qm u (qs z x) (qs b y)) (qm u (qs w y) (qs a x))
def dH:cH:=λds S k=>∃ (u:Rat) (x y z v:Q),ds=[Pq u x y,Pq u z v]/\Fd u/\Sq 600000 x/\Sq 600000 y/\Sq 600000 z/\Sq 600000 v/\k (Pq u (qs z x) (qs v y)) S
theorem p8:ar ["one","other"] ["one","other"] (aj iL):=dZ
theorem p5 (Fn:FN K "way_between" iL f fd) (cf:aZ P w K mg base "root_minus" 39 gS):
  aQ P w K mg base de 40 f fd ["one","other"] (dw K dH):=by
 refine Fn.okJ p8 (λds S k h=>?_) (λcdv A outer s H E hr=>⟨_,(ag (ai (aA (aa (dq cf hr (aa (bh 1) (aa (bh 0) ac))) (aa (dq cf hr (aa (bh 1) (aa (bh 0) ac))) ac))))),λds S k h=>?_⟩)
 ·obtain⟨_,_,_,_,_,rfl,_⟩:=h
  rfl
 ·obtain⟨u,x,y,z,v,rfl,hu,hx,hy,hz,hv,w⟩:=h;exact⟨u,_,_,_,_,rfl,hu,hz.sn (by decide),hx.sn (by decide),u,_,_,_,_,rfl,hu,hv.sn (by decide),hy.sn (by decide),bZ,w⟩
def eY:cH:=λds S k=>∃ (u:Rat) (x y:Q),ds=[Pq u x y]/\Fd u/\Sq 1200000 x/\Sq 1200000 y/\k (N u (bJ u x y).1 (bJ u x y).2) S
theorem nk:ar ["way"] ["way"] (aj gr):=dZ
theorem nE (Fn:FN K "square_of_way" gr f fd) (bg:aZ P w K mg base "root_plus" 38 gp) (aX:aZ P w K mg base "root_times" 38 gH):
  aQ P w K mg base de 39 f fd ["way"] (dw K eY):=by
 refine Fn.okJ nk (λds S k h=>?_) (λcdv A outer s H E hr=>⟨_,(ag (ai (dq bg hr (aa (dq aX hr (aa (bh 0) (aa (bh 0) ac))) (aa (dq aX hr (aa (bh 0) (aa (bh 0) ac))) ac))))),λds S k h=>?_⟩)
 ·obtain⟨_,_,_,rfl,_⟩:=h
  rfl
 ·obtain⟨u,x,y,rfl,hu,hx,hy,w⟩:=h;have sq:∀ {x:Q},Sq 1200000 x->Sn (x.1*x.1+x.2*x.2*u) (x.1*x.2+x.2*x.1):=λ{x} hx=>⟨((hx.a.mul hx.a).add ((hx.b.mul hx.b).mul hu.sz)).mono (by decide),((hx.a.mul hx.b).add (hx.b.mul hx.a)).mono (by decide)⟩
  exact⟨u,_,_,_,_,rfl,hu,hx,hx,u,_,_,_,_,rfl,hu,hy,hy,u,_,_,_,_,rfl,hu,sq hx,sq hy,w⟩
def W (x y:Rat):D:=.tup [fr x,fr y]
def PP (x y:Rat):D:=.tup [.tup [fr x,fr 0],.tup [fr y,fr 0]]
noncomputable def MP (x y a b s:Rat):D:=.tup [A6 x (ss a*s),A6 y (ss b*s)]
noncomputable def kK (x y a b s:Rat):List D:=if s < 0 then [] else if s=0 then [PP x y] else [MP x y a b s,MP x y (-a) (-b) s]
def eQ:cH:=λds S k=>∃ x y:Rat,ds=[W x y]/\k (PP x y) S
theorem pi:ar ["place"] ["place"] (aj iQ):=dZ
theorem pT (Fn:FN K "plain_point" iQ f fd) (a9:mq K mg "NOUGHT" [0,1]):
  aQ P w K mg base de 1 f fd ["place"] (dw K eQ):=by
 refine Fn.okJ pi (λds S k h=>?_) (λcdv A outer s H E hr=>⟨_,(ag (ai (aA (aa (aA (aa (bh 0) (aa (eJ a9 rfl) ac))) (aa (aA (aa (bh 0) (aa (eJ a9 rfl) ac))) ac))))),λds S k h=>?_⟩)
 ·obtain⟨_,_,rfl,_⟩:=h
  rfl
 ·obtain⟨x,y,rfl,w⟩:=h;exact⟨bZ,bZ,bZ,w⟩
def jw:cH:=λds S k=>∃ x y:Rat,ds=[PP x y]/\k (W x y) S
theorem tZ:ar ["point"] ["point"] (aj ma):=dZ
theorem ui (Fn:FN K "place_of" ma f fd):
  aQ P w K mg base de 1 f fd ["point"] (dw K jw):=by
 refine Fn.okJ tZ (λds S k h=>?_) (λcdv A outer s H E hr=>⟨_,(ag (ai (aA (aa (bb fB (bh 0) aq Zf) (aa (bb fB (bh 0) aq Zf) ac))))),λds S k h=>?_⟩)
 ·obtain⟨_,_,rfl,_⟩:=h
  rfl
 ·obtain⟨x,y,rfl,w⟩:=h;exact⟨bZ,w⟩
def gf:cH:=λds S k=>∃ x y z v:Rat,ds=[W x y,W z v]/\Sz 60000000 x/\Sz 60000000 y/\Sz 60000000 z/\Sz 60000000 v/\k (W (z - x) (v - y)) S
theorem sh:ar ["one","other"] ["one","other"] (aj kR):=dZ
theorem sJ (Fn:FN K "plain_way" kR f fd) (ca:aZ P w K mg base "minus" 35 jp):
  aQ P w K mg base de 36 f fd ["one","other"] (dw K gf):=by
 refine Fn.okJ sh (λds S k h=>?_) (λcdv A outer s H E hr=>⟨_,(ag (ai (aA (aa (dq ca hr (aa (bh 1) (aa (bh 0) ac))) (aa (dq ca hr (aa (bh 1) (aa (bh 0) ac))) ac))))),λds S k h=>?_⟩)
 ·obtain⟨_,_,_,_,rfl,_⟩:=h
  rfl
 ·obtain⟨x,y,z,v,rfl,hx,hy,hz,hv,w⟩:=h;exact⟨z,x,rfl,hz,hx,v,y,rfl,hv,hy,bZ,w⟩
def bT:cH:=λds S k=>∃ x y z v:Rat,ds=[W x y,W z v]/\Sz 360000 x/\Sz 360000 y/\Sz 360000 z/\Sz 360000 v/\k (fr (x*z+y*v)) S
theorem lR:ar ["one","other"] ["one","other"] (aj fD):=dZ
theorem lW (Fn:FN K "product_of_ways" fD f fd) (bL:aZ P w K mg base "plus" 35 jq) (aK:aZ P w K mg base "times" 35 eu):
  aQ P w K mg base de 36 f fd ["one","other"] (dw K bT):=by
 refine Fn.okJ lR (λds S k h=>?_) (λcdv A outer s H E hr=>⟨_,(ag (ai (dq bL hr (aa (dq aK hr (aa (bh 0) (aa (bh 1) ac))) (aa (dq aK hr (aa (bh 0) (aa (bh 1) ac))) ac))))),λds S k h=>?_⟩)
 ·obtain⟨_,_,_,_,rfl,_⟩:=h
  rfl
 ·obtain⟨x,y,z,v,rfl,hx,hy,hz,hv,w⟩:=h;exact⟨x,z,rfl,hx.mono (by decide),hz.mono (by decide),y,v,rfl,hy.mono (by decide),hv.mono (by decide),_,_,rfl,(hx.mul hz).mono (by decide),(hy.mul hv).mono (by decide),w⟩
def oX:cH:=λds S k=>∃ x y a b t:Rat,ds=[W x y,W a b,fr t]/\Sz 360000 x/\Sz 360000 y/\Sz 360000 a/\Sz 360000 b/\Sz 360000 t/\k (W (x+a*t) (y+b*t)) S
theorem zc:ar ["place","way","by"] ["place","way","by"] (aj tF):=dZ
theorem yC (Fn:FN K "moved" tF f fd) (bL:aZ P w K mg base "plus" 35 jq) (aK:aZ P w K mg base "times" 35 eu):
  aQ P w K mg base de 36 f fd ["place","way","by"] (dw K oX):=by
 refine Fn.okJ zc (λds S k h=>?_) (λcdv A outer s H E hr=>⟨_,(ag (ai (aA (aa (dq bL hr (aa (bh 0) (aa (dq aK hr (aa (bh 1) (aw 2 ac))) ac))) (aa (dq bL hr (aa (bh 0) (aa (dq aK hr (aa (bh 1) (aw 2 ac))) ac))) ac))))),λds S k h=>?_⟩)
 ·obtain⟨_,_,_,_,_,rfl,_⟩:=h
  rfl
 ·obtain⟨x,y,a,b,t,rfl,hx,hy,ha,hb,ht,w⟩:=h;exact⟨a,t,rfl,ha.mono (by decide),ht.mono (by decide),_,_,rfl,hx.mono (by decide),(ha.mul ht).mono (by decide),b,t,rfl,hb.mono (by decide),ht.mono (by decide),_,_,rfl,hy.mono (by decide),(hb.mul ht).mono (by decide),bZ,w⟩
def jY:cH:=λds S k=>∃ x y a b s:Rat,ds=[W x y,W a b,fr s]/\Sz 400000 x/\Sz 400000 y/\Sz 160000 a/\Sz 160000 b/\Sz 400000 s/\∀ S',b8 S S'->k (MP x y a b s) S'
theorem db:ar ["place","way","square","numbers","part","portion","under"] ["place","way","square"] (aj gB):=dZ
theorem n4 (Fn:FN K "moved_by_root" gB f fd) (aK:aZ P w K mg base "times" 35 eu) (vy:aZ P w K mg base "made" 37 AG) (bf:aZ P w K mg base "with_sign_of" 2 dS) (qW:mg "zip"=none):
  aQ P w K mg base de 38 f fd ["place","way","square"] (dw K jY):=by
 refine Fn.okJ db (λds S k h=>?_) (λcdv A outer s H E hr=>⟨_,(af (ak (i:=3) db.nd (bU ac)) (af (xP PassesOwn.never rfl rfl qW (aw 0 (aw 1 ac)) (dQ (n:=2) rfl (aL (aG (i:=4) db.nd) (aL (aG (i:=5) db.nd) cQ))) (af (ak (i:=6) db.nd (dq aK hr (aa (dq aK hr (aw 5 (aw 5 ac))) (aw 2 ac)))) (ag (aS (dU (ah 3) (dq vy hr (aw 4 (aa (dq bf hr (aw 6 (aw 5 ac))) ac)))))))) (ag (ai (aA (aa (bh 3) (aa (bh 3) ac))))))),λds S k h=>?_⟩)
 ·obtain⟨_,_,_,_,_,rfl,_⟩:=h
  rfl
 ·obtain⟨x,y,a,b,s,rfl,hx,hy,ha,hb,hs,w⟩:=h;have big':∀ n:Nat,n < 300->n < sizeLine:=λn h=>JG h (JL (rfl:Nat.ble 300 sizeLine=true))
  refine⟨bZ,λq hq=>⟨([fr x,fr y],none),([fr a,fr b],none),rfl,rfl,?_⟩⟩
  have m1:=(ha.mul ha).mul hs;have m2:=(hb.mul hb).mul hs;have s1:Sz 800000 (sg (a*a*s) a):=m1.sg.mono (by decide)
  have s2:Sz 800000 (sg (b*b*s) b):=m2.sg.mono (by decide)
  refine⟨⟨trivial,trivial⟩,([fr x,fr a],none),rfl,rfl,rfl,a,a,rfl,ha.mono (by decide),ha.mono (by decide),_,s,rfl,(ha.mul ha).mono (by decide),hs.mono (by decide),?_⟩
  refine⟨⟨_,am⟩,_,a,rfl,x,_,rfl,hx.mono (by decide),s1,[],am,big' 0 (by decide),?_⟩
  refine⟨⟨trivial,trivial⟩,([fr y,fr b],none),rfl,rfl,rfl,b,b,rfl,hb.mono (by decide),hb.mono (by decide),_,s,rfl,(hb.mul hb).mono (by decide),hs.mono (by decide),?_⟩
  refine⟨⟨_,am⟩,_,b,rfl,y,_,rfl,hy.mono (by decide),s2,_,am,big' 1 (by decide),?_⟩
  refine⟨⟨trivial,trivial⟩,_,_,am,ke,_,_,am,CG,bZ,?_⟩;rw [Av,Av];exact w _ (((b8.new hq).put hq).put hq)
def jX:cH:=λds S k=>∃ x y a b s:Rat,ds=[W x y,W a b,fr s]/\Sz 400000 x/\Sz 400000 y/\Sz 160000 a/\Sz 160000 b/\Sz 400000 s/\∀ S' p,b8 S S'->S' p=none->k (.ref p) (put S' p (.lst (kK x y a b s)))
theorem lC:ar ["place","way","square","against"] ["place","way","square"] (aj jG):=dZ
theorem qj (Fn:FN K "both_moved" jG f fd) (bn:aZ P w K mg base "plain_point" 1 eQ) (a8:aZ P w K mg base "negative" 1 ff) (eV:aZ P w K mg base "moved_by_root" 38 jY):
  aQ P w K mg base de 39 f fd ["place","way","square"] (dw K jX):=by
 refine Fn.okJ lC (λds S k h=>?_) (λcdv A outer s H E hr=>⟨_,(af (av (au sS (bh 2) aq (aD _)) (ag (ai (bU ac))) aE) (af (av (au ej (bh 2) aq (aD _)) (ag (ai (bU (aa (dq bn hr (aw 0 ac)) ac)))) aE) (af (ak (i:=3) lC.nd (aA (aa (dq a8 hr (aa (bh 1) ac)) (aa (dq a8 hr (aa (bh 1) ac)) ac)))) (ag (ai (bU (aa (dq eV hr (aw 0 (aw 1 (aw 2 ac)))) (aa (dq eV hr (aw 0 (aw 3 (aw 2 ac)))) ac)))))))),λds S k h=>?_⟩)
 ·obtain⟨_,_,_,_,_,rfl,_⟩:=h
  rfl
 ·obtain⟨x,y,a,b,s,rfl,hx,hy,ha,hb,hs,w⟩:=h;refine aV (λn=>?_) (λn=>aV (λz=>?_) (λz=>?_))
  ·have w':=λp hp=>w S p (b8.refl S) hp
   rw [show kK x y a b s=[] from if_pos ((fo s).mp n)] at w'
   exact⟨bZ,w'⟩
  ·have z:s=0:=Rat.num_eq_zero.mp z;have w':=λp hp=>w S p (b8.refl S) hp
   rw [show kK x y a b s=[PP x y] by unfold kK; rw [if_neg (by rw [z]; decide),if_pos z]] at w'
   exact⟨x,y,rfl,bZ,w'⟩
  ·have z:s≠0:=λq=>z (by rw [q]; rfl)
   refine⟨a,rfl,b,rfl,bZ,x,y,a,b,s,rfl,hx,hy,ha,hb,hs,λS1 e1=>⟨x,y,-a,-b,s,rfl,hx,hy,ha.neg,hb.neg,hs,λS2 e2=>⟨bZ,λp hp=>?_⟩⟩⟩
   have w':=w S2 p (e1.trans e2) hp;rw [show kK x y a b s=[MP x y a b s,MP x y (-a) (-b) s] by unfold kK; rw [if_neg (λq=>n ((fo s).mpr q)),if_neg z]] at w'
   exact w'
def ig:cH:=λds S k=>∃ a b:Rat,ds=[W a b]/\Sz 360000 a/\Sz 360000 b/\a*a+b*b≠0/\k (fr (a*a+b*b)) S
theorem cZ:ar ["way","square"] ["way"] (aj dr):=dZ
theorem lv (Fn:FN K "square_of_unlike" dr f fd) (aF:aZ P w K mg base "product_of_ways" 36 bT):
  aQ P w K mg base de 37 f fd ["way"] (dw K ig):=by
 refine Fn.okJ cZ (λds S k h=>?_) (λcdv A outer s H E hr=>⟨_,(af (ak (i:=1) cZ.nd (dq aF hr (aw 0 (aw 0 ac)))) (af (av (au ej (bh 1) aq (aD _)) (ag dn) aE) (ag (ai (ah 1))))),λds S k h=>?_⟩)
 ·obtain⟨_,_,rfl,_⟩:=h
  rfl
 ·obtain⟨a,b,rfl,ha,hb,h0,w⟩:=h;exact⟨a,b,a,b,rfl,ha,hb,ha,hb,aV (λz=>absurd (Rat.num_eq_zero.mp z) h0) (λ_=>w)⟩
set_option maxHeartbeats 4000000
abbrev Gn:=Rat×Rat
abbrev gD (n:Gn):D:=.tup [fr n.1,fr n.2]
abbrev gP (p:Gn×Gn):D:=.tup [gD p.1,gD p.2]
def EM (q:Rat):Prop:=∃ r,r*r=q
def BY (m n:Gn):Prop:=m.2=0\/n.2=0\/EM (ab m.2 / ab n.2)
noncomputable def Cs (m n:Gn):KA:=@decide (BY m n) (Classical.propDecidable _)
theorem C9 {m n:Gn} (h:BY m n):Cs m n=true:=@decide_eq_true _ (Classical.propDecidable _) h
theorem C8 {m n:Gn} (h:¬ BY m n):Cs m n=false:=@Ke _ (Classical.propDecidable _) h
theorem F5 {m n:Gn} (h:Cs m n=true):BY m n:=by
 apply Classical.byContradiction;intro z;rw [C8 z] at h;cases h
def kW:cH:=λds S k=>∃ m n:Gn,ds=[gD m,gD n]/\Sz 6200000 m.2/\Sz 6200000 n.2/\k (.bl (Cs m n)) S
theorem sN:ar ["one","other"] ["one","other"] (aj kO):=dZ
theorem tw (Fn:FN K "one_field" kO f fd) (ba:aZ P w K mg base "is_plain" 1 fg) (eB:aZ P w K mg base "root_in" 36 lj) (dM:aZ P w K mg base "over" 35 nV) (a_:aZ P w K mg base "without_sign" 1 dW):
  aQ P w K mg base de 37 f fd ["one","other"] (dw K kW):=by
 refine Fn.okJ sN (λds S k h=>?_) (λcdv A outer s H E hr=>⟨_,(af (av (WJ.pt (eH (bz (dq ba hr (aw 0 ac))) (cY (bz (dq ba hr (aw 1 ac)))))) (ag (ai fN)) aE) (ag (ai (kM pb (dq eB hr (aa (dq dM hr (aa (dq a_ hr (aa (bh 0) ac)) (aa (dq a_ hr (aa (bh 1) ac)) ac))) ac)) dN (aD _))))),λds S k h=>?_⟩)
 ·obtain⟨_,_,rfl,_⟩:=h
  rfl
 ·obtain⟨m,n,rfl,hm,hn,w⟩:=h;have yes:(m.2=0\/n.2=0\/EM (ab m.2 / ab n.2))->k (.bl true) S:=λc=>by
   rw [show Cs m n=true from C9 c] at w
   exact w
  refine⟨fr m.1,m.2,rfl,aV (λe=>yes (.inl e)) (λe=>⟨fr n.1,n.2,rfl,aV (λe2=>yes (.inr (.inl e2))) (λe2=>?_)⟩)⟩
  have ne:ab n.2≠0:=ly e2;refine⟨_,rfl,_,rfl,_,_,rfl,ne,hm.ab.mono (by decide),hn.ab.mono (by decide),_,rfl,kP (mT _) (mT _),(hm.ab.div hn.ab ne).mono (by decide),λr r0 rr=>yes (.inr (.inr ⟨r,rr⟩)),λno=>?_⟩
  rw [show Cs m n=false from C8 (by rintro(z | z | ⟨r,z⟩); exact e z; exact e2 z; exact no r z)] at w
  exact w
def eN (ps:List (Gn×Gn)):List Gn:=ps.flatMap λp=>[p.1,p.2].filter λn=>!decide (n.2=0)
def yz (ps:List (Gn×Gn)):Prop:=∀ n∈(eN ps).tail,Cs ((eN ps).headD (0,0)) n=true
theorem sR:∀ ps:List (Gn×Gn),(eN ps).length<=2*ps.length
 | []=>Jw _
 | p::ps=>by
  have ih:=sR ps;unfold eN at ih ⊢;rw [List.flatMap_cons,JO,JJ];have:([p.1,p.2].filter λn=>!decide (n.2=0)).length<=2:=List.length_filter_le _ _
  omega
theorem mI {ps:List (Gn×Gn)} {n:Gn} (h:n∈eN ps):n.2≠0/\∃ p∈ps,n=p.1\/n=p.2:=by
 obtain⟨p,hp,hn⟩:=List.mem_flatMap.mp h;obtain⟨h1,h2⟩:=List.mem_filter.mp hn;refine⟨by simpa using h2,p,hp,by simpa using h1⟩
theorem wv {ps qs:List (Gn×Gn)}:eN (ps++qs)=eN ps++eN qs:=by unfold eN; rw [List.flatMap_append]
theorem yP {p:Gn×Gn} (h1:¬ p.1.2=0) (h2:¬ p.2.2=0):eN [p]=[p.1,p.2]:=by simp [eN,h1,h2]
theorem AZ {p:Gn×Gn} (h1:¬ p.1.2=0) (h2:p.2.2=0):eN [p]=[p.1]:=by simp [eN,h1,h2]
theorem AA {p:Gn×Gn} (h1:p.1.2=0) (h2:¬ p.2.2=0):eN [p]=[p.2]:=by simp [eN,h1,h2]
theorem y6 {p:Gn×Gn} (h1:p.1.2=0) (h2:p.2.2=0):eN [p]=[]:=by simp [eN,h1,h2]
theorem qP (n:Nat) (h:n < 300):n < sizeLine:=JG h (JL (rfl:Nat.ble 300 sizeLine=true))
theorem C4 {x:D} {t:List D}:DL.gq (x::t) (some 1) none=t:=by
 unfold DL.gq;have h1:HT.cM (x::t).length 0 (some 1)=1:=by unfold HT.cM; simp
 have h2:HT.cM (x::t).length (x::t).length none=(x::t).length:=rfl;rw [h1,h2];simp
theorem FD {n:Nat} (h:n<=300):n<=sizeLine:=J7 h (JL (rfl:Nat.ble 300 sizeLine=true))
def eX:cH:=λds S k=>∃ ps:List (Gn×Gn),ds=[.tup (ps.map gP)]/\(∀ p∈ps,Sz 6200000 p.1.2/\Sz 6200000 p.2.2)/\ps.length<=90/\yz ps/\∀ S',b8 S S'->k .non S'
theorem bE:ar ["points","rooted","point","number"] ["points"] (aj eS):=dZ
theorem nN (Fn:FN K "ask_one_field" eS f fd) (ba:aZ P w K mg base "is_plain" 1 fg) (fk:aZ P w K mg base "one_field" 37 kW):
  aQ P w K mg base de 38 f fd ["points"] (dw K eX):=by
 refine Fn.okJ bE (λds S k h=>?_) (λcdv A outer s H E hr=>⟨_,(af (ak (i:=1) bE.nd (bU ac)) (af (dI PassesOwn.never rfl (ah 0) (aG (i:=2) bE.nd) (ag (aS (sH (ah 1) (pV rfl (ku (N:=["number"]) (cap:=[none]) rfl rfl rfl rfl trivial rfl rfl trivial) (ah 2) (λ_ _ _ _=>(aG (i:=0) (show List.Nodup (["number"]:List Str) from by decide +kernel))) (λ_ _ _ _=>(cg (bz (dq ba hr (aw 0 ac))))) (λ_ _ _ _=>(ah 0))))))) (ag (dI PassesOwn.never rfl (fY (ah 1) (dB aq) dF) (aG (i:=3) bE.nd) (ag (av (cg (bz (dq fk hr (aa (bh 1) (aw 3 ac))))) (ag dn) aE)))))),λds S k h=>?_⟩)
 ·obtain⟨_,rfl,_⟩:=h
  rfl
 ·obtain⟨ps,rfl,hp,hl,one,w1⟩:=h;refine⟨bZ,λq hq=>?_⟩
  refine⟨(ps.map gP,none),rfl,?_⟩;refine dP (λr' L S1=>∃ ps1 ps2 l2 l3,L=[some (.tup (ps.map gP)),some (.ref q),l2,l3]/\b8 S S1/\S1 q=some (.lst ((eN ps1).map gD))/\ps=ps1++ps2/\r'=ps2.map gP) (λ_ _ _ _=>trivial) ?_ ?_ _ _ _ ⟨[],ps,none,none,rfl,b8.new hq,am,rfl,rfl⟩
  ·rintro d r L S1 Nx ⟨ps1,ps2,l2,l3,rfl,e,hS1,eps,er⟩ hN;cases ps2 with
   | nil=>cases er
   | cons p ps2=>
    cases er;have nxt:∀ (es:List D) (S2:DH) (l2':Ks D),es=(eN [p]).map gD->b8 S S2->S2 q=some (.lst ((eN ps1).map gD++es))->Nx [some (.tup (ps.map gP)),some (.ref q),l2',l3] S2:=λes S2 l2' he e2 h2=>hN _ _ ⟨ps1++[p],ps2,l2',l3,rfl,e2,by rw [h2,wv,List.map_append,he],by rw [eps,List.append_assoc]; rfl,rfl⟩
    refine⟨⟨_,hS1⟩,([gD p.1,gD p.2],none),rfl,λp1 hp2=>?_⟩
    have qp:q≠p1:=λz=>by subst z; rw [hS1] at hp2; cases hp2
    have sp:S p1=none:=e.none hp2;have hlen:(eN ps1).length<=180:=by
     have h1:=sR ps1;have h2:ps.length=ps1.length+(p::ps2).length:=by rw [eps,JO]
     omega
    have fin:∀ (es:List D) (S2:DH),b8 S S2->S2 q=some (.lst ((eN ps1).map gD))->S2 p1=some (.lst es)->es.length<=2->es=(eN [p]).map gD->∃ ds es',S2 q=some (.lst ds)/\S2 p1=some (.lst es')/\ds.length+es'.length<=sizeLine/\Nx [some (.tup (ps.map gP)),some (.ref q),some (gP p),l3] (put S2 q (.lst (ds++es'))):=λes S2 e2 h1 h2 h3 h4=>
     ⟨_,es,h1,h2,FD (by rw [Jy]; omega),nxt es _ _ h4 (e2.put hq) am⟩
    have e0:b8 S (put S1 p1 (.lst [])):=e.put sp;have q0:put S1 p1 (.lst []) q=some (.lst ((eN ps1).map gD)):=by rw [bV qp]; exact hS1
    refine⟨trivial,_,_,rfl,dE (λh1=>⟨am,qP 0 (by decide),trivial,_,_,rfl,dE (λh2=>⟨am,qP 1 (by decide),trivial,?_⟩) (λh2=>⟨trivial,?_⟩)⟩) (λh1=>⟨trivial,_,_,rfl,dE (λh2=>⟨am,qP 0 (by decide),trivial,?_⟩) (λh2=>⟨trivial,?_⟩)⟩)⟩
    ·exact fin [gD p.1,gD p.2] _ ((e0.put sp).put sp) (by rw [bV qp,bV qp]; exact q0) am (by show 2<=2; decide) (by rw [yP h1 h2]; rfl)
    ·exact fin [gD p.1] _ (e0.put sp) (by rw [bV qp]; exact q0) am (by show 1<=2; decide) (by rw [AZ h1 h2]; rfl)
    ·exact fin [gD p.2] _ (e0.put sp) (by rw [bV qp]; exact q0) am (by show 1<=2; decide) (by rw [AA h1 h2]; rfl)
    ·exact fin [] _ e0 q0 am (by show 0<=2; decide) (by rw [y6 h1 h2]; rfl)
  ·rintro L S1 ⟨ps1,ps2,l2,l3,rfl,e,hS1,eps,er⟩;cases ps2 with
   | cons _ _=>cases er
   | nil=>
    rw [JP] at eps;subst eps;refine⟨_,hS1,λp2 hp2=>⟨(DL.gq ((eN ps).map gD) (some 1) none,some p2),by simp only [aT,am],?_⟩⟩
    have qp:q≠p2:=λz=>by subst z; rw [hS1] at hp2; cases hp2
    have ecut:DL.gq ((eN ps).map gD) (some 1) none=(eN ps).tail.map gD:=by
     cases eN ps with
     | nil=>rfl
     | cons x t=>exact C4
    refine dP (λr L S2=>∃ t' l2 l3,L=[some (.tup (ps.map gP)),some (.ref q),l2,l3]/\b8 S S2/\S2 q=some (.lst ((eN ps).map gD))/\S2 p2=some (.lst (DL.gq ((eN ps).map gD) (some 1) none))/\r=t'.map gD/\(∀ n∈t',n∈eN ps)/\(yz ps↔∀ n∈t',Cs ((eN ps).headD (0,0)) n=true)) (λr L S2 ⟨_,_,_,_,_,_,z,_⟩=>z) ?_ ?_ _ _ _ ⟨(eN ps).tail,l2,l3,rfl,e.put (e.none hp2),(bV qp).trans hS1,am,ecut,λn hn=>List.mem_of_mem_tail hn,Iff.rfl⟩
    ·rintro d r L S2 Nx ⟨t',l2,l3,rfl,e2,h1,h2,er,hm,hO⟩ hN;cases t' with
     | nil=>cases er
     | cons n t'=>
      cases er;obtain⟨x0,t,ex⟩:∃ x0 t,eN ps=x0::t:=by
       cases h:eN ps with
       | nil=>have:=hm n JD; rw [h] at this; cases this
       | cons x0 t=>exact⟨x0,t,rfl⟩
      have sz:∀ n∈eN ps,Sz 6200000 n.2:=λn hn=>by
       obtain⟨_,p,hp2,hh⟩:=mI hn;rcases hh with rfl | rfl
       ·exact(hp p hp2).1
       ·exact(hp p hp2).2
      have eh:(eN ps).headD (0,0)=x0:=by rw [ex]; rfl
      have h1':=h1;rw [ex] at h1';rw [eh] at hO;refine⟨_,_,h1',ke,x0,n,rfl,sz x0 (by rw [ex]; exact JD),sz n (hm n JD),dj (λz=>False.elim ?_) (λz=>hN _ _ ⟨t',_,_,rfl,e2,h1,h2,rfl,λy hy=>hm y (JE _ hy),?_⟩)⟩
      ·rw [hO.mp one n JD] at z;cases z
      ·rw [eh];exact⟨λo y hy=>hO.mp o y (JE _ hy),λo=>hO.mpr λy hy=>by
        rcases JB.mp hy with rfl | hy
        ·exact z
        ·exact o y hy⟩
    ·rintro L S2 ⟨t',l2,l3,rfl,e2,h1,h2,er,hm,hO⟩;cases t' with
     | cons _ _=>cases er
     | nil=>exact w1 S2 e2
def fV (aC:Kr):jL:=λds S k x=>∃ ps:List (Gn×Gn),ds=[.tup (ps.map gP)]/\(∀ p∈ps,Sz 6200000 p.1.2/\Sz 6200000 p.2.2)/\ps.length<=90/\(yz ps->∀ S',b8 S S'->k .non S')/\(¬ yz ps->∀ S',b8 S S'->x aC S')
theorem mw {P:Ku} {w:Kw} {K:Fg} {mg:Str->Ks Kq} {base:Kx} {f:Kr} {fd:FuncData} {aC:Kr} (Fn:FN K "ask_one_field" eS f fd) (fk:aZ P w K mg base "one_field" 37 kW) (ba:aZ P w K mg base "is_plain" 1 fg) (cK:mg "NoField"=some (.ref aC)) (nH:PySem.W.excIn K aC [.type "ValueError",.type "Exception",.type "BaseException",.type "object"] "ValueError.__new__"=true):
  aQ P w K mg base (fK P w) 38 f fd ["points"] (u6 K (fV aC)):=by
 refine Fn.okX bE (λds S k x h=>?_) (λcdv A outer s H E ex hr hE=>⟨_,(af (ak (i:=1) bE.nd (bU ac)) (af (dI PassesOwn.leaving rfl (ah 0) (aG (i:=2) bE.nd) (ag (aS (sH (ah 1) (pV rfl (ku (N:=["number"]) (cap:=[none]) rfl rfl rfl rfl trivial rfl rfl trivial) (ah 2) (λ_ _ _ _=>(aG (i:=0) (show List.Nodup (["number"]:List Str) from by decide +kernel))) (λ_ _ _ _=>(cg (bz (dq ba hr (aw 0 ac))))) (λ_ _ _ _=>(ah 0))))))) (ag (dI PassesOwn.leaving rfl (fY (ah 1) (dB aq) dF) (aG (i:=3) bE.nd) (ag (av (cg (bz (dq fk hr (aa (bh 1) (aw 3 ac))))) (ag (hV hE PySem.F.excBase_ValueError nH cK rfl)) aE)))))),λds S k h=>?_⟩)
 ·obtain⟨_,rfl,_⟩:=h
  rfl
 ·obtain⟨ps,rfl,hp,hl,w1,w0⟩:=h;refine⟨bZ,λq hq=>?_⟩
  refine⟨(ps.map gP,none),rfl,?_⟩;refine dP (λr' L S1=>∃ ps1 ps2 l2 l3,L=[some (.tup (ps.map gP)),some (.ref q),l2,l3]/\b8 S S1/\S1 q=some (.lst ((eN ps1).map gD))/\ps=ps1++ps2/\r'=ps2.map gP) (λ_ _ _ _=>trivial) ?_ ?_ _ _ _ ⟨[],ps,none,none,rfl,b8.new hq,am,rfl,rfl⟩
  ·rintro d r L S1 Nx ⟨ps1,ps2,l2,l3,rfl,e,hS1,eps,er⟩ hN;cases ps2 with
   | nil=>cases er
   | cons p ps2=>
    cases er;have nxt:∀ (es:List D) (S2:DH) (l2':Ks D),es=(eN [p]).map gD->b8 S S2->S2 q=some (.lst ((eN ps1).map gD++es))->Nx [some (.tup (ps.map gP)),some (.ref q),l2',l3] S2:=λes S2 l2' he e2 h2=>hN _ _ ⟨ps1++[p],ps2,l2',l3,rfl,e2,by rw [h2,wv,List.map_append,he],by rw [eps,List.append_assoc]; rfl,rfl⟩
    refine⟨⟨_,hS1⟩,([gD p.1,gD p.2],none),rfl,λp1 hp2=>?_⟩
    have qp:q≠p1:=λz=>by subst z; rw [hS1] at hp2; cases hp2
    have sp:S p1=none:=e.none hp2;have hlen:(eN ps1).length<=180:=by
     have h1:=sR ps1;have h2:ps.length=ps1.length+(p::ps2).length:=by rw [eps,JO]
     omega
    have fin:∀ (es:List D) (S2:DH),b8 S S2->S2 q=some (.lst ((eN ps1).map gD))->S2 p1=some (.lst es)->es.length<=2->es=(eN [p]).map gD->∃ ds es',S2 q=some (.lst ds)/\S2 p1=some (.lst es')/\ds.length+es'.length<=sizeLine/\Nx [some (.tup (ps.map gP)),some (.ref q),some (gP p),l3] (put S2 q (.lst (ds++es'))):=λes S2 e2 h1 h2 h3 h4=>
     ⟨_,es,h1,h2,FD (by rw [Jy]; omega),nxt es _ _ h4 (e2.put hq) am⟩
    have e0:b8 S (put S1 p1 (.lst [])):=e.put sp;have q0:put S1 p1 (.lst []) q=some (.lst ((eN ps1).map gD)):=by rw [bV qp]; exact hS1
    refine⟨trivial,_,_,rfl,dE (λh1=>⟨am,qP 0 (by decide),trivial,_,_,rfl,dE (λh2=>⟨am,qP 1 (by decide),trivial,?_⟩) (λh2=>⟨trivial,?_⟩)⟩) (λh1=>⟨trivial,_,_,rfl,dE (λh2=>⟨am,qP 0 (by decide),trivial,?_⟩) (λh2=>⟨trivial,?_⟩)⟩)⟩
    ·exact fin [gD p.1,gD p.2] _ ((e0.put sp).put sp) (by rw [bV qp,bV qp]; exact q0) am (by show 2<=2; decide) (by rw [yP h1 h2]; rfl)
    ·exact fin [gD p.1] _ (e0.put sp) (by rw [bV qp]; exact q0) am (by show 1<=2; decide) (by rw [AZ h1 h2]; rfl)
    ·exact fin [gD p.2] _ (e0.put sp) (by rw [bV qp]; exact q0) am (by show 1<=2; decide) (by rw [AA h1 h2]; rfl)
    ·exact fin [] _ e0 q0 am (by show 0<=2; decide) (by rw [y6 h1 h2]; rfl)
  ·rintro L S1 ⟨ps1,ps2,l2,l3,rfl,e,hS1,eps,er⟩;cases ps2 with
   | cons _ _=>cases er
   | nil=>
    rw [JP] at eps;subst eps;refine⟨_,hS1,λp2 hp2=>⟨(DL.gq ((eN ps).map gD) (some 1) none,some p2),by simp only [aT,am],?_⟩⟩
    have qp:q≠p2:=λz=>by subst z; rw [hS1] at hp2; cases hp2
    have ecut:DL.gq ((eN ps).map gD) (some 1) none=(eN ps).tail.map gD:=by
     cases eN ps with
     | nil=>rfl
     | cons x t=>exact C4
    refine dP (λr L S2=>∃ t' l2 l3,L=[some (.tup (ps.map gP)),some (.ref q),l2,l3]/\b8 S S2/\S2 q=some (.lst ((eN ps).map gD))/\S2 p2=some (.lst (DL.gq ((eN ps).map gD) (some 1) none))/\r=t'.map gD/\(∀ n∈t',n∈eN ps)/\(yz ps↔∀ n∈t',Cs ((eN ps).headD (0,0)) n=true)) (λr L S2 ⟨_,_,_,_,_,_,z,_⟩=>z) ?_ ?_ _ _ _ ⟨(eN ps).tail,l2,l3,rfl,e.put (e.none hp2),(bV qp).trans hS1,am,ecut,λn hn=>List.mem_of_mem_tail hn,Iff.rfl⟩
    ·rintro d r L S2 Nx ⟨t',l2,l3,rfl,e2,h1,h2,er,hm,hO⟩ hN;cases t' with
     | nil=>cases er
     | cons n t'=>
      cases er;obtain⟨x0,t,ex⟩:∃ x0 t,eN ps=x0::t:=by
       cases h:eN ps with
       | nil=>have:=hm n JD; rw [h] at this; cases this
       | cons x0 t=>exact⟨x0,t,rfl⟩
      have sz:∀ n∈eN ps,Sz 6200000 n.2:=λn hn=>by
       obtain⟨_,p,hp2,hh⟩:=mI hn;rcases hh with rfl | rfl
       ·exact(hp p hp2).1
       ·exact(hp p hp2).2
      have eh:(eN ps).headD (0,0)=x0:=by rw [ex]; rfl
      have h1':=h1;rw [ex] at h1';rw [eh] at hO;refine⟨_,_,h1',ke,x0,n,rfl,sz x0 (by rw [ex]; exact JD),sz n (hm n JD),dj (λz=>w0 (λo=>?_) S2 e2) (λz=>hN _ _ ⟨t',_,_,rfl,e2,h1,h2,rfl,λy hy=>hm y (JE _ hy),?_⟩)⟩
      ·rw [hO.mp o n JD] at z;cases z
      ·rw [eh];exact⟨λo y hy=>hO.mp o y (JE _ hy),λo=>hO.mpr λy hy=>by
        rcases JB.mp hy with rfl | hy
        ·exact z
        ·exact o y hy⟩
    ·rintro L S2 ⟨t',l2,l3,rfl,e2,h1,h2,er,hm,hO⟩;cases t' with
     | cons _ _=>cases er
     | nil=>exact w1 (hO.mpr λ_ h=>by cases h) S2 e2
set_option maxHeartbeats 4000000
def gE (bj:Kr):jL:=λds S k x=>∃ a b:Rat,ds=[W a b]/\Sz 360000 a/\Sz 360000 b/\(a*a+b*b=0->x bj S)/\(a*a+b*b≠0->k (fr (a*a+b*b)) S)
theorem kG {P:Ku} {w:Kw} {K:Fg} {mg:Str->Ks Kq} {base:Kx} {f:Kr} {fd:FuncData} {bj:Kr} (Fn:FN K "square_of_unlike" dr f fd) (aF:aZ P w K mg base "product_of_ways" 36 bT) (iX:mg "NoMeet"=some (.ref bj)) (t4:PySem.W.excIn K bj [.type "ValueError",.type "Exception",.type "BaseException",.type "object"] "ValueError.__new__"=true):
  aQ P w K mg base (fK P w) 37 f fd ["way"] (u6 K (gE bj)):=by
 refine Fn.okX cZ (λds S k x h=>?_) (λcdv A outer s H E ex hr hE=>⟨_,(af (ak (i:=1) cZ.nd (dq aF hr (aw 0 (aw 0 ac)))) (af (av (au ej (bh 1) aq (aD _)) (ag (hV hE PySem.F.excBase_ValueError t4 iX rfl)) aE) (ag (ai (ah 1))))),λds S k h=>?_⟩)
 ·obtain⟨_,_,rfl,_⟩:=h
  rfl
 ·obtain⟨a,b,rfl,ha,hb,w0,w1⟩:=h;exact⟨a,b,a,b,rfl,ha.mono (by decide),hb.mono (by decide),ha.mono (by decide),hb.mono (by decide),aV (λz=>w0 (Rat.num_eq_zero.mp z)) (λz=>w1 λe=>z (by rw [e]; rfl))⟩
def cT (x y s z v r:Rat):Rat:=((s - r)+((z - x)*(z - x)+(v - y)*(v - y))) / (((z - x)*(z - x)+(v - y)*(v - y))+((z - x)*(z - x)+(v - y)*(v - y)))
def cE (x y s z v r:Rat):Rat:=s / ((z - x)*(z - x)+(v - y)*(v - y)) - cT x y s z v r*cT x y s z v r
noncomputable def cL (x y s z v r:Rat):List D:=kK (x+(z - x)*cT x y s z v r) (y+(v - y)*cT x y s z v r) (-(v - y)) (z - x) (cE x y s z v r)
theorem w_ {A:Rat} (h:A≠0):A+A≠0:=by grind
def g9:cH:=λds S k=>match ds with
 | [.non,.non,.non,.non]=>False/\k .non S
 | _=>False
theorem aY:ar ["one","square","other","other_square","start","way","apart","along","aside"] ["one","square","other","other_square"] (aj fE):=dZ
theorem oF (Fn:FN K "circles_meet" fE f fd) (cz:aZ P w K mg base "place_of" 1 jw) (bW:aZ P w K mg base "plain_way" 36 gf) (fc:aZ P w K mg base "square_of_unlike" 37 ig) (dM:aZ P w K mg base "over" 35 nV) (bL:aZ P w K mg base "plus" 35 jq) (ca:aZ P w K mg base "minus" 35 jp) (aK:aZ P w K mg base "times" 35 eu) (ek:aZ P w K mg base "both_moved" 39 jX) (a8:aZ P w K mg base "negative" 1 ff) (gG:aZ P w K mg base "moved" 36 oX):
  aQ P w K mg base de 40 f fd ["one","square","other","other_square"] (dw K g9):=by
 refine Fn.okJ aY (λds S k h=>?_) (λcdv A outer s H E hr=>⟨_,(af (ak (i:=4) aY.nd (dq cz hr (aw 0 ac))) (af (ak (i:=5) aY.nd (dq bW hr (aw 4 (aa (dq cz hr (aw 2 ac)) ac)))) (af (ak (i:=6) aY.nd (dq fc hr (aw 5 ac))) (af (ak (i:=7) aY.nd (dq dM hr (aa (dq bL hr (aa (dq ca hr (aw 1 (aw 3 ac))) (aw 6 ac))) (aa (dq bL hr (aw 6 (aw 6 ac))) ac)))) (af (ak (i:=8) aY.nd (dq ca hr (aa (dq dM hr (aw 1 (aw 6 ac))) (aa (dq aK hr (aw 7 (aw 7 ac))) ac)))) (ag (ai (dq ek hr (aa (dq gG hr (aw 4 (aw 5 (aw 7 ac)))) (aa (aA (aa (dq a8 hr (aa (bh 5) ac)) (aa (bh 5) ac))) (aw 8 ac))))))))))),λds S k h=>?_⟩)
 ·unfold g9 at h
  split at h
  ·rfl
  ·exact h.elim
 ·unfold g9 at h
  split at h
  ·exact h.1.elim
  ·exact h.elim
structure Er (x y s z v r:Rat):Prop where
 hx:Sz 46000 x
 hy:Sz 46000 y
 hs:Sz 30 s
 hz:Sz 46000 z
 hv:Sz 46000 v
 hr:Sz 30 r
 ha:Sz 92000 (z - x)
 hb:Sz 92000 (v - y)
 ht:(z - x)*(z - x)+(v - y)*(v - y)≠0->Sz 184000 (cT x y s z v r)
 he:(z - x)*(z - x)+(v - y)*(v - y)≠0->Sz 367000 (cE x y s z v r)
 hX:(z - x)*(z - x)+(v - y)*(v - y)≠0->Sz 280000 (x+(z - x)*cT x y s z v r)
 hY:(z - x)*(z - x)+(v - y)*(v - y)≠0->Sz 280000 (y+(v - y)*cT x y s z v r)
def j0 (bj:Kr):jL:=λds S k e=>∃ x y s z v r:Rat,ds=[PP x y,fr s,PP z v,fr r]/\Er x y s z v r/\((z - x)*(z - x)+(v - y)*(v - y)=0->e bj S)/\((z - x)*(z - x)+(v - y)*(v - y)≠0->∀ S' p,b8 S S'->S' p=none->k (.ref p) (put S' p (.lst (cL x y s z v r))))
theorem nM {P:Ku} {w:Kw} {K:Fg} {mg:Str->Ks Kq} {base:Kx} {f:Kr} {fd:FuncData} {bj:Kr} (Fn:FN K "circles_meet" fE f fd) (ek:aZ P w K mg base "both_moved" 39 jX) (a8:aZ P w K mg base "negative" 1 ff) (gG:aZ P w K mg base "moved" 36 oX) (ca:aZ P w K mg base "minus" 35 jp) (aK:aZ P w K mg base "times" 35 eu) (dM:aZ P w K mg base "over" 35 nV) (bL:aZ P w K mg base "plus" 35 jq) (bW:aZ P w K mg base "plain_way" 36 gf) (cz:aZ P w K mg base "place_of" 1 jw) (eG:kd P w K mg base "square_of_unlike" 37 (gE bj)):
  aQ P w K mg base (fK P w) 40 f fd ["one","square","other","other_square"] (u6 K (j0 bj)):=by
 refine Fn.okX aY (λds S k x h=>?_) (λcdv A outer s H E ex hr hE=>⟨_,(af (ak (i:=4) aY.nd (dq cz hr (aw 0 ac))) (af (ak (i:=5) aY.nd (dq bW hr (aw 4 (aa (dq cz hr (aw 2 ac)) ac)))) (af (ak (i:=6) aY.nd (gn hE eG (hr.mono (by decide)) rfl (aw 5 ac))) (af (ak (i:=7) aY.nd (dq dM hr (aa (dq bL hr (aa (dq ca hr (aw 1 (aw 3 ac))) (aw 6 ac))) (aa (dq bL hr (aw 6 (aw 6 ac))) ac)))) (af (ak (i:=8) aY.nd (dq ca hr (aa (dq dM hr (aw 1 (aw 6 ac))) (aa (dq aK hr (aw 7 (aw 7 ac))) ac)))) (ag (ai (dq ek hr (aa (dq gG hr (aw 4 (aw 5 (aw 7 ac)))) (aa (aA (aa (dq a8 hr (aa (bh 5) ac)) (aa (bh 5) ac))) (aw 8 ac))))))))))),λds S k h=>?_⟩)
 ·obtain⟨_,_,_,_,_,_,rfl,_⟩:=h
  rfl
 ·obtain⟨x,y,s,z,v,r,rfl,hz,w0,w⟩:=h;have sA:=(hz.ha.mul hz.ha).add (hz.hb.mul hz.hb);have sp:=(hz.hs.sub hz.hr).add sA;have sB:=sA.add sA;refine⟨x,y,rfl,z,v,rfl,x,y,z,v,rfl,hz.hx.mono (by decide),hz.hy.mono (by decide),hz.hz.mono (by decide),hz.hv.mono (by decide),_,_,rfl,hz.ha.mono (by decide),hz.hb.mono (by decide),w0,λh0=>?_⟩
  have w:=w h0;have ht:=hz.ht h0;have he:=hz.he h0;have h2:=w_ h0;have sq:=hz.hs.div sA h0;have sX:=hz.hX h0;have sY:=hz.hY h0;refine⟨s,r,rfl,hz.hs.mono (by decide),hz.hr.mono (by decide),_,_,rfl,(hz.hs.sub hz.hr).mono (by decide),sA.mono (by decide),_,_,rfl,sA.mono (by decide),sA.mono (by decide),_,_,rfl,h2,sp.mono (by decide),sB.mono (by decide),?_⟩
  refine⟨s,_,rfl,h0,hz.hs.mono (by decide),sA.mono (by decide),_,_,rfl,ht.mono (by decide),ht.mono (by decide),_,_,rfl,sq.mono (by decide),(ht.mul ht).mono (by decide),?_⟩
  refine⟨_,_,_,_,_,rfl,hz.hx.mono (by decide),hz.hy.mono (by decide),hz.ha.mono (by decide),hz.hb.mono (by decide),ht.mono (by decide),?_⟩
  exact⟨_,rfl,bZ,_,_,_,_,_,rfl,sX.mono (by decide),sY.mono (by decide),hz.hb.neg.mono (by decide),hz.ha.mono (by decide),he.mono (by decide),w⟩
set_option maxHeartbeats 4000000
theorem jt:Sz 1 (1:Rat):=⟨by decide,by decide⟩
theorem GW {m n:Nat} (h1:m*m < n) (h2:n < (m+1)*(m+1)) (k:Nat):k*k≠n:=λe=>by
 subst e;rcases Nat.lt_or_ge m k with h | h
 ·have:=Nat.mul_le_mul (show m+1<=k from h) (show m+1<=k from h)
  omega
 ·have:=Nat.mul_le_mul h h;omega
theorem ED {q:Rat} {m n:Nat} (h:q.num=(n:Int)) (h1:m*m < n) (h2:n < (m+1)*(m+1)):kb q:=λr e=>by
 have e1:=congrArg Rat.num e;rw [pO,h] at e1;have:=congrArg Int.natAbs e1;rw [Int.natAbs_mul] at this;exact GW h1 h2 _ this
theorem yT:Fd 2:=⟨by decide,ED (q:=2) (m:=1) (n:=2) rfl (by decide) (by decide),(show Sz 2 2 from⟨by decide,by decide⟩).mono (by decide)⟩
theorem Aj {a s:Rat} (no:kb s) (ha:a≠0):kb (a*a*s):=λr e=>no (r / a) (by
 have h:r / a*a=r:=Rat.div_mul_cancel ha;generalize r / a=t at h;subst h;have:a*a*(t*t - s)=0:=by grind
 have h2:a*a≠0:=by grind
 grind)
theorem Dc {p a s:Rat} (s0:0 < s) (no:kb s):A6 p (ss a*s)=N s p a:=by
 by_cases ha:a=0
 ·subst ha;rw [show ss 0*s=0 by unfold ss; grind,zw]
  exact hJ
 ·rw [yM (by rw [rQ s0]; exact Aj no ha)]
  rfl
theorem Dd {p a ρ:Rat} (r0:0 < ρ):A6 p (ss a*(ρ*ρ))=.tup [fr (p+a*ρ),fr 0]:=by
 have s0:0 < ρ*ρ:=JY r0 r0;have n1:0<=ab a*ρ:=JQ (mT a) (Rat.le_of_lt r0);have n2:ab a*ρ*(ab a*ρ)=ab (ss a*(ρ*ρ)):=by
  rw [rQ s0];unfold ab
  split <;> grind
 rw [pX n1 n2];have e:sg (ab a*ρ) (ss a*(ρ*ρ))=a*ρ:=by
  have h:=Fe (b:=a) s0;unfold sg ab;rcases tri a with z | z | z
  ·have:¬ ss a*(ρ*ρ) < 0:=λq=>by rw [o7 q,tI z] at h; exact absurd h (by decide)
   rw [if_neg this,if_neg (by grind)]
  ·have:ss a*(ρ*ρ) < 0:=by
    have:CK (ss a*(ρ*ρ))=-1:=by rw [h,o7 z]
    unfold CK at this
    split at this
    ·exact absurd this (by decide)
    ·split at this
     ·assumption
     ·exact absurd this (by decide)
   rw [if_pos this,if_pos z]; grind
  ·subst z
   split <;> grind
 rw [e]
theorem DR {s:Rat} (s0:0 < s):kb s\/∃ ρ,0 < ρ/\ρ*ρ=s:=by
 by_cases h:∃ r,r*r=s
 ·obtain⟨r,e⟩:=h
  right
  rcases tri r with z | z | z
  ·exact⟨r,z,e⟩
  ·exact⟨-r,by grind,by grind⟩
  ·subst z; grind
 ·exact .inl λr e=>h ⟨r,e⟩
theorem GV {x y a b s:Rat} (s0:0 < s) (no:kb s):MP x y a b s=Pq s (x,a) (y,b):=by
 unfold MP;rw [Dc s0 no,Dc s0 no]
 rfl
theorem CY {x y a b ρ:Rat} (r0:0 < ρ):MP x y a b (ρ*ρ)=PP (x+a*ρ) (y+b*ρ):=by
 unfold MP;rw [Dd r0,Dd r0]
 rfl
theorem xf {n m:Nat} (h:n*n < 2 ^ (2*m)):n < 2 ^ m:=by
 rcases Nat.lt_or_ge n (2 ^ m) with z | z
 ·exact z
 ·have h2:=Nat.mul_le_mul z z;rw [<- Nat.pow_add,show m+m=2*m by omega] at h2
  omega
theorem x6 {m:Nat} {q r:Rat} (h:Sz (2*m) q) (e:r*r=q):Sz m r:=by
 subst e;have h1:(r*r).num.natAbs < 2 ^ (2*m):=h.num;have h2:((r*r).den:Int).natAbs < 2 ^ (2*m):=h.den;rw [pO,Int.natAbs_mul] at h1;rw [sr,Int.natAbs_natCast] at h2;exact⟨xf h1,by show((r.den:Nat):Int).natAbs < 2 ^ m; rw [Int.natAbs_natCast]; exact xf h2⟩
theorem vx {b:Rat} (h:b≠0):0 < b*b:=by
 rcases tri b with z | z | z
 ·exact JY z z
 ·have:=JY (show 0 < -b by grind) (show 0 < -b by grind); grind
 ·exact absurd z h
theorem B6 {x y s z v r t A e σ:Rat} (hσ:σ*σ=1) (hA:A=(z - x)*(z - x)+(v - y)*(v - y)) (ht:t*(A+A)=s - r+A) (he:e*A=s - t*t*A):
  bJ e (qs (x+(z - x)*t,σ*-(v - y)) (qo x)) (qs (y+(v - y)*t,σ*(z - x)) (qo y))=(s,0)/\bJ e (qs (x+(z - x)*t,σ*-(v - y)) (qo z)) (qs (y+(v - y)*t,σ*(z - x)) (qo v))=(r,0)/\
  wX e (qo x) (qo y) (qo z) (qo v) (x+(z - x)*t,σ*-(v - y)) (y+(v - y)*t,σ*(z - x))=(0,σ*A):=by
 simp only [bJ,wX,qa,qm,qs,qo];refine⟨JN ?_ ?_,JN ?_ ?_,JN ?_ ?_⟩ <;> dsimp only <;> grind
theorem Ca {u x y s z v r t A ρ σ:Rat} (hσ:σ*σ=1) (hA:A=(z - x)*(z - x)+(v - y)*(v - y)) (ht:t*(A+A)=s - r+A) (he:ρ*ρ*A=s - t*t*A):
  bJ u (qs (qo (x+(z - x)*t+σ*-(v - y)*ρ)) (qo x)) (qs (qo (y+(v - y)*t+σ*(z - x)*ρ)) (qo y))=(s,0)/\bJ u (qs (qo (x+(z - x)*t+σ*-(v - y)*ρ)) (qo z)) (qs (qo (y+(v - y)*t+σ*(z - x)*ρ)) (qo v))=(r,0)/\
  wX u (qo x) (qo y) (qo z) (qo v) (qo (x+(z - x)*t+σ*-(v - y)*ρ)) (qo (y+(v - y)*t+σ*(z - x)*ρ))=(σ*A*ρ,0):=by
 simp only [bJ,wX,qa,qm,qs,qo];refine⟨JN ?_ ?_,JN ?_ ?_,JN ?_ ?_⟩ <;> dsimp only <;> grind
theorem Gv {u x y:Rat}:PP x y=Pq u (qo x) (qo y):=by
 unfold PP Pq qo;rw [hJ (u:=u),hJ (u:=u)]
theorem BJ (q:Rat):((q.den:Int):Rat)≠0:=λz=>by
 have:=q.den_nz;have:(q.den:Int)=0:=Rat.intCast_inj.mp (by rw [z]; rfl)
 omega
theorem dz (q:Rat):((q.den:Int):Rat)*q=(q.num:Rat):=by
 have d0:=BJ q;have e:=Rat.num_divInt_den q;rw [J3] at e;grind
theorem lJ (q:Rat):0 < (q.den:Int):=by have:=q.den_pos; omega
theorem iH {n d:Int} {k:Nat} {q:Rat} (d0:d≠0) (e:q*(d:Rat)=(n:Rat)) (hn:Bt k n) (hd:Bt k d):Sz k q:=by
 have d1:(d:Rat)≠0:=λz=>d0 (by exact_mod_cast z)
 have e1:q=Rat.divInt n d:=by
  rw [J3,<- e,Rat.mul_div_cancel d1]
 rw [e1];exact⟨by rw [<- oW d0]; exact hn.le (HM.dY _ _),by rw [<- m7 d0]; exact hd.le (HM.dY _ _)⟩
section
variable {x y s z v r:Rat} {P Q K:Int}
theorem zk (h0:(z - x)*(z - x)+(v - y)*(v - y)≠0):cT x y s z v r*(((z - x)*(z - x)+(v - y)*(v - y))+((z - x)*(z - x)+(v - y)*(v - y)))=s - r+((z - x)*(z - x)+(v - y)*(v - y)):=Rat.div_mul_cancel (w_ h0)
theorem AB (h0:(z - x)*(z - x)+(v - y)*(v - y)≠0):cE x y s z v r*((z - x)*(z - x)+(v - y)*(v - y))=s - cT x y s z v r*cT x y s z v r*((z - x)*(z - x)+(v - y)*(v - y)):=by
 have h:s / ((z - x)*(z - x)+(v - y)*(v - y))*((z - x)*(z - x)+(v - y)*(v - y))=s:=Rat.div_mul_cancel h0;unfold cE;generalize s / ((z - x)*(z - x)+(v - y)*(v - y))=q at h ⊢;grind
end
theorem xw {q:Rat} {M:Int} (h:q*q=(M:Rat)):∃ F:Int,q=(F:Rat):=by
 refine⟨q.num,?_⟩;have dp:=q.den_pos;have e:=dz q;have e2:((q.num*q.num:Int):Rat)=((M*((q.den:Int)*(q.den:Int)):Int):Rat):=by
  rw [Ju,Ju,Ju,<- h,<- e];grind
 have e3:q.num*q.num=M*((q.den:Int)*(q.den:Int)):=by exact_mod_cast e2
 have d1:q.den ∣ q.num.natAbs*q.num.natAbs:=by
  have:(q.den:Int) ∣ q.num*q.num:=⟨M*q.den,by rw [e3]; grind⟩
  have:=Int.natAbs_dvd_natAbs.mpr this
  rwa [Int.natAbs_mul,Int.natAbs_natCast] at this
 have c:Nat.Coprime q.den q.num.natAbs:=q.reduced.symm;have d2:q.den ∣ q.num.natAbs:=c.dvd_of_dvd_mul_left d1;have d3:q.den=1:=by
  have g:=Nat.gcd_eq_left d2;rw [c] at g;exact g.symm
 rw [<- e,d3];grind
structure Cd (n:Nat) (x y:Rat):Prop where
 ex:∃ X Y K:Int,0 < K/\Bt n K/\Bt n X/\Bt n Y/\x*(K:Rat)=X/\y*(K:Rat)=Y
theorem Cd.mono {m n:Nat} {x y:Rat} (h:Cd m x y) (l:m<=n):Cd n x y:=by
 obtain⟨X,Y,K,h0,h1,h2,h3,h4,h5⟩:=h.ex;exact⟨X,Y,K,h0,h1.mono l,h2.mono l,h3.mono l,h4,h5⟩
theorem Cd.sx {n:Nat} {x y:Rat} (h:Cd n x y):Sz n x:=by
 obtain⟨X,Y,K,h0,h1,h2,h3,h4,h5⟩:=h.ex;exact iH (by omega) h4 h2 h1
theorem Cd.sy {n:Nat} {x y:Rat} (h:Cd n x y):Sz n y:=by
 obtain⟨X,Y,K,h0,h1,h2,h3,h4,h5⟩:=h.ex;exact iH (by omega) h5 h3 h1
theorem Cd.of {m:Nat} {x y:Rat} (hx:Sz m x) (hy:Sz m y):Cd (m+m) x y:=by
 refine⟨x.num*(y.den:Int),y.num*(x.den:Int),(x.den:Int)*(y.den:Int),Int.mul_pos (lJ x) (lJ y),hx.den.mul hy.den,hx.num.mul hy.den,hy.num.mul hx.den,?_,?_⟩
 ·rw [Ju,Ju,<- dz x];grind
 ·rw [Ju,Ju,<- dz y];grind
theorem Cd.way {n:Nat} {x y z v:Rat} (h:Cd n x y) (g:Cd n z v):∃ P Q X Y K:Int,0 < K/\Bt (n+n) K/\Bt (n+n+1) P/\Bt (n+n+1) Q/\Bt (n+n) X/\Bt (n+n) Y/\(z - x)*(K:Rat)=P/\(v - y)*(K:Rat)=Q/\x*(K:Rat)=X/\y*(K:Rat)=Y:=by
 obtain⟨X,Y,K,h0,h1,h2,h3,h4,h5⟩:=h.ex;obtain⟨Z,V,L,g0,g1,g2,g3,g4,g5⟩:=g.ex;refine⟨Z*K - X*L,V*K - Y*L,X*L,Y*L,K*L,Int.mul_pos h0 g0,h1.mul g1,((g2.mul h1).sub (h2.mul g1)).mono (by omega),((g3.mul h1).sub (h3.mul g1)).mono (by omega),h2.mul g1,h3.mul g1,?_,?_,?_,?_⟩
 ·rw [J2,Ju,Ju,Ju,<- g4,<- h4];grind
 ·rw [J2,Ju,Ju,Ju,<- g5,<- h5];grind
 ·rw [Ju,Ju,<- h4];grind
 ·rw [Ju,Ju,<- h5];grind
section
variable {x y s z v r:Rat} {P Q K:Int}
theorem Ip (hK:0 < K) (ha:(z - x)*(K:Rat)=P) (hb:(v - y)*(K:Rat)=Q) (h0:(z - x)*(z - x)+(v - y)*(v - y)≠0):
  (P*P+Q*Q≠0)/\cT x y s z v r*((2*(P*P+Q*Q)*(s.den:Int)*(r.den:Int):Int):Rat)=(((s.num*(r.den:Int) - r.num*(s.den:Int))*(K*K)+(P*P+Q*Q)*(s.den:Int)*(r.den:Int):Int):Rat):=by
 have g:((z - x)*(z - x)+(v - y)*(v - y))*((K:Rat)*K)=((P*P+Q*Q:Int):Rat):=by
  rw [JM,Ju,Ju,<- ha,<- hb];grind
 have K0:(K:Rat)≠0:=λe=>by
  have:K=0:=by exact_mod_cast e
  omega
 refine⟨λe=>?_,?_⟩
 ·rw [e] at g;rcases Rat.mul_eq_zero.mp g with q | q
  ·exact h0 q
  ·rcases Rat.mul_eq_zero.mp q with q | q <;> exact K0 q
 ·have t:=zk (x:=x) (y:=y) (s:=s) (z:=z) (v:=v) (r:=r) h0;have d1:=dz s;have d2:=dz r;simp only [JM,Ju,J2] at g ⊢;generalize (z - x)*(z - x)+(v - y)*(v - y)=A at*
  generalize cT x y s z v r=T at*
  grind
theorem zZ {n:Nat} (h:Cd n x y) (g:Cd n z v) (sn:Bt 8 s.num) (sd:Bt 8 (s.den:Int)) (rn:Bt 8 r.num) (rd:Bt 8 (r.den:Int)) (h0:(z - x)*(z - x)+(v - y)*(v - y)≠0):
  ∃ P Q X Y K N D M:Int,0 < K/\0 < D/\Bt (n+n) K/\Bt (n+n+1) P/\Bt (n+n+1) Q/\Bt (n+n) X/\Bt (n+n) Y/\(z - x)*(K:Rat)=P/\(v - y)*(K:Rat)=Q/\x*(K:Rat)=X/\y*(K:Rat)=Y/\
   Bt (4*n+21) D/\Bt (4*n+22) N/\Bt (8*n+45) M/\cT x y s z v r*(D:Rat)=N/\cE x y s z v r*((D:Rat)*D)=M:=by
 obtain⟨P,Q,X,Y,K,hK,bK,bP,bQ,bX,bY,ha,hb,hx,hy⟩:=h.way g;obtain⟨G0,t⟩:=Ip (s:=s) (r:=r) hK ha hb h0;have s0:=lJ s;have r0:=lJ r;have bG:Bt (4*n+3) (P*P+Q*Q):=((bP.mul bP).add (bQ.mul bQ)).mono (by omega)
 have Gp:0 < P*P+Q*Q:=by
  have a1:0<=P*P:=by rw [<- Int.natAbs_mul_self' P]; exact Int.natCast_nonneg _
  have a2:0<=Q*Q:=by rw [<- Int.natAbs_mul_self' Q]; exact Int.natCast_nonneg _
  omega
 have bD:Bt (4*n+21) (2*(P*P+Q*Q)*(s.den:Int)*(r.den:Int)):=((((show Bt 2 2 by decide).mul bG).mul sd).mul rd).mono (by omega)
 have bN:Bt (4*n+22) ((s.num*(r.den:Int) - r.num*(s.den:Int))*(K*K)+(P*P+Q*Q)*(s.den:Int)*(r.den:Int)):=((((sn.mul rd).sub (rn.mul sd)).mul (bK.mul bK)).add ((bG.mul sd).mul rd)).mono (by omega)
 have D0:0 < 2*(P*P+Q*Q)*(s.den:Int)*(r.den:Int):=Int.mul_pos (Int.mul_pos (by omega) s0) r0
 have g:((z - x)*(z - x)+(v - y)*(v - y))*((K:Rat)*K)=((P*P+Q*Q:Int):Rat):=by
  rw [JM,Ju,Ju,<- ha,<- hb];grind
 have e:=AB (x:=x) (y:=y) (s:=s) (z:=z) (v:=v) (r:=r) h0;have d1:=dz s;generalize hN:(s.num*(r.den:Int) - r.num*(s.den:Int))*(K*K)+(P*P+Q*Q)*(s.den:Int)*(r.den:Int)=N at*
 have f:cE x y s z v r*(((2*(P*P+Q*Q)*(s.den:Int)*(r.den:Int):Int):Rat)*((2*(P*P+Q*Q)*(s.den:Int)*(r.den:Int):Int):Rat))=((4*(P*P+Q*Q)*s.num*(s.den:Int)*((r.den:Int)*(r.den:Int))*(K*K) - N*N:Int):Rat):=by
  clear hN bN bD D0 bG Gp;generalize P*P+Q*Q=G at*
  simp only [Ju,J2] at g t ⊢
  rw [<- t];generalize (z - x)*(z - x)+(v - y)*(v - y)=A at*
  generalize cT x y s z v r=T at*
  generalize cE x y s z v r=C at*
  rw [<- g,<- d1];have e2:((4:Int):Rat)=4:=rfl;have e3:((2:Int):Rat)=2:=rfl;rw [e2,e3];generalize ((s.den:Int):Rat)=a;generalize ((r.den:Int):Rat)=b;clear t g d1;have:=congrArg (·*(4*A*((K:Rat)*K)*((K:Rat)*K)*a*a*b*b)) e;grind
 have bM:Bt (8*n+45) (4*(P*P+Q*Q)*s.num*(s.den:Int)*((r.den:Int)*(r.den:Int))*(K*K) - N*N):=(((((((show Bt 3 4 by decide).mul bG).mul sn).mul sd).mul (rd.mul rd)).mul (bK.mul bK)).sub (bN.mul bN)).mono (by omega)
 exact⟨P,Q,X,Y,K,N,_,_,hK,D0,bK,bP,bQ,bX,bY,ha,hb,hx,hy,bD,bN,bM,t,f⟩
end
theorem Ck {k:Nat} {F M:Int} (h:F*F=M) (b:Bt (k+k) M):Bt k F:=by
 unfold Bt at*
 rw [<- h,Int.natAbs_mul,Nat.pow_add] at b;refine Nat.lt_of_not_le λz=>?_
 exact absurd b (Nat.not_lt.mpr (Nat.mul_le_mul z z))
section
variable {x y s z v r:Rat}
theorem Dm {n:Nat} (h:Cd n x y) (g:Cd n z v) (sn:Bt 8 s.num) (sd:Bt 8 (s.den:Int)) (rn:Bt 8 r.num) (rd:Bt 8 (r.den:Int)) (h0:(z - x)*(z - x)+(v - y)*(v - y)≠0):
  Sz (2*n+1) (z - x)/\Sz (2*n+1) (v - y)/\Sz (4*n+22) (cT x y s z v r)/\Sz (8*n+45) (cE x y s z v r)/\Cd (6*n+26) (x+(z - x)*cT x y s z v r) (y+(v - y)*cT x y s z v r):=by
 obtain⟨P,Q,X,Y,K,N,D,M,hK,hD,bK,bP,bQ,bX,bY,ha,hb,hx,hy,bD,bN,bM,ht,he⟩:=zZ h g sn sd rn rd h0;refine⟨iH (by omega) ha (bP.mono (by omega)) (bK.mono (by omega)),iH (by omega) hb (bQ.mono (by omega)) (bK.mono (by omega)),iH (by omega) ht bN (bD.mono (by omega)),?_,?_⟩
 ·have D1:=Int.mul_pos hD hD;exact iH (n:=M) (d:=D*D) (by omega) (by rw [Ju]; exact he) bM ((bD.mul bD).mono (by omega))
 ·refine⟨X*D+P*N,Y*D+Q*N,K*D,Int.mul_pos hK hD,(bK.mul bD).mono (by omega),((bX.mul bD).add (bP.mul bN)).mono (by omega),((bY.mul bD).add (bQ.mul bN)).mono (by omega),?_,?_⟩
  ·rw [JM,Ju,Ju,Ju,<- hx,<- ha,<- ht];grind
  ·rw [JM,Ju,Ju,Ju,<- hy,<- hb,<- ht];grind
theorem zP {n:Nat} {e:Rat} (h:Cd n x y) (g:Cd n z v) (sn:Bt 8 s.num) (sd:Bt 8 (s.den:Int)) (rn:Bt 8 r.num) (rd:Bt 8 (r.den:Int)) (h0:(z - x)*(z - x)+(v - y)*(v - y)≠0) (ee:e*e=cE x y s z v r):
  Cd (6*n+26) (x+(z - x)*cT x y s z v r+-(v - y)*e) (y+(v - y)*cT x y s z v r+(z - x)*e):=by
 obtain⟨P,Q,X,Y,K,N,D,M,hK,hD,bK,bP,bQ,bX,bY,ha,hb,hx,hy,bD,bN,bM,ht,he⟩:=zZ h g sn sd rn rd h0;have eF:(e*(D:Rat))*(e*(D:Rat))=(M:Rat):=by
  rw [<- he,<- ee];grind
 obtain⟨F,hF⟩:=xw eF;have eM:F*F=M:=by
  rw [hF,<- Ju] at eF
  exact_mod_cast eF
 have bF:Bt (4*n+23) F:=Ck eM (bM.mono (by omega))
 refine⟨X*D+P*N+-Q*F,Y*D+Q*N+P*F,K*D,Int.mul_pos hK hD,(bK.mul bD).mono (by omega),(((bX.mul bD).add (bP.mul bN)).add (bQ.neg.mul bF)).mono (by omega),(((bY.mul bD).add (bQ.mul bN)).add (bP.mul bF)).mono (by omega),?_,?_⟩
 ·rw [JM,JM,Ju,Ju,Ju,Ju,Rat.intCast_neg,<- hx,<- ha,<- hb,<- ht,<- hF];grind
 ·rw [JM,JM,Ju,Ju,Ju,Ju,<- hy,<- hb,<- ha,<- ht,<- hF];grind
theorem Cd.like {n k:Nat} {p q:Rat} (h:Cd n x y) (g:Cd n z v) (hp:Sz k p) (hq:Sz k q):Cd (2*n+2*k+4) (x+(p*(z - x) - q*(v - y))) (y+(p*(v - y)+q*(z - x))):=by
 obtain⟨P,Q,X,Y,K,hK,bK,bP,bQ,bX,bY,ha,hb,hx,hy⟩:=h.way g;have e1:=dz p;have e2:=dz q;refine⟨X*((p.den:Int)*q.den)+(p.num*q.den*P - q.num*p.den*Q),Y*((p.den:Int)*q.den)+(p.num*q.den*Q+q.num*p.den*P),K*((p.den:Int)*q.den),Int.mul_pos hK (Int.mul_pos (lJ p) (lJ q)),(bK.mul (hp.den.mul hq.den)).mono (by omega),?_,?_,?_,?_⟩
 ·exact((bX.mul (hp.den.mul hq.den)).add (((hp.num.mul hq.den).mul bP).sub ((hq.num.mul hp.den).mul bQ))).mono (by omega)
 ·exact((bY.mul (hp.den.mul hq.den)).add (((hp.num.mul hq.den).mul bQ).add ((hq.num.mul hp.den).mul bP))).mono (by omega)
 ·simp only [JM,J2,Ju];rw [<- hx,<- ha,<- hb,<- e1,<- e2];grind
 ·simp only [JM,J2,Ju];rw [<- hy,<- ha,<- hb,<- e1,<- e2];grind
end
structure Jg (n:Nat) (x y s z v r:Rat) (d:D) (u:Rat) (X Y:Q):Prop where
 e:d=Pq u X Y
 u0:0 < u
 no:kb u
 su:Sz (8*n+45) u
 xb:Sz (2*n+2) X.2
 yb:Sz (2*n+2) Y.2
 cd:Cd (6*n+26) X.1 Y.1
 one:bJ u (qs X (qo x)) (qs Y (qo y))=(s,0)
 two:bJ u (qs X (qo z)) (qs Y (qo v))=(r,0)
section
variable {x y s z v r:Rat}
theorem CU {σ:Rat} (hσ:σ*σ=1) (sσ:Sz 1 σ) {n:Nat} (h:Cd n x y) (g:Cd n z v) (sn:Bt 8 s.num) (sd:Bt 8 (s.den:Int)) (rn:Bt 8 r.num) (rd:Bt 8 (r.den:Int)) (h0:(z - x)*(z - x)+(v - y)*(v - y)≠0) (e0:0 < cE x y s z v r) (no:kb (cE x y s z v r)):
  Jg n x y s z v r (MP (x+(z - x)*cT x y s z v r) (y+(v - y)*cT x y s z v r) (σ*-(v - y)) (σ*(z - x)) (cE x y s z v r)) (cE x y s z v r) (x+(z - x)*cT x y s z v r,σ*-(v - y)) (y+(v - y)*cT x y s z v r,σ*(z - x)):=by
 obtain⟨c1,c2,_⟩:=B6 (x:=x) (y:=y) (s:=s) (z:=z) (v:=v) (r:=r) hσ rfl (zk h0) (by rw [AB h0])
 obtain⟨a1,a2,a3,a4,a5⟩:=Dm h g sn sd rn rd h0;exact⟨GV e0 no,e0,no,a4,(sσ.mul a2.neg).mono (by omega),(sσ.mul a1).mono (by omega),a5,c1,c2⟩
theorem AD {σ ρ:Rat} (hσ:σ=1\/σ=-1) {n:Nat} (h:Cd n x y) (g:Cd n z v) (sn:Bt 8 s.num) (sd:Bt 8 (s.den:Int)) (rn:Bt 8 r.num) (rd:Bt 8 (r.den:Int)) (h0:(z - x)*(z - x)+(v - y)*(v - y)≠0) (eρ:ρ*ρ=cE x y s z v r):
  Jg n x y s z v r (PP (x+(z - x)*cT x y s z v r+σ*-(v - y)*ρ) (y+(v - y)*cT x y s z v r+σ*(z - x)*ρ)) 2 (qo (x+(z - x)*cT x y s z v r+σ*-(v - y)*ρ)) (qo (y+(v - y)*cT x y s z v r+σ*(z - x)*ρ)):=by
 have hs:σ*σ=1:=by rcases hσ with rfl | rfl <;> grind
 obtain⟨c1,c2,_⟩:=Ca (u:=2) (x:=x) (y:=y) (s:=s) (z:=z) (v:=v) (r:=r) (ρ:=ρ) hs rfl (zk h0) (by rw [eρ,AB h0])
 have c:=zP (e:=σ*ρ) h g sn sd rn rd h0 (by rw [<- eρ]; grind)
 rw [show -(v - y)*(σ*ρ)=σ*-(v - y)*ρ by grind,show(z - x)*(σ*ρ)=σ*(z - x)*ρ by grind] at c
 obtain⟨t1,t2,_⟩:=yT;exact⟨Gv,t1,t2,⟨(show Bt 2 (2:Rat).num by decide).mono (by omega),(show Bt 2 ((2:Rat).den:Int) by decide).mono (by omega)⟩,Sz.zero.mono (by omega),Sz.zero.mono (by omega),c,c1,c2⟩
theorem Ac {n:Nat} (h:Cd n x y) (g:Cd n z v) (sn:Bt 8 s.num) (sd:Bt 8 (s.den:Int)) (rn:Bt 8 r.num) (rd:Bt 8 (r.den:Int)) (h0:(z - x)*(z - x)+(v - y)*(v - y)≠0):∀ d∈cL x y s z v r,∃ u X Y,Jg n x y s z v r d u X Y:=by
 have o1:Sz 1 (1:Rat):=⟨by decide,by decide⟩
 have o2:Sz 1 (-1:Rat):=⟨by decide,by decide⟩
 have q1:(1:Rat)*1=1:=by grind
 have q2:(-1:Rat)*-1=1:=by grind
 intro d hd
 by_cases e1:cE x y s z v r < 0
 ·rw [show cL x y s z v r=[] from if_pos e1] at hd
  cases hd
 by_cases e2:cE x y s z v r=0
 ·have c:cL x y s z v r=[PP (x+(z - x)*cT x y s z v r) (y+(v - y)*cT x y s z v r)]:=by
   unfold cL kK;rw [if_neg e1,if_pos e2]
  have j:=AD (ρ:=0) (.inl rfl) h g sn sd rn rd h0 (by rw [e2]; grind)
  rw [Rat.mul_zero,Rat.mul_zero,Rat.add_zero,Rat.add_zero] at j;rw [c,List.mem_singleton] at hd;rw [hd];exact⟨_,_,_,j⟩
 have e3:0 < cE x y s z v r:=by grind
 have c:cL x y s z v r=[MP (x+(z - x)*cT x y s z v r) (y+(v - y)*cT x y s z v r) (-(v - y)) (z - x) (cE x y s z v r),MP (x+(z - x)*cT x y s z v r) (y+(v - y)*cT x y s z v r) (- -(v - y)) (-(z - x)) (cE x y s z v r)]:=by
  unfold cL kK;rw [if_neg e1,if_neg e2]
 rw [c] at hd;simp only [JB,JK,or_false] at hd;rcases DR e3 with no | ⟨ρ,r0,eρ⟩
 ·rcases hd with rfl | rfl
  ·have j:=CU q1 o1 h g sn sd rn rd h0 e3 no;rw [show (1:Rat)*-(v - y)=-(v - y) by grind,show(1:Rat)*(z - x)=z - x by grind] at j
   exact⟨_,_,_,j⟩
  ·have j:=CU q2 o2 h g sn sd rn rd h0 e3 no;rw [show (-1:Rat)*-(v - y)=- -(v - y) by grind,show(-1:Rat)*(z - x)=-(z - x) by grind] at j
   exact⟨_,_,_,j⟩
 ·rw [<- eρ,CY r0,CY r0] at hd;rcases hd with rfl | rfl
  ·have j:=AD (.inl rfl) h g sn sd rn rd h0 eρ;rw [show (1:Rat)*-(v - y)=-(v - y) by grind,show(1:Rat)*(z - x)=z - x by grind] at j
   exact⟨_,_,_,j⟩
  ·have j:=AD (.inr rfl) h g sn sd rn rd h0 eρ;rw [show (-1:Rat)*-(v - y)=- -(v - y) by grind,show(-1:Rat)*(z - x)=-(z - x) by grind] at j
   exact⟨_,_,_,j⟩
end
theorem AI {u p q S:Rat} {x y z v:Q} (h:bJ u (qs z x) (qs v y)=(S,0)):bJ u (qs (j6 u x y z v (qo p) (qo q)) x) (qs (j_ u x y z v (qo p) (qo q)) y)=((p*p+q*q)*S,0):=by
 obtain⟨x1,x2⟩:=x;obtain⟨y1,y2⟩:=y;obtain⟨z1,z2⟩:=z;obtain⟨v1,v2⟩:=v;simp only [bJ,qs,qa,qm,qo,j6,j_,Prod.mk.injEq] at h ⊢;obtain⟨h1,h2⟩:=h
 constructor <;> grind
theorem AU {u p q S:Rat} {x y z v:Q} (h:bJ u (qs z x) (qs v y)=(S,0)):bJ u (qs (j6 u x y z v (qo p) (qo q)) z) (qs (j_ u x y z v (qo p) (qo q)) v)=(((1 - p)*(1 - p)+q*q)*S,0):=by
 obtain⟨x1,x2⟩:=x;obtain⟨y1,y2⟩:=y;obtain⟨z1,z2⟩:=z;obtain⟨v1,v2⟩:=v;simp only [bJ,qs,qa,qm,qo,j6,j_,Prod.mk.injEq] at h ⊢;obtain⟨h1,h2⟩:=h
 constructor <;> grind
set_option maxHeartbeats 4000000
theorem D' {a b:Rat} (h:ss a=ss b):a=b:=by
 have key:∀ {x y:Rat},0<=x->0<=y->x*x=y*y->x=y:=λhx hy e=>rz hx hy e rfl
 unfold ss ab at h
 split at h <;> split at h
 ·have:=key (x:=-a) (y:=-b) (by grind) (by grind) (by grind)
  grind
 ·rename_i h1 h2
  have:=cW b;have:=vx (b:=a) (by grind)
  grind
 ·rename_i h1 h2
  have:=cW a;have:=vx (b:=b) (by grind)
  grind
 ·exact key (by grind) (by grind) h
def iy (u x:Rat):Prop:=∃ b,ss b*u=x
noncomputable def bq (u x:Rat):Rat:=@dite _ (iy u x) (Classical.propDecidable _) (λh=>Classical.choose h) (λ_=>0)
theorem wP {u x:Rat} (h:iy u x):ss (bq u x)*u=x:=by
 unfold bq;rw [dif_pos h];exact Classical.choose_spec h
theorem uF {u x b:Rat} (u0:0 < u) (e:ss b*u=x):bq u x=b:=by
 have h:=wP ⟨b,e⟩;apply D';generalize ss (bq u x)=s at h ⊢;generalize ss b=t at e ⊢;have h2:(s - t)*u=0:=by grind
 have:u≠0:=by grind
 grind
theorem eP {u:Rat}:iy u 0:=⟨0,by rw [di,Rat.zero_mul]⟩
theorem mO {u:Rat} (u0:0 < u):bq u 0=0:=uF u0 (by rw [di,Rat.zero_mul])
noncomputable def rq (u:Rat) (n:Gn):Q:=(n.1,bq u n.2)
noncomputable def rp (u:Rat) (p:Gn×Gn):Q×Q:=(rq u p.1,rq u p.2)
def HR (u:Rat) (ps:List (Gn×Gn)):Prop:=∀ p∈ps,iy u p.1.2/\iy u p.2.2
def DP (u:Rat) (p:Q×Q):D:=Pq u p.1 p.2
theorem ul {u:Rat} {p:Gn×Gn} (h:iy u p.1.2/\iy u p.2.2):gP p=DP u (rp u p):=by
 show D.tup [.tup [fr p.1.1,fr p.1.2],.tup [fr p.2.1,fr p.2.2]]=D.tup [.tup [fr p.1.1,fr (ss (bq u p.1.2)*u)],.tup [fr p.2.1,fr (ss (bq u p.2.2)*u)]]
 rw [wP h.1,wP h.2]
structure Hn (m:Nat) (n:Gn):Prop where
 a:Sz m n.1
 u:Sz m n.2
 no:n.2=0\/kb (ab n.2)
def xm (m:Nat) (p:Gn×Gn):Prop:=Hn m p.1/\Hn m p.2
theorem EE {m:Nat} {x y r:Rat} (hx:x≠0) (hy:y≠0) (e:r*r=ab x / ab y) (sx:Sz m x) (sy:Sz m y):∃ b,ss b*ab x=y/\Sz (m+3) b:=by
 have ye:=ly hy;have e1:ab r*ab r=ab x / ab y:=(pL r).trans e;have e2:ab r*ab r*ab y=ab x:=by rw [e1]; exact Rat.div_mul_cancel ye
 have st:Sz (m+1) (ab r):=x6 ((sx.ab.div' sy.ab).mono (by omega)) e1
 have r0:0<=ab r:=mT r;generalize ab r=t at*
 have t0:t≠0:=λz=>by
  rw [z] at e2;exact ly hx (by rw [<- e2]; grind)
 have si:Sz (m+3) (1 / t):=(Sz.div' jt st).mono (by omega)
 have ei:1 / t*t=1:=Rat.div_mul_cancel t0;have i0:0<=1 / t:=kP (by decide) r0
 generalize 1 / t=i at*
 have es:ss i*ab x=ab y:=by
  rw [nX i0,<- e2];generalize ab y=y' at*
  have:i*i*(t*t*y')=(i*t)*(i*t)*y':=by grind
  rw [this,ei];grind
 by_cases n:y < 0
 ·refine⟨-i,?_,si.neg⟩;rw [qX];have:ab y=-y:=by unfold ab; rw [if_pos n]
  rw [this] at es;generalize ss i=s at*
  generalize ab x=x' at*
  grind
 ·exact⟨i,by rw [es]; unfold ab; rw [if_neg n],si⟩
theorem r_ {ps:List (Gn×Gn)} {p:Gn×Gn} (hp:p∈ps) {n:Gn} (hn:n=p.1\/n=p.2) (h0:n.2≠0):n∈eN ps:=
 List.mem_flatMap.mpr ⟨p,hp,List.mem_filter.mpr ⟨by rcases hn with rfl | rfl <;> simp,by simpa using h0⟩⟩
theorem sk {m:Nat} (m6:m<=6200000) {ps:List (Gn×Gn)} (ok:∀ p∈ps,xm m p) (h:yz ps):∃ u,Fd u/\Sz (m+3) u/\HR u ps/\∀ p∈ps,Sq (m+3) (rq u p.1)/\Sq (m+3) (rq u p.2):=by
 have fin:∀ u,Fd u->Sz (m+3) u->(∀ p∈ps,∀ n:Gn,(n=p.1\/n=p.2)->∃ b,ss b*u=n.2/\Sz (m+3) b)->∃ u,Fd u/\Sz (m+3) u/\HR u ps/\∀ p∈ps,Sq (m+3) (rq u p.1)/\Sq (m+3) (rq u p.2):=λu hu su w=>by
  have sq:∀ p∈ps,∀ n:Gn,(n=p.1\/n=p.2)->Hn m n->Sq (m+3) (rq u n):=λp hp n hn ok=>by
   obtain⟨b,e,s⟩:=w p hp n hn;refine⟨ok.a.mono (by omega),?_⟩
   show Sz (m+3) (bq u n.2)
   rw [uF hu.pos e];exact s
  refine⟨u,hu,su,λp hp=>⟨?_,?_⟩,λp hp=>⟨sq p hp _ (.inl rfl) (ok p hp).1,sq p hp _ (.inr rfl) (ok p hp).2⟩⟩
  ·obtain⟨b,e,_⟩:=w p hp _ (.inl rfl); exact⟨b,e⟩
  ·obtain⟨b,e,_⟩:=w p hp _ (.inr rfl); exact⟨b,e⟩
 have nok:∀ n∈eN ps,n.2≠0/\Hn m n:=λn hn=>by
  obtain⟨h0,p,hp,hh⟩:=mI hn;rcases hh with rfl | rfl
  ·exact⟨h0,(ok p hp).1⟩
  ·exact⟨h0,(ok p hp).2⟩
 have zero:∀ {u:Rat} {n:Gn},n.2=0->∃ b,ss b*u=n.2/\Sz (m+3) b:=λh0=>⟨0,by rw [h0,di,Rat.zero_mul],Sz.zero.mono (by omega)⟩
 cases e:eN ps with
 | nil=>
  refine fin 2 yT (Sz.mono (m:=2) ⟨by decide,by decide⟩ (by omega)) λp hp n hn=>zero ?_
  apply Classical.byContradiction;intro h0;have:=r_ hp hn h0;rw [e] at this;cases this
 | cons x0 t=>
  have m0:x0∈eN ps:=by rw [e]; exact JD
  obtain⟨n0,ok0⟩:=nok x0 m0;refine fin (ab x0.2) ⟨vB n0,ok0.no.resolve_left n0,ok0.u.ab.mono (by omega)⟩ (ok0.u.ab.mono (by omega)) λp hp n hn=>?_
  by_cases h0:n.2=0
  ·exact zero h0
  ·have mn:=r_ hp hn h0;obtain⟨_,okn⟩:=nok n mn;have sq:EM (ab x0.2 / ab n.2):=by
    rw [e] at mn;rcases JB.mp mn with rfl | mn
    ·refine⟨1,?_⟩;rw [Rat.div_def,Rat.mul_inv_cancel _ (ly h0),Rat.mul_one]
    ·have:=F5 (h n (by rw [e]; exact mn))
     rw [show (eN ps).headD (0,0)=x0 by rw [e]; rfl] at this
     rcases this with z | z | z
     ·exact absurd z n0
     ·exact absurd z h0
     ·exact z
   obtain⟨r,er⟩:=sq;exact EE n0 h0 er ok0.u okn.u
theorem Dz {u:Rat} {ps:List (Gn×Gn)} (u0:0 < u) (h:HR u ps):yz ps:=λn hn=>by
 have has:∀ n∈eN ps,n.2≠0/\iy u n.2:=λn hn=>by
  obtain⟨h0,p,hp,hh⟩:=mI hn;rcases hh with rfl | rfl
  ·exact⟨h0,(h p hp).1⟩
  ·exact⟨h0,(h p hp).2⟩
 cases e:eN ps with
 | nil=>rw [e] at hn; cases hn
 | cons x0 t=>
  obtain⟨m0,b,eb⟩:=has x0 (by rw [e]; exact JD)
  obtain⟨n0,d,ed⟩:=has n (List.mem_of_mem_tail hn);refine C9 (.inr (.inr ⟨b / d,?_⟩))
  show b / d*(b / d)=ab x0.2 / ab n.2
  rw [<- eb,<- ed,Aq u0,Aq u0];have d0:d≠0:=λz=>n0 (by rw [<- ed,z,di,Rat.zero_mul])
  have hb:b / d*d=b:=Rat.div_mul_cancel d0;have une:u≠0:=by grind
  have dd:d*d*u≠0:=by
   have:=vx d0;have:=JY this u0;grind
  have h2:b*b*u / (d*d*u)*(d*d*u)=b*b*u:=Rat.div_mul_cancel dd;generalize b*b*u / (d*d*u)=y at*
  generalize b / d=x at*
  have:(x*x - y)*(d*d*u)=0:=by subst hb; grind
  grind
set_option maxHeartbeats 4000000
theorem gU (t:Rat):1+t*t≠0:=by
 have:0<=t*t:=by
  rcases tri t with h | h | h
  ·exact Rat.le_of_lt (JY h h)
  ·have:=JY (show 0 < -t by grind) (show 0 < -t by grind); grind
  ·subst h; rw [Rat.mul_zero]; decide
 grind
def zm:Ks Rat->D
 | none=>.non
 | some t=>fr t
def pK:Ks Rat->Rat
 | none=>-1
 | some t=>(1 - t*t) / (1+t*t)
def pI:Ks Rat->Rat
 | none=>0
 | some t=>(t+t) / (1+t*t)
def qC (o:Ks Rat):Prop:=∀ t,o=some t->Sz 4 t
def kL:cH:=λds S k=>∃ o:Ks Rat,ds=[zm o]/\qC o/\k (W (pK o) (pI o)) S
theorem gA:ar ["drive","square","total"] ["drive"] (aj ie):=dZ
theorem oK (Fn:FN K "direction_of" ie f fd) (a8:aZ P w K mg base "negative" 1 ff) (aK:aZ P w K mg base "times" 35 eu) (bL:aZ P w K mg base "plus" 35 jq) (dM:aZ P w K mg base "over" 35 nV) (ca:aZ P w K mg base "minus" 35 jp) (a9:mq K mg "NOUGHT" [0,1]) (k6:mq K mg "ONE" [1,1]):
  aQ P w K mg base de 36 f fd ["drive"] (dw K kL):=by
 refine Fn.okJ gA (λds S k h=>?_) (λcdv A outer s H E hr=>⟨_,(af (av (au Ag (ah 0) dN (aD _)) (ag (ai (aA (aa (dq a8 hr (aa (eJ k6 rfl) ac)) (aa (eJ a9 rfl) ac))))) aE) (af (ak (i:=1) gA.nd (dq aK hr (aw 0 (aw 0 ac)))) (af (ak (i:=2) gA.nd (dq bL hr (aa (eJ k6 rfl) (aw 1 ac)))) (ag (ai (aA (aa (dq dM hr (aa (dq ca hr (aa (eJ k6 rfl) (aw 1 ac))) (aw 2 ac))) (aa (dq dM hr (aa (dq bL hr (aw 0 (aw 0 ac))) (aw 2 ac))) ac)))))))),λds S k h=>?_⟩)
 ·obtain⟨_,rfl,_⟩:=h
  rfl
 ·obtain⟨o,rfl,ho,w⟩:=h;cases o with
  | none=>exact⟨1,rfl,bZ,w⟩
  | some t=>
   have s:=ho t rfl;exact⟨t,t,rfl,s.mono (by decide),s.mono (by decide),1,t*t,rfl,jt.mono (by decide),(s.mul s).mono (by decide),1,t*t,rfl,jt.mono (by decide),(s.mul s).mono (by decide),_,_,rfl,gU t,(jt.sub (s.mul s)).mono (by decide),(jt.add (s.mul s)).mono (by decide),t,t,rfl,s.mono (by decide),s.mono (by decide),_,_,rfl,gU t,(s.add s).mono (by decide),(jt.add (s.mul s)).mono (by decide),bZ,w⟩
theorem B3 {o:Ks Rat} (h:qC o):Sz 20 (pK o):=by
 cases o with
 | none=>exact⟨by decide,by decide⟩
 | some t=>
  have s:=h t rfl;exact((jt.sub (s.mul s)).div (jt.add (s.mul s)) (gU t)).mono (by decide)
theorem BF {o:Ks Rat} (h:qC o):Sz 20 (pI o):=by
 cases o with
 | none=>exact⟨by decide,by decide⟩
 | some t=>
  have s:=h t rfl;exact((s.add s).div (jt.add (s.mul s)) (gU t)).mono (by decide)
def kZ:cH:=λds S k=>∃ (x y l:Rat) (o:Ks Rat),ds=[PP x y,fr l,zm o]/\Sz 30 x/\Sz 30 y/\Sz 14 l/\qC o/\k (PP (x+pK o*l) (y+pI o*l)) S
theorem sE:ar ["middle","length","drive"] ["middle","length","drive"] (aj kr):=dZ
theorem sw (Fn:FN K "crank_end" kr f fd) (bn:aZ P w K mg base "plain_point" 1 eQ) (gG:aZ P w K mg base "moved" 36 oX) (hU:aZ P w K mg base "direction_of" 36 kL) (cz:aZ P w K mg base "place_of" 1 jw):
  aQ P w K mg base de 37 f fd ["middle","length","drive"] (dw K kZ):=by
 refine Fn.okJ sE (λds S k h=>?_) (λcdv A outer s H E hr=>⟨_,(ag (ai (dq bn hr (aa (dq gG hr (aa (dq cz hr (aw 0 ac)) (aa (dq hU hr (aw 2 ac)) (aw 1 ac)))) ac)))),λds S k h=>?_⟩)
 ·obtain⟨_,_,_,_,rfl,_⟩:=h
  rfl
 ·obtain⟨x,y,l,o,rfl,hx,hy,hl,ho,w⟩:=h;exact⟨x,y,rfl,o,rfl,ho,x,y,pK o,pI o,l,rfl,hx.mono (by decide),hy.mono (by decide),(B3 ho).mono (by decide),(BF ho).mono (by decide),hl.mono (by decide),_,_,rfl,w⟩
set_option maxHeartbeats 4000000
abbrev Pt:=Gn×Gn
def pN:Nat->Nat
 | 0=>30
 | c+1=>6*pN c+26
def vN:Nat->Nat
 | 0=>30
 | c+1=>11*vN c+80
theorem yH:∀ c,pN c<=vN c
 | 0=>Jw _
 | c+1=>by have:=yH c; show 6*pN c+26<=11*vN c+80; omega
theorem Cc (c:Nat):pN c<=pN (c+1):=by show pN c<=6*pN c+26; omega
theorem Be (c:Nat):vN c<=vN (c+1):=by show vN c<=11*vN c+80; omega
theorem sU {a b:Nat} (h:a<=b):pN a<=pN b:=by
 induction h with
 | refl=>exact Jw _
 | step _ ih=>exact J7 ih (Cc _)
theorem sZ {a b:Nat} (h:a<=b):vN a<=vN b:=by
 induction h with
 | refl=>exact Jw _
 | step _ ih=>exact J7 ih (Be _)
theorem Jd {c:Nat} (h:c<=4):pN c<=45614:=J7 (sU h) (by decide)
theorem ID {c:Nat} (h:c<=4):vN c<=556350:=J7 (sZ h) (by decide)
theorem BL {c:Nat} (h:c<=4):12*pN c+49<=vN (c+1):=by
 match c,h with
 | 0,_=>decide
 | 1,_=>decide
 | 2,_=>decide
 | 3,_=>decide
 | 4,_=>decide
structure on (c:Nat) (p:Pt):Prop where
 cd:Cd (pN c) p.1.1 p.2.1
 u1:Sz (vN c) p.1.2
 u2:Sz (vN c) p.2.2
 n1:p.1.2=0\/kb (ab p.1.2)
 n2:p.2.2=0\/kb (ab p.2.2)
theorem on.mono {a b:Nat} {p:Pt} (h:on a p) (l:a<=b):on b p:=⟨h.cd.mono (sU l),h.u1.mono (sZ l),h.u2.mono (sZ l),h.n1,h.n2⟩
theorem on.pok {c:Nat} {p:Pt} (h:on c p):xm (vN c) p:=⟨⟨h.cd.sx.mono (yH c),h.u1,h.n1⟩,⟨h.cd.sy.mono (yH c),h.u2,h.n2⟩⟩
theorem xm.mono {m n:Nat} {p:Pt} (h:xm m p) (l:m<=n):xm n p:=⟨⟨h.1.a.mono l,h.1.u.mono l,h.1.no⟩,⟨h.2.a.mono l,h.2.u.mono l,h.2.no⟩⟩
def Pl (p:Pt):Prop:=p.1.2=0/\p.2.2=0
instance {p:Pt}:Decidable (Pl p):=inferInstanceAs (Decidable (_/\_))
theorem Pl.e {p:Pt} (h:Pl p):gP p=PP p.1.1 p.2.1:=by
 show D.tup [.tup [fr p.1.1,fr p.1.2],.tup [fr p.2.1,fr p.2.2]]=_
 rw [h.1,h.2]
 rfl
def pU (u:Rat) (X Y:Q):Pt:=((X.1,ss X.2*u),(Y.1,ss Y.2*u))
theorem wE {u b:Rat} (u0:0 < u) (no:kb u):ss b*u=0\/kb (ab (ss b*u)):=by
 by_cases h:b=0
 ·exact .inl ((ls u0).mpr h)
 ·right
  rw [rQ u0];exact Aj no h
noncomputable def BK (u:Rat) (p q:Pt) (a l:Rat):Pt:=pU u (j6 u (rq u p.1) (rq u p.2) (rq u q.1) (rq u q.2) (qo a) (qo l)) (j_ u (rq u p.1) (rq u p.2) (rq u q.1) (rq u q.2) (qo a) (qo l))
theorem Ci {u p q:Rat} {x y z v:Q}:(j6 u x y z v (qo p) (qo q)).1=x.1+(p*(z.1 - x.1) - q*(v.1 - y.1))/\(j_ u x y z v (qo p) (qo q)).1=y.1+(p*(v.1 - y.1)+q*(z.1 - x.1))/\(j6 u x y z v (qo p) (qo q)).2=x.2+(p*(z.2 - x.2) - q*(v.2 - y.2))/\(j_ u x y z v (qo p) (qo q)).2=y.2+(p*(v.2 - y.2)+q*(z.2 - x.2)):=by
 simp only [j6,j_,qa,qs,qm,qo];refine⟨?_,?_,?_,?_⟩ <;> grind
theorem on.like {c:Nat} {p q:Pt} {u a l:Rat} (hp:on c p) (hq:on c q) (sa:Sz 4 a) (sl:Sz 4 l) (u0:0 < u) (no:kb u) (su:Sz (vN c+3) u)
  (b1:Sq (vN c+3) (rq u p.1)) (b2:Sq (vN c+3) (rq u p.2)) (b3:Sq (vN c+3) (rq u q.1)) (b4:Sq (vN c+3) (rq u q.2)):on (c+1) (BK u p q a l):=by
 obtain⟨e1,e2,e3,e4⟩:=Ci (u:=u) (p:=a) (q:=l) (x:=rq u p.1) (y:=rq u p.2) (z:=rq u q.1) (v:=rq u q.2);have pc:30<=pN c:=sU (Kf c);refine⟨?_,?_,?_,wE u0 no,wE u0 no⟩
 ·show Cd _ (j6 u (rq u p.1) (rq u p.2) (rq u q.1) (rq u q.2) (qo a) (qo l)).1 (j_ u (rq u p.1) (rq u p.2) (rq u q.1) (rq u q.2) (qo a) (qo l)).1
  rw [e1,e2];exact(Cd.like hp.cd hq.cd sa sl).mono (by show 2*pN c+2*4+4<=6*pN c+26; omega)
 ·show Sz _ (ss (j6 u (rq u p.1) (rq u p.2) (rq u q.1) (rq u q.2) (qo a) (qo l)).2*u)
  rw [e3];exact(((b1.b.add ((sa.mul (b3.b.sub b1.b)).sub (sl.mul (b4.b.sub b2.b)))).ss).mul su).mono (by show _<=11*vN c+80; omega)
 ·show Sz _ (ss (j_ u (rq u p.1) (rq u p.2) (rq u q.1) (rq u q.2) (qo a) (qo l)).2*u)
  rw [e4];exact(((b2.b.add ((sa.mul (b4.b.sub b2.b)).add (sl.mul (b3.b.sub b1.b)))).ss).mul su).mono (by show _<=11*vN c+80; omega)
theorem EQ {n:Nat} {x y s z v r:Rat} (hn:n<=45614) (h:Cd n x y) (g:Cd n z v) (hs:Sz 8 s) (hr:Sz 8 r):Er x y s z v r:=by
 obtain⟨P,Q,X,Y,K,hK,bK,bP,bQ,bX,bY,ha,hb,hx,hy⟩:=h.way g;have s1:Sz 92000 (z - x):=(iH (k:=n+n+1) (by omega) ha bP (bK.mono (by omega))).mono (by omega)
 have s2:Sz 92000 (v - y):=(iH (k:=n+n+1) (by omega) hb bQ (bK.mono (by omega))).mono (by omega)
 refine⟨h.sx.mono (by omega),h.sy.mono (by omega),hs.mono (by decide),g.sx.mono (by omega),g.sy.mono (by omega),hr.mono (by decide),s1,s2,λh0=>?_,λh0=>?_,λh0=>?_,λh0=>?_⟩ <;> obtain⟨_,_,a3,a4,a5⟩:=Dm h g hs.num hs.den hr.num hr.den h0
 ·exact a3.mono (by omega)
 ·exact a4.mono (by omega)
 ·exact a5.sx.mono (by omega)
 ·exact a5.sy.mono (by omega)
theorem on.pair {c:Nat} {x y s z v r:Rat} {d:D} {u:Rat} {X Y:Q} (h4:c<=4) (j:Jg (pN c) x y s z v r d u X Y):on (c+1) (pU u X Y):=by
 have:=BL h4;exact⟨j.cd,((j.xb.ss).mul j.su).mono (by omega),((j.yb.ss).mul j.su).mono (by omega),wE j.u0 j.no,wE j.u0 j.no⟩
theorem Cd.crank {x y l:Rat} {o:Ks Rat} (hx:Sz 4 x) (hy:Sz 4 y) (hl:Sz 4 l) (ho:qC o):Cd 30 (x+pK o*l) (y+pI o*l):=by
 have ex:=dz x;have ey:=dz y;have el:=dz l;have px:=lJ x;have py:=lJ y;have pl:=lJ l;cases o with
 | none=>
  refine⟨x.num*y.den*l.den - l.num*x.den*y.den,y.num*x.den*l.den,x.den*y.den*l.den,Int.mul_pos (Int.mul_pos px py) pl,((hx.den.mul hy.den).mul hl.den).mono (by decide),(((hx.num.mul hy.den).mul hl.den).sub ((hl.num.mul hx.den).mul hy.den)).mono (by decide),((hy.num.mul hx.den).mul hl.den).mono (by decide),?_,?_⟩
  ·show(x+-1*l)*_=_
   simp only [J2,Ju];rw [<- ex,<- el];grind
  ·show(y+0*l)*_=_
   simp only [J2,Ju];rw [<- ey];grind
 | some t=>
  have et:=dz t;have pt:=lJ t;have ht:=ho t rfl;have h1:=gU t;have e1:(1 - t*t) / (1+t*t)*(1+t*t)=1 - t*t:=Rat.div_mul_cancel h1;have e2:(t+t) / (1+t*t)*(1+t*t)=t+t:=Rat.div_mul_cancel h1;have q0:0<=t.num*t.num:=by rw [<- Int.natAbs_mul_self' t.num]; exact Int.natCast_nonneg _
  have q1:0 < (t.den:Int)*(t.den:Int)+t.num*t.num:=by have:=Int.mul_pos pt pt; omega
  have bq:Bt 9 ((t.den:Int)*(t.den:Int)+t.num*t.num):=((ht.den.mul ht.den).add (ht.num.mul ht.num)).mono (by decide)
  have br:Bt 9 ((t.den:Int)*(t.den:Int) - t.num*t.num):=((ht.den.mul ht.den).sub (ht.num.mul ht.num)).mono (by decide)
  have b2:Bt 9 (t.num*t.den+t.num*t.den):=((ht.num.mul ht.den).add (ht.num.mul ht.den)).mono (by decide)
  refine⟨x.num*y.den*l.den*(t.den*t.den+t.num*t.num)+(t.den*t.den - t.num*t.num)*l.num*x.den*y.den,y.num*x.den*l.den*(t.den*t.den+t.num*t.num)+(t.num*t.den+t.num*t.den)*l.num*x.den*y.den,x.den*y.den*l.den*(t.den*t.den+t.num*t.num),Int.mul_pos (Int.mul_pos (Int.mul_pos px py) pl) q1,(((hx.den.mul hy.den).mul hl.den).mul bq).mono (by decide),((((hx.num.mul hy.den).mul hl.den).mul bq).add (((br.mul hl.num).mul hx.den).mul hy.den)).mono (by decide),((((hy.num.mul hx.den).mul hl.den).mul bq).add (((b2.mul hl.num).mul hx.den).mul hy.den)).mono (by decide),?_,?_⟩
  ·show(x+(1 - t*t) / (1+t*t)*l)*_=_
   simp only [J2,Ju,JM];rw [<- ex,<- el,<- et];generalize (1 - t*t) / (1+t*t)=d at*
   grind
  ·show(y+(t+t) / (1+t*t)*l)*_=_
   simp only [J2,Ju,JM];rw [<- ey,<- el,<- et];generalize (t+t) / (1+t*t)=d at*
   grind
theorem on.plain {x y:Rat} (h:Cd 30 x y):on 0 ((x,0),(y,0)):=⟨h,Sz.zero.mono (by decide),Sz.zero.mono (by decide),.inl rfl,.inl rfl⟩
set_option maxHeartbeats 4000000
def fP:cH:=λds S k=>∃ p:Pt,ds=[gP p]/\k (.bl (decide (Pl p))) S
theorem mX:ar ["point"] ["point"] (aj fQ):=dZ
theorem my (Fn:FN K "is_plain_point" fQ f fd) (ba:aZ P w K mg base "is_plain" 1 fg):
  aQ P w K mg base de 2 f fd ["point"] (dw K fP):=by
 refine Fn.okJ mX (λds S k h=>?_) (λcdv A outer s H E hr=>⟨_,(ag (ai (lQ (dq ba hr (aa (bh 0) ac)) (l' (dq ba hr (aa (bh 0) ac)))))),λds S k h=>?_⟩)
 ·obtain⟨_,rfl,_⟩:=h
  rfl
 ·obtain⟨p,rfl,w⟩:=h;refine⟨fr p.1.1,p.1.2,rfl,aV (λe=>⟨fr p.2.1,p.2.2,rfl,?_⟩) (λe=>?_)⟩
  ·have z:decide (Pl p)=decide (p.2.2=0):=by
    unfold Pl;simp [e]
   rw [z] at w;exact w
  ·rw [show decide (Pl p)=false from Ke λz=>e z.1] at w
   exact w
theorem pB {x y a b s:Rat}:(kK x y a b s).length<=2:=by
 unfold kK
 split
 ·decide
 ·split
  ·show 1<=2; decide
  ·show 2<=2; decide
noncomputable def kC (l:List D) (i:Nat):D:=if l.length=2 then l.getD i .non else l.getD 0 .non
theorem uM {l:List D} {i:Nat} (h:l≠[]) (h2:l.length<=2) (hi:i < 2):kC l i∈l:=by
 match l,h,h2 with
 | [a],_,_=>show kC [a] i∈[a]; unfold kC; simp
 | [a,b],_,_=>
  match i,hi with
  | 0,_=>simp [kC]
  | 1,_=>simp [kC]
noncomputable abbrev cP (p q:Pt) (s t:Rat):List D:=cL p.1.1 p.2.1 s q.1.1 q.2.1 t
abbrev aP (p q:Pt):Rat:=(q.1.1 - p.1.1)*(q.1.1 - p.1.1)+(q.2.1 - p.2.1)*(q.2.1 - p.2.1)
theorem vo {ps:List Pt} {i:Nat} {p:Pt} (h:ps[i]?=some p):L2.atI (ps.map gP) ((i:Nat):Int)=some (gP p):=L2.f' (by rw [JX,h]; rfl)
def gJ:cH:=λds S k=>match ds with
 | [.non,.non,.non]=>False/\k .non S
 | _=>False
theorem cV:ar ["step","number","points","one","other","found"] ["step","number","points"] (aj gO):=dZ
theorem qH (Fn:FN K "pair_point" gO f fd) (bH:aZ P w K mg base "is_plain_point" 2 fP) (bO:mg "len"=none):
  aQ P w K mg base de 3 f fd ["step","number","points"] (dw K gJ):=by
 refine Fn.okJ cV (λds S k h=>?_) (λcdv A outer s H E hr=>⟨_,(af (ak (i:=3) cV.nd (bb fB (ah 2) (bh 0) Zf)) (af (ak (i:=4) cV.nd (bb fB (ah 2) (bh 0) Zf)) (af (av (WJ.pt (eH (cg (bz (dq bH hr (aw 3 ac)))) (cY (cg (bz (dq bH hr (aw 4 ac))))))) (ag dn) aE) (af dn (af (av (au ej (aJ eI rfl bO eK (aw 5 ac)) aq (aD _)) (ag dn) aE) (ag (ai (uy (au ej (aJ eI rfl bO eK (aw 5 ac)) aq (aD _)) (bb fB (ah 5) (bh 0) Zf) (bh 5))))))))),λds S k h=>?_⟩)
 ·unfold gJ at h
  split at h
  ·rfl
  ·exact h.elim
 ·unfold gJ at h
  split at h
  ·exact h.1.elim
  ·exact h.elim
def lK (aC bj ck:Kr):jL:=λds S k e=>∃ (i j:Nat) (s t:Rat) (v n:Nat) (q:Kr) (ps:List Pt) (p1 p2:Pt),ds=[.tup [.str "pair",.int (i:Nat),.int (j:Nat),fr s,fr t,.int (v:Nat)],.int n,.ref q]/\S q=some (.lst (ps.map gP))/\ps[i]?=some p1/\ps[j]?=some p2/\v < 2/\(Pl p1->Pl p2->Er p1.1.1 p1.2.1 s p2.1.1 p2.2.1 t)/\
 (¬ (Pl p1/\Pl p2)->∀ S',b8 S S'->e aC S')/\(Pl p1->Pl p2->aP p1 p2=0\/cP p1 p2 s t=[]->∀ S',b8 S S'->e ck S')/\(Pl p1->Pl p2->aP p1 p2≠0->cP p1 p2 s t≠[]->∀ S' d,b8 S S'->d=kC (cP p1 p2 s t) v->k d S')
theorem ph {P:Ku} {w:Kw} {K:Fg} {mg:Str->Ks Kq} {base:Kx} {f:Kr} {fd:FuncData} {aC bj ck:Kr} (Fn:FN K "pair_point" gO f fd) (bH:aZ P w K mg base "is_plain_point" 2 fP) (gw:kd P w K mg base "circles_meet" 40 (j0 bj)) (bO:mg "len"=none) (lq:mg "Stuck"=some (.ref ck)) (qi_Stuck:yK K mg "Stuck" ck) (iX:mg "NoMeet"=some (.ref bj)) (t4:PySem.W.excIn K bj [.type "ValueError",.type "Exception",.type "BaseException",.type "object"] "ValueError.__new__"=true) (cK:mg "NoField"=some (.ref aC)) (nH:PySem.W.excIn K aC [.type "ValueError",.type "Exception",.type "BaseException",.type "object"] "ValueError.__new__"=true) (i7:PySem.W.exmOne K (.ref bj) (.ref bj)=some true):
  aQ P w K mg base (fK P w) 41 f fd ["step","number","points"] (u6 K (lK aC bj ck)):=by
 refine Fn.okX cV (λds S k x h=>?_) (λcdv A outer s H E ex hr hE=>⟨_,(af (ak (i:=3) cV.nd (bb fB (ah 2) (bh 0) Zf)) (af (ak (i:=4) cV.nd (bb fB (ah 2) (bh 0) Zf)) (af (av (WJ.pt (eH (cg (bz (dq bH hr (aw 3 ac)))) (cY (cg (bz (dq bH hr (aw 4 ac))))))) (ag (hV hE PySem.F.excBase_ValueError nH cK rfl)) aE) (af (xI (i:=5) (j:=1) hE qi_Stuck (λex=>(mo gw (hr.mono (by decide)) rfl (aw 3 (aa (bh 0) (aw 4 (aa (bh 0) ac)))))) (hr.mono (by decide)) rfl rfl (.inl rfl) rfl iX cV.nd rfl (.inl rfl)) (af (av (au ej (aJ eI rfl bO eK (aw 5 ac)) aq (aD _)) (ag (uS (j:=1) hE qi_Stuck (hr.mono (by decide)) rfl rfl (.inl rfl))) aE) (ag (ai (uy (au ej (aJ eI rfl bO eK (aw 5 ac)) aq (aD _)) (bb fB (ah 5) (bh 0) Zf) (bh 5))))))))),λds S k h=>?_⟩)
 ·obtain⟨_,_,_,_,_,_,_,_,_,_,rfl,_⟩:=h
  rfl
 ·obtain⟨i,j,s,t,v,n,q,ps,p1,p2,rfl,hq,h1,h2,hv,hz,wf,w0,w1⟩:=h;refine⟨_,_,hq,vo h1,_,_,hq,vo h2,p1,rfl,dE (λz=>vF (wf (λh=>z h.1) S (b8.refl S))) (λhp1=>⟨p2,rfl,dE (λz=>wf (λh=>z h.2) S (b8.refl S)) (λhp2=>?_)⟩)⟩
  have hz:=hz hp1 hp2;have w0:=w0 hp1 hp2;have w1:=w1 hp1 hp2;refine⟨p1.1.1,p1.2.1,s,p2.1.1,p2.2.1,t,by rw [<- hp1.e,<- hp2.e],hz,λa0=>⟨i7,⟨_,rfl⟩,w0 (.inl a0) S (b8.refl S)⟩,λa1 S' p e hp=>?_⟩
  have hl:(cP p1 p2 s t).length<=2:=pB;have e1:b8 S (put S' p (.lst (cP p1 p2 s t))):=e.put (e.none hp)
  show ut _ _ _ _ (put S' p (.lst (cP p1 p2 s t)))
  generalize cP p1 p2 s t=l at*
  refine⟨_,am,aV (λz0=>?_) (λz0=>⟨_,am,aV (λz2=>?_) (λz2=>?_)⟩)⟩
  ·exact⟨⟨_,rfl⟩,w0 (.inr (Kn.mp (by omega))) _ e1⟩
  ·match l,z2 with
   | [a,b],_=>
    have w:=w1 a1 (λz=>by cases z) _ _ e1 rfl
    match v,hv with
    | 0,_=>exact⟨_,_,am,ke,w⟩
    | 1,_=>exact⟨_,_,am,CG,w⟩
   | [],z=>exact absurd z (by decide)
   | [_],z=>exact absurd (show (1:Int)=2 from z) (by decide)
  ·match l,z0,z2,hl with
   | [a],_,_,_=>exact⟨_,_,am,ke,w1 a1 (λz=>by cases z) _ _ e1 rfl⟩
   | [],z,_,_=>exact absurd rfl z
   | [_,_],_,z,_=>exact absurd rfl z
set_option maxHeartbeats 4000000
def lr:cH:=λds S k=>match ds with
 | [.non,.non,.non,.non]=>False/\k .non S
 | _=>False
theorem cj:ar ["one","other","along","left","way","ahead","aside","x","y"] ["one","other","along","left"] (aj lf):=dZ
theorem wm (Fn:FN K "like_at" lf f fd) (bA:aZ P w K mg base "ask_one_field" 38 eX) (aU:aZ P w K mg base "way_between" 40 dH) (cf:aZ P w K mg base "root_minus" 39 gS) (aX:aZ P w K mg base "root_times" 38 gH) (bg:aZ P w K mg base "root_plus" 38 gp) (a9:mq K mg "NOUGHT" [0,1]):
  aQ P w K mg base de 41 f fd ["one","other","along","left"] (dw K lr):=by
 refine Fn.okJ cj (λds S k h=>?_) (λcdv A outer s H E hr=>⟨_,(af (aS (dq bA hr (aa (aA (aw 0 (aw 1 ac))) ac))) (af (ak (i:=4) cj.nd (dq aU hr (aw 0 (aw 1 ac)))) (af (ak (i:=5) cj.nd (aA (aw 2 (aa (eJ a9 rfl) ac)))) (af (ak (i:=6) cj.nd (aA (aw 3 (aa (eJ a9 rfl) ac)))) (af (ak (i:=7) cj.nd (dq cf hr (aa (dq aX hr (aw 5 (aa (bh 4) ac))) (aa (dq aX hr (aw 6 (aa (bh 4) ac))) ac)))) (af (ak (i:=8) cj.nd (dq bg hr (aa (dq aX hr (aw 5 (aa (bh 4) ac))) (aa (dq aX hr (aw 6 (aa (bh 4) ac))) ac)))) (ag (ai (aA (aa (dq bg hr (aa (bh 0) (aw 7 ac))) (aa (dq bg hr (aa (bh 0) (aw 8 ac))) ac))))))))))),λds S k h=>?_⟩)
 ·unfold lr at h
  split at h
  ·rfl
  ·exact h.elim
 ·unfold lr at h
  split at h
  ·exact h.1.elim
  ·exact h.elim
theorem HR.two {u:Rat} {p q:Pt} (h:HR u [p,q]):(iy u p.1.2/\iy u p.2.2)/\iy u q.1.2/\iy u q.2.2:=⟨h p (by simp),h q (by simp)⟩
def pF (aC:Kr):jL:=λds S k x=>∃ (m:Nat) (p q:Pt) (a l:Rat),ds=[gP p,gP q,fr a,fr l]/\m<=556350/\xm m p/\xm m q/\Sz 4 a/\Sz 4 l/\(¬ yz [p,q]->∀ S',b8 S S'->x aC S')/\
 (∀ u,0 < u->kb u->Sz (m+3) u->HR u [p,q]->Sq (m+3) (rq u p.1)->Sq (m+3) (rq u p.2)->Sq (m+3) (rq u q.1)->Sq (m+3) (rq u q.2)->∀ S',b8 S S'->k (gP (BK u p q a l)) S')
theorem uA {P:Ku} {w:Kw} {K:Fg} {mg:Str->Ks Kq} {base:Kx} {f:Kr} {fd:FuncData} {aC:Kr} (Fn:FN K "like_at" lf f fd) (bg:aZ P w K mg base "root_plus" 38 gp) (aX:aZ P w K mg base "root_times" 38 gH) (cf:aZ P w K mg base "root_minus" 39 gS) (aU:aZ P w K mg base "way_between" 40 dH) (cw:kd P w K mg base "ask_one_field" 38 (fV aC)) (a9:mq K mg "NOUGHT" [0,1]):
  aQ P w K mg base (fK P w) 41 f fd ["one","other","along","left"] (u6 K (pF aC)):=by
 refine Fn.okX cj (λds S k x h=>?_) (λcdv A outer s H E ex hr hE=>⟨_,(af (aS (gn hE cw (hr.mono (by decide)) rfl (aa (aA (aw 0 (aw 1 ac))) ac))) (af (ak (i:=4) cj.nd (dq aU hr (aw 0 (aw 1 ac)))) (af (ak (i:=5) cj.nd (aA (aw 2 (aa (eJ a9 rfl) ac)))) (af (ak (i:=6) cj.nd (aA (aw 3 (aa (eJ a9 rfl) ac)))) (af (ak (i:=7) cj.nd (dq cf hr (aa (dq aX hr (aw 5 (aa (bh 4) ac))) (aa (dq aX hr (aw 6 (aa (bh 4) ac))) ac)))) (af (ak (i:=8) cj.nd (dq bg hr (aa (dq aX hr (aw 5 (aa (bh 4) ac))) (aa (dq aX hr (aw 6 (aa (bh 4) ac))) ac)))) (ag (ai (aA (aa (dq bg hr (aa (bh 0) (aw 7 ac))) (aa (dq bg hr (aa (bh 0) (aw 8 ac))) ac))))))))))),λds S k h=>?_⟩)
 ·obtain⟨_,_,_,_,_,rfl,_⟩:=h
  rfl
 ·obtain⟨m,p,q,a,l,rfl,hm,hp,hq,sa,sl,w0,w⟩:=h;have all:∀ r∈[p,q],xm m r:=λr hr=>by
   simp only [JB,JK,or_false] at hr;rcases hr with rfl | rfl
   ·exact hp
   ·exact hq
  refine⟨bZ,[p,q],rfl,λr hr=>⟨(all r hr).1.u.mono (by omega),(all r hr).2.u.mono (by omega)⟩,(by show 2<=90; decide),λone S1 e1=>?_,w0⟩
  obtain⟨u,hu,su,hR,hs⟩:=sk (m:=m) (by omega) all one
  obtain⟨x1,y1⟩:=hs p (by simp)
  obtain⟨z1,v1⟩:=hs q (by simp)
  have w:=w u hu.pos hu.no su hR x1 y1 z1 v1 S1 e1;have hd1:Sq 1200000 (qs (rq u q.1) (rq u p.1)):=(Fc z1 x1).mono (by omega)
  have hd2:Sq 1200000 (qs (rq u q.2) (rq u p.2)):=(Fc v1 y1).mono (by omega)
  have x1:=x1.mono (n:=600000) (by omega)
  have y1:=y1.mono (n:=600000) (by omega)
  have z1:=z1.mono (n:=600000) (by omega)
  have v1:=v1.mono (n:=600000) (by omega)
  rw [ul (hR p (by simp)),ul (hR q (by simp))]
  have ep:gP (BK u p q a l)=Pq u (j6 u (rq u p.1) (rq u p.2) (rq u q.1) (rq u q.2) (qo a) (qo l)) (j_ u (rq u p.1) (rq u p.2) (rq u q.1) (rq u q.2) (qo a) (qo l)):=rfl;rw [ep] at w;clear ep w0 all hR su
  show ut _ _ _ [some (Pq u (rq u p.1) (rq u p.2)),some (Pq u (rq u q.1) (rq u q.2)),_,_,_,_,_,_,_] _
  generalize rq u p.1=x at*
  generalize rq u p.2=y at*
  generalize rq u q.1=z at*
  generalize rq u q.2=v at*
  have s4:∀ {t:Rat},Sz 4 t->Sq 1200000 (qo t):=λh=>FV (h.mono (by decide)) (by decide)
  have sc:∀ {t:Rat} {X:Q},Sz 4 t->Sq 1200000 X->Sq 1200004 (qm u (qo t) X):=λ{t X} ht hX=>by
   refine⟨?_,?_⟩
   ·show Sz _ (t*X.1+0*X.2*u)
    rw [show t*X.1+0*X.2*u=t*X.1 by grind]
    exact(ht.mul hX.a).mono (by decide)
   ·show Sz _ (t*X.2+0*X.1)
    rw [show t*X.2+0*X.1=t*X.2 by grind]
    exact(ht.mul hX.b).mono (by decide)
  have m1:=sc sa hd1;have m2:=sc sl hd2;have m3:=sc sa hd2;have m4:=sc sl hd1;refine⟨u,x,y,z,v,rfl,hu,x1,y1,z1,v1,bZ,bZ,?_⟩;refine⟨u,_,_,_,_,congrArg (λt=>[t,_]) (hJ (u:=u)),hu,s4 sa,hd1,?_⟩
  refine⟨u,_,_,_,_,congrArg (λt=>[t,_]) (hJ (u:=u)),hu,s4 sl,hd2,?_⟩
  refine⟨u,_,_,_,_,rfl,hu,m1.sn (by decide),m2.sn (by decide),?_⟩
  refine⟨u,_,_,_,_,congrArg (λt=>[t,_]) (hJ (u:=u)),hu,s4 sa,hd2,?_⟩
  refine⟨u,_,_,_,_,congrArg (λt=>[t,_]) (hJ (u:=u)),hu,s4 sl,hd1,?_⟩
  refine⟨u,_,_,_,_,rfl,hu,m3.sn (by decide),m4.sn (by decide),?_⟩
  exact⟨u,_,_,_,_,rfl,hu,x1.sn (by decide),(Fc m1 m2).sn (by decide),u,_,_,_,_,rfl,hu,y1.sn (by decide),(I0 m3 m4).sn (by decide),bZ,w⟩
set_option maxHeartbeats 4000000
def kX:cH:=λds S k=>∃ (ns:List Int) (i:Int),ds=[.rl (List.map D.int ns),.int i]/\0<=i/\∀ c:Int,k (.int c) S
theorem oQ:ar ["script","k"] ["script","k"] (aj gY):=dZ
theorem ox (Fn:FN K "_law_cell_at" gY f fd) (bO:mg "len"=none):
  aQ P w K mg base de 1 f fd ["script","k"] (dw K kX):=by
 refine Fn.okJ oQ (λds S k h=>?_) (λcdv A outer s H E hr=>⟨_,(af (av (au sS (ah 1) (aJ eI rfl bO eK (aw 0 ac)) (aD _)) (ag (ai (bb fB (ah 0) (ah 1) Zf))) aE) (ag (ai aq))),λds S k h=>?_⟩)
 ·obtain⟨_,_,rfl,_⟩:=h
  rfl
 ·obtain⟨ns,i,rfl,h0,q⟩:=h;refine aV (λhl=>?_) (λ_=>q 0)
  obtain⟨n,rfl⟩:=Int.eq_ofNat_of_zero_le h0;have hn:n < ns.length:=by rw [Jy] at hl; omega
  have e:L2.atI (List.map D.int ns) (n:Int)=some (.int ns[n]):=f' (by rw [JX,JV hn] <;> rfl)
  exact⟨_,e,q _⟩
def mx:cH:=λds S k=>∃ ns i,ds=[.rl (List.map D.int ns),.int i]/\0<=i/\∀ (p:Kr) (n:Int) (b:KA),S p=none->(b=false->0<=n/\n < 2147483647)->k (.ref p) (put S p (.lst [.int n,.bl b]))
theorem lA:ar ["script","k","cell"] ["script","k"] (aj jF):=dZ
theorem qK (Fn:FN K "_law_state" jF f fd) (ic:aZ P w K mg base "_law_cell_at" 1 kX):
  aQ P w K mg base de 2 f fd ["script","k"] (dw K mx):=by
 refine Fn.okJ lA (λds S k h=>?_) (λcdv A outer s H E hr=>⟨_,(af (ak (i:=2) lA.nd (dq ic hr (aw 0 (aw 1 ac)))) (af (av (au GC (ah 2) (aN Dk aq aq) (aD _)) (ag (ai (bU (aa (aN pq (ah 2) (aN Dk aq aq)) (aa fN ac))))) aE) (ag (ai (bU (aa (aN mW (ah 2) aq) (aa fN ac))))))),λds S k h=>?_⟩)
 ·obtain⟨_,_,rfl,_⟩:=h
  rfl
 ·obtain⟨ns,i,rfl,h0,q⟩:=h;have hp:Ez 10 18:=⟨by decide,by decide,by decide⟩
  refine⟨ns,i,rfl,h0,λc=>⟨hp,aV (λhl=>⟨hp,bZ,λp hn=>?_⟩) (λhl=>⟨(by show(2147483647:Int)≠0; decide),bZ,λp hn=>?_⟩)⟩⟩
  ·exact q p _ _ hn (λz=>by cases z)
  ·exact q p _ _ hn (λ_=>⟨Kc _ (by decide),Kl _ (by decide)⟩)
def fq:cH:=λds S k=>∃ a m,ds=[.ref a,.int m]/\0 < m/\Bt 200 m/\tO S a/\∀ r S',0<=r->r < m->Dr a S S'->k (.int r) S'
theorem gQ:ar ["state","many","mixed","found"] ["state","many"] (aj kz):=dZ
theorem rV (Fn:FN K "_law_take" kz f fd):
  aQ P w K mg base de 1 f fd ["state","many"] (dw K fq):=by
 refine Fn.okJ gQ (λds S k h=>?_) (λcdv A outer s H E hr=>⟨_,(af (av (bz (bh 0)) (af (ak (i:=3) gQ.nd (aN mW (bh 0) (ah 1))) (af (kB (aN xn (bh 0) (ah 1)) (wU (ah 0) aq)) (ag (ai (ah 3))))) aE) (af (kB (aN mW (aN fL (aN fu (bh 0) aq) aq) aq) (wU (ah 0) aq)) (af (ak (i:=2) gQ.nd (aN mW (aN fL (aN fL (aN fu (bh 0) (bh 0)) (aN fu aq (bh 0))) aq) aq)) (af (ak (i:=2) gQ.nd (aN mW (aN fL (aN fu (ah 2) (ah 2)) (aN fu aq (ah 2))) aq)) (ag (ai (aN mW (aN xn (ah 2) aq) (ah 1)))))))),λds S k h=>?_⟩)
 ·obtain⟨_,_,rfl,_⟩:=h
  rfl
 ·obtain⟨a,m,rfl,hm,hb,⟨n,b,hS,hn⟩,q⟩:=h;have put_dr:∀ (n':Int) (b':KA),(b'=false->0<=n'/\n' < 2147483647)->Dr a S (put S a (.lst [.int n',.bl b'])):=λn' b' h'=>
   ⟨⟨n',b',am,h'⟩,λc o z e=>by rw [bV z]; exact e⟩
  refine⟨_,_,hS,CG,?_⟩;cases b with
  | true=>
   refine⟨_,_,hS,ke,(show m≠0 by omega),_,_,hS,ke,Hb (by omega) hb,_,_,hS,G5,?_⟩
   exact q _ _ (Kc _ hm) (Kl _ hm) (put_dr _ _ λz=>by cases z)
  | false=>
   obtain⟨n0,n1⟩:=hn rfl;have b31:=yo n0 (by omega)
   refine⟨_,_,hS,ke,tQ (n:=31) b31 (yo (by decide) (by decide)),(show (2147483647:Int)≠0 by decide),_,_,hS,G5,?_⟩
   have c0:0<=(n*48271+29).fmod 2147483647:=Kc _ (by decide)
   have c1:(n*48271+29).fmod 2147483647 < 2147483647:=Kl _ (by decide)
   have bx:=yo c0 (by omega)
   refine⟨_,_,am,ke,_,_,am,ke,tQ bx bx,_,_,am,ke,tQ (m:=31) (yo (by decide) (by decide)) bx,(show (2147483629:Int)≠0 by decide),?_⟩
   have d0:0<=((n*48271+29).fmod 2147483647*(n*48271+29).fmod 2147483647+39373*(n*48271+29).fmod 2147483647+7).fmod 2147483629:=Kc _ (by decide)
   have d1:((n*48271+29).fmod 2147483647*(n*48271+29).fmod 2147483647+39373*(n*48271+29).fmod 2147483647+7).fmod 2147483629 < 2147483629:=Kl _ (by decide)
   have by':=yo d0 (by omega)
   refine⟨tQ by' by',tQ (m:=31) (yo (by decide) (by decide)) by',(show (2147483587:Int)≠0 by decide),⟨by decide,by decide +kernel⟩,(show m≠0 by omega),?_⟩
   exact q _ _ (Kc _ hm) (Kl _ hm) (put_dr _ _ λ_=>⟨c0,c1⟩)
theorem Bj (a b:Int):Int.gcd (qL a) (qL b)=Int.gcd a b:=by
 have e:∀ x:Int,(qL x).natAbs=x.natAbs:=λx=>by unfold qL; split <;> omega
 unfold Int.gcd;rw [e,e]
def kA:cH:=λds S k=>∃ a b,ds=[.int a,.int b]/\k (.int ((Int.gcd a b:Nat):Int)) S
theorem eU:ar ["one","other"] ["one","other"] (aj iA):=dZ
theorem oM (Fn:FN K "_law_divisor" iA f fd) (lG:mg "abs"=none):
  aQ P w K mg base de 1 f fd ["one","other"] (dw K kA):=by
 refine Fn.okJ eU (λds S k h=>?_) (λcdv A outer s H E hr=>⟨_,(af (ak (i:=0) eU.nd (aJ xg rfl lG sT (aw 0 ac))) (af (ak (i:=1) eU.nd (aJ xg rfl lG sT (aw 1 ac))) (af (lU PassesOwn.never (au Ed (ah 1) aq (aD _)) (ag (um (i:=0) (j:=1) rfl eU.nd (by decide) (aw 1 (aa (aN mW (ah 0) (ah 1)) ac))))) (ag (ai (ah 0)))))),λds S k h=>?_⟩)
 ·obtain⟨_,_,rfl,_⟩:=h
  rfl
 ·obtain⟨a,b,rfl,q⟩:=h;refine⟨λm L S'=>S'=S/\∃ x y,L=[some (.int x),some (.int y)]/\m=y.natAbs/\0<=x/\0<=y/\Int.gcd x y=Int.gcd a b,⟨_,rfl,qL a,qL b,rfl,rfl,wD a,wD b,Bj a b⟩,?_⟩
  rintro m L S' ⟨rfl,x,y,rfl,rfl,hx,hy,e⟩;refine aV (λhl=>⟨λL' S''=>∃ m',m' < y.natAbs/\S''=S'/\∃ x y,L'=[some (.int x),some (.int y)]/\m'=y.natAbs/\0<=x/\0<=y/\Int.gcd x y=Int.gcd a b,λ_ _ z=>z,by omega,?_⟩) (λhl=>?_)
  ·exact⟨_,wR x y (by omega),rfl,y,x.fmod y,rfl,rfl,hy,Kc _ hl,(uZ x y).trans e⟩
  ·have z:y=0:=by omega
   subst z;have e2:=uk x;rw [e,if_neg (by omega)] at e2
   rw [e2] at q;exact q
def gK:cH:=λds S k=>∃ t b,ds=[.int t,.int b]/\b≠0/\Bt 8000 b/\k (fr (Rat.divInt t b)) S
theorem iM:ar ["top","bottom","by"] ["top","bottom"] (aj jc):=dZ
theorem qk (Fn:FN K "_law_ratio" jc f fd) (im:aZ P w K mg base "_law_divisor" 1 kA):
  aQ P w K mg base de 2 f fd ["top","bottom"] (dw K gK):=by
 refine Fn.okJ iM (λds S k h=>?_) (λcdv A outer s H E hr=>⟨_,(af (ak (i:=2) iM.nd (dq im hr (aw 0 (aw 1 ac)))) (af (av (au sS (ah 1) aq (aD _)) (ag (ak (i:=2) iM.nd (aN pq aq (ah 2)))) aE) (ag (ai (aA (aa (aN xn (ah 0) (ah 2)) (aa (aN xn (ah 1) (ah 2)) ac))))))),λds S k h=>?_⟩)
 ·obtain⟨_,_,rfl,_⟩:=h
  rfl
 ·obtain⟨t,b,rfl,h0,hb,q⟩:=h;have hg:=zn (t:=t) h0 hb;have hs:=zS (t:=t) h0;have e1:=oW (t:=t) h0;have e2:=m7 (t:=t) h0;have qq:k (.tup [.int (t.fdiv (x9 t b)),.int (b.fdiv (x9 t b))]) S:=by rw [e1,e2]; exact q
  unfold x9 at qq hs
  refine⟨t,b,rfl,aV (λhl=>?_) (λhl=>?_)⟩
  ·rw [if_pos hl] at qq hs
   rw [<- Int.zero_sub] at qq hs
   have hd:∀ x:Int,ww x (0 - ((Int.gcd t b:Nat):Int)):=λx=>Hb hs (by rw [Int.zero_sub]; exact hg.neg)
   exact⟨hd _,hd _,bZ,qq⟩
  ·rw [if_neg hl] at qq hs
   exact⟨Hb hs hg,Hb hs hg,bZ,qq⟩
def jV:cH:=λds S k=>∃ (a b c d:Int) (q:Rat),ds=[pr a b,pr c d]/\b*d≠0/\Bt 4000 a/\Bt 4000 b/\Bt 4000 c/\Bt 4000 d/\Rat.divInt (a*c) (b*d)=q/\k (fr q) S
theorem qw:ar ["one","other"] ["one","other"] (aj jk):=dZ
theorem qM (Fn:FN K "_law_times" jk f fd) (cq:aZ P w K mg base "_law_ratio" 2 gK):
  aQ P w K mg base de 3 f fd ["one","other"] (dw K jV):=by
 refine Fn.okJ qw (λds S k h=>?_) (λcdv A outer s H E hr=>⟨_,(ag (ai (dq cq hr (aa (aN fu (bh 0) (bh 1)) (aa (aN fu (bh 0) (bh 1)) ac))))),λds S k h=>?_⟩)
 ·obtain⟨_,_,_,_,_,rfl,_⟩:=h
  rfl
 ·obtain⟨a,b,c,d,_,rfl,h0,h1,h2,h3,h4,rfl,q⟩:=h;exact⟨tQ h1 h3,tQ h2 h4,_,_,rfl,h0,(h2.mul h4).mono (by decide),q⟩
theorem yd {t b:Int} (h0:0 < b) (h6:b<=6):(Rat.divInt t b).den<=6:=by
 have h1:=m7 (t:=t) (b:=b) (by omega)
 have h2:=HM.dY b (x9 t b);rw [h1] at h2;omega
def jx:cH:=λds S k=>∃ a,ds=[.ref a]/\tO S a/\∀ q S',Sz 4 q/\q.den<=6->Dr a S S'->k (fr q) S'
theorem qx:ar ["state"] ["state"] (aj ju):=dZ
theorem qv (Fn:FN K "_law_small" ju f fd) (cq:aZ P w K mg base "_law_ratio" 2 gK) (aH:aZ P w K mg base "_law_take" 1 fq):
  aQ P w K mg base de 3 f fd ["state"] (dw K jx):=by
 refine Fn.okJ qx (λds S k h=>?_) (λcdv A outer s H E hr=>⟨_,(ag (ai (dq cq hr (aa (aN pq (dq aH hr (aw 0 (aa aq ac))) aq) (aa (aN fL aq (bb fB (bU (aa aq (aa aq (aa (dq aH hr (aw 0 (aa aq ac))) ac)))) (dq aH hr (aw 0 (aa aq ac))) Zf)) ac))))),λds S k h=>?_⟩)
 ·obtain⟨_,rfl,_⟩:=h
  rfl
 ·obtain⟨a,rfl,hS,q⟩:=h;refine⟨a,19,rfl,by decide,by decide,hS,λr1 S1 h1 h1' d1=>⟨a,6,rfl,by decide,by decide,d1.1,λr2 S2 h2 h2' d2=>⟨bZ,λp hp=>⟨a,3,rfl,by decide,by decide,d2.1.new hp,λr3 S3 h3 h3' d3=>?_⟩⟩⟩⟩
  have hp3:=d3.2 p _ (d2.1.ne hp) am;obtain⟨c,hc,hm⟩:=oV (ds:=[.int 0,.int 0,.int r2]) h3 h3';have hc2:∃ s:Int,c=.int s/\0<=s/\s < 6:=by
   simp only [JB,JK,or_false] at hm;rcases hm with rfl | rfl | rfl
   ·exact⟨0,rfl,by decide,by decide⟩
   ·exact⟨0,rfl,by decide,by decide⟩
   ·exact⟨r2,rfl,h2,h2'⟩
  obtain⟨s,rfl,s0,s1⟩:=hc2;have b1:Bt 4 (r1 - 9):=by unfold Bt; omega
  have b2:Bt 4 (1+s):=by unfold Bt; omega
  exact⟨_,_,hp3,hc,_,_,rfl,by omega,b2.mono (by decide),q _ _ ⟨Sz.divInt b1 b2 (by omega),yd (by omega) (by omega)⟩ (d1.trans (d2.trans ((Dr.new d2.1 hp).trans d3)))⟩
def B (x:Q):D:=.tup [fr x.1,fr x.2]
theorem xH {S:DH} {k:DK} {p q:Rat} (hp:Sz 4000 p) (hq:Sz 4000 q) (h:k (fr (p*q)) S):jV [fr p,fr q] S k:=⟨_,_,_,_,_,rfl,e_ p q,hp.num,hp.den,hq.num,hq.den,vT p q,h⟩
theorem E2 (u:Int):D.tup [.int u,.int 1]=fr (u:Rat):=by
 show _=D.tup [.int (u:Rat).num,.int ((u:Rat).den:Int)]
 rw [Rat.num_intCast,Rat.den_intCast]; rfl
theorem Ak {n:Nat} {u:Int} (h:Bt n u) (hn:1<=n):Sz n (u:Rat):=by
 refine⟨by rw [Rat.num_intCast]; exact h,?_⟩
 rw [Rat.den_intCast];exact(show Bt 1 1 by decide).mono hn
theorem tO.set {a q:Kr} {S:DH} {o:DO} (h:tO S a) (z:q≠a):tO (put S q o) a:=by
 obtain⟨n,b,e,w⟩:=h;exact⟨n,b,by rw [bV (Ne.symm z)]; exact e,w⟩
set_option maxHeartbeats 4000000
theorem Dr.keep {a p:Kr} {S S':DH} {o:DO} (h:Dr a S S') (n:p≠a) (e:S p=some o):S' p=some o:=h.2 p o n e
theorem Dr.put {a q:Kr} {S S1:DH} {o:DO} (h:Dr a S S1) (hq:S q=none) (z:q≠a):Dr a S (put S1 q o):=⟨h.1.set z,λb u n e=>by rw [bV (AR e hq)]; exact h.2 b u n e⟩
theorem Ih {a b:Int} (h:0 < a) (h':0 < b):0 < Rat.divInt a b:=by
 rw [J3,Rat.div_def];exact JY (by exact_mod_cast h) (Rat.inv_pos.mpr (by exact_mod_cast h'))
inductive bR where
 | fix (x y:Rat)
 | crank (c:Nat) (l:Rat)
 | pair (i j:Nat) (s t:Rat) (v:Int)
 | like (i j:Nat) (a l:Rat)
def bR.d:bR->D
 | .fix x y=>.tup [.str "fix",fr x,fr y]
 | .crank c l=>.tup [.str "crank",.int (c:Nat),fr l]
 | .pair i j s t v=>.tup [.str "pair",.int (i:Nat),.int (j:Nat),fr s,fr t,.int v]
 | .like i j a l=>.tup [.str "like",.int (i:Nat),.int (j:Nat),fr a,fr l]
def bR.isFix:bR->KA
 | .fix _ _=>true
 | _=>false
abbrev MD (ms:List bR):D:=.tup (ms.map bR.d)
def nF (pre:List bR):bR->Prop
 | .fix x y=>Sz 4 x/\Sz 4 y
 | .crank c l=>(∃ x y,pre[c]?=some (.fix x y))/\Sz 4 l/\0 < l
 | .pair i j s t v=>i < pre.length/\j < pre.length/\i≠j/\Sz 8 s/\Sz 8 t/\0 < s/\0 < t/\(v=0\/v=1)
 | .like i j a l=>i < pre.length/\j < pre.length/\i≠j/\Sz 4 a/\Sz 4 l
def Wf (ms:List bR):Prop:=∀ (k:Nat) (s:bR),ms[k]?=some s->nF (ms.take k) s
theorem Wf.nil:Wf []:=λk s h=>by simp at h
theorem Wf.snoc {ms:List bR} {s:bR} (h:Wf ms) (hs:nF ms s):Wf (ms++[s]):=by
 intro k t hk
 by_cases hl:k < ms.length
 ·rw [List.getElem?_append_left hl] at hk;rw [List.take_append_of_le_length (Nat.le_of_lt hl)];exact h k t hk
 ·have hk2:=(J4.mp hk).1;have hk3:k < ms.length+1:=by simpa using hk2
  have e:k=ms.length:=by omega
  subst e;rw [List.getElem?_append_right (Jw _),Nat.sub_self] at hk;have hk:some s=some t:=hk;cases hk;rw [List.take_append_of_le_length (Jw _),List.take_length];exact hs
theorem uo {ms:List bR} {c:Nat} {s:bR} (h:ms[c]?=some s):L2.atI (ms.map bR.d) ((c:Nat):Int)=some s.d:=L2.f' (by rw [JX,h]; rfl)
def fm:Nat->List bR->List D
 | _,[]=>[]
 | j,s::r=>if s.isFix=true then .int (j:Nat)::fm (j+1) r else fm (j+1) r
theorem la {ms r:List bR} {s:bR} {j:Nat} (h:ms.drop j=s::r):ms[j]?=some s/\ms.drop (j+1)=r:=by
 have h0:(ms.drop j)[0]?=some s:=by rw [h]; rfl
 rw [List.getElem?_drop,Nat.add_zero] at h0;refine⟨h0,?_⟩;have h1:=congrArg (List.drop 1) h;rw [List.drop_drop] at h1;exact h1
theorem jD {n:Nat} (h:n < 300):n < sizeLine:=JG h (JL (rfl:Nat.ble 300 sizeLine=true))
def mC:cH:=λds S k=>∃ a,ds=[.ref a]/\tO S a/\∀ q S',Sz 4 q/\0 < q->Dr a S S'->k (fr q) S'
theorem qD:ar ["state"] ["state"] (aj jW):=dZ
theorem qu (Fn:FN K "_law_above" jW f fd) (cq:aZ P w K mg base "_law_ratio" 2 gK) (aH:aZ P w K mg base "_law_take" 1 fq):
  aQ P w K mg base de 3 f fd ["state"] (dw K mC):=by
 refine Fn.okJ qD (λds S k h=>?_) (λcdv A outer s H E hr=>⟨_,(ag (ai (dq cq hr (aa (aN fL aq (dq aH hr (aw 0 (aa aq ac)))) (aa (aN fL aq (bb fB (bU (aa aq (aa aq (aa (dq aH hr (aw 0 (aa aq ac))) ac)))) (dq aH hr (aw 0 (aa aq ac))) Zf)) ac))))),λds S k h=>?_⟩)
 ·obtain⟨_,rfl,_⟩:=h
  rfl
 ·obtain⟨a,rfl,hS,q⟩:=h;refine⟨a,12,rfl,by decide,by decide,hS,λr1 S1 h1 h1' d1=>⟨a,6,rfl,by decide,by decide,d1.1,λr2 S2 h2 h2' d2=>⟨bZ,λp hp=>⟨a,3,rfl,by decide,by decide,d2.1.new hp,λr3 S3 h3 h3' d3=>?_⟩⟩⟩⟩
  have hp3:=d3.2 p _ (d2.1.ne hp) am;obtain⟨c,hc,hm⟩:=oV (ds:=[.int 0,.int 0,.int r2]) h3 h3';have hc2:∃ s:Int,c=.int s/\0<=s/\s < 6:=by
   simp only [JB,JK,or_false] at hm;rcases hm with rfl | rfl | rfl
   ·exact⟨0,rfl,by decide,by decide⟩
   ·exact⟨0,rfl,by decide,by decide⟩
   ·exact⟨r2,rfl,h2,h2'⟩
  obtain⟨s,rfl,s0,s1⟩:=hc2;have b1:Bt 4 (1+r1):=by unfold Bt; omega
  have b2:Bt 4 (1+s):=by unfold Bt; omega
  exact⟨_,_,hp3,hc,_,_,rfl,by omega,b2.mono (by decide),q _ _ ⟨Sz.divInt b1 b2 (by omega),Ih (by omega) (by omega)⟩ (d1.trans (d2.trans ((Dr.new d2.1 hp).trans d3)))⟩
theorem Cr {x r m:Int} (h0:0<=x) (h1:x < m) (h2:0<=r) (h3:r < m - 1):0<=(x+1+r).fmod m/\(x+1+r).fmod m < m/\(x+1+r).fmod m≠x:=by
 have hm:0 < m:=by omega
 refine⟨Kc _ hm,Kl _ hm,?_⟩;rw [Int.fmod_eq_emod_of_nonneg _ (Int.le_of_lt hm)]
 by_cases h:x+1+r < m
 ·rw [Int.emod_eq_of_lt (by omega) h]; omega
 ·have e:(x+1+r) % m=(x+1+r - m) % m:=by
   have:x+1+r=(x+1+r - m)+m:=by omega
   conv=>lhs; rw [this]
   exact Int.add_emod_right _ _
  rw [e,Int.emod_eq_of_lt (by omega) (by omega)]; omega
def iE:cH:=λds S k=>∃ (a:Kr) (m:Nat),ds=[.ref a,.int (m:Nat)]/\2<=m/\m<=100/\tO S a/\∀ (i j:Nat) S',i < m->j < m->i≠j->Dr a S S'->k (.tup [.int (i:Nat),.int (j:Nat)]) S'
theorem gX:ar ["state","many","one"] ["state","many"] (aj fH):=dZ
theorem ml (Fn:FN K "_law_two_joints" fH f fd) (aH:aZ P w K mg base "_law_take" 1 fq):
  aQ P w K mg base de 2 f fd ["state","many"] (dw K iE):=by
 refine Fn.okJ gX (λds S k h=>?_) (λcdv A outer s H E hr=>⟨_,(af (ak (i:=2) gX.nd (dq aH hr (aw 0 (aw 1 ac)))) (ag (ai (aA (aw 2 (aa (aN mW (aN fL (aN fL (ah 2) aq) (dq aH hr (aw 0 (aa (aN pq (ah 1) aq) ac)))) (ah 1)) ac)))))),λds S k h=>?_⟩)
 ·obtain⟨_,_,rfl,_⟩:=h
  rfl
 ·obtain⟨a,m,rfl,h2,h100,hS,w⟩:=h;have bm:∀ z:Int,0<=z->z<=100->Bt 200 z:=λz _ _=>Bt.mono (m:=7) (by unfold Bt; omega) (by decide)
  refine⟨a,_,rfl,by omega,bm _ (by omega) (by omega),hS,λx S1 x0 x1 d1=>⟨a,_,rfl,by omega,bm _ (by omega) (by omega),d1.1,λr S2 r0 r1 d2=>⟨(show (m:Int)≠0 by omega),bZ,?_⟩⟩⟩
  obtain⟨w0,w1,w2⟩:=Cr x0 x1 r0 r1;obtain⟨i,rfl⟩:=Int.eq_ofNat_of_zero_le x0;obtain⟨j,hj⟩:=Int.eq_ofNat_of_zero_le w0;rw [hj] at w1 w2
  show k (.tup [.int (i:Nat),.int (((i:Int)+1+r).fmod (m:Int))]) S2
  rw [hj];exact w i j S2 (by omega) (by omega) (by omega) (d1.trans d2)
theorem Bm {p:Rat} {r:Int} (hp:Sz 4 p/\0 < p) (h0:0<=r) (h1:r < 9):Sz 8 (p*((1+r:Int):Rat))/\0 < p*((1+r:Int):Rat):=
 ⟨hp.1.mul (Ak (n:=4) (by unfold Bt; omega) (by decide)),JY hp.2 (by exact_mod_cast (by omega:0 < 1+r))⟩
theorem wI {S:DH} {p a:Kr} {k:DK} {bd:DB} (hp:S p=none) (pa:p≠a)
  (hbd:∀ (l0:Ks D) (S':DH) (k':Ks D->DH->Prop),tO S' a->(∀ q S2,Sz 8 q->0 < q->Dr a S' S2->k' (some (fr q)) S2)->bd [l0,some (.ref a)] S' k'):
  ∀ (r:List D) (xs:List Rat) (S1:DH) (l0:Ks D),Dr a S S1->S1 p=some (.lst (xs.map fr))->(∀ q∈xs,Sz 8 q/\0 < q)->xs.length+r.length<=100->(∀ (ys:List Rat) S',ys.length=xs.length+r.length->(∀ q∈ys,Sz 8 q/\0 < q)->Dr a S S'->S' p=some (.lst (ys.map fr))->k (.ref p) S')->
  dL (λ_=>True) p (nz 0) bd k r (xs.map fr) [l0,some (.ref a)] S1
 | [],xs,S1,l0,d1,h1,hx,hl,w=>⟨trivial,w xs S1 rfl hx d1 h1⟩
 | d::r,xs,S1,l0,d1,h1,hx,hl,w=>by
  have hl:xs.length+(r.length+1)<=100:=hl;refine⟨trivial,hbd _ _ _ d1.1 λq S2 hq q0 d2=>⟨d2.keep pa h1,by rw [Jy]; exact jD (by omega),?_⟩⟩
  have e:xs.map fr++[fr q]=(xs++[q]).map fr:=by rw [List.map_append]; rfl
  rw [e];refine wI hp pa hbd r (xs++[q]) _ _ ((d1.trans d2).put hp pa) am (λy hy=>?_) (by rw [JO]; show xs.length+1+r.length<=100; omega) λys S' hl'=>w ys S' (by rw [hl',JO]; show xs.length+1+r.length=xs.length+(r.length+1); omega)
  rcases List.mem_append.mp hy with h | h
  ·exact hx y h
  ·simp only [JB,JK,or_false] at h; subst h; exact⟨hq,q0⟩
theorem GU {z:Int} (h0:0<=z) (h1:z<=100):Bt 200 z:=Bt.mono (m:=7) (by unfold Bt; omega) (by decide)
theorem D_ {ys:List Rat} (h:ys.length=2):∃ s t,ys=[s,t]:=by
 match ys,h with
 | [s,t],_=>exact⟨s,t,rfl⟩
def Bi (t:Nat×Nat):D:=.tup [.int (t.1:Nat),.int (t.2:Nat)]
theorem nP {a b:DS} {M:lF} {L:Lo} {S:DH} (Q:Lo->DH->Prop) (h2:∀ L' S',Q L' S'->b M L' S') (h1:(∀ L' S',Q L' S'->b M L' S')->a {M with nx:=λL S=>b M L S} L S):ut a b M L S:=h1 h2
theorem Dr.none {a p:Kr} {S S':DH} (d:Dr a S S') (h:S' p=none):S p=none:=by
 have pa:=d.1.ne h;cases e:S p with
 | none=>rfl
 | some o=>rw [d.2 p o pa e] at h; cases h
def bR.isCx:bR->KA
 | .pair _ _ _ _ _=>true
 | .like _ _ _ _=>true
 | _=>false
def Rg (ms:List bR):Prop:=∃ x1 y1 x2 y2 c l rs,ms=bR.fix x1 y1::.fix x2 y2::.crank c l::rs/\rs.length<=4/\∀ s∈rs,s.isCx=true
theorem Rg.snoc {ms:List bR} {s:bR} (h:Rg ms) (hl:ms.length < 7) (hs:s.isCx=true):Rg (ms++[s]):=by
 obtain⟨x1,y1,x2,y2,c,l,rs,rfl,h4,ha⟩:=h;have hl:rs.length+1+1+1 < 7:=hl;refine⟨x1,y1,x2,y2,c,l,rs++[s],rfl,by rw [JO]; show rs.length+1<=4; omega,λt ht=>?_⟩
 rcases List.mem_append.mp ht with h | h
 ·exact ha t h
 ·simp only [JB,JK,or_false] at h;rw [h]; exact hs
def mY:cH:=λds S k=>∃ a:Kr,ds=[.ref a]/\tO S a/\∀ ms S',Wf ms->Rg ms->Dr a S S'->k (MD ms) S'
theorem bo:ar ["state","machine","ties","turn","number","one","other","squares"] ["state"] (aj jO):=dZ
theorem qr (Fn:FN K "_law_rigid" jO f fd) (bp:aZ P w K mg base "_law_small" 3 jx) (gM:aZ P w K mg base "_law_above" 3 mC) (aH:aZ P w K mg base "_law_take" 1 fq) (fG:aZ P w K mg base "_law_two_joints" 2 iE) (jh:aZ P w K mg base "_law_times" 3 jV) (jb:mg "range"=none) (bO:mg "len"=none) (bc:mg "tuple"=none):
  aQ P w K mg base de 4 f fd ["state"] (dw K mY):=by
 refine Fn.okJ bo (λds S k h=>?_) (λcdv A outer s H E hr=>⟨_,(af (ak (i:=1) bo.nd (bU (aa (aA (aa b9 (aa (dq bp hr (aw 0 ac)) (aa (dq bp hr (aw 0 ac)) ac)))) (aa (aA (aa b9 (aa (dq bp hr (aw 0 ac)) (aa (dq bp hr (aw 0 ac)) ac)))) ac)))) (af (aS (dU (ah 1) (aA (aa b9 (aa (dq aH hr (aw 0 (aa aq ac))) (aa (dq gM hr (aw 0 ac)) ac)))))) (af (ak (i:=2) bo.nd (bU (aa (aA (aa aq (aa aq ac))) (aa (aA (aa (bb b_ (ft 1) aq Zf) (aa aq ac))) ac)))) (af (rL PassesOwn.never rfl rfl jb (aa (dq aH hr (aw 0 (aa aq ac))) ac) (aG (i:=3) bo.nd) (af (ak (i:=4) bo.nd (aJ eI rfl bO eK (aw 1 ac))) (af (kB (bb b_ (ah 2) (dq aH hr (aw 0 (aa (aJ eI rfl bO eK (aw 2 ac)) ac))) Zf) (dQ (n:=2) rfl (aL (aG (i:=5) bo.nd) (aL (aG (i:=6) bo.nd) cQ)))) (af (av (au ej (dq aH hr (aw 0 (aa aq ac))) aq (aD _)) (af (kB (dq fG hr (aw 0 (aw 4 ac))) (dQ (n:=2) rfl (aL (aG (i:=5) bo.nd) (aL (aG (i:=6) bo.nd) cQ)))) (af (ub (iv:=7) bo.nd rfl (ku (N:=["more","state"]) (cap:=[none,some 0]) rfl rfl rfl rfl ⟨rfl,trivial⟩ rfl rfl ⟨⟨rfl,.inl rfl,.inl rfl⟩,trivial⟩) rfl jb (aa aq ac) (λ_ _ _ _=>(aG (i:=0) (show List.Nodup (["more","state"]:List Str) from by decide +kernel))) (λ_ _ _ _=>(dq jh hr (aa (dq gM hr (aw 1 ac)) (aa (aA (aa (aN fL aq (dq aH hr (aw 1 (aa aq ac)))) (aa aq ac))) ac))))) (ag (aS (dU (ah 1) (aA (aa b9 (aw 5 (aw 6 (aa (ft 7) (aa (ft 7) (aa (dq aH hr (aw 0 (aa aq ac))) ac)))))))))))) (af (av (au ej (dq aH hr (aw 0 (aa aq ac))) aq (aD _)) (ag (um (i:=5) (j:=6) rfl bo.nd (by decide) (aw 6 (aw 5 ac)))) aE) (ag (aS (dU (ah 1) (aA (aa b9 (aw 5 (aw 6 (aa (dq bp hr (aw 0 ac)) (aa (dq bp hr (aw 0 ac)) ac))))))))))) (ag (ak (i:=2) bo.nd (aN fL (ah 2) (bU (aa (aA (aw 5 (aw 4 ac))) (aa (aA (aw 6 (aw 4 ac))) ac)))))))))) (ag (ai (ir jf rfl bc dy (aw 1 ac)))))))),λds S k h=>?_⟩)
 ·obtain⟨_,rfl,_⟩:=h
  rfl
 ·obtain⟨a,rfl,hS,w⟩:=h;refine⟨a,rfl,hS,λx1 S1 hx1 d1=>⟨a,rfl,d1.1,λy1 S2 hy1 d2=>⟨bZ,a,rfl,d2.1,λx2 S3 hx2 d3=>⟨a,rfl,d3.1,λy2 S4 hy2 d4=>⟨bZ,bZ,λp hp=>?_⟩⟩⟩⟩⟩
  have d04:=d1.trans (d2.trans (d3.trans d4));have pa:=d4.1.ne hp;have sp:=d04.none hp;refine⟨⟨_,am⟩,a,2,rfl,by decide,by decide,d4.1.new hp,λc S5 c0 c1 d5=>⟨a,rfl,d5.1,λl S6 hl d6=>⟨bZ,_,d6.keep pa (d5.keep pa am),jD (by show 2 < 300; decide),?_⟩⟩⟩
  obtain⟨c,rfl⟩:=Int.eq_ofNat_of_zero_le c0;have wf2:Wf [.fix x1 y1,.fix x2 y2]:=(Wf.nil.snoc (s:=.fix x1 y1) ⟨hx1.1,hy1.1⟩).snoc (s:=.fix x2 y2) ⟨hx2.1,hy2.1⟩;have hc:∃ x y,[bR.fix x1 y1,bR.fix x2 y2][c]?=some (.fix x y):=by
   match c,c1 with
   | 0,_=>exact⟨_,_,rfl⟩
   | 1,_=>exact⟨_,_,rfl⟩
   | n+2,h=>exact absurd h (by omega)
  have wf3:Wf [.fix x1 y1,.fix x2 y2,.crank c l]:=wf2.snoc (s:=.crank c l) ⟨hc,hl.1,hl.2⟩;have d6':=(d04.trans ((Dr.new d4.1 hp).trans (d5.trans d6))).put (o:=.lst ([D.tup [.str "fix",fr x1,fr y1],D.tup [.str "fix",fr x2,fr y2]]++[.tup [.str "crank",.int (c:Nat),fr l]])) sp pa
  have hT:put S6 p (.lst ([D.tup [.str "fix",fr x1,fr y1],D.tup [.str "fix",fr x2,fr y2]]++[.tup [.str "crank",.int (c:Nat),fr l]])) p=some (.lst ([bR.fix x1 y1,bR.fix x2 y2,bR.crank c l].map bR.d)):=am
  generalize put S6 p (.lst ([D.tup [.str "fix",fr x1,fr y1],D.tup [.str "fix",fr x2,fr y2]]++[.tup [.str "crank",.int (c:Nat),fr l]]))=T at d6' hT ⊢
  refine⟨bZ,_,_,hT,rfl,_,rfl,bZ,bZ,λq hq=>?_⟩
  have qa:=d6'.1.ne hq;have qp:q≠p:=λz=>by rw [z,hT] at hq; cases hq
  refine⟨a,5,rfl,by decide,by decide,d6'.1.new hq,λn S7 n0 n1 d7=>⟨⟨by omega,by omega⟩,?_⟩⟩
  have c2:c < 2:=by omega
  refine dP (λr L S'=>∃ (ms:List bR) (ts:List (Nat×Nat)) (q:Kr) (l3 l4 l5 l6 l7:Ks D),L=[some (.ref a),some (.ref p),some (.ref q),l3,l4,l5,l6,l7]/\Dr a S S'/\S' p=some (.lst (ms.map bR.d))/\S' q=some (.lst (ts.map Bi))/\q≠a/\q≠p/\Wf ms/\Rg ms/\2<=ms.length/\ms.length+r.length<=7/\0 < ts.length/\ts.length+2*r.length<=50/\∀ t∈ts,t.1 < ms.length/\t.2 < ms.length/\t.1≠t.2) (λ_ _ _ _=>trivial) ?_ ?_ _ _ _ ⟨[.fix x1 y1,.fix x2 y2,.crank c l],[(0,1),(c,2)],q,none,none,none,none,none,rfl,d6'.trans ((Dr.new d6'.1 hq).trans d7),d7.keep pa (by rw [bV (Ne.symm qp)]; exact hT),d7.keep qa am,qa,qp,wf3,⟨x1,y1,x2,y2,c,l,[],rfl,by decide,λ_ h=>by cases h⟩,by show 2<=3; decide,by simp; omega,by show 0 < 2; decide,by simp; omega,?_⟩
  ·rintro d r L S1 N1 ⟨ms,ts,q,l3,l4,l5,l6,l7,rfl,e1,h1,h2,qa,qp,hw,hrg,hl2,hl7,ht0,ht50,htie⟩ hN;have hl7:ms.length+(r.length+1)<=7:=hl7;have ht50:ts.length+2*(r.length+1)<=50:=ht50;have lm:(ms.map bR.d).length=ms.length:=Jy ..;have lt:(ts.map Bi).length=ts.length:=Jy ..;refine⟨_,h1,_,h2,a,_,rfl,by omega,GU (by omega) (by omega),e1.1,λi0 S2 r0 r1 d2=>?_⟩
   obtain⟨cc,hcc,hm⟩:=oV r0 r1;obtain⟨t,ht,rfl⟩:=Jx.mp hm;obtain⟨t1,t2,t3⟩:=htie t ht;have p2:=d2.keep pa h1;have q2:=d2.keep qa h2;have e2:=e1.trans d2;refine⟨_,_,q2,hcc,([.int (t.1:Nat),.int (t.2:Nat)],none),rfl,rfl,rfl,?_⟩;dsimp only;refine nP (λL' S'=>∃ (s:bR) (i j:Nat) (l7:Ks D),L'=[some (.ref a),some (.ref p),some (.ref q),some d,some (.int ((ms.map bR.d).length:Nat)),some (.int (i:Nat)),some (.int (j:Nat)),l7]/\Dr a S S'/\S' p=some (.lst ((ms++[s]).map bR.d))/\S' q=some (.lst (ts.map Bi))/\nF ms s/\s.isCx=true/\i < ms.length/\j < ms.length) ?_ (λhQ=>?_)
   ·rintro L' S' ⟨s,i,j,l7,rfl,e3,h3,h4,so,sc,hi,hj⟩;refine⟨bZ,bZ,bZ,λq1 hq1=>⟨_,_,Dr.new e3.1 hq1 |>.keep qa h4,am,by rw [lt]; exact Nat.le_of_lt (jD (by show ts.length+2 < 300; omega)),λq3 hq3=>?_⟩⟩
    have e4:=Dr.new (o:=.lst [.tup [.int (i:Nat),.int ((ms.map bR.d).length:Nat)],.tup [.int (j:Nat),.int ((ms.map bR.d).length:Nat)]]) e3.1 hq1;have q3a:=e4.1.ne hq3;have h5:=e4.keep pa h3;have q3p:q3≠p:=λz=>by rw [z,h5] at hq3; cases hq3
    refine hN _ _ ⟨ms++[s],ts++[(i,ms.length),(j,ms.length)],q3,_,_,_,_,_,rfl,e3.trans (e4.trans (Dr.new e4.1 hq3)),by rw [bV (Ne.symm q3p)]; exact h5,?_,q3a,q3p,hw.snoc so,hrg.snoc (by omega) sc,by rw [JO]; omega,by rw [JO]; show ms.length+1+r.length<=7; omega,by rw [JO]; omega,by rw [JO]; show ts.length+2+2*r.length<=50; omega,λt ht=>?_⟩
    ·rw [am,List.map_append,lm]; rfl
    ·rw [JO]
     show t.1 < ms.length+1/\t.2 < ms.length+1/\t.1≠t.2
     rcases List.mem_append.mp ht with h | h
     ·obtain⟨z1,z2,z3⟩:=htie t h;exact⟨by omega,by omega,z3⟩
     ·simp only [JB,JK,or_false] at h;rcases h with rfl | rfl
      ·exact⟨by show i < _; omega,by show ms.length < _; omega,by show i≠ms.length; omega⟩
      ·exact⟨by show j < _; omega,by show ms.length < _; omega,by show j≠ms.length; omega⟩
   ·refine⟨a,2,rfl,by decide,by decide,e2.1,λc S3 _ _ d3=>aV (λ_=>?_) (λ_=>?_)⟩
    ·have e3:=e2.trans d3;have p3:=d3.keep pa p2;have q3:=d3.keep qa q2;refine⟨a,_,rfl,by omega,by omega,e3.1,λi j S4 hi hj hij d4=>⟨([.int (i:Nat),.int (j:Nat)],none),rfl,rfl,rfl,⟨by decide,by decide⟩,λz hz=>?_⟩⟩
     have za:=d4.1.ne hz;have p4:=d4.keep pa p3;have q4:=d4.keep qa q3;refine wI (S:=S4) hz za ?b _ [] _ none (Dr.new d4.1 hz) am (λ_ h=>by cases h) (by decide) ?m
     case b=>
      intro l0 S' k' hs hk;refine⟨a,rfl,hs,λx S4 hx d4=>⟨a,9,rfl,by decide,by decide,d4.1,λr S5 r0 r1 d5=>⟨bZ,?_⟩⟩⟩
      rw [E2];have z:=Bm hx r0 r1;exact xH (k:=λv S=>k' (some v) S) (hx.1.mono (by decide)) (Ak (n:=4) (u:=1+r) (by unfold Bt; omega) (by decide) |>.mono (by decide)) (hk _ _ z.1 z.2 (d4.trans d5))
     case m=>
      intro ys S6 hl6 hy6 d6 h6;obtain⟨s,t',rfl⟩:=D_ hl6;have p6:=d6.keep pa p4;have q6:=d6.keep qa q4;refine⟨⟨_,p6⟩,_,_,h6,rfl,_,_,h6,rfl,a,2,rfl,by decide,by decide,d6.1,λv S7 v0 v1 d7=>⟨bZ,_,d7.keep pa p6,by rw [lm]; exact jD (by omega),?_⟩⟩
      refine hQ _ _ ⟨.pair i j s t' v,i,j,_,rfl,((e3.trans d4).trans (d6.trans d7)).put sp pa,by rw [am,List.map_append]; rfl,by rw [bV qp]; exact d7.keep qa q6,⟨by omega,by omega,hij,(hy6 s (by simp)).1,(hy6 t' (by simp)).1,(hy6 s (by simp)).2,(hy6 t' (by simp)).2,by omega⟩,rfl,by omega,by omega⟩
    ·have e3:=e2.trans d3;have p3:=d3.keep pa p2;have q3:=d3.keep qa q2;refine nP (λL' S'=>∃ i j:Nat,L'=[some (.ref a),some (.ref p),some (.ref q),some d,some (.int ((ms.map bR.d).length:Nat)),some (.int (i:Nat)),some (.int (j:Nat)),l7]/\Dr a S S'/\S' p=some (.lst (ms.map bR.d))/\S' q=some (.lst (ts.map Bi))/\i < ms.length/\j < ms.length/\i≠j) ?_ (λhQ2=>?_)
     ·rintro L' S' ⟨i,j,rfl,e4,p4,q4,hi,hj,hij⟩;refine⟨⟨_,p4⟩,a,rfl,e4.1,λx S5 hx d5=>⟨a,rfl,d5.1,λy S6 hy d6=>⟨bZ,_,d6.keep pa (d5.keep pa p4),by rw [lm]; exact jD (by omega),?_⟩⟩⟩
      refine hQ _ _ ⟨.like i j x y,i,j,_,rfl,(e4.trans (d5.trans d6)).put sp pa,by rw [am,List.map_append]; rfl,by rw [bV qp]; exact d6.keep qa (d5.keep qa q4),⟨hi,hj,hij,hx.1,hy.1⟩,rfl,hi,hj⟩
     ·exact⟨a,2,rfl,by decide,by decide,e3.1,λc S4 _ _ d4=>aV (λ_=>hQ2 _ _ ⟨t.2,t.1,rfl,e3.trans d4,d4.keep pa p3,d4.keep qa q3,t2,t1,Ne.symm t3⟩) (λ_=>hQ2 _ _ ⟨t.1,t.2,rfl,e3.trans d4,d4.keep pa p3,d4.keep qa q3,t1,t2,t3⟩)⟩
  ·rintro L S1 ⟨ms,ts,q,l3,l4,l5,l6,l7,rfl,e1,h1,h2,qa,qp,hw,hrg,hl2,hl7,ht0,ht50,htie⟩;exact⟨_,h1,w ms S1 hw hrg e1⟩
  ·intro t ht;simp only [JB,JK,or_false] at ht;rcases ht with rfl | rfl
   ·exact⟨by show 0 < 3; decide,by show 1 < 3; decide,by show(0:Nat)≠1; decide⟩
   ·exact⟨by show c < 3; omega,by show 2 < 3; decide,by show c≠2; omega⟩
set_option maxHeartbeats 4000000
def bR.isCr:bR->KA
 | .crank _ _=>true
 | _=>false
def kc (ms:List bR):Nat:=ms.countP bR.isCr
def ou (ms:List bR):Nat:=ms.countP bR.isCx
theorem gl {ms:List bR} {s:bR}:kc (ms++[s])=kc ms+if s.isCr=true then 1 else 0:=by
 unfold kc;rw [List.countP_append,List.countP_singleton]
theorem gh {ms:List bR} {s:bR}:ou (ms++[s])=ou ms+if s.isCx=true then 1 else 0:=by
 unfold ou;rw [List.countP_append,List.countP_singleton]
def JR (ps:List Pt) (o:Ks (Ks Rat)):bR->Pt->Prop
 | .fix x y,r=>r=((x,0),(y,0))
 | .crank i l,r=>∃ p d,ps[i]?=some p/\o=some d/\r=((p.1.1+pK d*l,0),(p.2.1+pI d*l,0))
 | .pair i j s t v,r=>∃ p q,ps[i]?=some p/\ps[j]?=some q/\Pl p/\Pl q/\aP p q≠0/\cP p q s t≠[]/\gP r=kC (cP p q s t) v.toNat
 | .like i j a l,r=>∃ p q u,ps[i]?=some p/\ps[j]?=some q/\0 < u/\HR u [p,q]/\r=BK u p q a l
def JF (ps:List Pt):bR->Prop
 | .pair i j _ _ _=>∃ p q,ps[i]?=some p/\ps[j]?=some q/\¬ (Pl p/\Pl q)
 | .like i j _ _=>∃ p q,ps[i]?=some p/\ps[j]?=some q/\¬ yz [p,q]
 | _=>False
def JS (ps:List Pt):bR->Prop
 | .pair i j s t _=>∃ p q,ps[i]?=some p/\ps[j]?=some q/\Pl p/\Pl q/\(aP p q=0\/cP p q s t=[])
 | _=>False
inductive u8 (os:List (Ks Rat)):List bR->List Pt->Prop
 | nil:u8 os [] []
 | snoc {ms:List bR} {ps:List Pt} {s:bR} {r:Pt}:u8 os ms ps->JR ps os[kc ms]? s r->u8 os (ms++[s]) (ps++[r])
theorem u8.len {os:List (Ks Rat)} {ms:List bR} {ps:List Pt} (h:u8 os ms ps):ps.length=ms.length:=by
 induction h with
 | nil=>rfl
 | snoc _ _ ih=>rw [JO,JO,ih]; rfl
theorem EA {p q:Pt} (h:gP p=gP q):p=q:=by
 have fi:∀ {a b:Rat},fr a=fr b->a=b:=λ{a b} e=>by
  injection e with e
  injection e with e1 e
  injection e with e2 _
  injection e1 with e1
  injection e2 with e2
  exact Rat.ext e1 (by exact_mod_cast e2)
 obtain⟨⟨a,b⟩,c,d⟩:=p;obtain⟨⟨a',b'⟩,c',d'⟩:=q;injection h with h
 injection h with h1 h
 injection h with h2 _
 injection h1 with h1
 injection h2 with h2
 injection h1 with h3 h1
 injection h1 with h4 _
 injection h2 with h5 h2
 injection h2 with h6 _
 have e3:a=a':=fi h3;have e4:b=b':=fi h4;have e5:c=c':=fi h5;have e6:d=d':=fi h6;rw [e3,e4,e5,e6]
theorem u8.at {os:List (Ks Rat)} {ms:List bR} {ps:List Pt} (h:u8 os ms ps):∀ (k:Nat) (s:bR),ms[k]?=some s->∃ r,ps[k]?=some r/\JR (ps.take k) os[kc (ms.take k)]? s r:=by
 induction h with
 | nil=>intro k s hk; simp at hk
 | snoc hst jr ih=>
  rename_i ms ps s0 r0
  have lp:=hst.len;intro k s hk
  by_cases hl:k < ms.length
  ·rw [List.getElem?_append_left hl] at hk;obtain⟨r,h1,h2⟩:=ih k s hk;refine⟨r,by rw [List.getElem?_append_left (by omega)]; exact h1,?_⟩
   rw [List.take_append_of_le_length (by omega),List.take_append_of_le_length (by omega)]
   exact h2
  ·have hk2:=(J4.mp hk).1;have hk3:k < ms.length+1:=by simpa using hk2
   have e:k=ms.length:=by omega
   subst e;rw [List.getElem?_append_right (Jw _),Nat.sub_self] at hk;have hk:some s0=some s:=hk;cases hk;refine⟨r0,by rw [List.getElem?_append_right (by omega),lp,Nat.sub_self]; rfl,?_⟩
   rw [List.take_append_of_le_length (by omega),List.take_append_of_le_length (by omega),List.take_length,<- lp,List.take_length]
   exact jr
theorem u8.fix {os:List (Ks Rat)} {ms:List bR} {ps:List Pt} (h:u8 os ms ps) {c:Nat} {x y:Rat} (hc:ms[c]?=some (.fix x y)):ps[c]?=some ((x,0),(y,0)):=by
 obtain⟨r,h1,h2⟩:=h.at c _ hc;have h2:r=((x,0),(y,0)):=h2;rw [h1,h2]
theorem w9 {c:Nat} {p q r:Pt} {s t:Rat} {v:Nat} (h4:c<=4) (hp:on c p) (hq:on c q) (ss':Sz 8 s) (st:Sz 8 t) (hv:v < 2) (a0:aP p q≠0) (c0:cP p q s t≠[]) (e:gP r=kC (cP p q s t) v):
  ∃ u X Y,Jg (pN c) p.1.1 p.2.1 s q.1.1 q.2.1 t (gP r) u X Y/\r=pU u X Y/\on (c+1) r:=by
 have hm:kC (cP p q s t) v∈cP p q s t:=uM c0 pB hv;obtain⟨u,X,Y,j⟩:=Ac hp.cd hq.cd ss'.num ss'.den st.num st.den a0 _ hm;rw [<- e] at j;have er:r=pU u X Y:=EA j.e;exact⟨u,X,Y,j,er,by rw [er]; exact on.pair h4 j⟩
theorem At {c:Nat} {p q:Pt} {s t:Rat} {v:Nat} (h4:c<=4) (hp:on c p) (hq:on c q) (ss':Sz 8 s) (st:Sz 8 t) (hv:v < 2) (a0:aP p q≠0) (c0:cP p q s t≠[]):
  ∃ r,gP r=kC (cP p q s t) v:=by
 have hm:kC (cP p q s t) v∈cP p q s t:=uM c0 pB hv;obtain⟨u,X,Y,j⟩:=Ac hp.cd hq.cd ss'.num ss'.den st.num st.den a0 _ hm;exact⟨pU u X Y,j.e.symm⟩
theorem xR {n:Nat} {d:D} {r:List D}:j7 n (d::r)=.tup [.int (n:Nat),d]::j7 (n+1) r:=rfl
theorem BX {os:List (Ks Rat)} {c:Nat} {o:Ks Rat} (h:os[c]?=some o):L2.atI (os.map zm) ((c:Nat):Int)=some (zm o):=L2.f' (by rw [JX,h]; rfl)
def sm:cH:=λds S k=>match ds with
 | [.non,.non]=>False/\k .non S
 | _=>False
theorem dA:ar ["machine","drives","points","cranks","number","step"] ["machine","drives"] (aj o_):=dZ
theorem AF (Fn:FN K "stand" o_ f fd) (bn:aZ P w K mg base "plain_point" 1 eQ) (fh:aZ P w K mg base "crank_end" 37 kZ) (jH:aZ P w K mg base "pair_point" 3 gJ) (nG:aZ P w K mg base "like_at" 41 lr) (aW:mg "enumerate"=none):
  aQ P w K mg base de 42 f fd ["machine","drives"] (dw K sm):=by
 refine Fn.okJ dA (λds S k h=>?_) (λcdv A outer s H E hr=>⟨_,(af (ak (i:=2) dA.nd (bU ac)) (af (ak (i:=3) dA.nd aq) (af (fR PassesOwn.never rfl rfl aW (aw 0 ac) (dQ (n:=2) rfl (aL (aG (i:=4) dA.nd) (aL (aG (i:=5) dA.nd) cQ))) (ag (av (au ej (bh 5) b9 (aD _)) (ag (aS (dU (ah 2) (dq bn hr (aa (aA (aa (bh 5) (aa (bh 5) ac))) ac))))) (ag (av (au ej (bh 5) b9 (aD _)) (af (aS (dU (ah 2) (dq fh hr (aa (bb fB (ah 2) (bh 5) Zf) (aa (bh 5) (aa (bb fB (ah 1) (ah 3) Zf) ac)))))) (ag (ak (i:=3) dA.nd (aN fL (ah 3) aq)))) (ag (av (au ej (bh 5) b9 (aD _)) (ag (aS (dU (ah 2) (dq jH hr (aw 5 (aw 4 (aw 2 ac))))))) (ag (aS (dU (ah 2) (dq nG hr (aa (bb fB (ah 2) (bh 5) Zf) (aa (bb fB (ah 2) (bh 5) Zf) (aa (bh 5) (aa (bh 5) ac))))))))))))))) (ag (ai (ah 2)))))),λds S k h=>?_⟩)
 ·unfold sm at h
  split at h
  ·rfl
  ·exact h.elim
 ·unfold sm at h
  split at h
  ·exact h.1.elim
  ·exact h.elim
def tS (aC bj ck:Kr):jL:=λds S k e=>∃ (ms:List bR) (os:List (Ks Rat)),ds=[MD ms,.tup (os.map zm)]/\Wf ms/\ms.length<=7/\ou ms<=5/\os.length=kc ms/\(∀ o∈os,qC o)/\
 (∀ pre s post ps,ms=pre++s::post->u8 os pre ps->JF ps s->∀ S',b8 S S'->e aC S')/\(∀ pre s post ps,ms=pre++s::post->u8 os pre ps->JS ps s->∀ S',b8 S S'->e ck S')/\
 ∀ ps S' q,u8 os ms ps->(∀ p∈ps,on (ou ms) p)->b8 S S'->S' q=some (.lst (ps.map gP))->k (.ref q) S'
theorem xW {P:Ku} {w:Kw} {K:Fg} {mg:Str->Ks Kq} {base:Kx} {f:Kr} {fd:FuncData} {aC bj ck:Kr} (Fn:FN K "stand" o_ f fd) (bn:aZ P w K mg base "plain_point" 1 eQ) (fh:aZ P w K mg base "crank_end" 37 kZ) (iW:kd P w K mg base "pair_point" 41 (lK aC bj ck)) (lS:kd P w K mg base "like_at" 41 (pF aC)) (aW:mg "enumerate"=none):
  aQ P w K mg base (fK P w) 42 f fd ["machine","drives"] (u6 K (tS aC bj ck)):=by
 refine Fn.okX dA (λds S k x h=>?_) (λcdv A outer s H E ex hr hE=>⟨_,(af (ak (i:=2) dA.nd (bU ac)) (af (ak (i:=3) dA.nd aq) (af (fR PassesOwn.leaving rfl rfl aW (aw 0 ac) (dQ (n:=2) rfl (aL (aG (i:=4) dA.nd) (aL (aG (i:=5) dA.nd) cQ))) (ag (av (au ej (ft 5) b9 (aD _)) (ag (aS (dU (ah 2) (dq bn hr (aa (aA (aa (ft 5) (aa (ft 5) ac))) ac))))) (ag (av (au ej (ft 5) b9 (aD _)) (af (aS (dU (ah 2) (dq fh hr (aa (bb b_ (ah 2) (ft 5) Zf) (aa (ft 5) (aa (bb b_ (ah 1) (ah 3) Zf) ac)))))) (ag (ak (i:=3) dA.nd (aN fL (ah 3) aq)))) (ag (av (au ej (ft 5) b9 (aD _)) (ag (aS (dU (ah 2) (gn hE iW (hr.mono (by decide)) rfl (aw 5 (aw 4 (aw 2 ac))))))) (ag (aS (dU (ah 2) (gn hE lS (hr.mono (by decide)) rfl (aa (bb b_ (ah 2) (ft 5) Zf) (aa (bb b_ (ah 2) (ft 5) Zf) (aa (ft 5) (aa (ft 5) ac))))))))))))))) (ag (ai (ah 2)))))),λds S k h=>?_⟩)
 ·obtain⟨_,_,rfl,_⟩:=h
  rfl
 ·obtain⟨ms,os,rfl,hw,hl,hc,ho,hd,wf,w0,w⟩:=h;refine⟨bZ,λq hq=>⟨(_,none),rfl,?_⟩⟩
  refine dP (λr L S'=>∃ (pre rs:List bR) (ps:List Pt) (l4 l5:Ks D),L=[some (MD ms),some (.tup (os.map zm)),some (.ref q),some (.int (kc pre:Nat)),l4,l5]/\b8 S S'/\S' q=some (.lst (ps.map gP))/\r=j7 pre.length (rs.map bR.d)/\ms=pre++rs/\u8 os pre ps/\∀ p∈ps,on (ou pre) p) (λ_ _ _ _=>trivial) ?_ ?_ _ _ _ ⟨[],ms,[],none,none,rfl,b8.new hq,am,rfl,rfl,.nil,λ_ h=>by cases h⟩
  ·rintro d r L S1 N1 ⟨pre,rs,ps,l4,l5,rfl,e1,h1,er,em,hst,hok⟩ hN;cases rs with
   | nil=>cases er
   | cons s rs=>
    rw [JI,xR] at er;cases er;have so:nF pre s:=by
     have:=hw pre.length s (by rw [em]; simp)
     rwa [em,List.take_left] at this
    have lp:=hst.len;have lm:ms.length=pre.length+(rs.length+1):=by rw [em,JO]; rfl
    have em2:ms=(pre++[s])++rs:=by rw [em,List.append_assoc]; rfl
    have nxt:∀ (r:Pt) (S2:DH) (c3:Int) (l4 l5:Ks D),c3=(kc (pre++[s]):Nat)->JR ps os[kc pre]? s r->on (ou (pre++[s])) r->b8 S S2->S2 q=some (.lst (ps.map gP++[gP r]))->N1 [some (MD ms),some (.tup (os.map zm)),some (.ref q),some (.int c3),l4,l5] S2:=λr S2 c3 l4 l5 ec jr jo e2 h2=>
     hN _ _ ⟨pre++[s],rs,ps++[r],l4,l5,by rw [ec],e2,by rw [h2,List.map_append]; rfl,by rw [JO]; rfl,em2,.snoc hst jr,λp hp=>by
      rcases List.mem_append.mp hp with h | h
      ·exact(hok p h).mono (by rw [gh]; omega)
      ·simp only [JB,JK,or_false] at h; rw [h]; exact jo⟩
    have lt:(ps.map gP).length < sizeLine:=by rw [Jy]; exact jD (by omega)
    have cc:ou (pre++[s])<=5:=by
     have:ou ms=ou (pre++[s])+ou rs:=by rw [em2]; unfold ou; rw [List.countP_append]
     omega
    refine⟨(_,none),rfl,rfl,rfl,?_⟩;cases s with
    | fix x y=>
     obtain⟨sx,sy⟩:Sz 4 x/\Sz 4 y:=so;refine⟨_,rfl,⟨_,h1⟩,_,rfl,_,rfl,bZ,x,y,rfl,_,h1,lt,?_⟩;exact nxt ((x,0),(y,0)) _ _ _ _ (by rw [gl]; rfl) rfl ((on.plain ((Cd.of sx sy).mono (by decide))).mono (Kf _)) (e1.put hq) am
    | crank i l=>
     obtain⟨⟨x,y,hi⟩,sl,_⟩:(∃ x y,pre[i]?=some (.fix x y))/\Sz 4 l/\0 < l:=so;have hp:=hst.fix hi;have hcr:kc pre < os.length:=by
      have:kc ms=kc (pre++[.crank i l])+kc rs:=by rw [em2]; unfold kc; rw [List.countP_append]
      rw [gl] at this;have:kc ms=kc pre+1+kc rs:=this;omega
     have ho2:os[kc pre]?=some os[kc pre]:=JV hcr;have dk:=hd _ (Kk hcr);generalize os[kc pre]=o at ho2 dk
     obtain⟨sx,sy⟩:Sz 4 x/\Sz 4 y:=by
      have hlt:=(J4.mp hi).1;have:=hw i _ (by rw [em,List.getElem?_append_left hlt]; exact hi)
      exact this
     refine⟨_,rfl,⟨_,rfl,⟨_,h1⟩,_,rfl,_,_,h1,vo hp,_,rfl,_,BX ho2,x,y,l,o,rfl,sx.mono (by decide),sy.mono (by decide),sl.mono (by decide),dk,_,h1,lt,?_⟩⟩
     exact nxt ((x+pK o*l,0),(y+pI o*l,0)) _ _ _ _ (by rw [gl]; rfl) ⟨_,o,hp,ho2,rfl⟩ ((on.plain (Cd.crank sx sy sl dk)).mono (Kf _)) (e1.put hq) am
    | pair i j s t v=>
     obtain⟨hi,hj,_,ss',st,_,_,hv⟩:i < pre.length/\j < pre.length/\i≠j/\Sz 8 s/\Sz 8 t/\0 < s/\0 < t/\(v=0\/v=1):=so;obtain⟨v,rfl⟩:=Int.eq_ofNat_of_zero_le (show 0<=v by omega)
     have c4:ou pre<=4:=by rw [gh] at cc; have:ou pre+1<=5:=cc; omega
     have gi:ps[i]?=some ps[i]:=JV (by omega)
     have gj:ps[j]?=some ps[j]:=JV (by omega)
     have ki:=hok _ (List.mem_of_getElem? gi);have kj:=hok _ (List.mem_of_getElem? gj);generalize ps[i]=p1 at gi ki
     generalize ps[j]=p2 at gj kj
     have v2:v < 2:=by omega
     refine⟨_,rfl,⟨_,rfl,⟨_,rfl,⟨_,h1⟩,i,j,s,t,v,pre.length,q,ps,p1,p2,rfl,h1,gi,gj,v2,λ_ _=>EQ (Jd c4) ki.cd kj.cd ss' st,λno S2 e2=>?_,λa b c S2 e2=>?_,λa b c d S2 dd e2 ed=>?_⟩⟩⟩
     ·exact wf pre _ rs ps em hst ⟨p1,p2,gi,gj,no⟩ S2 (e1.trans e2)
     ·exact w0 pre _ rs ps em hst ⟨p1,p2,gi,gj,a,b,c⟩ S2 (e1.trans e2)
     ·obtain⟨r,er⟩:=At c4 ki kj ss' st v2 c d;obtain⟨_,_,_,_,_,jo⟩:=w9 c4 ki kj ss' st v2 c d er;rw [<- er] at ed;subst ed;refine⟨_,e2 _ _ h1,lt,nxt r _ _ _ _ (by rw [gl]; rfl) ⟨p1,p2,gi,gj,a,b,c,d,er⟩ (by rw [gh]; exact jo) ((e1.trans e2).put hq) am⟩
    | like i j a l=>
     obtain⟨hi,hj,_,sa,sl⟩:i < pre.length/\j < pre.length/\i≠j/\Sz 4 a/\Sz 4 l:=so;have c4:ou pre<=4:=by rw [gh] at cc; have:ou pre+1<=5:=cc; omega
     have gi:ps[i]?=some ps[i]:=JV (by omega)
     have gj:ps[j]?=some ps[j]:=JV (by omega)
     have ki:=hok _ (List.mem_of_getElem? gi);have kj:=hok _ (List.mem_of_getElem? gj);generalize ps[i]=p1 at gi ki
     generalize ps[j]=p2 at gj kj
     refine⟨_,rfl,⟨_,rfl,⟨_,rfl,⟨_,h1⟩,_,rfl,_,_,h1,vo gi,_,rfl,_,_,h1,vo gj,_,rfl,_,rfl,vN (ou pre),p1,p2,a,l,rfl,ID c4,ki.pok,kj.pok,sa,sl,λno S2 e2=>?_,λu u0 no su hR b1 b2 b3 b4 S2 e2=>?_⟩⟩⟩
     ·exact wf pre _ rs ps em hst ⟨p1,p2,gi,gj,no⟩ S2 (e1.trans e2)
     ·exact⟨_,e2 _ _ h1,lt,nxt (BK u p1 p2 a l) _ _ _ _ (by rw [gl]; rfl) ⟨p1,p2,u,gi,gj,u0,hR,rfl⟩ (by rw [gh]; exact ki.like kj sa sl u0 no su b1 b2 b3 b4) ((e1.trans e2).put hq) am⟩
  ·rintro L S1 ⟨pre,rs,ps,l4,l5,rfl,e1,h1,er,em,hst,hok⟩;cases rs with
   | cons s rs=>cases er
   | nil=>
    rw [JP] at em;subst em;exact w ps S1 q hst hok e1 h1
set_option maxHeartbeats 4000000
structure cG where
 i:Nat
 j:Nat
 q:Rat
def cG.d (r:cG):D:=.tup [.int (r.i:Nat),.int (r.j:Nat),fr r.q]
def Hj (i j:Int):Int:=if j < i then j else i
def Hl (i j:Int):Int:=if j > i then j else i
def hit (i j:Nat) (r:cG):KA:=((r.i:Int) == Hj i j) && (((r.j:Int) == Hl i j) && true)
def kS:Ks bR->Ks bR->Ks Rat
 | some (.fix x y),some (.fix z v)=>some ((z - x)*(z - x)+(v - y)*(v - y))
 | _,_=>none
def cu (ms:List bR) (i j:Nat):List cG->Ks Rat
 | []=>kS ms[i]? ms[j]?
 | r::rs=>if hit i j r=true then some r.q else cu ms i j rs
theorem zB {ms:List bR} {i j:Nat} {q:Rat} (hw:Wf ms) (h:kS ms[i]? ms[j]?=some q):Sz 40 q:=by
 unfold kS at h
 split at h
 ·rename_i x y z v e1 e2
  cases h;obtain⟨h1,h2⟩:Sz 4 x/\Sz 4 y:=hw i _ e1;obtain⟨h3,h4⟩:Sz 4 z/\Sz 4 v:=hw j _ e2;exact(((h3.sub h1).mul (h3.sub h1)).add ((h4.sub h2).mul (h4.sub h2))).mono (by decide)
 ·cases h
theorem mQ {ms:List bR} {i j n:Nat} {q:Rat} (hw:Wf ms) (hn:40<=n):∀ {rs:List cG},(∀ r∈rs,Sz n r.q)->cu ms i j rs=some q->Sz n q
 | [],_,h=>(zB hw h).mono hn
 | r::rs,hr,h=>by
  unfold cu at h
  split at h
  ·cases h; exact hr r JD
  ·exact mQ hw hn (λr hr2=>hr r (JE _ hr2)) h
def bI (i j k:Nat) (a l q:Rat):Ks (List cG):=
 if ((a*a+l*l)*q).num=0\/(((1 - a)*(1 - a)+l*l)*q).num=0 then none else some [⟨i,k,(a*a+l*l)*q⟩,⟨j,k,((1 - a)*(1 - a)+l*l)*q⟩]
def du (ms:List bR) (k:Nat) (rods:List cG):bR->Ks (List cG)
 | .fix _ _=>some []
 | .crank c l=>some [⟨c,k,l*l⟩]
 | .pair i j s t _=>some [⟨i,k,s⟩,⟨j,k,t⟩]
 | .like i j a l=>(cu ms i j rods).bind (bI i j k a l)
def bw (ms:List bR):Nat->List bR->List cG->Ks (List cG)
 | _,[],rods=>some rods
 | k,s::r,rods=>(du ms k rods s).bind λmore=>bw ms (k+1) r (rods++more)
def lY (ms:List bR):List cG->D:=λrods=>.tup [.int (ms.length:Nat),.tup (fm 0 ms),.tup (rods.map cG.d)]
structure fT (k:Nat) (rods:List cG):Prop where
 lt:∀ r∈rods,r.i < r.j
 sz:∀ r∈rods,Sz (40+24*k) r.q
 len:rods.length<=2*k
theorem fT.nil:fT 0 []:=⟨(λ_ h=>by cases h),(λ_ h=>by cases h),Jw _⟩
theorem Cj {a l q:Rat} {n:Nat} (ha:Sz 4 a) (hl:Sz 4 l) (hq:Sz n q):Sz (n+24) ((a*a+l*l)*q)/\Sz (n+24) (((1 - a)*(1 - a)+l*l)*q):=by
 have o:Sz 1 (1:Rat):=⟨by decide,by decide⟩
 have h1:=(ha.mul ha).add (hl.mul hl);have h2:=((o.sub ha).mul (o.sub ha)).add (hl.mul hl);exact⟨(h1.mul hq).mono (by omega),(h2.mul hq).mono (by omega)⟩
theorem rb {ms:List bR} {k:Nat} {s:bR} {rods more:List cG} (hw:Wf ms) (hs:ms[k]?=some s) (h:fT k rods) (e:du ms k rods s=some more):fT (k+1) (rods++more)/\more.length<=2:=by
 have hk:k < ms.length:=(J4.mp hs).1;have lt:(ms.take k).length=k:=by rw [List.length_take]; omega
 have so:=hw k s hs;have two:∀ (r1 r2:cG),r1.i < r1.j->r2.i < r2.j->Sz (40+24*(k+1)) r1.q->Sz (40+24*(k+1)) r2.q->fT (k+1) (rods++[r1,r2]):=λr1 r2 a1 a2 a3 a4=>by
  refine⟨λr hr=>?_,λr hr=>?_,by have:=h.len; rw [JO]; show rods.length+2<=2*(k+1); omega⟩
  ·rcases List.mem_append.mp hr with hr | hr
   ·exact h.lt r hr
   ·simp only [JB,JK,or_false] at hr;rcases hr with rfl | rfl <;> assumption
  ·rcases List.mem_append.mp hr with hr | hr
   ·exact(h.sz r hr).mono (by omega)
   ·simp only [JB,JK,or_false] at hr;rcases hr with rfl | rfl <;> assumption
 cases s with
 | fix x y=>
  cases e;rw [JP];exact⟨⟨h.lt,λr hr=>(h.sz r hr).mono (by omega),by have:=h.len; omega⟩,by decide⟩
 | crank c l=>
  cases e;obtain⟨⟨x,y,hc⟩,sl,_⟩:=so;have hc2:=(J4.mp hc).1;refine⟨⟨λr hr=>?_,λr hr=>?_,by have:=h.len; rw [JO]; show rods.length+1<=2*(k+1); omega⟩,by show 1<=2; decide⟩
  ·rcases List.mem_append.mp hr with hr | hr
   ·exact h.lt r hr
   ·simp only [JB,JK,or_false] at hr;subst hr
    show c < k
    omega
  ·rcases List.mem_append.mp hr with hr | hr
   ·exact(h.sz r hr).mono (by omega)
   ·simp only [JB,JK,or_false] at hr;subst hr;exact(sl.mul sl).mono (by omega)
 | pair i j s t v=>
  cases e;obtain⟨hi,hj,_,s1,s2,_⟩:=so;exact⟨two _ _ (by show i < k; omega) (by show j < k; omega) (s1.mono (by omega)) (s2.mono (by omega)),Jw 2⟩
 | like i j a l=>
  obtain⟨hi,hj,_,s1,s2⟩:=so;have e:(cu ms i j rods).bind (bI i j k a l)=some more:=e;cases hq:cu ms i j rods with
  | none=>rw [hq] at e; cases e
  | some q=>
   rw [hq] at e;have e:bI i j k a l q=some more:=e;unfold bI at e
   split at e
   ·cases e
   ·cases e;have sq:=mQ hw (by omega) h.sz hq
    obtain⟨z1,z2⟩:=Cj s1 s2 sq;exact⟨two _ _ (by show i < k; omega) (by show j < k; omega) (z1.mono (by omega)) (z2.mono (by omega)),Jw 2⟩
theorem gW (s:bR):(∃ x y,s=.fix x y)\/s.isFix=false:=by
 cases s with
 | fix x y=>exact .inl ⟨x,y,rfl⟩
 | _=>exact .inr rfl
theorem i_ {s:bR} (h:s.isFix=false):∃ (v:Str) (r:List D),s.d=.tup (.str v::r)/\v≠"fix":=by
 cases s with
 | fix x y=>cases h
 | crank c l=>exact⟨_,_,rfl,by decide⟩
 | pair i j s t v=>exact⟨_,_,rfl,by decide⟩
 | like i j a l=>exact⟨_,_,rfl,by decide⟩
theorem rP {s:bR} {o:Ks bR} (h:s.isFix=false):kS (some s) o=none:=by
 cases s with
 | fix x y=>cases h
 | _=>rfl
theorem qU {s:bR} {o:Ks bR} (h:s.isFix=false):kS o (some s)=none:=by
 cases s with
 | fix x y=>cases h
 | _=>cases o with
  | none=>rfl
  | some t=>cases t <;> rfl
abbrev Hg:=List (Q×Q)
def tv (u:Rat) (ps:Hg) (r:cG):Q:=match ps[r.i]?,ps[r.j]? with
 | some a,some b=>bJ u (qs b.1 a.1) (qs b.2 a.2)
 | _,_=>(0,0)
def jn (u:Rat) (ps:Hg):Nat->List cG->D
 | _,[]=>.non
 | k,r::rs=>if tv u ps r=(r.q,0) then jn u ps (k+1) rs else .int (k:Nat)
theorem eq_int {n:Nat} {i j:Int}:mD n (.int i) (.int j)=some (i == j):=by cases n <;> rfl
theorem Dj {n:Nat} {p q:Rat}:mD (n+1) (fr p) (fr q)=some (decide (p=q)):=by
 show kf (mD n) [.int p.num,.int (p.den:Int)] [.int q.num,.int (q.den:Int)]=_
 show(match mD n (.int p.num) (.int q.num),(match mD n (.int (p.den:Int)) (.int (q.den:Int)),some true with | some a,some b=>some (a && b) | _,_=>none) with | some a,some b=>some (a && b) | _,_=>none)=_
 rw [eq_int,eq_int]
 show some ((p.num == q.num) && (((p.den:Int) == (q.den:Int)) && true))=_
 congr 1
 rw [Bool.and_true,Bool.eq_iff_iff];simp only [J8,beq_iff_eq,decide_eq_true_eq];exact⟨λz9=>by obtain⟨a,b⟩:=z9; exact Rat.ext a (by exact_mod_cast b),λh=>by subst h; exact⟨rfl,rfl⟩⟩
theorem EZ {n:Nat} {a b c d:D} {p q:KA} (h1:mD n a c=some p) (h2:mD n b d=some q):mD (n+1) (.tup [a,b]) (.tup [c,d])=some (p && q):=by
 show(match mD n a c,(match mD n b d,some true with | some a,some b=>some (a && b) | _,_=>none) with | some a,some b=>some (a && b) | _,_=>none)=_
 rw [h1,h2]
 show some (p && (q && true))=_
 rw [Bool.and_true]
theorem CW {u q:Rat} {s:Q} (u0:0 < u):mD 8 (N u s.1 s.2) (.tup [fr q,fr 0])=some (decide (s=(q,0))):=by
 have h:=EZ (n:=7) (Dj (n:=6) (p:=s.1) (q:=q)) (Dj (n:=6) (p:=ss s.2*u) (q:=0));rw [show decide (s=(q,0))=(decide (s.1=q) && decide (ss s.2*u=0)) from ?_]
 ·exact h
 ·rw [Bool.eq_iff_iff];simp only [J8,decide_eq_true_eq];rw [ls u0];exact⟨λe=>by rw [e]; exact⟨rfl,rfl⟩,λ⟨a,b⟩=>JN a b⟩
def IM (u:Rat) (ps:Hg) (rs:List cG):Prop:=∀ r∈rs,tv u ps r=(r.q,0)
theorem A8 {u v:Rat} {ps:List (Gn×Gn)} (u0:0 < u) (v0:0 < v) (hu:HR u ps) (hv:HR v ps):∃ ρ:Rat,ρ≠0/\(u=ρ*ρ*v\/∀ p∈ps,bq u p.1.2=0/\bq u p.2.2=0)/\∀ p∈ps,bq v p.1.2=ρ*bq u p.1.2/\bq v p.2.2=ρ*bq u p.2.2:=by
 cases e:eN ps with
 | nil=>
  have z:∀ p∈ps,p.1.2=0/\p.2.2=0:=λp hp=>by
   have y:∀ n:Gn,n=p.1\/n=p.2->n.2=0:=λn hn=>by
    apply Classical.byContradiction;intro h0;have:=r_ hp hn h0;rw [e] at this;cases this
   exact⟨y _ (.inl rfl),y _ (.inr rfl)⟩
  refine⟨1,by decide,.inr λp hp=>?_,λp hp=>?_⟩
  ·rw [(z p hp).1,(z p hp).2,mO u0];exact⟨rfl,rfl⟩
  ·rw [(z p hp).1,(z p hp).2,mO u0,mO v0];exact⟨by grind,by grind⟩
 | cons x0 t=>
  have m0:x0∈eN ps:=by rw [e]; exact JD
  obtain⟨n0,p,hp,hh⟩:=mI m0;have hx:iy u x0.2/\iy v x0.2:=by
   rcases hh with rfl | rfl
   ·exact⟨(hu p hp).1,(hv p hp).1⟩
   ·exact⟨(hu p hp).2,(hv p hp).2⟩
  obtain⟨⟨b,eb⟩,⟨d,ed⟩⟩:=hx;have b0:b≠0:=λz=>n0 (by rw [<- eb,z,di,Rat.zero_mul])
  have hb:d / b*b=d:=Rat.div_mul_cancel b0;have pos:0<=d / b:=by
   have h1:=qe (b:=b) u0;have h2:=qe (b:=d) v0;rw [eb] at h1;rw [ed] at h2;have h3:=h1.symm.trans h2;rcases tri b with z | z | z
   ·exact kP (by grind) (by grind)
   ·have:=kP (x:=-d) (y:=-b) (by grind) (by grind)
    have y:-d / -b*-b=-d:=Rat.div_mul_cancel (by grind)
    have:-d / -b=d / b:=by
     have:(-d / -b - d / b)*b=0:=by grind
     grind
    grind
   ·exact absurd z b0
  have sρ:=nX pos;generalize d / b=ρ at*
  have ρ0:ρ≠0:=λz=>by
   rw [z] at hb;exact n0 (by rw [<- ed,<- hb,Rat.zero_mul,di,Rat.zero_mul])
  have euv:u=ρ*ρ*v:=by
   have h:ss ρ*ss b*v=ss b*u:=by rw [<- vH,hb,ed,eb]
   rw [sρ] at h;have sb:ss b≠0:=λz=>n0 (by rw [<- eb,z,Rat.zero_mul])
   generalize ss b=s at*
   have:s*(ρ*ρ*v - u)=0:=by grind
   grind
  have sc:∀ x:Rat,iy u x->bq v x=ρ*bq u x:=λx h=>uF v0 (by
   rw [vH,sρ];have h1:=wP h;rw [euv] at h1 ⊢;generalize ss (bq (ρ*ρ*v) x)=s at*
   grind)
  exact⟨ρ,ρ0,.inl euv,λp hp=>⟨sc _ (hu p hp).1,sc _ (hu p hp).2⟩⟩
theorem zv {u v:Rat} {ps:List (Gn×Gn)} {rs:List cG} (u0:0 < u) (v0:0 < v) (hu:HR u ps) (hv:HR v ps) (hi:∀ r∈rs,r.i < ps.length/\r.j < ps.length) (h:IM u (ps.map (rp u)) rs):IM v (ps.map (rp v)) rs:=λr hr=>by
 have h:=h r hr;obtain⟨ii,jj⟩:=hi r hr;have gi:∀ w,(ps.map (rp w))[r.i]?=some (rp w ps[r.i]):=λw=>by simp [ii]
 have gj:∀ w,(ps.map (rp w))[r.j]?=some (rp w ps[r.j]):=λw=>by simp [jj]
 unfold tv at h ⊢;rw [gi,gj] at h ⊢;obtain⟨ρ,ρ0,euv,sc⟩:=A8 u0 v0 hu hv;have mi:=sc _ (Kk ii);have mj:=sc _ (Kk jj);have za:∀ (z:∀ p∈ps,bq u p.1.2=0/\bq u p.2.2=0),(bq u ps[r.i].1.2=0/\bq u ps[r.i].2.2=0)/\bq u ps[r.j].1.2=0/\bq u ps[r.j].2.2=0:=λz=>⟨z _ (Kk ii),z _ (Kk jj)⟩
 have e1:=congrArg Prod.fst h;have e2:=congrArg Prod.snd h;simp only [bJ,qa,qm,qs,rp,rq] at e1 e2
 show bJ v (qs (rp v ps[r.j]).1 (rp v ps[r.i]).1) (qs (rp v ps[r.j]).2 (rp v ps[r.i]).2)=(r.q,0)
 simp only [bJ,qa,qm,qs,rp,rq];rw [mi.1,mi.2,mj.1,mj.2];have key:(u=ρ*ρ*v\/(bq u ps[r.i].1.2=0/\bq u ps[r.i].2.2=0)/\bq u ps[r.j].1.2=0/\bq u ps[r.j].2.2=0):=euv.imp id za;clear euv sc mi mj za h gi gj hu hv;generalize bq u ps[r.i].1.2=b1 at*
 generalize bq u ps[r.i].2.2=b2 at*
 generalize bq u ps[r.j].1.2=b3 at*
 generalize bq u ps[r.j].2.2=b4 at*
 generalize ps[r.i].1.1=a1 at*
 generalize ps[r.i].2.1=a2 at*
 generalize ps[r.j].1.1=a3 at*
 generalize ps[r.j].2.1=a4 at*
 refine JN ?_ ?_
 ·dsimp only;rcases key with rfl | ⟨⟨rfl,rfl⟩,rfl,rfl⟩
  ·rw [<- e1];grind
  ·rw [<- e1];grind
 ·dsimp only;have:(a3 - a1)*(ρ*b3 - ρ*b1)+(ρ*b3 - ρ*b1)*(a3 - a1)+((a4 - a2)*(ρ*b4 - ρ*b2)+(ρ*b4 - ρ*b2)*(a4 - a2))=ρ*((a3 - a1)*(b3 - b1)+(b3 - b1)*(a3 - a1)+((a4 - a2)*(b4 - b2)+(b4 - b2)*(a4 - a2))):=by grind
  rw [this,e2];grind
set_option maxHeartbeats 4000000
noncomputable abbrev xt (u:Rat) (p q:Pt):Q:=bJ u (qs (rq u q.1) (rq u p.1)) (qs (rq u q.2) (rq u p.2))
def mz (p q:Pt) (s:Rat):Prop:=∃ u,0 < u/\HR u [p,q]/\xt u p q=(s,0)
theorem HR.swap {u:Rat} {p q:Pt} (h:HR u [p,q]):HR u [q,p]:=λr hr=>h r (by simp only [JB,JK,or_false] at hr ⊢; exact hr.symm)
theorem yV {u:Rat} {p q:Pt}:xt u p q=xt u q p:=by
 unfold xt bJ qs qa qm;apply JN <;> dsimp only <;> grind
theorem mz.symm {p q:Pt} {s:Rat} (h:mz p q s):mz q p s:=by
 obtain⟨u,u0,hR,e⟩:=h;exact⟨u,u0,hR.swap,by rw [yV]; exact e⟩
theorem mz.at {p q:Pt} {s v:Rat} (h:mz p q s) (v0:0 < v) (hv:HR v [p,q]):xt v p q=(s,0):=by
 obtain⟨u,u0,hR,e⟩:=h;have:=zv (rs:=[⟨0,1,s⟩]) u0 v0 hR hv (λr hr=>by
  simp only [JB,JK,or_false] at hr;subst hr;exact⟨by show 0 < 2; decide,by show 1 < 2; decide⟩) (λr hr=>by
  simp only [JB,JK,or_false] at hr;subst hr;exact e)
 exact this _ JD
theorem gm {u x:Rat} (u0:0 < u):rq u (x,0)=qo x:=by
 unfold rq;dsimp only;rw [mO u0]
 rfl
theorem Db {u:Rat} (u0:0 < u) {X Y:Q}:rq u (pU u X Y).1=X/\rq u (pU u X Y).2=Y:=by
 unfold rq pU;dsimp only;rw [uF u0 rfl,uF u0 rfl];exact⟨rfl,rfl⟩
theorem Pl.rq {p:Pt} (h:Pl p) {u:Rat} (u0:0 < u):My.rq u p.1=qo p.1.1/\My.rq u p.2=qo p.2.1:=by
 unfold My.rq;rw [h.1,h.2,mO u0];exact⟨rfl,rfl⟩
theorem Pl.has {p:Pt} (h:Pl p) {u:Rat}:iy u p.1.2/\iy u p.2.2:=by rw [h.1,h.2]; exact⟨eP,eP⟩
theorem tK {u:Rat} {X Y:Q}:iy u (pU u X Y).1.2/\iy u (pU u X Y).2.2:=⟨⟨_,rfl⟩,⟨_,rfl⟩⟩
theorem HR.mk2 {u:Rat} {p q:Pt} (h:iy u p.1.2/\iy u p.2.2) (g:iy u q.1.2/\iy u q.2.2):HR u [p,q]:=λr hr=>by
 simp only [JB,JK,or_false] at hr;rcases hr with rfl | rfl
 ·exact h
 ·exact g
def tW (ps:List Pt) (r:cG):Prop:=∃ p q,ps[r.i]?=some p/\ps[r.j]?=some q/\mz p q r.q
theorem Ba (o:Ks Rat):pK o*pK o+pI o*pI o=1:=by
 cases o with
 | none=>show -1*-1+0*0=(1:Rat); grind
 | some t=>
  have h:=gU t;have e1:(1 - t*t) / (1+t*t)*(1+t*t)=1 - t*t:=Rat.div_mul_cancel h;have e2:(t+t) / (1+t*t)*(1+t*t)=t+t:=Rat.div_mul_cancel h
  show(1 - t*t) / (1+t*t)*((1 - t*t) / (1+t*t))+(t+t) / (1+t*t)*((t+t) / (1+t*t))=1
  generalize (1 - t*t) / (1+t*t)=a at*
  generalize (t+t) / (1+t*t)=b at*
  have:(a*a+b*b - 1)*((1+t*t)*(1+t*t))=0:=by grind
  rcases Rat.mul_eq_zero.mp this with q | q
  ·grind
  ·rcases Rat.mul_eq_zero.mp q with q | q <;> exact absurd q h
theorem yy {x y l:Rat} {o:Ks Rat}:mz ((x,0),(y,0)) ((x+pK o*l,0),(y+pI o*l,0)) (l*l):=by
 refine⟨2,by decide,HR.mk2 ⟨eP,eP⟩ ⟨eP,eP⟩,?_⟩
 unfold xt;rw [gm (by decide),gm (by decide),gm (by decide),gm (by decide)]
 have:=Ba o;unfold bJ qs qa qm qo;apply JN <;> dsimp only
 ·generalize pK o=a at*
  generalize pI o=b at*
  grind
 ·grind
theorem Fo {x y z v:Rat}:mz ((x,0),(y,0)) ((z,0),(v,0)) ((z - x)*(z - x)+(v - y)*(v - y)):=by
 refine⟨2,by decide,HR.mk2 ⟨eP,eP⟩ ⟨eP,eP⟩,?_⟩
 unfold xt;rw [gm (by decide),gm (by decide),gm (by decide),gm (by decide)]
 unfold bJ qs qa qm qo;apply JN <;> dsimp only <;> grind
theorem B8 {n:Nat} {p q r:Pt} {s t:Rat} {d:D} {u:Rat} {X Y:Q} (hp:Pl p) (hq:Pl q) (j:Jg n p.1.1 p.2.1 s q.1.1 q.2.1 t d u X Y) (e:r=pU u X Y):mz p r s/\mz q r t:=by
 subst e;have u0:=j.u0;obtain⟨e1,e2⟩:=Db (X:=X) (Y:=Y) u0;obtain⟨e3,e4⟩:=hp.rq u0;obtain⟨e5,e6⟩:=hq.rq u0;refine⟨⟨u,u0,HR.mk2 hp.has tK,?_⟩,u,u0,HR.mk2 hq.has tK,?_⟩
 ·unfold xt;rw [e1,e2,e3,e4];exact j.one
 ·unfold xt;rw [e1,e2,e5,e6];exact j.two
theorem B5 {p q:Pt} {u a l s:Rat} (u0:0 < u) (hR:HR u [p,q]) (h:mz p q s):mz p (BK u p q a l) ((a*a+l*l)*s)/\mz q (BK u p q a l) (((1 - a)*(1 - a)+l*l)*s):=by
 have e:=h.at u0 hR;obtain⟨h1,h2⟩:=hR.two;obtain⟨e1,e2⟩:=Db (u:=u) (X:=j6 u (rq u p.1) (rq u p.2) (rq u q.1) (rq u q.2) (qo a) (qo l)) (Y:=j_ u (rq u p.1) (rq u p.2) (rq u q.1) (rq u q.2) (qo a) (qo l)) u0;refine⟨⟨u,u0,HR.mk2 h1 tK,?_⟩,u,u0,HR.mk2 h2 tK,?_⟩
 ·unfold xt BK;rw [e1,e2];exact AI e
 ·unfold xt BK;rw [e1,e2];exact AU e
theorem Eb {i j:Nat} {r:cG} (h:hit i j r=true):(r.i=i/\r.j=j)\/(r.i=j/\r.j=i):=by
 unfold hit at h;simp only [Bool.and_true,J8,beq_iff_eq] at h;unfold Hj Hl at h
 split at h <;> omega
theorem ux {ms:List bR} {os:List (Ks Rat)} {ps:List Pt} (hst:u8 os ms ps) {i j:Nat} {p q:Pt} {s:Rat} (hp:ps[i]?=some p) (hq:ps[j]?=some q):∀ {rods:List cG},(∀ r∈rods,tW ps r)->cu ms i j rods=some s->mz p q s
 | [],_,h=>by
  have h:kS ms[i]? ms[j]?=some s:=h;unfold kS at h
  split at h
  ·rename_i x y z v e1 e2
   cases h;have f1:=hst.fix e1;have f2:=hst.fix e2;rw [hp] at f1;rw [hq] at f2;cases f1;cases f2;exact Fo
  ·cases h
 | r::rs,hr,h=>by
  have h:(if hit i j r=true then some r.q else cu ms i j rs)=some s:=h
  split at h
  ·rename_i hh
   cases h;obtain⟨a,b,ha,hb,sq⟩:=hr r JD;rcases Eb hh with ⟨e1,e2⟩ | ⟨e1,e2⟩
   ·rw [e1,hp] at ha;rw [e2,hq] at hb;cases ha;cases hb;exact sq
   ·rw [e1,hq] at ha;rw [e2,hp] at hb;cases ha;cases hb;exact sq.symm
  ·exact ux hst hp hq (λr h2=>hr r (JE _ h2)) h
theorem iZ {α:Type} {l:List α} {k i:Nat} {x:α} (h:(l.take k)[i]?=some x):l[i]?=some x:=by
 rw [List.getElem?_take] at h
 split at h
 ·exact h
 ·cases h
theorem zu {ms:List bR} {os:List (Ks Rat)} {ps:List Pt} {c:Nat} (hw:Wf ms) (hst:u8 os ms ps) (c4:c<=4) (hok:∀ p∈ps,on c p):∀ {rs:List bR} {j:Nat} {rods out:List cG},ms.drop j=rs->(∀ r∈rods,tW ps r)->bw ms j rs rods=some out->∀ r∈out,tW ps r
 | [],j,rods,out,_,hr,h=>by cases h; exact hr
 | s::rs,j,rods,out,hd,hr,h=>by
  obtain⟨g0,g1⟩:=la hd;have h:((du ms j rods s).bind λmore=>bw ms (j+1) rs (rods++more))=some out:=h
  cases hm:du ms j rods s with
  | none=>rw [hm] at h; cases h
  | some more=>
   rw [hm] at h;refine zu hw hst c4 hok g1 (λr hr2=>?_) h
   rcases List.mem_append.mp hr2 with hr2 | hr2
   ·exact hr r hr2
   obtain⟨r0,f0,jr⟩:=hst.at j s g0;have so:=hw j s g0;cases s with
   | fix x y=>
    cases hm;cases hr2
   | crank i l=>
    cases hm;simp only [JB,JK,or_false] at hr2;subst hr2;obtain⟨p,d,hp,_,e⟩:=jr;obtain⟨⟨x,y,hi⟩,_⟩:=so;have f1:=hst.fix (iZ hi);have hp:=iZ hp;rw [hp] at f1;cases f1;exact⟨_,_,hp,f0,by rw [e]; exact yy⟩
   | pair i j' s t v=>
    cases hm;obtain⟨p,q,hp,hq,p1,p2,a0,c0,e⟩:=jr;obtain⟨_,_,_,ss',st,_,_,hv⟩:=so;have hp:=iZ hp;have hq:=iZ hq;obtain⟨u,X,Y,jg,er,_⟩:=w9 c4 (hok _ (List.mem_of_getElem? hp)) (hok _ (List.mem_of_getElem? hq)) ss' st (by omega) a0 c0 e
    obtain⟨s1,s2⟩:=B8 p1 p2 jg er;simp only [JB,JK,or_false] at hr2;rcases hr2 with rfl | rfl
    ·exact⟨p,r0,hp,f0,s1⟩
    ·exact⟨q,r0,hq,f0,s2⟩
   | like i j' a l=>
    obtain⟨p,q,u,hp,hq,u0,hR,e⟩:=jr;have hp:=iZ hp;have hq:=iZ hq;have hm:(cu ms i j' rods).bind (bI i j' j a l)=some more:=hm;cases hk:cu ms i j' rods with
    | none=>rw [hk] at hm; cases hm
    | some S0=>
     rw [hk] at hm;have hm:bI i j' j a l S0=some more:=hm;obtain⟨s1,s2⟩:=B5 (a:=a) (l:=l) u0 hR (ux hst hp hq hr hk);rw [<- e] at s1 s2
     unfold bI at hm
     split at hm
     ·cases hm
     ·cases hm;simp only [JB,JK,or_false] at hr2;rcases hr2 with rfl | rfl
      ·exact⟨p,r0,hp,f0,s1⟩
      ·exact⟨q,r0,hq,f0,s2⟩
set_option maxHeartbeats 4000000
theorem Dp {x y z:D}:¬ (HT.cM [x,y,z].length 0 none=0/\HT.cM [x,y,z].length [x,y,z].length (some 2)=[x,y,z].length):=show ¬ (HT.cM 3 0 none=0/\HT.cM 3 3 (some 2)=3) by decide
theorem w5 {x y z:D}:¬ (HT.cM [x,y,z].length 0 (some 1)=0/\HT.cM [x,y,z].length [x,y,z].length none=[x,y,z].length):=show ¬ (HT.cM 3 0 (some 1)=0/\HT.cM 3 3 none=3) by decide
def jZ:cH:=λds S k=>∃ (ms:List bR) (rods:List cG) (p:Kr) (i j:Nat),ds=[MD ms,.ref p,.int (i:Nat),.int (j:Nat)]/\S p=some (.lst (rods.map cG.d))/\Wf ms/\i < ms.length/\j < ms.length/\(cu ms i j rods=none->False)/\∀ q,cu ms i j rods=some q->k (fr q) S
theorem bC:ar ["machine","rods","one","other","joints","rod","way"] ["machine","rods","one","other"] (aj eZ):=dZ
theorem nC (Fn:FN K "steady_square" eZ f fd) (bW:aZ P w K mg base "plain_way" 36 gf) (aF:aZ P w K mg base "product_of_ways" 36 bT) (mH:mg "max"=none) (ng:mg "min"=none):
  aQ P w K mg base de 37 f fd ["machine","rods","one","other"] (dw K jZ):=by
 refine Fn.okJ bC (λds S k h=>?_) (λcdv A outer s H E hr=>⟨_,(af (ak (i:=4) bC.nd (aA (aa (aJ AY rfl ng vI (aw 2 (aw 3 ac))) (aa (aJ zE rfl mH ve (aw 2 (aw 3 ac))) ac)))) (af (dI PassesOwn.never rfl (ah 1) (aG (i:=5) bC.nd) (ag (av (au (Di hr) (fY (ah 5) dF (dB aq)) (ah 4) (aD _)) (ag (ai (ft 5))) aE))) (af (av (WJ.pt (eH (au (n_ hr) (bb b_ (bb b_ (ah 0) (ah 2) Zf) aq Zf) b9 (aD _)) (cY (au (n_ hr) (bb b_ (bb b_ (ah 0) (ah 3) Zf) aq Zf) b9 (aD _))))) (ag dn) aE) (af (ak (i:=6) bC.nd (dq bW hr (aa (fY (bb b_ (ah 0) (ah 2) Zf) (dB aq) dF) (aa (fY (bb b_ (ah 0) (ah 3) Zf) (dB aq) dF) ac)))) (ag (ai (dq aF hr (aw 6 (aw 6 ac))))))))),λds S k h=>?_⟩)
 ·obtain⟨_,_,_,_,_,rfl,_⟩:=h
  rfl
 ·obtain⟨ms,rods,p,i,j,rfl,hp,hw,hi,hj,wn,w⟩:=h;refine⟨bZ,(rods.map cG.d,some p),by simp only [aT,hp],?_⟩
  refine dP (λr L S'=>∃ (rs:List cG) (l5 l6:Ks D),L=[some (MD ms),some (.ref p),some (.int (i:Nat)),some (.int (j:Nat)),some (.tup [.int (Hj i j),.int (Hl i j)]),l5,l6]/\S'=S/\r=rs.map cG.d/\cu ms i j rods=cu ms i j rs) (λr L S' ⟨_,_,_,_,e,_⟩=>by subst e; exact hp) ?_ ?_ _ _ _ ⟨rods,none,none,rfl,rfl,rfl,rfl⟩
  ·rintro d r L S1 N1 ⟨rs,l5,l6,rfl,rfl,er,hk⟩ hN;cases rs with
   | nil=>cases er
   | cons r0 rs=>
    cases er;refine⟨Dp,hit i j r0,rfl,uY (λh=>⟨_,rfl,w r0.q ?_⟩) (λh=>hN _ _ ⟨rs,_,_,rfl,rfl,rfl,?_⟩)⟩
    ·rw [hk]; show(if hit i j r0=true then some r0.q else cu ms i j rs)=_; rw [if_pos h]
    ·rw [hk]; show(if hit i j r0=true then some r0.q else cu ms i j rs)=_; rw [if_neg (by rw [h]; exact Jz)]
  ·rintro L S1 ⟨rs,l5,l6,rfl,rfl,er,hk⟩;cases rs with
   | cons r0 rs=>cases er
   | nil=>
    have hk:cu ms i j rods=kS ms[i]? ms[j]?:=hk;have gi:ms[i]?=some ms[i]:=JV hi;have gj:ms[j]?=some ms[j]:=JV hj;rw [gi,gj] at hk;have fi:=uo gi;have fj:=uo gj;have oi:=hw i _ gi;have oj:=hw j _ gj;generalize ms[i]=si at*
    generalize ms[j]=sj at*
    rcases gW si with ⟨x,y,rfl⟩ | ni
    ·rcases gW sj with ⟨z,v,rfl⟩ | nj
     ·obtain⟨sx,sy⟩:Sz 4 x/\Sz 4 y:=oi;obtain⟨sz,sv⟩:Sz 4 z/\Sz 4 v:=oj;have d1:=(sz.sub sx).mono (n:=360000) (by decide)
      have d2:=(sv.sub sy).mono (n:=360000) (by decide)
      refine⟨_,fi,.str "fix",rfl,true,rfl,_,fj,.str "fix",rfl,true,rfl,?_⟩
      exact⟨_,fi,w5,_,fj,w5,x,y,z,v,rfl,sx.mono (by decide),sy.mono (by decide),sz.mono (by decide),sv.mono (by decide),_,_,_,_,rfl,d1,d2,d1,d2,w _ hk⟩
     ·obtain⟨u,r,e,ne⟩:=i_ nj;rw [e] at fj;have b:(u == "fix")=false:=by simpa using ne
      exact⟨_,fi,.str "fix",rfl,true,rfl,_,fj,.str u,ke,_,rfl,dj (λ_=>(wn (hk.trans (qU nj))).elim) (λh=>by rw [b] at h; cases h)⟩
    ·obtain⟨u,r,e,ne⟩:=i_ ni;rw [e] at fi;have b:(u == "fix")=false:=by simpa using ne
     exact⟨_,fi,.str u,ke,_,rfl,dj (λ_=>vF (wn (hk.trans (rP ni))).elim) (λh=>by rw [b] at h; cases h)⟩
set_option maxHeartbeats 4000000
def i9 (aB:Kr):jL:=λds S k x=>∃ (ms:List bR) (rods:List cG) (p:Kr) (i j:Nat),ds=[MD ms,.ref p,.int (i:Nat),.int (j:Nat)]/\S p=some (.lst (rods.map cG.d))/\Wf ms/\i < ms.length/\j < ms.length/\(cu ms i j rods=none->x aB S)/\∀ q,cu ms i j rods=some q->k (fr q) S
theorem mM {P:Ku} {w:Kw} {K:Fg} {mg:Str->Ks Kq} {base:Kx} {f:Kr} {fd:FuncData} {aB:Kr} (Fn:FN K "steady_square" eZ f fd) (aF:aZ P w K mg base "product_of_ways" 36 bT) (bW:aZ P w K mg base "plain_way" 36 gf) (mH:mg "max"=none) (ng:mg "min"=none) (cO:mg "NoMachine"=some (.ref aB)) (ky:PySem.W.excIn K aB [.type "ValueError",.type "Exception",.type "BaseException",.type "object"] "ValueError.__new__"=true):
  aQ P w K mg base (fK P w) 37 f fd ["machine","rods","one","other"] (u6 K (i9 aB)):=by
 refine Fn.okX bC (λds S k x h=>?_) (λcdv A outer s H E ex hr hE=>⟨_,(af (ak (i:=4) bC.nd (aA (aa (aJ AY rfl ng vI (aw 2 (aw 3 ac))) (aa (aJ zE rfl mH ve (aw 2 (aw 3 ac))) ac)))) (af (dI PassesOwn.leaving rfl (ah 1) (aG (i:=5) bC.nd) (ag (av (au (Di hr) (fY (ah 5) dF (dB aq)) (ah 4) (aD _)) (ag (ai (ft 5))) aE))) (af (av (WJ.pt (eH (au (n_ hr) (bb b_ (bb b_ (ah 0) (ah 2) Zf) aq Zf) b9 (aD _)) (cY (au (n_ hr) (bb b_ (bb b_ (ah 0) (ah 3) Zf) aq Zf) b9 (aD _))))) (ag (hV hE PySem.F.excBase_ValueError ky cO rfl)) aE) (af (ak (i:=6) bC.nd (dq bW hr (aa (fY (bb b_ (ah 0) (ah 2) Zf) (dB aq) dF) (aa (fY (bb b_ (ah 0) (ah 3) Zf) (dB aq) dF) ac)))) (ag (ai (dq aF hr (aw 6 (aw 6 ac))))))))),λds S k h=>?_⟩)
 ·obtain⟨_,_,_,_,_,rfl,_⟩:=h
  rfl
 ·obtain⟨ms,rods,p,i,j,rfl,hp,hw,hi,hj,wn,w⟩:=h;refine⟨bZ,(rods.map cG.d,some p),by simp only [aT,hp],?_⟩
  refine dP (λr L S'=>∃ (rs:List cG) (l5 l6:Ks D),L=[some (MD ms),some (.ref p),some (.int (i:Nat)),some (.int (j:Nat)),some (.tup [.int (Hj i j),.int (Hl i j)]),l5,l6]/\S'=S/\r=rs.map cG.d/\cu ms i j rods=cu ms i j rs) (λr L S' ⟨_,_,_,_,e,_⟩=>by subst e; exact hp) ?_ ?_ _ _ _ ⟨rods,none,none,rfl,rfl,rfl,rfl⟩
  ·rintro d r L S1 N1 ⟨rs,l5,l6,rfl,rfl,er,hk⟩ hN;cases rs with
   | nil=>cases er
   | cons r0 rs=>
    cases er;refine⟨Dp,hit i j r0,rfl,uY (λh=>⟨_,rfl,w r0.q ?_⟩) (λh=>hN _ _ ⟨rs,_,_,rfl,rfl,rfl,?_⟩)⟩
    ·rw [hk]; show(if hit i j r0=true then some r0.q else cu ms i j rs)=_; rw [if_pos h]
    ·rw [hk]; show(if hit i j r0=true then some r0.q else cu ms i j rs)=_; rw [if_neg (by rw [h]; exact Jz)]
  ·rintro L S1 ⟨rs,l5,l6,rfl,rfl,er,hk⟩;cases rs with
   | cons r0 rs=>cases er
   | nil=>
    have hk:cu ms i j rods=kS ms[i]? ms[j]?:=hk;have gi:ms[i]?=some ms[i]:=JV hi;have gj:ms[j]?=some ms[j]:=JV hj;rw [gi,gj] at hk;have fi:=uo gi;have fj:=uo gj;have oi:=hw i _ gi;have oj:=hw j _ gj;generalize ms[i]=si at*
    generalize ms[j]=sj at*
    rcases gW si with ⟨x,y,rfl⟩ | ni
    ·rcases gW sj with ⟨z,v,rfl⟩ | nj
     ·obtain⟨sx,sy⟩:Sz 4 x/\Sz 4 y:=oi;obtain⟨sz,sv⟩:Sz 4 z/\Sz 4 v:=oj;have d1:=(sz.sub sx).mono (n:=360000) (by decide)
      have d2:=(sv.sub sy).mono (n:=360000) (by decide)
      refine⟨_,fi,.str "fix",rfl,true,rfl,_,fj,.str "fix",rfl,true,rfl,?_⟩
      exact⟨_,fi,w5,_,fj,w5,x,y,z,v,rfl,sx.mono (by decide),sy.mono (by decide),sz.mono (by decide),sv.mono (by decide),_,_,_,_,rfl,d1,d2,d1,d2,w _ hk⟩
     ·obtain⟨u,r,e,ne⟩:=i_ nj;rw [e] at fj;have b:(u == "fix")=false:=by simpa using ne
      exact⟨_,fi,.str "fix",rfl,true,rfl,_,fj,.str u,ke,_,rfl,dj (λ_=>wn (hk.trans (qU nj))) (λh=>by rw [b] at h; cases h)⟩
    ·obtain⟨u,r,e,ne⟩:=i_ ni;rw [e] at fi;have b:(u == "fix")=false:=by simpa using ne
     exact⟨_,fi,.str u,ke,_,rfl,dj (λ_=>vF (wn (hk.trans (rP ni)))) (λh=>by rw [b] at h; cases h)⟩
set_option maxHeartbeats 4000000
def kY:cH:=λds S k=>∃ (ms:List bR) (rods:List cG) (p:Kr) (n i j:Nat) (a l:Rat),ds=[MD ms,.int (n:Nat),.ref p]/\S p=some (.lst (rods.map cG.d))/\Wf ms/\fT n rods/\n<=8/\ms[n]?=some (.like i j a l)/\(du ms n rods (.like i j a l)=none->False)/\∀ more q S',du ms n rods (.like i j a l)=some more->S q=none->b8 S S'->S' q=some (.lst (more.map cG.d))->k (.ref q) S'
theorem aR:ar ["machine","number","rods","step","square","told","joint","along","way"] ["machine","number","rods"] (aj fJ):=dZ
theorem oR (Fn:FN K "rods_of_like" fJ f fd) (gy:aZ P w K mg base "steady_square" 37 jZ) (ca:aZ P w K mg base "minus" 35 jp) (aK:aZ P w K mg base "times" 35 eu) (aF:aZ P w K mg base "product_of_ways" 36 bT) (k6:mq K mg "ONE" [1,1]):
  aQ P w K mg base de 38 f fd ["machine","number","rods"] (dw K kY):=by
 refine Fn.okJ aR (λds S k h=>?_) (λcdv A outer s H E hr=>⟨_,(af (ak (i:=3) aR.nd (bb b_ (ah 0) (ah 1) Zf)) (af (ak (i:=4) aR.nd (dq gy hr (aw 0 (aw 2 (aa (ft 3) (aa (ft 3) ac)))))) (af (ak (i:=5) aR.nd (bU ac)) (af (dI PassesOwn.never rfl (aA (aa (aA (aa (ft 3) (aa (ft 3) ac))) (aa (aA (aa (ft 3) (aa (dq ca hr (aa (eJ k6 rfl) (aa (ft 3) ac))) ac))) ac))) (dQ (n:=2) rfl (aL (aG (i:=6) aR.nd) (aL (aG (i:=7) aR.nd) cQ))) (af (ak (i:=8) aR.nd (aA (aw 7 (aa (ft 3) ac)))) (ag (aS (dU (ah 5) (aA (aw 6 (aw 1 (aa (dq aK hr (aa (dq aF hr (aw 8 (aw 8 ac))) (aw 4 ac))) ac))))))))) (af (av (WJ.pt (eH (au ej (bb b_ (bb b_ (ft 5) aq Zf) aq Zf) aq (aD _)) (cY (au ej (bb b_ (bb b_ (ft 5) aq Zf) aq Zf) aq (aD _))))) (ag dn) aE) (ag (ai (ah 5)))))))),λds S k h=>?_⟩)
 ·obtain⟨_,_,_,_,_,_,_,_,rfl,_⟩:=h
  rfl
 ·obtain⟨ms,rods,p,n,i,j,a,l,rfl,hp,hw,ok,hn,hs,wn,w⟩:=h;have hk:n < ms.length:=(J4.mp hs).1;have lt:(ms.take n).length=n:=by rw [List.length_take]; omega
  obtain⟨hi,hj,_,sa,sl⟩:nF (ms.take n) (.like i j a l):=hw n _ hs;have o1:Sz 1 (1:Rat):=⟨by decide,by decide⟩
  refine⟨_,uo hs,_,rfl,_,rfl,ms,rods,p,i,j,rfl,hp,hw,by omega,by omega,λz=>?_,λq hq=>?_⟩
  ·exact(wn (by show(cu ms i j rods).bind _=none; rw [z]; rfl)).elim
  have sq:Sz 232 q:=(mQ hw (by omega) ok.sz hq).mono (by omega)
  have e:du ms n rods (.like i j a l)=bI i j n a l q:=by show(cu ms i j rods).bind _=_; rw [hq]; rfl
  have h1:Sz 17 (a*a+l*l):=(sa.mul sa).add (sl.mul sl);have h2:Sz 24 ((1 - a)*(1 - a)+l*l):=(((o1.sub sa).mul (o1.sub sa)).add (sl.mul sl)).mono (by decide)
  have s9:Sz 360000 a:=sa.mono (by decide)
  have l9:Sz 360000 l:=sl.mono (by decide)
  have m9:Sz 360000 (1 - a):=(o1.sub sa).mono (by decide)
  refine⟨bZ,λt ht=>?_⟩
  refine⟨_,rfl,_,rfl,bZ,_,rfl,_,rfl,1,a,rfl,o1.mono (by decide),sa.mono (by decide),bZ,bZ,(_,none),rfl,?_⟩
  refine⟨trivial,(_,none),rfl,rfl,rfl,_,rfl,bZ,⟨_,am⟩,a,l,a,l,rfl,s9,l9,s9,l9,_,q,rfl,h1.mono (by decide),sq.mono (by decide),bZ,_,am,jD (by decide),?_⟩
  refine⟨trivial,(_,none),rfl,rfl,rfl,_,rfl,bZ,⟨_,am⟩,1 - a,l,1 - a,l,rfl,m9,l9,m9,l9,_,q,rfl,h2.mono (by decide),sq.mono (by decide),bZ,_,am,jD (by show 1 < 300; decide),?_⟩
  have ee:b8 S (put (put (put S t (.lst [])) t (.lst ([]++[.tup [.int (i:Nat),.int (n:Nat),fr ((a*a+l*l)*q)]]))) t (.lst (([]++[.tup [.int (i:Nat),.int (n:Nat),fr ((a*a+l*l)*q)]])++[.tup [.int (j:Nat),.int (n:Nat),fr (((1 - a)*(1 - a)+l*l)*q)]]))):=((b8.new ht).put ht).put ht;refine⟨trivial,_,_,am,rfl,_,rfl,_,rfl,aV (λz=>vF ?_) (λz1=>⟨_,_,am,rfl,_,rfl,_,rfl,aV (λz=>?_) (λz2=>?_)⟩)⟩
  ·have en:bI i j n a l q=none:=if_pos (.inl z);exact(wn (e.trans en)).elim
  ·have en:bI i j n a l q=none:=if_pos (.inr z);exact(wn (e.trans en)).elim
  ·have en:bI i j n a l q=some _:=if_neg (λh=>h.elim z1 z2)
   exact w _ t _ (e.trans en) ht ee am
set_option maxHeartbeats 4000000
def j5 (aB:Kr):jL:=λds S k x=>∃ (ms:List bR) (rods:List cG) (p:Kr) (n i j:Nat) (a l:Rat),ds=[MD ms,.int (n:Nat),.ref p]/\S p=some (.lst (rods.map cG.d))/\Wf ms/\fT n rods/\n<=8/\ms[n]?=some (.like i j a l)/\(du ms n rods (.like i j a l)=none->∀ S',b8 S S'->x aB S')/\∀ more q S',du ms n rods (.like i j a l)=some more->S q=none->b8 S S'->S' q=some (.lst (more.map cG.d))->k (.ref q) S'
theorem nZ {P:Ku} {w:Kw} {K:Fg} {mg:Str->Ks Kq} {base:Kx} {f:Kr} {fd:FuncData} {aB:Kr} (Fn:FN K "rods_of_like" fJ f fd) (ca:aZ P w K mg base "minus" 35 jp) (aK:aZ P w K mg base "times" 35 eu) (aF:aZ P w K mg base "product_of_ways" 36 bT) (fS:kd P w K mg base "steady_square" 37 (i9 aB)) (k6:mq K mg "ONE" [1,1]) (cO:mg "NoMachine"=some (.ref aB)) (ky:PySem.W.excIn K aB [.type "ValueError",.type "Exception",.type "BaseException",.type "object"] "ValueError.__new__"=true):
  aQ P w K mg base (fK P w) 38 f fd ["machine","number","rods"] (u6 K (j5 aB)):=by
 refine Fn.okX aR (λds S k x h=>?_) (λcdv A outer s H E ex hr hE=>⟨_,(af (ak (i:=3) aR.nd (bb b_ (ah 0) (ah 1) Zf)) (af (ak (i:=4) aR.nd (gn hE fS (hr.mono (by decide)) rfl (aw 0 (aw 2 (aa (ft 3) (aa (ft 3) ac)))))) (af (ak (i:=5) aR.nd (bU ac)) (af (dI PassesOwn.leaving rfl (aA (aa (aA (aa (ft 3) (aa (ft 3) ac))) (aa (aA (aa (ft 3) (aa (dq ca hr (aa (eJ k6 rfl) (aa (ft 3) ac))) ac))) ac))) (dQ (n:=2) rfl (aL (aG (i:=6) aR.nd) (aL (aG (i:=7) aR.nd) cQ))) (af (ak (i:=8) aR.nd (aA (aw 7 (aa (ft 3) ac)))) (ag (aS (dU (ah 5) (aA (aw 6 (aw 1 (aa (dq aK hr (aa (dq aF hr (aw 8 (aw 8 ac))) (aw 4 ac))) ac))))))))) (af (av (WJ.pt (eH (au ej (bb b_ (bb b_ (ft 5) aq Zf) aq Zf) aq (aD _)) (cY (au ej (bb b_ (bb b_ (ft 5) aq Zf) aq Zf) aq (aD _))))) (ag (hV hE PySem.F.excBase_ValueError ky cO rfl)) aE) (ag (ai (ah 5)))))))),λds S k h=>?_⟩)
 ·obtain⟨_,_,_,_,_,_,_,_,rfl,_⟩:=h
  rfl
 ·obtain⟨ms,rods,p,n,i,j,a,l,rfl,hp,hw,ok,hn,hs,wn,w⟩:=h;have hk:n < ms.length:=(J4.mp hs).1;have lt:(ms.take n).length=n:=by rw [List.length_take]; omega
  obtain⟨hi,hj,_,sa,sl⟩:nF (ms.take n) (.like i j a l):=hw n _ hs;have o1:Sz 1 (1:Rat):=⟨by decide,by decide⟩
  refine⟨_,uo hs,_,rfl,_,rfl,ms,rods,p,i,j,rfl,hp,hw,by omega,by omega,λz=>?_,λq hq=>?_⟩
  ·exact wn (by show(cu ms i j rods).bind _=none; rw [z]; rfl) S (b8.refl S)
  have sq:Sz 232 q:=(mQ hw (by omega) ok.sz hq).mono (by omega)
  have e:du ms n rods (.like i j a l)=bI i j n a l q:=by show(cu ms i j rods).bind _=_; rw [hq]; rfl
  have h1:Sz 17 (a*a+l*l):=(sa.mul sa).add (sl.mul sl);have h2:Sz 24 ((1 - a)*(1 - a)+l*l):=(((o1.sub sa).mul (o1.sub sa)).add (sl.mul sl)).mono (by decide)
  have s9:Sz 360000 a:=sa.mono (by decide)
  have l9:Sz 360000 l:=sl.mono (by decide)
  have m9:Sz 360000 (1 - a):=(o1.sub sa).mono (by decide)
  refine⟨bZ,λt ht=>?_⟩
  refine⟨_,rfl,_,rfl,bZ,_,rfl,_,rfl,1,a,rfl,o1.mono (by decide),sa.mono (by decide),bZ,bZ,(_,none),rfl,?_⟩
  refine⟨trivial,(_,none),rfl,rfl,rfl,_,rfl,bZ,⟨_,am⟩,a,l,a,l,rfl,s9,l9,s9,l9,_,q,rfl,h1.mono (by decide),sq.mono (by decide),bZ,_,am,jD (by decide),?_⟩
  refine⟨trivial,(_,none),rfl,rfl,rfl,_,rfl,bZ,⟨_,am⟩,1 - a,l,1 - a,l,rfl,m9,l9,m9,l9,_,q,rfl,h2.mono (by decide),sq.mono (by decide),bZ,_,am,jD (by show 1 < 300; decide),?_⟩
  have ee:b8 S (put (put (put S t (.lst [])) t (.lst ([]++[.tup [.int (i:Nat),.int (n:Nat),fr ((a*a+l*l)*q)]]))) t (.lst (([]++[.tup [.int (i:Nat),.int (n:Nat),fr ((a*a+l*l)*q)]])++[.tup [.int (j:Nat),.int (n:Nat),fr (((1 - a)*(1 - a)+l*l)*q)]]))):=((b8.new ht).put ht).put ht;refine⟨trivial,_,_,am,rfl,_,rfl,_,rfl,aV (λz=>vF ?_) (λz1=>⟨_,_,am,rfl,_,rfl,_,rfl,aV (λz=>?_) (λz2=>?_)⟩)⟩
  ·have en:bI i j n a l q=none:=if_pos (.inl z);exact wn (e.trans en) _ ee
  ·have en:bI i j n a l q=none:=if_pos (.inr z);exact wn (e.trans en) _ ee
  ·have en:bI i j n a l q=some _:=if_neg (λh=>h.elim z1 z2)
   exact w _ t _ (e.trans en) ht ee am
set_option maxHeartbeats 4000000
def kH:cH:=λds S k=>∃ (ms:List bR) (rods:List cG) (p:Kr) (n:Nat) (s:bR),ds=[MD ms,.int (n:Nat),.ref p]/\S p=some (.lst (rods.map cG.d))/\Wf ms/\fT n rods/\n<=8/\ms[n]?=some s/\(du ms n rods s=none->False)/\∀ more q S',du ms n rods s=some more->S q=none->b8 S S'->S' q=some (.lst (more.map cG.d))->k (.ref q) S'
theorem e9:ar ["machine","number","rods","step"] ["machine","number","rods"] (aj fF):=dZ
theorem oO (Fn:FN K "rods_of_step" fF f fd) (aK:aZ P w K mg base "times" 35 eu) (iz:aZ P w K mg base "rods_of_like" 38 kY):
  aQ P w K mg base de 39 f fd ["machine","number","rods"] (dw K kH):=by
 refine Fn.okJ e9 (λds S k h=>?_) (λcdv A outer s H E hr=>⟨_,(af (ak (i:=3) e9.nd (bb b_ (ah 0) (ah 1) Zf)) (af (av (au ej (ft 3) b9 (aD _)) (ag (ai (bU ac))) aE) (af (av (au ej (ft 3) b9 (aD _)) (ag (ai (bU (aa (aA (aa (ft 3) (aw 1 (aa (dq aK hr (aa (ft 3) (aa (ft 3) ac))) ac)))) ac)))) aE) (af (av (au ej (ft 3) b9 (aD _)) (ag (ai (bU (aa (aA (aa (ft 3) (aw 1 (aa (ft 3) ac)))) (aa (aA (aa (ft 3) (aw 1 (aa (ft 3) ac)))) ac))))) aE) (ag (ai (dq iz hr (aw 0 (aw 1 (aw 2 ac)))))))))),λds S k h=>?_⟩)
 ·obtain⟨_,_,_,_,_,rfl,_⟩:=h
  rfl
 ·obtain⟨ms,rods,p,n,s,rfl,hp,hw,ok,hn,hs,wn,w⟩:=h;have so:=hw n _ hs;have fs:=uo hs;cases s with
  | fix x y=>exact⟨_,fs,_,rfl,(⟨bZ,λq hq=>w [] q _ rfl hq (b8.new hq) am⟩)⟩
  | crank c l=>
   obtain⟨_,sl,_⟩:=so;exact⟨_,fs,_,rfl,(⟨_,rfl,(⟨_,rfl,_,rfl,_,rfl,l,l,rfl,sl.mono (by decide),sl.mono (by decide),bZ,bZ,λq hq=>w [⟨c,n,l*l⟩] q _ rfl hq (b8.new hq) am⟩)⟩)⟩
  | pair i j s t v=>exact⟨_,fs,_,rfl,(⟨_,rfl,(⟨_,rfl,(⟨_,rfl,_,rfl,bZ,_,rfl,_,rfl,bZ,bZ,λq hq=>w [⟨i,n,s⟩,⟨j,n,t⟩] q _ rfl hq (b8.new hq) am⟩)⟩)⟩)⟩
  | like i j a l=>exact⟨_,fs,_,rfl,(⟨_,rfl,(⟨_,rfl,(⟨ms,rods,p,n,i,j,a,l,rfl,hp,hw,ok,hn,hs,wn,w⟩)⟩)⟩)⟩
def j8 (aB:Kr):jL:=λds S k x=>∃ (ms:List bR) (rods:List cG) (p:Kr) (n:Nat) (s:bR),ds=[MD ms,.int (n:Nat),.ref p]/\S p=some (.lst (rods.map cG.d))/\Wf ms/\fT n rods/\n<=8/\ms[n]?=some s/\(du ms n rods s=none->∀ S',b8 S S'->x aB S')/\∀ more q S',du ms n rods s=some more->S q=none->b8 S S'->S' q=some (.lst (more.map cG.d))->k (.ref q) S'
theorem nq {P:Ku} {w:Kw} {K:Fg} {mg:Str->Ks Kq} {base:Kx} {f:Kr} {fd:FuncData} {aB:Kr} (Fn:FN K "rods_of_step" fF f fd) (aK:aZ P w K mg base "times" 35 eu) (gu:kd P w K mg base "rods_of_like" 38 (j5 aB)):
  aQ P w K mg base (fK P w) 39 f fd ["machine","number","rods"] (u6 K (j8 aB)):=by
 refine Fn.okX e9 (λds S k x h=>?_) (λcdv A outer s H E ex hr hE=>⟨_,(af (ak (i:=3) e9.nd (bb b_ (ah 0) (ah 1) Zf)) (af (av (au ej (ft 3) b9 (aD _)) (ag (ai (bU ac))) aE) (af (av (au ej (ft 3) b9 (aD _)) (ag (ai (bU (aa (aA (aa (ft 3) (aw 1 (aa (dq aK hr (aa (ft 3) (aa (ft 3) ac))) ac)))) ac)))) aE) (af (av (au ej (ft 3) b9 (aD _)) (ag (ai (bU (aa (aA (aa (ft 3) (aw 1 (aa (ft 3) ac)))) (aa (aA (aa (ft 3) (aw 1 (aa (ft 3) ac)))) ac))))) aE) (ag (ai (gn hE gu (hr.mono (by decide)) rfl (aw 0 (aw 1 (aw 2 ac)))))))))),λds S k h=>?_⟩)
 ·obtain⟨_,_,_,_,_,rfl,_⟩:=h
  rfl
 ·obtain⟨ms,rods,p,n,s,rfl,hp,hw,ok,hn,hs,wn,w⟩:=h;have so:=hw n _ hs;have fs:=uo hs;cases s with
  | fix x y=>exact⟨_,fs,_,rfl,(⟨bZ,λq hq=>w [] q _ rfl hq (b8.new hq) am⟩)⟩
  | crank c l=>
   obtain⟨_,sl,_⟩:=so;exact⟨_,fs,_,rfl,(⟨_,rfl,(⟨_,rfl,_,rfl,_,rfl,l,l,rfl,sl.mono (by decide),sl.mono (by decide),bZ,bZ,λq hq=>w [⟨c,n,l*l⟩] q _ rfl hq (b8.new hq) am⟩)⟩)⟩
  | pair i j s t v=>exact⟨_,fs,_,rfl,(⟨_,rfl,(⟨_,rfl,(⟨_,rfl,_,rfl,bZ,_,rfl,_,rfl,bZ,bZ,λq hq=>w [⟨i,n,s⟩,⟨j,n,t⟩] q _ rfl hq (b8.new hq) am⟩)⟩)⟩)⟩
  | like i j a l=>exact⟨_,fs,_,rfl,(⟨_,rfl,(⟨_,rfl,(⟨ms,rods,p,n,i,j,a,l,rfl,hp,hw,ok,hn,hs,wn,w⟩)⟩)⟩)⟩
set_option maxHeartbeats 4000000
def m_:cH:=λds S k=>∃ ms:List bR,ds=[MD ms]/\Wf ms/\ms.length<=7/\(bw ms 0 ms []=none->False)/\∀ rods S',bw ms 0 ms []=some rods->b8 S S'->k (lY ms rods) S'
theorem bS:ar ["machine","rods","fixed","number","step"] ["machine"] (aj gN):=dZ
theorem qz (Fn:FN K "linkage_of" gN f fd) (hZ:aZ P w K mg base "rods_of_step" 39 kH) (aW:mg "enumerate"=none) (bc:mg "tuple"=none) (bO:mg "len"=none):
  aQ P w K mg base de 40 f fd ["machine"] (dw K m_):=by
 refine Fn.okJ bS (λds S k h=>?_) (λcdv A outer s H E hr=>⟨_,(af (ak (i:=1) bS.nd (bU ac)) (af (ak (i:=2) bS.nd (bU ac)) (af (fR PassesOwn.never rfl rfl aW (aw 0 ac) (dQ (n:=2) rfl (aL (aG (i:=3) bS.nd) (aL (aG (i:=4) bS.nd) cQ))) (af (aS (sH (ah 1) (dq hZ hr (aw 0 (aw 3 (aw 1 ac)))))) (ag (av (au ej (ft 4) b9 (aD _)) (ag (aS (dU (ah 2) (ah 3)))) aE)))) (ag (ai (aA (aa (aJ eI rfl bO eK (aw 0 ac)) (aa (ir jf rfl bc dy (aw 2 ac)) (aa (ir jf rfl bc dy (aw 1 ac)) ac))))))))),λds S k h=>?_⟩)
 ·obtain⟨_,rfl,_⟩:=h
  rfl
 ·obtain⟨ms,rfl,hw,hl,wn,w⟩:=h;refine⟨bZ,λpr hpr=>⟨bZ,λpf hpf=>⟨(ms.map bR.d,none),rfl,?_⟩⟩⟩
  have rf:pr≠pf:=λz=>by rw [z,am] at hpf; cases hpf
  have spf:S pf=none:=(b8.new (o:=.lst []) hpr).none hpf;refine dP (λr L S'=>∃ (j:Nat) (rs:List bR) (rods:List cG) (fx:List D) (l3 l4:Ks D),L=[some (MD ms),some (.ref pr),some (.ref pf),l3,l4]/\b8 S S'/\S' pr=some (.lst (rods.map cG.d))/\S' pf=some (.lst fx)/\r=j7 j (rs.map bR.d)/\ms.drop j=rs/\fT j rods/\j+rs.length<=7/\fx.length<=j/\bw ms 0 ms []=bw ms j rs rods/\fx++fm j rs=fm 0 ms) (λ_ _ _ _=>trivial) ?_ ?_ _ _ _ ⟨0,ms,[],[],none,none,rfl,(b8.new hpr).put spf,by rw [bV rf]; exact am,am,rfl,rfl,fT.nil,by omega,Jw _,rfl,rfl⟩
  ·rintro d r L S1 N1 ⟨j,rs,rods,fx,l3,l4,rfl,e1,h1,h2,er,hd,ok,hl1,hfx,hrun,hfix⟩ hN;cases rs with
   | nil=>cases er
   | cons s rs=>
    cases er;have hl1:j+(rs.length+1)<=7:=hl1;obtain⟨g0,g1⟩:=la hd;have hrun2:bw ms 0 ms []=(du ms j rods s).bind λmore=>bw ms (j+1) rs (rods++more):=hrun
    refine⟨(_,none),rfl,rfl,rfl,⟨_,h1⟩,ms,rods,pr,j,s,rfl,h1,hw,ok,by omega,g0,λz=>?_,λmore q S2 hm hq e2 h3=>?_⟩
    ·exact(wn (by rw [hrun2,z]; rfl))
    ·obtain⟨ok2,l2⟩:=rb hw g0 ok hm;rw [hm] at hrun2;have hrun3:bw ms 0 ms []=bw ms (j+1) rs (rods++more):=hrun2;clear hrun hrun2;have qp:q≠pr:=λz=>by rw [z,h1] at hq; cases hq
     have f2:=e2 _ _ h2;have p2:=e2 _ _ h1;have hfix2:fx++(if s.isFix=true then .int (j:Nat)::fm (j+1) rs else fm (j+1) rs)=fm 0 ms:=hfix
     have ln:=ok.len;refine⟨_,_,p2,h3,by rw [Jy,Jy]; exact Nat.le_of_lt (jD (by omega)),?_⟩
     have e3:b8 S (put S2 pr (.lst (rods.map cG.d++more.map cG.d))):=(e1.trans e2).put hpr;have h4:put S2 pr (.lst (rods.map cG.d++more.map cG.d)) pf=some (.lst fx):=by rw [bV (Ne.symm rf)]; exact f2
     have h5:put S2 pr (.lst (rods.map cG.d++more.map cG.d)) pr=some (.lst ((rods++more).map cG.d)):=by rw [am,List.map_append]
     generalize put S2 pr (.lst (rods.map cG.d++more.map cG.d))=S3 at e3 h4 h5 ⊢
     rcases gW s with ⟨x,y,rfl⟩ | nf
     ·refine⟨_,rfl,(⟨⟨_,h4⟩,_,h4,jD (by omega),?_⟩)⟩
      refine hN _ _ ⟨j+1,rs,rods++more,fx++[.int (j:Nat)],_,_,rfl,e3.put spf,by rw [bV rf]; exact h5,am,rfl,g1,ok2,by omega,by rw [JO]; show fx.length+1<=j+1; omega,hrun3,?_⟩
      rw [List.append_assoc];exact hfix2
     ·obtain⟨u,rr,e,ne⟩:=i_ nf;rw [nf,if_neg Jz] at hfix2;rw [e];exact⟨.str u,ke,aV (λh=>absurd h ne) (λ_=>hN _ _ ⟨j+1,rs,rods++more,fx,_,_,rfl,e3,h5,h4,rfl,g1,ok2,by omega,by omega,hrun3,hfix2⟩)⟩
  ·rintro L S1 ⟨j,rs,rods,fx,l3,l4,rfl,e1,h1,h2,er,hd,ok,hl1,hfx,hrun,hfix⟩;cases rs with
   | cons s rs=>cases er
   | nil=>
    have hfix:fx++[]=fm 0 ms:=hfix;rw [JP] at hfix;subst hfix;refine⟨_,h2,_,h1,bZ,?_⟩;rw [Jy];exact w rods S1 hrun e1
set_option maxHeartbeats 4000000
def lH (aB:Kr):jL:=λds S k x=>∃ ms:List bR,ds=[MD ms]/\Wf ms/\ms.length<=7/\(bw ms 0 ms []=none->∀ S',b8 S S'->x aB S')/\∀ rods S',bw ms 0 ms []=some rods->b8 S S'->k (lY ms rods) S'
theorem pQ {P:Ku} {w:Kw} {K:Fg} {mg:Str->Ks Kq} {base:Kx} {f:Kr} {fd:FuncData} {aB:Kr} (Fn:FN K "linkage_of" gN f fd) (gz:kd P w K mg base "rods_of_step" 39 (j8 aB)) (bc:mg "tuple"=none) (bO:mg "len"=none) (aW:mg "enumerate"=none):
  aQ P w K mg base (fK P w) 40 f fd ["machine"] (u6 K (lH aB)):=by
 refine Fn.okX bS (λds S k x h=>?_) (λcdv A outer s H E ex hr hE=>⟨_,(af (ak (i:=1) bS.nd (bU ac)) (af (ak (i:=2) bS.nd (bU ac)) (af (fR PassesOwn.leaving rfl rfl aW (aw 0 ac) (dQ (n:=2) rfl (aL (aG (i:=3) bS.nd) (aL (aG (i:=4) bS.nd) cQ))) (af (aS (sH (ah 1) (gn hE gz (hr.mono (by decide)) rfl (aw 0 (aw 3 (aw 1 ac)))))) (ag (av (au ej (ft 4) b9 (aD _)) (ag (aS (dU (ah 2) (ah 3)))) aE)))) (ag (ai (aA (aa (aJ eI rfl bO eK (aw 0 ac)) (aa (ir jf rfl bc dy (aw 2 ac)) (aa (ir jf rfl bc dy (aw 1 ac)) ac))))))))),λds S k h=>?_⟩)
 ·obtain⟨_,rfl,_⟩:=h
  rfl
 ·obtain⟨ms,rfl,hw,hl,wn,w⟩:=h;refine⟨bZ,λpr hpr=>⟨bZ,λpf hpf=>⟨(ms.map bR.d,none),rfl,?_⟩⟩⟩
  have rf:pr≠pf:=λz=>by rw [z,am] at hpf; cases hpf
  have spf:S pf=none:=(b8.new (o:=.lst []) hpr).none hpf;refine dP (λr L S'=>∃ (j:Nat) (rs:List bR) (rods:List cG) (fx:List D) (l3 l4:Ks D),L=[some (MD ms),some (.ref pr),some (.ref pf),l3,l4]/\b8 S S'/\S' pr=some (.lst (rods.map cG.d))/\S' pf=some (.lst fx)/\r=j7 j (rs.map bR.d)/\ms.drop j=rs/\fT j rods/\j+rs.length<=7/\fx.length<=j/\bw ms 0 ms []=bw ms j rs rods/\fx++fm j rs=fm 0 ms) (λ_ _ _ _=>trivial) ?_ ?_ _ _ _ ⟨0,ms,[],[],none,none,rfl,(b8.new hpr).put spf,by rw [bV rf]; exact am,am,rfl,rfl,fT.nil,by omega,Jw _,rfl,rfl⟩
  ·rintro d r L S1 N1 ⟨j,rs,rods,fx,l3,l4,rfl,e1,h1,h2,er,hd,ok,hl1,hfx,hrun,hfix⟩ hN;cases rs with
   | nil=>cases er
   | cons s rs=>
    cases er;have hl1:j+(rs.length+1)<=7:=hl1;obtain⟨g0,g1⟩:=la hd;have hrun2:bw ms 0 ms []=(du ms j rods s).bind λmore=>bw ms (j+1) rs (rods++more):=hrun
    refine⟨(_,none),rfl,rfl,rfl,⟨_,h1⟩,ms,rods,pr,j,s,rfl,h1,hw,ok,by omega,g0,λz=>?_,λmore q S2 hm hq e2 h3=>?_⟩
    ·exact λS2 e2=>wn (by rw [hrun2,z]; rfl) S2 (e1.trans e2)
    ·obtain⟨ok2,l2⟩:=rb hw g0 ok hm;rw [hm] at hrun2;have hrun3:bw ms 0 ms []=bw ms (j+1) rs (rods++more):=hrun2;clear hrun hrun2;have qp:q≠pr:=λz=>by rw [z,h1] at hq; cases hq
     have f2:=e2 _ _ h2;have p2:=e2 _ _ h1;have hfix2:fx++(if s.isFix=true then .int (j:Nat)::fm (j+1) rs else fm (j+1) rs)=fm 0 ms:=hfix
     have ln:=ok.len;refine⟨_,_,p2,h3,by rw [Jy,Jy]; exact Nat.le_of_lt (jD (by omega)),?_⟩
     have e3:b8 S (put S2 pr (.lst (rods.map cG.d++more.map cG.d))):=(e1.trans e2).put hpr;have h4:put S2 pr (.lst (rods.map cG.d++more.map cG.d)) pf=some (.lst fx):=by rw [bV (Ne.symm rf)]; exact f2
     have h5:put S2 pr (.lst (rods.map cG.d++more.map cG.d)) pr=some (.lst ((rods++more).map cG.d)):=by rw [am,List.map_append]
     generalize put S2 pr (.lst (rods.map cG.d++more.map cG.d))=S3 at e3 h4 h5 ⊢
     rcases gW s with ⟨x,y,rfl⟩ | nf
     ·refine⟨_,rfl,(⟨⟨_,h4⟩,_,h4,jD (by omega),?_⟩)⟩
      refine hN _ _ ⟨j+1,rs,rods++more,fx++[.int (j:Nat)],_,_,rfl,e3.put spf,by rw [bV rf]; exact h5,am,rfl,g1,ok2,by omega,by rw [JO]; show fx.length+1<=j+1; omega,hrun3,?_⟩
      rw [List.append_assoc];exact hfix2
     ·obtain⟨u,rr,e,ne⟩:=i_ nf;rw [nf,if_neg Jz] at hfix2;rw [e];exact⟨.str u,ke,aV (λh=>absurd h ne) (λ_=>hN _ _ ⟨j+1,rs,rods++more,fx,_,_,rfl,e3,h5,h4,rfl,g1,ok2,by omega,by omega,hrun3,hfix2⟩)⟩
  ·rintro L S1 ⟨j,rs,rods,fx,l3,l4,rfl,e1,h1,h2,er,hd,ok,hl1,hfx,hrun,hfix⟩;cases rs with
   | cons s rs=>cases er
   | nil=>
    have hfix:fx++[]=fm 0 ms:=hfix;rw [JP] at hfix;subst hfix;refine⟨_,h2,_,h1,bZ,?_⟩;rw [Jy];exact w rods S1 hrun e1
set_option maxHeartbeats 4000000
def iO:cH:=λds S k=>match ds with
 | [.non,.non]=>False/\k .non S
 | _=>False
theorem c9:ar ["linkage","place","number","rod"] ["linkage","place"] (aj fX):=dZ
theorem pG (Fn:FN K "first_wrong" fX f fd) (bA:aZ P w K mg base "ask_one_field" 38 eX) (bB:aZ P w K mg base "square_of_way" 39 eY) (aU:aZ P w K mg base "way_between" 40 dH) (aW:mg "enumerate"=none) (a9:mq K mg "NOUGHT" [0,1]):
  aQ P w K mg base de 41 f fd ["linkage","place"] (dw K iO):=by
 refine Fn.okJ c9 (λds S k h=>?_) (λcdv A outer s H E hr=>⟨_,(af (aS (dq bA hr (aw 1 ac))) (af (fR PassesOwn.never rfl rfl aW (aa (bh 0) ac) (dQ (n:=2) rfl (aL (aG (i:=2) c9.nd) (aL (aG (i:=3) c9.nd) cQ))) (ag (av (au AQ (dq bB hr (aa (dq aU hr (aa (bb fB (ah 1) (bh 3) Zf) (aa (bb fB (ah 1) (bh 3) Zf) ac))) ac)) (aA (aa (bh 3) (aa (eJ a9 rfl) ac))) (aD _)) (ag (ai (ah 2))) aE))) (ag (ai dN)))),λds S k h=>?_⟩)
 ·unfold iO at h
  split at h
  ·rfl
  ·exact h.elim
 ·unfold iO at h
  split at h
  ·exact h.1.elim
  ·exact h.elim
def kU (aC:Kr):jL:=λds S k x=>∃ (n f:D) (ps:List (Gn×Gn)) (rs:List cG),ds=[.tup [n,f,.tup (rs.map cG.d)],.tup (ps.map gP)]/\(∀ p∈ps,xm 556350 p)/\ps.length<=90/\(∀ r∈rs,r.i < ps.length/\r.j < ps.length)/\(∀ u,0 < u->HR u ps->∀ S',b8 S S'->k (jn u (ps.map (rp u)) 0 rs) S')/\(¬ yz ps->∀ S',b8 S S'->x aC S')
theorem oJ {P:Ku} {w:Kw} {K:Fg} {mg:Str->Ks Kq} {base:Kx} {f:Kr} {fd:FuncData} {aC:Kr} (Fn:FN K "first_wrong" fX f fd) (bB:aZ P w K mg base "square_of_way" 39 eY) (aU:aZ P w K mg base "way_between" 40 dH) (cw:kd P w K mg base "ask_one_field" 38 (fV aC)) (aW:mg "enumerate"=none) (a9:mq K mg "NOUGHT" [0,1]):
  aQ P w K mg base (fK P w) 41 f fd ["linkage","place"] (u6 K (kU aC)):=by
 refine Fn.okX c9 (λds S k x h=>?_) (λcdv A outer s H E ex hr hE=>⟨_,(af (aS (gn hE cw (hr.mono (by decide)) rfl (aw 1 ac))) (af (fR PassesOwn.leaving rfl rfl aW (aa (ft 0) ac) (dQ (n:=2) rfl (aL (aG (i:=2) c9.nd) (aL (aG (i:=3) c9.nd) cQ))) (ag (av (au (n_ hr) (dq bB hr (aa (dq aU hr (aa (bb b_ (ah 1) (ft 3) Zf) (aa (bb b_ (ah 1) (ft 3) Zf) ac))) ac)) (aA (aa (ft 3) (aa (eJ a9 rfl) ac))) (aD _)) (ag (ai (ah 2))) aE))) (ag (ai dN)))),λds S k h=>?_⟩)
 ·obtain⟨_,_,_,_,rfl,_⟩:=h
  rfl
 ·obtain⟨n,f,ps,rs,rfl,hp,hl,hrs,w,w0⟩:=h;refine⟨ps,rfl,λp hp2=>⟨(hp p hp2).1.u.mono (by decide),(hp p hp2).2.u.mono (by decide)⟩,hl,λone S1 e1=>?_,w0⟩
  obtain⟨u,hu,_,hR,hs⟩:=sk (m:=556350) (by decide) hp one
  have w:=w u hu.pos hR;have eg:ps.map gP=(ps.map (rp u)).map (DP u):=by
   rw [List.map_map];exact List.map_congr_left λp hp2=>ul (hR p hp2)
  rw [eg];have hP:∀ p∈ps.map (rp u),Sq 556353 p.1/\Sq 556353 p.2:=λp hp2=>by
   obtain⟨p,hp3,rfl⟩:=Jx.mp hp2;exact hs p hp3
  have eL:ps.length=(ps.map (rp u)).length:=(Jy _).symm;rw [eL] at hrs;generalize ps.map (rp u)=P at w hP hrs ⊢
  clear hR hs eg eL w0 one hp hl;refine⟨_,GQ,(rs.map cG.d,none),rfl,?_⟩;refine dP (λr L S'=>∃ l2 l3 j rs',L=[some (.tup [n,f,.tup (rs.map cG.d)]),some (.tup (P.map (DP u))),l2,l3]/\b8 S S'/\r=j7 j (rs'.map cG.d)/\(∀ r∈rs',r.i < P.length/\r.j < P.length)/\jn u P 0 rs=jn u P j rs') (λ_ _ _ _=>trivial) ?_ ?_ _ _ _ ⟨_,_,0,rs,rfl,e1,rfl,hrs,rfl⟩
  ·rintro d r L S2 N1 ⟨l2,l3,j,rs',rfl,e2,er,hr,hb⟩ hN;cases rs' with
   | nil=>cases er
   | cons ro rs'=>
    cases er;have⟨hi,hj⟩:=hr ro JD;have gi:P[ro.i]?=some P[ro.i]:=by simp [hi]
    have gj:P[ro.j]?=some P[ro.j]:=by simp [hj]
    have oi:=hP _ (Kk hi);have oj:=hP _ (Kk hj);have fi:L2.atI (P.map (DP u)) ((ro.i:Nat):Int)=some (DP u P[ro.i]):=L2.f' (by simp [hi])
    have fj:L2.atI (P.map (DP u)) ((ro.j:Nat):Int)=some (DP u P[ro.j]):=L2.f' (by simp [hj])
    refine⟨([.int (j:Nat),ro.d],none),rfl,rfl,rfl,⟨_,ke,_,fi,_,CG,_,fj,?_⟩⟩;refine⟨u,_,_,_,_,rfl,hu,oi.1.mono (by decide),oi.2.mono (by decide),oj.1.mono (by decide),oj.2.mono (by decide),u,_,_,rfl,hu,(Fc oj.1 oi.1).mono (by decide),(Fc oj.2 oi.2).mono (by decide),_,GQ,bZ,_,CW hu.pos,dj (λne=>?_) (λyes=>?_)⟩
    ·have ne:=of_decide_eq_false ne;have hb2:jn u P 0 rs=.int (j:Nat):=by
      rw [hb]
      show(if tv u P ro=(ro.q,0) then _ else _)=_
      unfold tv;rw [gi,gj,if_neg ne]
     rw [hb2] at w;exact w S2 e2
    ·have yes:=of_decide_eq_true yes;refine hN _ _ ⟨_,_,j+1,rs',rfl,e2,rfl,λr hr2=>hr r (JE _ hr2),?_⟩
     rw [hb]
     show(if tv u P ro=(ro.q,0) then _ else _)=_
     unfold tv;rw [gi,gj,if_pos yes]
  ·rintro L S2 ⟨l2,l3,j,rs',rfl,e2,er,hr,hb⟩;cases rs' with
   | nil=>rw [hb] at w; exact w S2 e2
   | cons ro rs'=>cases er
set_option maxHeartbeats 4000000
def iV:D->KA
 | .int _=>true
 | _=>false
def kD:D->KA
 | .tup [.int a,.int b]=>decide (1<=b) && decide (((Int.gcd a b:Nat):Int)=1)
 | _=>false
def kN:D->KA
 | .tup [.int a,.int b]=>kD (.tup [.int a,.int b]) && decide (0 < a)
 | _=>false
def fe (n:Nat):D->KA
 | .int i=>decide (0<=i) && decide (i < (n:Int))
 | _=>false
def sO (S:DH) (d:D):Prop:=∃ t,Fv S d=some t
def El (S:DH) (d:D):Prop:=sO S d/\(∀ ds,d=.tup ds->∀ x∈ds,sO S x)/\∀ a,d=.ref a->∃ ds,S a=some (.lst ds)
def St (S:DH) (d:D):Prop:=sO S d/\∀ ds,d=.tup ds->∀ x∈ds,El S x
theorem sO.ext {S S':DH} {d:D} (e:b8 S S') (h:sO S d):sO S' d:=by
 obtain⟨t,h⟩:=h;refine⟨t,?_⟩;cases d with
 | ref a=>
  have h:Fw (S a)=some t:=h
  show Fw (S' a)=some t
  cases z:S a with
  | none=>rw [z] at h; cases h
  | some o=>rw [e _ _ z,<- z]; exact h
 | _=>exact h
theorem Ap {S:DH} {d:D} {t:Ty} (h:Fv S d=some t):iV d=(match t with | .int=>true | _=>false):=by
 cases d with
 | ref a=>
  have h:Fw (S a)=some t:=h;cases z:S a with
  | none=>rw [z] at h; cases h
  | some o=>rw [z] at h; cases o <;> cases h <;> rfl
 | _=>cases h <;> rfl
theorem gT {d:D} (h:iV d=true):∃ i,d=.int i:=by
 cases d with
 | int i=>exact⟨i,rfl⟩
 | _=>exact absurd (show false=true from h) Jz
theorem mR {S:DH} {d:D} {t:Ty} (h:Fv S d=some t) (n:∀ ds,d≠.tup ds):t9 t .tup=false:=by
 cases d with
 | ref a=>
  have h:Fw (S a)=some t:=h;cases z:S a with
  | none=>rw [z] at h; cases h
  | some o=>rw [z] at h; cases o <;> cases h <;> rfl
 | tup ds=>exact absurd rfl (n ds)
 | _=>cases h <;> rfl
theorem pR (d:D):(∃ ds,d=.tup ds)\/∀ ds,d≠.tup ds:=by
 cases d with
 | tup ds=>exact .inl ⟨ds,rfl⟩
 | _=>exact .inr λds h=>by cases h
theorem Hr {ds:List D} (h:(ds.length:Int)=2):∃ x y,ds=[x,y]:=by
 match ds,h with
 | [x,y],_=>exact⟨x,y,rfl⟩
 | [],h=>cases h
 | [_],h=>exact absurd h (by simp)
 | _::_::_::r,h=>simp only [JJ] at h; omega
theorem AL {ds:List D} (h:¬ (ds.length:Int)=2):kD (.tup ds)=false:=by
 match ds,h with
 | [],_=>rfl
 | [x],_=>cases x <;> rfl
 | [_,_],h=>exact absurd rfl h
 | x::y::_::r,_=>cases x <;> first | rfl | (cases y <;> rfl)
theorem BH {a b:Int}:kD (.tup [.int a,.int b])=(decide (1<=b) && decide (((Int.gcd a b:Nat):Int)=1)):=rfl
theorem zY {d:D} (n:∀ ds,d≠.tup ds):kD d=false:=by
 cases d with
 | tup ds=>exact absurd rfl (n ds)
 | _=>rfl
theorem CM {x y:D} (h:iV x=false):kD (.tup [x,y])=false:=by
 cases x with
 | int i=>cases h
 | _=>rfl
theorem Cb {x y:D} (h:iV y=false):kD (.tup [x,y])=false:=by
 cases x with
 | int i=>
  cases y with
  | int j=>cases h
  | _=>rfl
 | _=>rfl
theorem Cf {d:D} (h:kD d=true):∃ a b,d=.tup [.int a,.int b]:=by
 unfold kD at h
 split at h
 ·exact⟨_,_,rfl⟩
 ·cases h
theorem vK {d:D} (h:kD d=false):kN d=false:=by
 unfold kN
 split
 ·rw [h]; rfl
 ·rfl
def jT:cH:=λds S k=>∃ d,ds=[d]/\sO S d/\k (.bl (iV d)) S
theorem uf:ar ["thing"] ["thing"] (aj mf):=dZ
theorem uj (Fn:FN K "is_whole" mf f fd) (aO:mg "isinstance"=none) (vR:mg "bool"=none) (zM:mg "int"=none):
  aQ P w K mg base de 1 f fd ["thing"] (dw K jT):=by
 refine Fn.okJ uf (λds S k h=>?_) (λcdv A outer s H E hr=>⟨_,(ag (ai (lQ (aJ lP rfl aO cS (aw 0 (aa (qc (n:=.int) rfl zM E5) ac))) (l' (EK (aJ lP rfl aO cS (aw 0 (aa (qc (n:=.bool) rfl vR CO) ac)))))))),λds S k h=>?_⟩)
 ·obtain⟨_,rfl,_⟩:=h
  rfl
 ·obtain⟨d,rfl,⟨t,ht⟩,q⟩:=h;rw [Ap ht] at q;refine⟨t,ht,?_⟩;cases t <;> first | exact q | exact⟨_,ht,q⟩
def lD:cH:=λds S k=>∃ d,ds=[d]/\sO S d/\(∀ ds,d=.tup ds->∀ x∈ds,sO S x)/\k (.bl (kD d)) S
theorem p7:ar ["thing"] ["thing"] (aj iR):=dZ
theorem pE (Fn:FN K "is_fraction" iR f fd) (cU:aZ P w K mg base "is_whole" 1 jT) (cy:aZ P w K mg base "common_divisor" 1 c_) (bO:mg "len"=none) (aO:mg "isinstance"=none) (bc:mg "tuple"=none):
  aQ P w K mg base de 2 f fd ["thing"] (dw K lD):=by
 refine Fn.okJ p7 (λds S k h=>?_) (λcdv A outer s H E hr=>⟨_,(af (av (WJ.pt (eH (cg (bz (aJ lP rfl aO cS (aw 0 (aa (qc (n:=.tup) rfl bc dy) ac))))) (cY (au AQ (aJ eI rfl bO eK (aw 0 ac)) aq (aD _))))) (ag (ai fN)) aE) (af (av (WJ.pt (eH (cg (bz (dq cU hr (aa (bh 0) ac)))) (cY (cg (bz (dq cU hr (aa (bh 0) ac))))))) (ag (ai fN)) aE) (ag (ai (lQ (kM GC (bh 0) aq (aD _)) (l' (kM ej (dq cy hr (aa (bh 0) (aa (bh 0) ac))) aq (aD _)))))))),λds S k h=>?_⟩)
 ·obtain⟨_,rfl,_⟩:=h
  rfl
 ·obtain⟨d,rfl,⟨t,ht⟩,ha,q⟩:=h;refine⟨t,ht,?_⟩;rcases pR d with ⟨ds,rfl⟩ | n
  ·cases ht;refine dE (λhl=>?_) (λhl=>?_)
   ·rw [AL hl] at q;exact q
   ·obtain⟨x,y,rfl⟩:=Hr hl;refine⟨x,rfl,ha _ rfl x (by simp),dj (λh1=>?_) (λh1=>⟨y,rfl,ha _ rfl y (by simp),dj (λh2=>?_) (λh2=>?_)⟩)⟩
    ·rw [CM h1] at q;exact q
    ·rw [Cb h2] at q;exact q
    ·obtain⟨a,rfl⟩:=gT h1;obtain⟨b,rfl⟩:=gT h2;rw [BH] at q;refine aV (λh3=>?_) (λh3=>?_)
     ·rw [decide_eq_true h3,Bool.true_and] at q;exact q
     ·rw [Ke h3,Bool.false_and] at q;exact q
  ·rw [mR ht n];rw [zY n] at q;exact q
def iB:cH:=λds S k=>∃ d,ds=[d]/\sO S d/\(∀ ds,d=.tup ds->∀ x∈ds,sO S x)/\k (.bl (kN d)) S
theorem md:ar ["thing"] ["thing"] (aj fC):=dZ
theorem lN (Fn:FN K "is_above_nought" fC f fd) (iT:aZ P w K mg base "is_fraction" 2 lD):
  aQ P w K mg base de 3 f fd ["thing"] (dw K iB):=by
 refine Fn.okJ md (λds S k h=>?_) (λcdv A outer s H E hr=>⟨_,(ag (ai (lQ (dq iT hr (aw 0 ac)) (l' (kM Ed (bh 0) aq (aD _)))))),λds S k h=>?_⟩)
 ·obtain⟨_,rfl,_⟩:=h
  rfl
 ·obtain⟨d,rfl,ht,ha,q⟩:=h;refine⟨d,rfl,ht,ha,uY (λh=>?_) (λh=>?_)⟩
  ·obtain⟨a,b,rfl⟩:=Cf h;have q:k (.bl (kD (.tup [.int a,.int b]) && decide (0 < a))) S:=q;rw [h,Bool.true_and] at q;exact q
  ·rw [vK h] at q;exact q
def lL:cH:=λds S k=>∃ (d:D) (n:Nat),ds=[d,.int (n:Nat)]/\sO S d/\k (.bl (fe n d)) S
theorem tV:ar ["thing","many"] ["thing","many"] (aj lO):=dZ
theorem uE (Fn:FN K "is_joint" lO f fd) (cU:aZ P w K mg base "is_whole" 1 jT):
  aQ P w K mg base de 2 f fd ["thing","many"] (dw K lL):=by
 refine Fn.okJ tV (λds S k h=>?_) (λcdv A outer s H E hr=>⟨_,(ag (ai (lQ (dq cU hr (aw 0 ac)) (l' (Az E3 sS aq (ah 0) (ah 1)))))),λds S k h=>?_⟩)
 ·obtain⟨_,_,rfl,_⟩:=h
  rfl
 ·obtain⟨d,n,rfl,ht,q⟩:=h;refine⟨d,rfl,ht,uY (λh=>?_) (λh=>?_)⟩
  ·obtain⟨i,rfl⟩:=gT h;have q:k (.bl (decide (0<=i) && decide (i < (n:Int)))) S:=q;refine aV (λh0=>?_) (λh0=>?_)
   ·rw [decide_eq_true h0,Bool.true_and] at q;exact q
   ·rw [Ke h0,Bool.false_and] at q;exact q
  ·have e:fe n d=false:=by cases d <;> first | rfl | cases h
   rw [e] at q;exact q
theorem i6 {n:Nat} {d:D} (h:fe n d=true):∃ i:Nat,d=.int (i:Nat)/\i < n:=by
 cases d with
 | int i=>
  have h:(decide (0<=i) && decide (i < (n:Int)))=true:=h;rw [J8] at h;obtain⟨j,rfl⟩:=Int.eq_ofNat_of_zero_le (of_decide_eq_true h.1);exact⟨j,rfl,by have:=of_decide_eq_true h.2; omega⟩
 | _=>cases h
set_option maxHeartbeats 4000000
def BO:D->D->KA
 | .int i,.int j=>decide (i < j)
 | _,_=>false
def wV (n:Nat):D->KA
 | .tup [a,b,c]=>fe n a && (fe n b && (BO a b && kN c))
 | _=>false
theorem Bg {n:Nat} {r:List D} (h:¬ (r.length:Int)=3):wV n (.tup r)=false:=by
 match r,h with
 | [],_=>rfl
 | [_],_=>rfl
 | [_,_],_=>rfl
 | [_,_,_],h=>exact absurd rfl h
 | _::_::_::_::_,_=>rfl
theorem CF {n:Nat} {d:D} (h:∀ ds,d≠.tup ds):wV n d=false:=by
 cases d with
 | tup ds=>exact absurd rfl (h ds)
 | _=>rfl
theorem CQ {r:List D} (h:(r.length:Int)=3):∃ x y z,r=[x,y,z]:=by
 match r,h with
 | [x,y,z],_=>exact⟨x,y,z,rfl⟩
def FY (S:DH) (d:D):Prop:=sO S d/\∀ ds,d=.tup ds->∀ x∈ds,sO S x/\∀ es,x=.tup es->∀ y∈es,sO S y
def ua:cH:=λds S k=>∃ (d:D) (n:Nat),ds=[d,.int (n:Nat)]/\FY S d/\k (.bl (wV n d)) S
theorem xK:ar ["thing","many"] ["thing","many"] (aj pj):=dZ
theorem xq (Fn:FN K "is_rod" pj f fd) (fb:aZ P w K mg base "is_joint" 2 lL) (fy:aZ P w K mg base "is_above_nought" 3 iB) (bO:mg "len"=none) (aO:mg "isinstance"=none) (bc:mg "tuple"=none):
  aQ P w K mg base de 4 f fd ["thing","many"] (dw K ua):=by
 refine Fn.okJ xK (λds S k h=>?_) (λcdv A outer s H E hr=>⟨_,(af (av (WJ.pt (eH (cg (bz (aJ lP rfl aO cS (aw 0 (aa (qc (n:=.tup) rfl bc dy) ac))))) (cY (au AQ (aJ eI rfl bO eK (aw 0 ac)) aq (aD _))))) (ag (ai fN)) aE) (af (av (WJ.pt (eH (cg (bz (dq fb hr (aa (bh 0) (aw 1 ac))))) (cY (cg (bz (dq fb hr (aa (bh 0) (aw 1 ac)))))))) (ag (ai fN)) aE) (ag (ai (lQ (kM sS (bh 0) (bh 0) (aD _)) (l' (dq fy hr (aa (bh 0) ac)))))))),λds S k h=>?_⟩)
 ·obtain⟨_,_,rfl,_⟩:=h
  rfl
 ·obtain⟨d,n,rfl,⟨⟨t,ht⟩,ha⟩,q⟩:=h;refine⟨t,ht,?_⟩;rcases pR d with ⟨ds,rfl⟩ | nt
  ·cases ht;refine dE (λhl=>?_) (λhl=>?_)
   ·rw [Bg hl] at q;exact q
   ·obtain⟨x,y,z,rfl⟩:=CQ hl;have hx:=ha _ rfl x (by simp)
    have hy:=ha _ rfl y (by simp)
    have hz:=ha _ rfl z (by simp)
    have q:k (.bl (fe n x && (fe n y && (BO x y && kN z)))) S:=q;refine⟨x,n,rfl,hx.1,dj (λh1=>?_) (λh1=>⟨y,n,rfl,hy.1,dj (λh2=>?_) (λh2=>?_)⟩)⟩
    ·rw [h1,Bool.false_and] at q;exact q
    ·rw [h1,h2,Bool.true_and,Bool.false_and] at q;exact q
    ·rw [h1,h2,Bool.true_and,Bool.true_and] at q;obtain⟨i,rfl,_⟩:=i6 h1;obtain⟨j,rfl,_⟩:=i6 h2;have q:k (.bl (decide ((i:Int) < (j:Int)) && kN z)) S:=q;refine aV (λh3=>?_) (λh3=>?_)
     ·rw [decide_eq_true h3,Bool.true_and] at q;exact⟨z,rfl,hz.1,hz.2,q⟩
     ·rw [Ke h3,Bool.false_and] at q;exact q
  ·rw [mR ht nt];rw [CF nt] at q;exact q
theorem qd {α:Type} {f g:α->D} {all:List α} {S:DH} {p:Kr} {ok:DH->Prop} {bd:DB} {k:DK} {L1:Lo} (hp:S p=none) (hok:∀ S',b8 S S'->ok S')
  (hbd:∀ (x:α) (S':DH) (k':Ks D->DH->Prop),x∈all->b8 S S'->k' (some (g x)) S'->bd (some (f x)::L1) S' k'):
  ∀ (r:List α) (acc:List D) (l0:Ks D),(∀ x∈r,x∈all)->acc.length+r.length<=100->(∀ S',b8 S S'->S' p=some (.lst (acc++r.map g))->k (.ref p) S')->dL ok p (nz 0) bd k (r.map f) acc (l0::L1) (put S p (.lst acc))
 | [],acc,l0,_,_,w=>⟨hok _ (b8.new hp),w _ (b8.new hp) (by rw [am]; simp)⟩
 | x::r,acc,l0,hr,hl,w=>by
  have hl:acc.length+(r.length+1)<=100:=hl;refine⟨hok _ (b8.new hp),hbd x _ _ (hr x JD) (b8.new hp) ⟨am,jD (by omega),?_⟩⟩
  rw [w6];exact qd hp hok hbd r _ _ (λy hy=>hr y (JE _ hy)) (by rw [JO]; show acc.length+1+r.length<=100; omega) λS' e h=>w S' e (by rw [h,List.append_assoc]; rfl)
theorem nW {g:D->D} {all:List D} {S:DH} {p:Kr} {ok:DH->Prop} {bd:DB} {k:DK} {L1:Lo} (hp:S p=none) (hok:∀ S',b8 S S'->ok S')
  (hbd:∀ (x:D) (S':DH) (k':Ks D->DH->Prop),x∈all->b8 S S'->k' (some (g x)) S'->bd (some x::L1) S' k') (l0:Ks D) (hl:all.length<=100) (w:∀ S',b8 S S'->S' p=some (.lst (all.map g))->k (.ref p) S'):dL ok p (nz 0) bd k all [] (l0::L1) (put S p (.lst [])):=by
 have h:=qd (f:=id) (g:=g) (all:=all) (k:=k) hp hok hbd all [] l0 (λ_ h=>h) (by simpa using hl) w
 rw [List.map_id] at h;exact h
def qY:List D->KA
 | x::y::r=>BO x y && qY (y::r)
 | _=>true
theorem qO {S:DH} {p:Kr} {ok:DH->Prop} {bd:DB} {k:DK} (hp:S p=none) (hok:∀ S',ok S')
  (hbd:∀ (x y:D) (S':DH) (k':Ks D->DH->Prop),iV x=true->iV y=true->k' (some (.bl (BO x y))) S'->bd [some x,some y] S' k'):
  ∀ (r:List D) (acc:List KA) (l0 l1:Ks D),(∀ x∈r,iV x=true)->acc.length+r.length<=100->(∀ S' (bs:List KA),b8 S S'->S' p=some (.lst (bs.map D.bl))->bs.all id=(acc.all id && qY r)->k (.ref p) S')->
  dL ok p (yu 2 (vC (nz 0) (vC (nz 1) CV))) bd k (rT r (r.drop 1)) (acc.map D.bl) [l0,l1] (put S p (.lst (acc.map D.bl)))
 | [],acc,_,_,_,_,w=>⟨hok _,w _ acc (b8.new hp) am (by show _=(_ && true); rw [Bool.and_true])⟩
 | [x],acc,_,_,_,_,w=>⟨hok _,w _ acc (b8.new hp) am (by show _=(_ && true); rw [Bool.and_true])⟩
 | x::y::r,acc,l0,l1,hx,hl,w=>by
  have hl:acc.length+(r.length+1+1)<=100:=hl;refine⟨hok _,([x,y],none),rfl,rfl,?_⟩;refine⟨rfl,hbd x y _ _ (hx x (by simp)) (hx y (by simp)) ⟨am,by rw [Jy]; exact jD (by omega),?_⟩⟩
  rw [w6];have ea:acc.map D.bl++[D.bl (BO x y)]=(acc++[BO x y]).map D.bl:=by rw [List.map_append]; rfl
  rw [ea];refine qO hp hok hbd (y::r) (acc++[BO x y]) _ _ (λz hz=>hx z (JE _ hz)) (by rw [JO]; show acc.length+1+(r.length+1)<=100; omega) λS' bs e h hb=>w S' bs e h ?_
  rw [hb,List.all_append]
  show(_ && (id (BO x y) && true) && qY (y::r))=(_ && (BO x y && qY (y::r)))
  rw [Bool.and_true,Bool.and_assoc]
  rfl
theorem t5 {n:Nat} {d:D} (h:fe n d=true):iV d=true:=by
 obtain⟨i,rfl,_⟩:=i6 h
 rfl
theorem Iw {ds:List D}:DL.gq ds (some 1) none=ds.drop 1:=by
 unfold DL.gq;cases ds with
 | nil=>rfl
 | cons x r=>
  have e:HT.cM (x::r).length 0 (some 1)=1:=by
   show HT.cM (r.length+1) 0 (some 1)=1
   unfold HT.cM;simp
  rw [e]
  show List.take _ r=r
  rw [List.take_of_length_le]
  show r.length<=(r.length+1) - 1
  omega
theorem uD {α:Type} [BEq α] [LawfulBEq α] (l:List α):(∀ x∈l,l.count x=1)↔l.Nodup:=by
 rw [List.nodup_iff_count];refine⟨λh x=>?_,λh x hx=>?_⟩
 ·by_cases hx:x∈l
  ·rw [h x hx]; exact Jw _
  ·rw [List.count_eq_zero.mpr hx]; decide
 ·have h1:=h x;have h2:=List.count_pos_iff.mpr hx;omega
def ym (n:Nat):D->KA
 | .tup ds=>ds.all (fe n) && qY ds
 | _=>false
def jv:D->List Int
 | .tup (.int i::.int j::_)=>[i,j]
 | _=>[]
def xz (n:Nat):D->KA
 | .tup ds=>decide (ds.length<=12) && (ds.all (wV n) && decide ((ds.map jv).Nodup))
 | _=>false
def yZ:D->KA
 | .tup [.int m,f,r]=>(decide (1<=m) && decide (m<=8)) && (ym m.toNat f && xz m.toNat r)
 | _=>false
def h_:Nat->DH->D->Prop
 | 0,S,d=>sO S d
 | n+1,S,d=>sO S d/\∀ ds,d=.tup ds->ds.length<=40/\∀ x∈ds,h_ n S x
theorem h_.ask {S:DH} {d:D}:∀ {n:Nat},h_ n S d->sO S d
 | 0,h=>h
 | _+1,h=>h.1
theorem h_.ext {S S':DH} (e:b8 S S'):∀ {n:Nat} {d:D},h_ n S d->h_ n S' d
 | 0,_,h=>sO.ext e h
 | _+1,_,h=>⟨h.1.ext e,λds z=>⟨(h.2 ds z).1,λx hx=>((h.2 ds z).2 x hx).ext e⟩⟩
theorem h_.three {S:DH} {d:D} (h:h_ 2 S d):FY S d:=⟨h.1,λds e x hx=>⟨((h.2 ds e).2 x hx).1,λes e' y hy=>(((h.2 ds e).2 x hx).2 es e').2 y hy⟩⟩
def oo:cH:=λds S k=>∃ (d:D) (n:Nat),ds=[d,.int (n:Nat)]/\h_ 1 S d/\∀ S',b8 S S'->k (.bl (ym n d)) S'
theorem tj:ar ["thing","many"] ["thing","many"] (aj km):=dZ
theorem rY (Fn:FN K "are_fixed" km f fd) (fb:aZ P w K mg base "is_joint" 2 lL) (aO:mg "isinstance"=none) (bc:mg "tuple"=none) (om:mg "all"=none) (qW:mg "zip"=none):
  aQ P w K mg base de 3 f fd ["thing","many"] (dw K oo):=by
 refine Fn.okJ tj (λds S k h=>?_) (λcdv A outer s H E hr=>⟨_,(af (av (cg (bz (aJ lP rfl aO cS (aw 0 (aa (qc (n:=.tup) rfl bc dy) ac))))) (ag (ai fN)) aE) (af (av (cg (bz (aJ sf rfl om sD (aa (mB rfl (ku (N:=["joint","many"]) (cap:=[none,some 1]) rfl rfl rfl rfl ⟨rfl,trivial⟩ rfl rfl ⟨⟨rfl,.inl rfl,.inl rfl⟩,trivial⟩) (ah 0) (λ_ _ _ _=>(aG (i:=0) (show List.Nodup (["joint","many"]:List Str) from by decide +kernel))) (λ_ _ _ _=>(dq fb hr (aw 0 (aw 1 ac))))) ac)))) (ag (ai fN)) aE) (ag (ai (aJ sf rfl om sD (aa (AV rfl (ku (N:=["one","other"]) (cap:=[none,none]) rfl rfl rfl rfl trivial rfl rfl trivial) rfl qW (aw 0 (aa (wt (ah 0) (dB aq) dF) ac)) (λ_ _ _ _=>(dQ (n:=2) rfl (aL (aG (i:=0) (show List.Nodup (["one","other"]:List Str) from by decide +kernel)) (aL (aG (i:=1) (show List.Nodup (["one","other"]:List Str) from by decide +kernel)) cQ)))) (λ_ _ _ _=>(kM sS (ah 0) (ah 1) (aD _)))) ac)))))),λds S k h=>?_⟩)
 ·obtain⟨_,_,rfl,_⟩:=h
  rfl
 ·obtain⟨d,n,rfl,ha,q⟩:=h;obtain⟨t,ht⟩:=ha.1;refine⟨t,ht,?_⟩;rcases pR d with ⟨ds,rfl⟩ | nt
  ·cases ht;obtain⟨hl,hx⟩:=ha.2 ds rfl;have q:∀ S',b8 S S'->k (.bl (ds.all (fe n) && qY ds)) S':=q;refine⟨(ds,none),rfl,λp hp=>?_⟩
   refine nW (g:=λx=>.bl (fe n x)) hp (λ_ _=>trivial) (λx S' k' hx' e hk=>⟨x,n,rfl,(hx x hx').ext e,hk⟩) _ (show ds.length<=100 by omega) λS1 e1 h1=>?_
   refine⟨(ds.map (λx=>.bl (fe n x)),some p),ds.map (fe n),by simp only [aT,h1],by rw [List.map_map]; rfl,?_⟩
   have ea:(ds.map (fe n)).all id=ds.all (fe n):=by rw [List.all_map]; rfl
   rw [ea];refine dj (λhb=>?_) (λhb=>?_)
   ·have:=q S1 e1;rw [hb,Bool.false_and] at this;exact this
   ·refine⟨(ds,none),(ds.drop 1,none),rfl,by rw [Iw]; rfl,λp2 hp2=>?_⟩
    refine qO hp2 (λ_=>⟨trivial,trivial⟩) (λx y S' k' h1 h2 hk=>?_) ds [] none none (λx hx'=>t5 (Ki.mp hb x hx')) (by simp; omega) λS2 bs e2 h2 hbs=>?_
    ·obtain⟨i,rfl⟩:=gT h1;obtain⟨j,rfl⟩:=gT h2;exact hk
    ·refine⟨(bs.map D.bl,some p2),bs,by simp only [aT,h2],rfl,?_⟩
     have:=q S2 (e1.trans e2);rw [hb,Bool.true_and] at this;rw [hbs];exact this
  ·rw [mR ht nt];have:ym n d=false:=by
    cases d with
    | tup ds=>exact absurd rfl (nt ds)
    | _=>rfl
   rw [this] at q;exact q S (b8.refl S)
theorem Ex {n:Nat} {d:D} (h:wV n d=true):∃ ds i j c,d=.tup [.int i,.int j,c]/\ds=[i,j]/\jv d=ds/\DL.gq [.int i,.int j,c] none (some 2)=ds.map D.int:=by
 unfold wV at h
 split at h
 ·rename_i a b c
  rw [J8,J8] at h;obtain⟨i,rfl,_⟩:=i6 h.1;obtain⟨j,rfl,_⟩:=i6 h.2.1;exact⟨_,_,_,c,rfl,rfl,rfl,rfl⟩
 ·cases h
def pd:cH:=λds S k=>∃ (d:D) (n:Nat),ds=[d,.int (n:Nat)]/\h_ 3 S d/\∀ S',b8 S S'->k (.bl (xz n d)) S'
theorem n9:ar ["thing","many","joined"] ["thing","many"] (aj lV):=dZ
theorem ue (Fn:FN K "are_rods" lV f fd) (pM:aZ P w K mg base "is_rod" 4 ua) (bO:mg "len"=none) (aO:mg "isinstance"=none) (bc:mg "tuple"=none) (om:mg "all"=none) (kQ:AX mg "MOST_RODS" 12):
  aQ P w K mg base de 5 f fd ["thing","many"] (dw K pd):=by
 refine Fn.okJ n9 (λds S k h=>?_) (λcdv A outer s H E hr=>⟨_,(af (av (WJ.pt (eH (cg (bz (aJ lP rfl aO cS (aw 0 (aa (qc (n:=.tup) rfl bc dy) ac))))) (cY (au Ed (aJ eI rfl bO eK (aw 0 ac)) (Ah kQ rfl) (aD _))))) (ag (ai fN)) aE) (af (av (cg (bz (aJ sf rfl om sD (aa (mB rfl (ku (N:=["rod","many"]) (cap:=[none,some 1]) rfl rfl rfl rfl ⟨rfl,trivial⟩ rfl rfl ⟨⟨rfl,.inl rfl,.inl rfl⟩,trivial⟩) (ah 0) (λ_ _ _ _=>(aG (i:=0) (show List.Nodup (["rod","many"]:List Str) from by decide +kernel))) (λ_ _ _ _=>(dq pM hr (aw 0 (aw 1 ac))))) ac)))) (ag (ai fN)) aE) (af (ak (i:=2) n9.nd (mB rfl (ku (N:=["rod"]) (cap:=[none]) rfl rfl rfl rfl trivial rfl rfl trivial) (ah 0) (λ_ _ _ _=>(aG (i:=0) (show List.Nodup (["rod"]:List Str) from by decide +kernel))) (λ_ _ _ _=>(wt (ah 0) dF (dB aq))))) (ag (ai (aJ sf rfl om sD (aa (mB rfl (ku (N:=["joints","joined"]) (cap:=[none,some 2]) rfl rfl rfl rfl ⟨rfl,trivial⟩ rfl rfl ⟨⟨rfl,.inl rfl,.inl rfl⟩,trivial⟩) (ah 2) (λ_ _ _ _=>(aG (i:=0) (show List.Nodup (["joints","joined"]:List Str) from by decide +kernel))) (λ_ _ _ _=>(kM ej (Ew hr (ah 1) (ah 0)) aq (aD _)))) ac))))))),λds S k h=>?_⟩)
 ·obtain⟨_,_,rfl,_⟩:=h
  rfl
 ·obtain⟨d,n,rfl,ha,q⟩:=h;obtain⟨t,ht⟩:=ha.1;refine⟨t,ht,?_⟩;rcases pR d with ⟨ds,rfl⟩ | nt
  ·cases ht;obtain⟨hl,hx⟩:=ha.2 ds rfl;have q:∀ S',b8 S S'->k (.bl (decide (ds.length<=12) && (ds.all (wV n) && decide ((ds.map jv).Nodup)))) S':=q;refine aV (λh12=>?_) (λh12=>?_)
   ·have:=q S (b8.refl S);rw [Ke (by omega),Bool.false_and] at this
    exact this
   refine⟨(ds,none),rfl,λp hp=>?_⟩
   have h12':ds.length<=12:=by omega
   rw [decide_eq_true h12',Bool.true_and] at q;refine nW (g:=λx=>.bl (wV n x)) hp (λ_ _=>trivial) (λx S' k' hx' e hk=>⟨x,n,rfl,((hx x hx').ext e).three,hk⟩) _ (show ds.length<=100 by omega) λS1 e1 h1=>?_
   refine⟨(ds.map (λx=>.bl (wV n x)),some p),ds.map (wV n),by simp only [aT,h1],by rw [List.map_map]; rfl,?_⟩
   have ea:(ds.map (wV n)).all id=ds.all (wV n):=by rw [List.all_map]; rfl
   rw [ea];refine dj (λhb=>?_) (λhb=>?_)
   ·have:=q S1 e1;rw [hb,Bool.false_and] at this;exact this
   ·rw [hb,Bool.true_and] at q;have hb':=Ki.mp hb;refine⟨(ds,none),rfl,λp2 hp2=>?_⟩
    refine nW (g:=λx=>.tup ((jv x).map D.int)) hp2 (λ_ _=>trivial) (λx S' k' hx' e hk=>?_) _ (show ds.length<=100 by omega) λS2 e2 h2=>?_
    ·obtain⟨_,i,j,c,rfl,rfl,_,e3⟩:=Ex (hb' x hx');exact hk
    ·have h2:S2 p2=some (.lst ((ds.map jv).map λns=>D.tup (ns.map D.int))):=by rw [h2,List.map_map]; rfl
     refine⟨((ds.map jv).map (λns=>D.tup (ns.map D.int)),some p2),by simp only [aT,h2],λp3 hp3=>?_⟩
     refine qd (f:=λns=>D.tup (ns.map D.int)) (g:=λns=>D.bl (decide (((((ds.map jv).count ns:Nat)):Int)=1))) (all:=ds.map jv) hp3 (λS' e=>e _ _ h2) (λns S' k' hx' e hk=>?_) (ds.map jv) [] _ (λ_ h=>h) (by simp; omega) λS3 e3 h3=>?_
     ·exact⟨⟨_,e _ _ h2⟩,_,ns,e _ _ h2,rfl,hk⟩
     ·refine⟨((ds.map jv).map (λns=>D.bl (decide (((((ds.map jv).count ns:Nat)):Int)=1))),some p3),(ds.map jv).map λns=>decide (((((ds.map jv).count ns:Nat)):Int)=1),by simp only [aT,h3]; rfl,by simp only [List.map_map]; rfl,?_⟩
      have:=q S3 ((e1.trans e2).trans e3);have eb:((ds.map jv).map λns=>decide (((((ds.map jv).count ns:Nat)):Int)=1)).all id=decide ((ds.map jv).Nodup):=by
       rw [Bool.eq_iff_iff,decide_eq_true_iff,<- uD,List.all_map,Ki];refine⟨λh x hx=>?_,λh x hx=>?_⟩
       ·have:=of_decide_eq_true (h x hx); omega
       ·refine decide_eq_true ?_; rw [h x hx]; rfl
      rw [eb];exact this
  ·rw [mR ht nt];have:xz n d=false:=by
    cases d with
    | tup ds=>exact absurd rfl (nt ds)
    | _=>rfl
   rw [this] at q;exact q S (b8.refl S)
theorem B7 {ds:List D} (h:¬ (ds.length:Int)=3):yZ (.tup ds)=false:=by
 match ds,h with
 | [],_=>rfl
 | [x],_=>cases x <;> rfl
 | [x,_],_=>cases x <;> rfl
 | [_,_,_],h=>exact absurd rfl h
 | x::_::_::_::r,_=>cases x <;> rfl
theorem BV {d:D} (n:∀ ds,d≠.tup ds):yZ d=false:=by
 cases d with
 | tup ds=>exact absurd rfl (n ds)
 | _=>rfl
theorem FI {x y z:D} (h:iV x=false):yZ (.tup [x,y,z])=false:=by
 cases x with
 | int i=>cases h
 | _=>rfl
def mP:cH:=λds S k=>∃ (d:D),ds=[d]/\h_ 4 S d/\∀ S',b8 S S'->k (.bl (yZ d)) S'
theorem qG:ar ["thing"] ["thing"] (aj jz):=dZ
theorem qF (Fn:FN K "is_linkage" jz f fd) (cU:aZ P w K mg base "is_whole" 1 jT) (lM:aZ P w K mg base "are_rods" 5 pd) (kE:aZ P w K mg base "are_fixed" 3 oo) (bO:mg "len"=none) (aO:mg "isinstance"=none) (bc:mg "tuple"=none) (iU:AX mg "MOST_JOINTS" 8):
  aQ P w K mg base de 6 f fd ["thing"] (dw K mP):=by
 refine Fn.okJ qG (λds S k h=>?_) (λcdv A outer s H E hr=>⟨_,(af (av (WJ.pt (eH (cg (bz (aJ lP rfl aO cS (aw 0 (aa (qc (n:=.tup) rfl bc dy) ac))))) (cY (au AQ (aJ eI rfl bO eK (aw 0 ac)) aq (aD _))))) (ag (ai fN)) aE) (af (av (WJ.pt (eH (cg (bz (dq cU hr (aa (bh 0) ac)))) (cY (cg (xN E3 E3 aq (bh 0) (Ah iU rfl)))))) (ag (ai fN)) aE) (ag (ai (lQ (dq kE hr (aa (bh 0) (aa (bh 0) ac))) (l' (dq lM hr (aa (bh 0) (aa (bh 0) ac))))))))),λds S k h=>?_⟩)
 ·obtain⟨_,rfl,_⟩:=h
  rfl
 ·obtain⟨d,rfl,ha,q⟩:=h;obtain⟨t,ht⟩:=ha.1;refine⟨t,ht,?_⟩;rcases pR d with ⟨ds,rfl⟩ | nt
  ·cases ht;obtain⟨hl,hx⟩:=ha.2 ds rfl;refine dE (λhl=>?_) (λhl=>?_)
   ·rw [B7 hl] at q;exact q S (b8.refl S)
   ·obtain⟨x,y,z,rfl⟩:=CQ hl;have ax:=hx x (by simp)
    have ay:=hx y (by simp)
    have az:=hx z (by simp)
    refine⟨x,rfl,ax.ask,dj (λh1=>?_) (λh1=>?_)⟩
    ·rw [FI h1] at q;exact q S (b8.refl S)
    ·obtain⟨m,rfl⟩:=gT h1;have q:∀ S',b8 S S'->k (.bl ((decide (1<=m) && decide (m<=8)) && (ym m.toNat y && xz m.toNat z))) S':=q;refine aV (λc1=>dE (λc2=>?_) (λc2=>?_)) (λc1=>?_)
     ·have:=q S (b8.refl S);rw [Ke c2,Bool.and_false,Bool.false_and] at this;exact this
     ·rw [decide_eq_true c1,decide_eq_true c2,Bool.and_true,Bool.true_and] at q;have em:D.int m=.int (m.toNat:Nat):=congrArg D.int (by omega)
      have ey:h_ 1 S y:=⟨ay.1,λds e=>⟨(ay.2 ds e).1,λx hx=>((ay.2 ds e).2 x hx).ask⟩⟩
      refine⟨y,m.toNat,by rw [<- em],ey,λS1 e1=>uY (λhb=>?_) (λhb=>?_)⟩
      ·rw [hb,Bool.true_and] at q;exact⟨z,m.toNat,by rw [<- em],az.ext e1,λS2 e2=>q S2 (e1.trans e2)⟩
      ·rw [hb,Bool.false_and] at q;exact q S1 e1
     ·have:=q S (b8.refl S);rw [Ke c1,Bool.false_and,Bool.false_and] at this;exact this
  ·rw [mR ht nt];rw [BV nt] at q;exact q S (b8.refl S)
set_option maxHeartbeats 4000000
theorem G4 {q:Rat} (h:0 < q):kN (fr q)=true:=by
 show((decide (1<=((q.den:Nat):Int)) && decide (((Int.gcd q.num (q.den:Int):Nat):Int)=1)) && decide (0 < q.num))=true
 have h1:=q.den_pos;have h2:Int.gcd q.num (q.den:Int)=1:=q.reduced;have h0:0<=q.num:=Rat.num_nonneg.mpr (Rat.le_of_lt h);have h3:q.num≠0:=λz=>by rw [Rat.num_eq_zero.mp z] at h; exact absurd h (by decide)
 rw [decide_eq_true (by omega),h2,decide_eq_true (show 0 < q.num by omega)]
 rfl
structure RK (ms:List bR) (j:Nat) (rods:List cG):Prop where
 lt:∀ r∈rods,r.i < r.j/\r.j < j
 pos:∀ r∈rods,0 < r.q
 nd:(rods.map λr=>[(r.i:Int),(r.j:Int)]).Nodup
 len:rods.length<=kc (ms.take j)+2*ou (ms.take j)
theorem RK.nil {ms:List bR}:RK ms 0 []:=⟨(λ_ h=>by cases h),(λ_ h=>by cases h),List.nodup_nil,Kf _⟩
theorem zN {x:Rat} (h:0<=x) (n:x.num≠0):0 < x:=by
 rcases tri x with a | a | a
 ·exact a
 ·grind
 ·exact absurd (by rw [a]; rfl) n
theorem Ig (a l:Rat):0<=a*a+l*l:=by
 have:=cW a;have:=cW l;grind
theorem uR {ms:List bR} {i j:Nat} {q:Rat}:∀ {rods:List cG},(∀ r∈rods,0 < r.q)->cu ms i j rods=some q->0<=q
 | [],_,h=>by
  have h:kS ms[i]? ms[j]?=some q:=h;unfold kS at h
  split at h
  ·cases h; exact Ig _ _
  ·cases h
 | r::rs,hr,h=>by
  have h:(if hit i j r=true then some r.q else cu ms i j rs)=some q:=h
  split at h
  ·cases h; exact Rat.le_of_lt (hr r JD)
  ·exact uR (λr h2=>hr r (JE _ h2)) h
theorem RK.step {ms:List bR} {k:Nat} {s:bR} {rods more:List cG} (hw:Wf ms) (hs:ms[k]?=some s) (h:RK ms k rods) (e:du ms k rods s=some more):RK ms (k+1) (rods++more):=by
 have hk:k < ms.length:=(J4.mp hs).1;have lt:(ms.take k).length=k:=by rw [List.length_take]; omega
 have so:=hw k s hs;have et:ms.take (k+1)=ms.take k++[s]:=by rw [List.take_add_one,hs]; rfl
 have two:∀ (r1 r2:cG),r1.j=k->r2.j=k->r1.i < k->r2.i < k->r1.i≠r2.i->0 < r1.q->0 < r2.q->s.isCx=true->RK ms (k+1) (rods++[r1,r2]):=λr1 r2 j1 j2 a1 a2 ne p1 p2 sc=>by
  refine⟨λr hr=>?_,λr hr=>?_,?_,?_⟩
  ·rcases List.mem_append.mp hr with hr | hr
   ·have:=h.lt r hr; omega
   ·simp only [JB,JK,or_false] at hr;rcases hr with rfl | rfl <;> omega
  ·rcases List.mem_append.mp hr with hr | hr
   ·exact h.pos r hr
   ·simp only [JB,JK,or_false] at hr;rcases hr with rfl | rfl <;> assumption
  ·rw [List.map_append,List.nodup_append];refine⟨h.nd,?_,λx hx y hy z=>?_⟩
   ·simp only [JI,List.map_nil,List.nodup_cons,JB,JK,or_false,not_false_eq_true,List.nodup_nil,and_true];intro z;injection z with z _
    omega
   ·obtain⟨r,hr,rfl⟩:=Jx.mp hx;have:=h.lt r hr;simp only [JI,List.map_nil,JB,JK,or_false] at hy;rcases hy with rfl | rfl
    ·injection z with _ z; injection z with z _; omega
    ·injection z with _ z; injection z with z _; omega
  ·have:=h.len;rw [et,gl,gh,JO,sc]
   show rods.length+2<=kc (ms.take k)+_+2*(ou (ms.take k)+1)
   omega
 cases s with
 | fix x y=>
  cases e;rw [JP];refine⟨λr hr=>by have:=h.lt r hr; omega,h.pos,h.nd,?_⟩
  have:=h.len;rw [et,gl,gh];omega
 | crank c l=>
  cases e;obtain⟨⟨x,y,hc⟩,_,l0⟩:=so;have hc2:=(J4.mp hc).1;refine⟨λr hr=>?_,λr hr=>?_,?_,?_⟩
  ·rcases List.mem_append.mp hr with hr | hr
   ·have:=h.lt r hr; omega
   ·simp only [JB,JK,or_false] at hr;subst hr;exact⟨by show c < k; omega,by show k < k+1; omega⟩
  ·rcases List.mem_append.mp hr with hr | hr
   ·exact h.pos r hr
   ·simp only [JB,JK,or_false] at hr;subst hr;exact JY l0 l0
  ·rw [List.map_append,List.nodup_append];refine⟨h.nd,by simp,λx hx y hy z=>?_⟩
   obtain⟨r,hr,rfl⟩:=Jx.mp hx;have:=h.lt r hr;simp only [JI,List.map_nil,JB,JK,or_false] at hy;subst hy;injection z with _ z; injection z with z _; omega
  ·have:=h.len;rw [et,gl,gh,JO]
   show rods.length+1<=kc (ms.take k)+1+2*(ou (ms.take k)+0)
   omega
 | pair i j s t v=>
  cases e;obtain⟨hi,hj,ne,_,_,s0,t0,_⟩:=so;exact two _ _ rfl rfl (by show i < k; omega) (by show j < k; omega) ne s0 t0 rfl
 | like i j a l=>
  obtain⟨hi,hj,ne,_,_⟩:=so;have e:(cu ms i j rods).bind (bI i j k a l)=some more:=e;cases hq:cu ms i j rods with
  | none=>rw [hq] at e; cases e
  | some q=>
   rw [hq] at e;have e:bI i j k a l q=some more:=e;unfold bI at e
   split at e
   ·cases e
   ·rename_i hn
    cases e;have q0:=uR h.pos hq;exact two _ _ rfl rfl (by show i < k; omega) (by show j < k; omega) ne (zN (JQ (Ig _ _) q0) λz=>hn (.inl z)) (zN (JQ (Ig _ _) q0) λz=>hn (.inr z)) rfl
theorem vz {ms:List bR} (hw:Wf ms):∀ {rs:List bR} {j:Nat} {rods out:List cG},ms.drop j=rs->RK ms j rods->bw ms j rs rods=some out->RK ms (j+rs.length) out
 | [],j,rods,out,_,ok,h=>by cases h; exact ok
 | s::rs,j,rods,out,hd,ok,h=>by
  obtain⟨g0,g1⟩:=la hd;have h:((du ms j rods s).bind λmore=>bw ms (j+1) rs (rods++more))=some out:=h
  cases hm:du ms j rods s with
  | none=>rw [hm] at h; cases h
  | some more=>
   rw [hm] at h;have z:=vz hw g1 (ok.step hw g0 hm) h;have e:j+(s::rs).length=j+1+rs.length:=by show j+(rs.length+1)=_; omega
   rw [e];exact z
theorem tX:∀ {rs:List bR} {j:Nat},(∀ s∈rs,s.isCx=true)->fm j rs=[]
 | [],_,_=>rfl
 | s::rs,j,h=>by
  have hs:=h s JD;unfold fm;rw [if_neg (by cases s <;> first | (exact Jz) | cases hs)]
  exact tX λs h2=>h s (JE _ h2)
theorem wG:∀ {rs:List bR},(∀ s∈rs,s.isCx=true)->ou rs=rs.length/\kc rs=0
 | [],_=>⟨rfl,rfl⟩
 | s::rs,h=>by
  obtain⟨h1,h2⟩:=wG (rs:=rs) λs h2=>h s (JE _ h2)
  have hs:=h s JD;unfold ou kc at*
  rw [List.countP_cons,List.countP_cons,h1,h2,hs];refine⟨rfl,?_⟩;cases s <;> first | rfl | cases hs
theorem Rg.is {ms:List bR} (h:Rg ms):fm 0 ms=[.int 0,.int 1]/\kc ms=1/\ou ms<=4/\ms.length<=7/\3<=ms.length:=by
 obtain⟨x1,y1,x2,y2,c,l,rs,rfl,h4,ha⟩:=h;obtain⟨h1,h2⟩:=wG ha;refine⟨?_,?_,?_,?_,?_⟩
 ·show(.int ((0:Nat):Int))::.int ((1:Nat):Int)::fm 3 rs=_
  rw [tX ha]
  rfl
 ·unfold kc at*
  rw [List.countP_cons,List.countP_cons,List.countP_cons,h2]
  rfl
 ·unfold ou at*
  rw [List.countP_cons,List.countP_cons,List.countP_cons,h1]
  show rs.length+0+0+0<=4
  omega
 ·show rs.length+1+1+1<=7
  omega
 ·show 3<=rs.length+1+1+1
  omega
theorem Fa {ms:List bR} {rods:List cG} (hw:Wf ms) (hg:Rg ms) (hr:bw ms 0 ms []=some rods):yZ (lY ms rods)=true:=by
 obtain⟨hf,hc,hx,h7,h3⟩:=hg.is;have rk:=vz (rs:=ms) hw rfl RK.nil hr;rw [Nat.zero_add] at rk;have len:=rk.len;rw [List.take_length,hc] at len
 show((decide (1<=((ms.length:Nat):Int)) && decide (((ms.length:Nat):Int)<=8)) && (ym ((ms.length:Nat):Int).toNat (.tup (fm 0 ms)) && xz ((ms.length:Nat):Int).toNat (.tup (rods.map cG.d))))=true
 rw [decide_eq_true (by omega),decide_eq_true (by omega),hf,Int.toNat_natCast]
 have f1:ym ms.length (.tup [.int 0,.int 1])=true:=by
  show((((decide ((0:Int)<=0) && decide ((0:Int) < (ms.length:Nat))) && ((decide ((0:Int)<=1) && decide ((1:Int) < (ms.length:Nat))) && true)) && (decide ((0:Int) < 1) && true)))=true
  rw [decide_eq_true (show (0:Int) < (ms.length:Nat) by omega),decide_eq_true (show (1:Int) < (ms.length:Nat) by omega)]
  rfl
 have f2:xz ms.length (.tup (rods.map cG.d))=true:=by
  show(decide ((rods.map cG.d).length<=12) && ((rods.map cG.d).all (wV ms.length) && decide (((rods.map cG.d).map jv).Nodup)))=true
  rw [decide_eq_true (by rw [Jy]; omega)]
  have a:(rods.map cG.d).all (wV ms.length)=true:=by
   rw [Ki];intro d hd;obtain⟨r,hr,rfl⟩:=Jx.mp hd;obtain⟨l1,l2⟩:=rk.lt r hr
   show((decide ((0:Int)<=(r.i:Nat)) && decide (((r.i:Nat):Int) < (ms.length:Nat))) && ((decide ((0:Int)<=(r.j:Nat)) && decide (((r.j:Nat):Int) < (ms.length:Nat))) && (decide (((r.i:Nat):Int) < (r.j:Nat)) && kN (fr r.q))))=true
   rw [G4 (rk.pos r hr),decide_eq_true (by omega),decide_eq_true (by omega),decide_eq_true (by omega),decide_eq_true (by omega),decide_eq_true (by omega)]
   rfl
  have b:(rods.map cG.d).map jv=rods.map λr=>[(r.i:Int),(r.j:Int)]:=by
   rw [List.map_map];exact List.map_congr_left λr _=>rfl
  rw [a,b,decide_eq_true rk.nd]
  rfl
 rw [f1,f2]
 rfl
theorem ik {S:DH} {n:Nat} {i:Int}:h_ n S (.int i):=by cases n with | zero=>exact⟨_,rfl⟩ | succ n=>exact⟨⟨_,rfl⟩,λ_ e=>by cases e⟩
theorem m8 {S:DH} {n:Nat} {ds:List D} (hl:ds.length<=40) (h:∀ x∈ds,h_ n S x):h_ (n+1) S (.tup ds):=⟨⟨_,rfl⟩,λes e=>by cases e; exact⟨hl,h⟩⟩
theorem Bh {S:DH} {ms:List bR} {rods:List cG} (hg:Rg ms) (hl:rods.length<=40):h_ 4 S (lY ms rods):=by
 have l3:∀ {n:Nat} {a b c:D},h_ n S a->h_ n S b->h_ n S c->∀ x∈[a,b,c],h_ n S x:=λh1 h2 h3 x hx=>by
  simp only [JB,JK,or_false] at hx;rcases hx with rfl | rfl | rfl <;> assumption
 have l2:∀ {n:Nat} {a b:D},h_ n S a->h_ n S b->∀ x∈[a,b],h_ n S x:=λh1 h2 x hx=>by
  simp only [JB,JK,or_false] at hx;rcases hx with rfl | rfl <;> assumption
 refine m8 (by show 3<=40; decide) (l3 ik ?_ ?_)
 ·rw [hg.is.1];exact m8 (by show 2<=40; decide) (l2 ik ik)
 ·refine m8 (by rw [Jy]; exact hl) λd hd=>?_
  obtain⟨r,_,rfl⟩:=Jx.mp hd;refine m8 (by show 3<=40; decide) (l3 ik ik ?_)
  exact m8 (by show 2<=40; decide) (l2 ik ik)
set_option maxHeartbeats 4000000
def kJ:cH:=λds S k=>∃ (p q:Pt),ds=[gP p,gP q]/\xm 556350 p/\xm 556350 q/\yz [p,q]/\∀ u S',0 < u->HR u [p,q]->b8 S S'->k (N u (xt u p q).1 (xt u p q).2) S'
theorem oA:ar ["one","other"] ["one","other"] (aj ia):=dZ
theorem oH (Fn:FN K "square_apart" ia f fd) (bA:aZ P w K mg base "ask_one_field" 38 eX) (bB:aZ P w K mg base "square_of_way" 39 eY) (aU:aZ P w K mg base "way_between" 40 dH):
  aQ P w K mg base de 41 f fd ["one","other"] (dw K kJ):=by
 refine Fn.okJ oA (λds S k h=>?_) (λcdv A outer s H E hr=>⟨_,(af (aS (dq bA hr (aa (aA (aw 0 (aw 1 ac))) ac))) (ag (ai (dq bB hr (aa (dq aU hr (aw 0 (aw 1 ac))) ac))))),λds S k h=>?_⟩)
 ·obtain⟨_,_,rfl,_⟩:=h
  rfl
 ·obtain⟨p,q,rfl,hp,hq,one,w⟩:=h;have all:∀ r∈[p,q],xm 556350 r:=λr hr=>by
   simp only [JB,JK,or_false] at hr;rcases hr with rfl | rfl
   ·exact hp
   ·exact hq
  refine⟨bZ,[p,q],rfl,λr hr=>⟨(all r hr).1.u.mono (by decide),(all r hr).2.u.mono (by decide)⟩,(by show 2<=90; decide),one,λS1 e1=>?_⟩
  obtain⟨u,hu,su,hR,hs⟩:=sk (m:=556350) (by decide) all one
  obtain⟨x1,y1⟩:=hs p (by simp)
  obtain⟨z1,v1⟩:=hs q (by simp)
  have w:=w u S1 hu.pos hR e1;refine⟨u,_,_,_,_,by rw [ul (hR p (by simp)),ul (hR q (by simp))]; rfl,hu,x1.mono (by decide),y1.mono (by decide),z1.mono (by decide),v1.mono (by decide),u,_,_,rfl,hu,(Fc z1 x1).mono (by decide),(Fc v1 y1).mono (by decide),w⟩
def rE:cH:=λds S k=>∃ (n:Int) (f r:List D),ds=[.tup [.int n,.tup f,.tup r]]/\Bt 100 n/\k (.int (2*(n - f.length) - r.length)) S
theorem vY:ar ["linkage"] ["linkage"] (aj nD):=dZ
theorem wo (Fn:FN K "freedom" nD f fd) (bO:mg "len"=none):
  aQ P w K mg base de 1 f fd ["linkage"] (dw K rE):=by
 refine Fn.okJ vY (λds S k h=>?_) (λcdv A outer s H E hr=>⟨_,(ag (ai (aN pq (aN fu aq (aN pq (bh 0) (aJ eI rfl bO eK (aa (bh 0) ac)))) (aJ eI rfl bO eK (aa (bh 0) ac))))),λds S k h=>?_⟩)
 ·obtain⟨_,_,_,rfl,_⟩:=h
  rfl
 ·obtain⟨n,f,r,rfl,hn,w⟩:=h;exact⟨IntMulOk.of_left (intBits_le_64 (by decide) (by decide)),w⟩
theorem A2 {s:bR} {rs:List bR}:kc (s::rs)=kc rs+if s.isCr=true then 1 else 0:=by unfold kc; rw [List.countP_cons]
def lE:cH:=λds S k=>∃ (a:Kr) (ms:List bR),ds=[.ref a,MD ms]/\tO S a/\ms.length<=7/\∀ (os:List (Ks Rat)) S',os.length=kc ms->(∀ o∈os,qC o)->Dr a S S'->k (.tup (os.map zm)) S'
theorem ib:ar ["state","machine","found","step"] ["state","machine"] (aj iP):=dZ
theorem pw (Fn:FN K "_law_drives" iP f fd) (bp:aZ P w K mg base "_law_small" 3 jx) (aH:aZ P w K mg base "_law_take" 1 fq) (bc:mg "tuple"=none):
  aQ P w K mg base de 4 f fd ["state","machine"] (dw K lE):=by
 refine Fn.okJ ib (λds S k h=>?_) (λcdv A outer s H E hr=>⟨_,(af (ak (i:=2) ib.nd (bU ac)) (af (dI PassesOwn.never rfl (ah 1) (aG (i:=3) ib.nd) (ag (av (au ej (ft 3) b9 (aD _)) (ag (aS (dU (ah 2) (bb b_ (bU (aa dN (aa (dq bp hr (aw 0 ac)) (aa (dq bp hr (aw 0 ac)) (aa (dq bp hr (aw 0 ac)) ac))))) (dq aH hr (aw 0 (aa aq ac))) Zf)))) aE))) (ag (ai (ir jf rfl bc dy (aw 2 ac)))))),λds S k h=>?_⟩)
 ·obtain⟨_,_,rfl,_⟩:=h
  rfl
 ·obtain⟨a,ms,rfl,hS,hl,w⟩:=h;refine⟨bZ,λq hq=>⟨(ms.map bR.d,none),rfl,?_⟩⟩
  have qa:=hS.ne hq;refine dP (λr L S'=>∃ (rs:List bR) (os:List (Ks Rat)) (l3:Ks D),L=[some (.ref a),some (MD ms),some (.ref q),l3]/\Dr a S S'/\S' q=some (.lst (os.map zm))/\r=rs.map bR.d/\os.length+kc rs=kc ms/\os.length+rs.length<=7/\∀ o∈os,qC o) (λ_ _ _ _=>trivial) ?_ ?_ _ _ _ ⟨ms,[],none,rfl,Dr.new hS hq,am,rfl,Nat.zero_add _,by show 0+ms.length<=7; omega,λ_ h=>by cases h⟩
  ·rintro d r L S1 N1 ⟨rs,os,l3,rfl,d1,h1,er,hc,hl1,hd⟩ hN;cases rs with
   | nil=>cases er
   | cons s rs=>
    cases er;have hl1:os.length+(rs.length+1)<=7:=hl1;rw [A2] at hc;have skip:s.isCr=false->N1 [some (.ref a),some (MD ms),some (.ref q),some s.d] S1:=λhs=>hN _ _ ⟨rs,os,_,rfl,d1,h1,rfl,by rw [hs] at hc; exact hc,by omega,hd⟩
    cases s with
    | fix x y=>exact⟨_,rfl,skip rfl⟩
    | pair i j s t v=>exact⟨_,rfl,skip rfl⟩
    | like i j x y=>exact⟨_,rfl,skip rfl⟩
    | crank i l=>
     have hc:os.length+(kc rs+1)=kc ms:=hc;refine⟨_,rfl,⟨_,h1⟩,a,rfl,d1.1,λx S2 hx d2=>⟨a,rfl,d2.1,λy S3 hy d3=>⟨a,rfl,d3.1,λz S4 hz d4=>⟨bZ,λp hp=>⟨a,4,rfl,by decide,by decide,d4.1.new hp,λt S5 t0 t1 d5=>?_⟩⟩⟩⟩⟩
     have pa:=d4.1.ne hp;have hp5:=d5.2 p _ pa am;obtain⟨c,hcc,hm⟩:=oV (ds:=[.non,fr x,fr y,fr z]) t0 t1;have ho:∃ o,c=zm o/\qC o:=by
      simp only [JB,JK,or_false] at hm;rcases hm with rfl | rfl | rfl | rfl
      ·exact⟨none,rfl,λt e=>by cases e⟩
      ·exact⟨some x,rfl,λt e=>by cases e; exact hx.1⟩
      ·exact⟨some y,rfl,λt e=>by cases e; exact hy.1⟩
      ·exact⟨some z,rfl,λt e=>by cases e; exact hz.1⟩
     obtain⟨o,rfl,ok⟩:=ho;have d15:=(d2.trans (d3.trans (d4.trans ((Dr.new d4.1 hp).trans d5))));refine⟨_,_,hp5,hcc,_,d15.keep qa h1,by rw [Jy]; exact jD (by omega),hN _ _ ⟨rs,os++[o],_,rfl,(d1.trans d15).put hq qa,by rw [am,List.map_append]; rfl,rfl,by rw [JO]; show os.length+1+kc rs=_; omega,by rw [JO]; show os.length+1+rs.length<=7; omega,λo' ho'=>?_⟩⟩
     rcases List.mem_append.mp ho' with h | h
     ·exact hd o' h
     ·simp only [JB,JK,or_false] at h; rw [h]; exact ok
  ·rintro L S1 ⟨rs,os,l3,rfl,d1,h1,er,hc,hl1,hd⟩;cases rs with
   | cons s rs=>cases er
   | nil=>exact⟨_,h1,w os S1 hc hd d1⟩
def n6:cH:=λds S k=>∃ (ms:List bR) (os:List (Ks Rat)),ds=[MD ms,.tup (os.map zm)]/\Wf ms/\Rg ms/\os.length=kc ms/\(∀ o∈os,qC o)/\(∀ S',b8 S S'->k .non S')/\
 ∀ rods ps p S',bw ms 0 ms []=some rods->u8 os ms ps->(∀ p∈ps,on (ou ms) p)->b8 S S'->S' p=some (.lst (ps.map gP))->k (.tup [lY ms rods,.ref p]) S'
theorem gL:ar ["machine","drives","found"] ["machine","drives"] (aj kF):=dZ
theorem sG {aC aB bj ck:Kr} (Fn:FN K "_law_told" kF f fd) (iN:kd P w K mg base "linkage_of" 40 (lH aB)) (pH:kd P w K mg base "stand" 42 (tS aC bj ck)) (cO:mg "NoMachine"=some (.ref aB)) (cK:mg "NoField"=some (.ref aC)) (lq:mg "Stuck"=some (.ref ck)) (xn_NoMachine_NoField_Stuck_NoMachine:PySem.W.exmAny K (.ref aB) [.ref aB,.ref aC,.ref ck]=some true) (xn_NoMachine_NoField_Stuck_NoField:PySem.W.exmAny K (.ref aC) [.ref aB,.ref aC,.ref ck]=some true) (xn_NoMachine_NoField_Stuck_Stuck:PySem.W.exmAny K (.ref ck) [.ref aB,.ref aC,.ref ck]=some true):
  aQ P w K mg base de 43 f fd ["machine","drives"] (dw K n6):=by
 refine Fn.okJ gL (λds S k h=>?_) (λcdv A outer s H E hr=>⟨_,(af (ak (i:=2) gL.nd dN) (af (xx (i:=2) (λex=>(y9 (mo iN (hr.mono (by decide)) rfl (aw 0 ac)) (mo pH (hr.mono (by decide)) rfl (aw 0 (aw 1 ac))))) (λ_=>hr.hd) rfl rfl rfl rfl cO rfl cK rfl lq gL.nd rfl (.inl rfl) (λv=>(ag (ak (i:=2) gL.nd dN)))) (ag (ai (ah 2))))),λds S k h=>?_⟩)
 ·obtain⟨_,_,rfl,_⟩:=h
  rfl
 ·obtain⟨ms,os,rfl,hw,hg,ho,hd,w0,w⟩:=h;obtain⟨_,_,hx,h7,_⟩:=hg.is;exact⟨ms,rfl,hw,h7,λ_ S1 e1=>⟨xn_NoMachine_NoField_Stuck_NoMachine,w0 S1 e1⟩,λrods S1 hr e1=>⟨ms,os,rfl,hw,h7,by omega,ho,hd,λ_ _ _ _ _ _ _ S2 e2=>⟨xn_NoMachine_NoField_Stuck_NoField,w0 S2 (e1.trans e2)⟩,λ_ _ _ _ _ _ _ S2 e2=>⟨xn_NoMachine_NoField_Stuck_Stuck,w0 S2 (e1.trans e2)⟩,λps S2 q hst hok e2 h2=>w rods ps q S2 hr hst hok (e1.trans e2) h2⟩⟩
theorem uC {u:Rat} {ps:Hg}:∀ {k:Nat} {rs:List cG},(∀ r∈rs,tv u ps r=(r.q,0))->jn u ps k rs=.non
 | _,[],_=>rfl
 | k,r::rs,h=>by
  unfold jn;rw [if_pos (h r JD)];exact uC λr hr=>h r (JE _ hr)
def mV:cH:=λds S k=>∃ (n f:D) (ps:List Pt) (rods:List cG),ds=[.tup [n,f,.tup (rods.map cG.d)],.tup (ps.map gP)]/\(∀ p∈ps,xm 556350 p)/\ps.length<=90/\(∀ r∈rods,tW ps r)/\∀ S',b8 S S'->k .non S'
theorem fZ:ar ["linkage","place","found"] ["linkage","place"] (aj jN):=dZ
theorem qt {aC:Kr} (Fn:FN K "_law_wrong" jN f fd) (gZ:kd P w K mg base "first_wrong" 41 (kU aC)) (cK:mg "NoField"=some (.ref aC)) (io:PySem.W.exmOne K (.ref aC) (.ref aC)=some true):
  aQ P w K mg base de 42 f fd ["linkage","place"] (dw K mV):=by
 refine Fn.okJ fZ (λds S k h=>?_) (λcdv A outer s H E hr=>⟨_,(af (ak (i:=2) fZ.nd dN) (af (xo (i:=2) (λex=>(mo gZ (hr.mono (by decide)) rfl (aw 0 (aw 1 ac)))) (λ_=>hr.hd) rfl rfl rfl rfl cK fZ.nd rfl (.inl rfl) (λv=>(ag (ak (i:=2) fZ.nd dN)))) (ag (ai (ah 2))))),λds S k h=>?_⟩)
 ·obtain⟨_,_,_,_,rfl,_⟩:=h
  rfl
 ·obtain⟨n,f,ps,rods,rfl,hp,hl,hr,w⟩:=h;refine⟨n,f,ps,rods,rfl,hp,hl,λr h2=>?_,λu u0 hR S1 e1=>?_,λ_ S1 e1=>⟨io,w S1 e1⟩⟩
  ·obtain⟨p,q,h1,h3,_⟩:=hr r h2;exact⟨(J4.mp h1).1,(J4.mp h3).1⟩
  ·rw [uC λr h2=>?_]
   ·exact w S1 e1
   ·obtain⟨p,q,h1,h3,sq⟩:=hr r h2;unfold tv;rw [JX,JX,h1,h3];exact sq.at u0 (HR.mk2 (hR p (List.mem_of_getElem? h1)) (hR q (List.mem_of_getElem? h3)))
theorem yw {a b c:D} {r:List D}:DL.gq (a::b::c::r) none (some 2)=[a,b]:=by
 unfold DL.gq;have h1:HT.cM (a::b::c::r).length 0 none=0:=rfl;have h2:HT.cM (a::b::c::r).length (a::b::c::r).length (some 2)=2:=by unfold HT.cM; simp
 rw [h1,h2]
 rfl
theorem wC {a b c:D} {r:List D}:¬ (HT.cM (a::b::c::r).length 0 none=0/\HT.cM (a::b::c::r).length (a::b::c::r).length (some 2)=(a::b::c::r).length):=λh=>by
 have h2:HT.cM (a::b::c::r).length (a::b::c::r).length (some 2)=2:=by unfold HT.cM; simp
 rw [h2] at h;have:=h.2;simp at this
def oC:Rat:=⟨1,2,by decide,by decide⟩
def t7 (x1 y1 x2 y2:Rat):List bR:=[.fix x1 y1,.fix x2 y2,.crank 0 1,.pair 2 1 5 5 0,.like 2 3 oC 1]
theorem wB {x1 y1 x2 y2:Rat} (a1:Sz 4 x1) (b1:Sz 4 y1) (a2:Sz 4 x2) (b2:Sz 4 y2):Wf (t7 x1 y1 x2 y2):=
 ((((Wf.nil.snoc (s:=.fix x1 y1) ⟨a1,b1⟩).snoc (s:=.fix x2 y2) ⟨a2,b2⟩).snoc (s:=.crank 0 1) ⟨⟨_,_,rfl⟩,⟨by decide,by decide⟩,by decide⟩).snoc (s:=.pair 2 1 5 5 0) ⟨by show 2 < 3; decide,by show 1 < 3; decide,by decide,⟨by decide,by decide⟩,⟨by decide,by decide⟩,by decide,by decide,.inl rfl⟩).snoc (s:=.like 2 3 oC 1) ⟨by show 2 < 4; decide,by show 3 < 4; decide,by decide,⟨by decide,by decide⟩,⟨by decide,by decide⟩⟩
theorem uQ {x1 y1 x2 y2:Rat} (a1:Sz 4 x1) (b1:Sz 4 y1) (a2:Sz 4 x2) (b2:Sz 4 y2):Wf [.fix x1 y1,.fix x2 y2,.crank 0 1]:=
 ((Wf.nil.snoc (s:=.fix x1 y1) ⟨a1,b1⟩).snoc (s:=.fix x2 y2) ⟨a2,b2⟩).snoc (s:=.crank 0 1) ⟨⟨_,_,rfl⟩,⟨by decide,by decide⟩,by decide⟩
theorem mF {x1 y1 x2 y2:Rat}:bw (t7 x1 y1 x2 y2) 0 (t7 x1 y1 x2 y2) []=some [⟨0,2,1*1⟩,⟨2,3,5⟩,⟨1,3,5⟩,⟨2,4,(oC*oC+1*1)*5⟩,⟨3,4,((1 - oC)*(1 - oC)+1*1)*5⟩]:=by
 show(bI 2 3 4 oC 1 5).bind (λmore=>some ([⟨0,2,1*1⟩,⟨2,3,5⟩,⟨1,3,5⟩]++more))=_
 have e:bI 2 3 4 oC 1 5=some [⟨2,4,(oC*oC+1*1)*5⟩,⟨3,4,((1 - oC)*(1 - oC)+1*1)*5⟩]:=if_neg (by decide +kernel)
 rw [e]
 rfl
theorem lb {x1 y1 x2 y2:Rat}:bw [.fix x1 y1,.fix x2 y2,.crank 0 1] 0 [.fix x1 y1,.fix x2 y2,.crank 0 1] []=some [⟨0,2,1*1⟩]:=rfl
theorem Bf {c:DT} {t e b2:DS} {M:lF} {L:Lo} {S:DH} (P:Lo->DH->Prop) (h2:∀ L S,P L S->b2 M L S) (h1:(∀ L S,P L S->b2 M L S)->Bz c t e {M with nx:=b2 M} L S):ut (Bz c t e) b2 M L S:=h1 h2
def uu:cH:=λds S k=>∃ ns:List Int,ds=[.rl (List.map D.int ns)]/\ns.length<=63/\∀ S',k (.bl true) S'
theorem ij:ar ["script","k","state","machine","found","four","linkage","place","one","other","square"] ["script"] (aj yv):=dZ
theorem Et (Fn:FN K "law" yv f fd) (jJ:aZ P w K mg base "_law_state" 2 mx) (js:aZ P w K mg base "_law_rigid" 4 mY) (kT:aZ P w K mg base "_law_told" 43 n6) (iS:aZ P w K mg base "_law_drives" 4 lE) (jI:aZ P w K mg base "_law_wrong" 42 mV) (jU:aZ P w K mg base "is_linkage" 6 mP) (iu:aZ P w K mg base "square_apart" 41 kJ) (lh:aZ P w K mg base "freedom" 1 rE) (gI:aZ P w K mg base "linkage_of" 40 m_) (jb:mg "range"=none) (mH:mg "max"=none) (ng:mg "min"=none) (bO:mg "len"=none) (bc:mg "tuple"=none):
  aQ P w K mg base de 44 f fd ["script"] (dw K uu):=by
 refine Fn.okJ ij (λds S k h=>?_) (λcdv A outer s H E hr=>⟨_,(af (rL PassesOwn.never rfl rfl jb (aa (aJ zE rfl mH ve (aa aq (aa (aJ AY rfl ng vI (aa (aJ eI rfl bO eK (aw 0 ac)) (aa aq ac))) ac))) ac) (aG (i:=1) ij.nd) (af (ak (i:=2) ij.nd (dq jJ hr (aw 0 (aw 1 ac)))) (af (ak (i:=3) ij.nd (dq js hr (aw 2 ac))) (af (ak (i:=4) ij.nd (dq kT hr (aw 3 (aa (dq iS hr (aw 2 (aw 3 ac))) ac)))) (af (av (au pb (ah 4) dN (aD _)) (af (kB (ah 4) (dQ (n:=2) rfl (aL (aG (i:=6) ij.nd) (aL (aG (i:=7) ij.nd) cQ)))) (af (av (WJ.pt (eH (au pb (dq jU hr (aw 6 ac)) fN (aD _)) (cY (au pb (dq jI hr (aw 6 (aa (ir jf rfl bc dy (aw 7 ac)) ac))) dN (aD _))))) (ag (ai fN)) aE) (ag (dI PassesOwn.never rfl (ft 6) (dQ (n:=3) rfl (aL (aG (i:=8) ij.nd) (aL (aG (i:=9) ij.nd) (aL (aG (i:=10) ij.nd) cQ)))) (ag (av (au (n_ hr) (dq iu hr (aa (bb b_ (ah 7) (ah 8) Zf) (aa (bb b_ (ah 7) (ah 9) Zf) ac))) (aA (aw 10 (aa (aA (aa aq (aa aq ac))) ac))) (aD _)) (ag (ai fN)) aE)))))) aE) (af (ak (i:=5) ij.nd (aN fL (fY (ah 3) dF (dB aq)) (aA (aa (aA (aa b9 (aa aq (aa (aA (aa aq (aa aq ac))) ac)))) (aa (aA (aa b9 (aa aq (aa aq (aa (aA (aa aq (aa aq ac))) (aa (aA (aa aq (aa aq ac))) (aa aq ac))))))) (aa (aA (aa b9 (aa aq (aa aq (aa (aA (aa aq (aa aq ac))) (aa (aA (aa aq (aa aq ac))) ac)))))) ac)))))) (ag (av (WJ.pt (eH (au (n_ hr) (dq lh hr (aa (dq gI hr (aw 5 ac)) ac)) aq (aD _)) (cY (au (n_ hr) (dq lh hr (aa (dq gI hr (aa (fY (ah 5) dF (dB aq)) ac)) ac)) aq (aD _))))) (ag (ai fN)) aE)))))))) (ag (ai fN))),λds S k h=>?_⟩)
 ·obtain⟨_,rfl,_⟩:=h
  rfl
 ·obtain⟨ns,rfl,hl,w⟩:=h;have hb:∀ z:Int,0<=z->z<=63->-(2 ^ 62)<=z/\z < 2 ^ 62:=λz _ _=>by omega
  refine⟨hb _ (by split <;> (try split) <;> omega) (by rw [Jy]; split <;> (try split) <;> omega),?_⟩
  refine uz (P:=λd=>∃ i:Int,d=.int i/\0<=i) (λL S'=>∃ r1 r2 r3 r4 r5 r6 r7 r8 r9 ra,L=[some (.rl (List.map D.int ns)),r1,r2,r3,r4,r5,r6,r7,r8,r9,ra]) (λ_ _ _=>trivial) ?_ (λL S' _=>w S') _ ?_ _ _ ⟨_,_,_,_,_,_,_,_,_,_,rfl⟩
  ·rintro d L S1 Nx ⟨i,rfl,hi⟩ ⟨r1,r2,r3,r4,r5,r6,r7,r8,r9,ra,rfl⟩ hN;refine⟨ns,i,rfl,hi,λp n0 b hp hnb=>?_⟩
   have hS:tO (put S1 p (.lst [.int n0,.bl b])) p:=⟨n0,b,am,hnb⟩;generalize put S1 p (.lst [.int n0,.bl b])=T1 at hS ⊢;refine⟨p,rfl,hS,λms S2 hw hg d2=>?_⟩
   obtain⟨hfx,hcr,hcx,h7,h3⟩:=hg.is;refine⟨p,ms,rfl,d2.1,h7,λos S3 ho hd d3=>?_⟩
   have tail:∀ (L:Lo) (S':DH),(∃ r1 r2 r4 r5 r6 r7 r8 r9 ra,L=[some (.rl (List.map D.int ns)),r1,r2,some (MD ms),r4,r5,r6,r7,r8,r9,ra])->Nx L S':=λL S' h=>by
    obtain⟨_,_,_,_,_,_,_,_,_,rfl⟩:=h;exact hN _ _ ⟨_,_,_,_,_,_,_,_,_,_,rfl⟩
   refine⟨ms,os,rfl,hw,hg,ho,hd,λS4 e4=>?_,λrods ps q S4 hr hst hok e4 h4=>?_⟩
   ·clear ho os hd
    show ut _ _ _ _ S4
    obtain⟨x1,y1,x2,y2,c,l,rs,rfl,h44,ha⟩:=hg;obtain⟨a1,b1⟩:Sz 4 x1/\Sz 4 y1:=hw 0 _ rfl;obtain⟨a2,b2⟩:Sz 4 x2/\Sz 4 y2:=hw 1 _ rfl;refine⟨wC,bZ,bZ,bZ,bZ,bZ,bZ,bZ,bZ,bZ,?_⟩
    show Fu (.tup (DL.gq (_::_::_::_) none (some 2))) _ _ _
    rw [yw];refine⟨(λz=>by cases z),(λz=>by cases z),Nat.le_of_lt (jD (by show 2+3 < 300; decide)),t7 x1 y1 x2 y2,rfl,wB a1 b1 a2 b2,by show 5<=7; decide,(λz=>by rw [mF] at z; cases z),λrods5 S5 hr5 e5=>?_⟩
    rw [mF] at hr5;cases hr5;refine⟨_,_,_,rfl,(by show Bt 100 5; decide),true,rfl,dj (λz=>by cases z) (λ_=>?_)⟩
    refine⟨by show ¬ (HT.cM 5 0 none=0/\HT.cM 5 5 (some 3)=5); decide,[.fix x1 y1,.fix x2 y2,.crank 0 1],rfl,uQ a1 b1 a2 b2,by show 3<=7; decide,(λz=>by rw [lb] at z; cases z),λrods6 S6 hr6 e6=>?_⟩
    rw [lb] at hr6;cases hr6;exact⟨_,_,_,rfl,(by show Bt 100 3; decide),true,rfl,dj (λz=>by cases z) (λ_=>tail _ _ ⟨_,_,_,_,_,_,_,_,_,rfl⟩)⟩
   ·dsimp only
    show ut (Bz _ _ _) _ _ _ _
    refine Bf (λL _=>∃ r1 r2 r4 r5 r6 r7 r8 r9 ra,L=[some (.rl (List.map D.int ns)),r1,r2,some (MD ms),r4,r5,r6,r7,r8,r9,ra]) ?_ (λhQ=>?_)
    ·clear hst hok h4 e4 hr;rintro L S4 ⟨r1,r2,r4,r5,r6,r7,r8,r9,ra,rfl⟩;obtain⟨x1,y1,x2,y2,c,l,rs,rfl,h44,ha⟩:=hg;obtain⟨a1,b1⟩:Sz 4 x1/\Sz 4 y1:=hw 0 _ rfl;obtain⟨a2,b2⟩:Sz 4 x2/\Sz 4 y2:=hw 1 _ rfl;refine⟨wC,bZ,bZ,bZ,bZ,bZ,bZ,bZ,bZ,bZ,?_⟩
     show Fu (.tup (DL.gq (_::_::_::_) none (some 2))) _ _ _
     rw [yw];refine⟨(λz=>by cases z),(λz=>by cases z),Nat.le_of_lt (jD (by show 2+3 < 300; decide)),t7 x1 y1 x2 y2,rfl,wB a1 b1 a2 b2,by show 5<=7; decide,(λz=>by rw [mF] at z; cases z),λrods5 S5 hr5 e5=>?_⟩
     rw [mF] at hr5;cases hr5;refine⟨_,_,_,rfl,(by show Bt 100 5; decide),true,rfl,dj (λz=>by cases z) (λ_=>?_)⟩
     refine⟨by show ¬ (HT.cM 5 0 none=0/\HT.cM 5 5 (some 3)=5); decide,[.fix x1 y1,.fix x2 y2,.crank 0 1],rfl,uQ a1 b1 a2 b2,by show 3<=7; decide,(λz=>by rw [lb] at z; cases z),λrods6 S6 hr6 e6=>?_⟩
     rw [lb] at hr6;cases hr6;exact⟨_,_,_,rfl,(by show Bt 100 3; decide),true,rfl,dj (λz=>by cases z) (λ_=>tail _ _ ⟨_,_,_,_,_,_,_,_,_,rfl⟩)⟩
    ·have rin:=zu (rs:=ms) hw hst hcx hok rfl (λ_ h=>by cases h) hr
     have rk:=vz (rs:=ms) hw rfl RK.nil hr;have len:=rk.len;rw [Nat.zero_add,List.take_length,hcr] at len;have pok:∀ p∈ps,xm 556350 p:=λp hp=>(hok p hp).pok.mono (ID hcx)
     have lps:=hst.len;refine⟨(_,none),rfl,rfl,rfl,lY ms rods,rfl,Bh hg (by omega),λS5 e5=>?_⟩
     rw [Fa hw hg hr];refine⟨_,e5 _ _ h4,_,_,ps,rods,rfl,pok,by omega,rin,λS6 e6=>⟨_,rfl,(rods.map cG.d,none),rfl,?_⟩⟩
     refine dP (λr L S'=>∃ (rs:List cG) (r1 r2 r4 r5 r8 r9 ra:Ks D),L=[some (.rl (List.map D.int ns)),r1,r2,some (MD ms),r4,r5,some (lY ms rods),some (.ref q),r8,r9,ra]/\S' q=some (.lst (ps.map gP))/\r=rs.map cG.d/\∀ r∈rs,tW ps r) (λ_ _ _ _=>trivial) ?_ ?_ _ _ _ ⟨rods,_,_,_,_,_,_,_,rfl,e6 _ _ (e5 _ _ h4),rfl,rin⟩
     ·rintro d r L S7 N1 ⟨rs,r1,r2,r4,r5,r8,r9,ra,rfl,h7',er,hin⟩ hN7;cases rs with
      | nil=>cases er
      | cons r0 rs=>
       cases er;obtain⟨p1,p2,g1,g2,sq⟩:=hin r0 JD;have⟨u1,u10,hR1,_⟩:=sq;refine⟨([.int (r0.i:Nat),.int (r0.j:Nat),fr r0.q],none),rfl,rfl,rfl,_,_,h7',vo g1,_,_,h7',vo g2,p1,p2,rfl,pok _ (List.mem_of_getElem? g1),pok _ (List.mem_of_getElem? g2),Dz u10 hR1,λu S8 u0 hR e8=>⟨bZ,bZ,_,CW u0,dj (λz=>?_) (λ_=>hN7 _ _ ⟨rs,_,_,_,_,_,_,_,rfl,e8 _ _ h7',rfl,λr hr2=>hin r (JE _ hr2)⟩)⟩⟩
       rw [decide_eq_true (sq.at u0 hR)] at z;cases z
     ·rintro L S7 ⟨rs,r1,r2,r4,r5,r8,r9,ra,rfl,h7',er,hin⟩;exact hQ _ _ ⟨_,_,_,_,_,_,_,_,_,rfl⟩
  ·intro d hd;obtain⟨z,_,rfl⟩:=Jx.mp hd;exact⟨_,rfl,by omega⟩
theorem CA (ns:List Int) (h:ns.length<=63):uu [.rl (List.map D.int ns)] (λ_=>none) (λd _=>d=.bl true):=⟨ns,rfl,h,λ_=>rfl⟩
end My
def PySem.W.Fast.tw3033147590983149882:Unit:=()
def PySem.W.Fast.tw6437766882200768830:Unit:=()
def PySem.W.Fast.tw8220355096987896509:Unit:=()
def PySem.W.Fast.tw7036474333371601965:Unit:=()
def PySem.W.Fast.tw10052048101855451811:Unit:=()
def PySem.W.Fast.tw1669165832842601888:Unit:=()
def PySem.W.Fast.tw16102728133665197080:Unit:=()
def PySem.W.Fast.tw13147019512696106643:Unit:=()
def PySem.W.Fast.tw18180361872911315109:Unit:=()
def PySem.W.Fast.tw5046189832424082610:Unit:=()
def PySem.W.Fast.tw15056226978134361615:Unit:=()
def PySem.W.Fast.tw13251168820178214561:Unit:=()
def PySem.W.Fast.tw17216359277932565374:Unit:=()
def PySem.W.Fast.tw11440238397385586472:Unit:=()
def PySem.W.Fast.tw2191667263005556095:Unit:=()
def PySem.W.Fast.tw10862360664544645635:Unit:=()
def PySem.W.Fast.tw13386834268810414403:Unit:=()
def PySem.W.Fast.tw16933160372074609464:Unit:=()
def PySem.W.Fast.tw1148060417833407725:Unit:=()
def PySem.W.Fast.tw17819587727044531277:Unit:=()
def PySem.W.Fast.tw6778622864278153354:Unit:=()
def PySem.W.Fast.tw4604280607170098000:Unit:=()
def PySem.W.Fast.tw3688783555563657882:Unit:=()
def PySem.W.Fast.tw2770867970995639597:Unit:=()
def PySem.W.Fast.tw4305740379279014303:Unit:=()
def PySem.W.Fast.tw4489164501133624297:Unit:=()
def PySem.W.Fast.tw6161695312698681556:Unit:=()
def PySem.W.Fast.tw16602353734134491882:Unit:=()
def PySem.W.Fast.tw1510364322973648236:Unit:=()
def PySem.W.Fast.tw12305754079527793381:Unit:=()
def PySem.W.Fast.tw14885670280542608141:Unit:=()
def PySem.W.Fast.tw14268076388031268389:Unit:=()
def PySem.W.Fast.tw15045799561185177664:Unit:=()
def PySem.W.Fast.tw11180048006855161878:Unit:=()
def PySem.W.Fast.tw14675697364768860349:Unit:=()
def PySem.W.Fast.tw12838666542863123472:Unit:=()
def PySem.W.Fast.tw12655413352966214704:Unit:=()
def PySem.W.Fast.tw15342177460647529643:Unit:=()
def PySem.W.Fast.tw18157043857239810190:Unit:=()
def PySem.W.Fast.tw14564443493863051588:Unit:=()
def PySem.W.Fast.tw9261722159120097695:Unit:=()
def PySem.W.Fast.tw5881711520556717901:Unit:=()
def PySem.W.Fast.tw9666496666259732541:Unit:=()
def PySem.W.Fast.tw14320188483161903548:Unit:=()
def PySem.W.Fast.tw12190068524336546442:Unit:=()
def PySem.W.Fast.tw6420319350441861545:Unit:=()
def PySem.W.Fast.tw6446277733487591371:Unit:=()
def PySem.W.Fast.tw163336051054664001:Unit:=()
def PySem.W.Fast.tw7222076652100214646:Unit:=()
def PySem.W.Fast.tw10400683226187017655:Unit:=()
def PySem.W.Fast.tw14645508573538104707:Unit:=()
def PySem.W.Fast.tw2261836655986347708:Unit:=()
def PySem.W.Fast.tw11349897257067631258:Unit:=()
def PySem.W.Fast.tw2498695226478379280:Unit:=()
def PySem.W.Fast.tw7721505198216055557:Unit:=()
def PySem.W.Fast.tw9017338486439656496:Unit:=()
def PySem.W.Fast.tw9916632969145479091:Unit:=()
def PySem.W.Fast.tw15997515170315808456:Unit:=()
def PySem.W.Fast.tw5263976089882219236:Unit:=()
def PySem.W.Fast.tw10246566060756589025:Unit:=()
def PySem.W.Fast.tw3517031810032379053:Unit:=()
def PySem.W.Fast.tw7434288309079391236:Unit:=()
def PySem.W.Fast.tw10659800770641044509:Unit:=()
def PySem.W.Fast.tw16841466379454884141:Unit:=()
def PySem.W.Fast.tw15441067020635620650:Unit:=()
def PySem.W.Fast.tw8014834104320174832:Unit:=()
def PySem.W.Fast.tw9902868039923238177:Unit:=()
def PySem.W.Fast.tw11490011870775711981:Unit:=()
def PySem.W.Fast.tw3728293920444759693:Unit:=()
def PySem.W.Fast.tw10048466881485402766:Unit:=()
def PySem.W.Fast.tw9938616039410080477:Unit:=()
def PySem.W.Fast.tw10111827520816382647:Unit:=()
def PySem.W.Fast.tw5485606904294485403:Unit:=()
def PySem.W.Fast.tw14781364420151698229:Unit:=()
def PySem.W.Fast.tw15641958847273567824:Unit:=()
def PySem.W.Fast.tw15068948682056507386:Unit:=()
def PySem.W.Fast.tw17179950319401915176:Unit:=()
def PySem.W.Fast.tw6993187065305753317:Unit:=()
def PySem.W.Fast.tw13291559162828478091:Unit:=()
def PySem.W.Fast.tw10322517276883095835:Unit:=()
def PySem.W.Fast.tw7823491428563341803:Unit:=()
def PySem.W.Fast.tw13893614570681278766:Unit:=()
def PySem.W.Fast.tw5033809536030055168:Unit:=()
def PySem.W.Fast.tw9878629487970310611:Unit:=()
def PySem.W.Fast.tw17673108397566468152:Unit:=()
def PySem.W.Fast.tw11088223190952898497:Unit:=()
def PySem.W.Fast.tw6076346133022463798:Unit:=()
def PySem.W.Fast.tw9658000382371582113:Unit:=()
def PySem.W.Fast.tw1756811020066051465:Unit:=()
def PySem.W.Fast.tw16412163175098953769:Unit:=()
namespace My
open PySem PySem.Spec PyProof.Rows L2 DL HM
set_option maxHeartbeats 4000000
theorem D9 {l:PySem.W.OpenLaw} {w:Kw} {K:Fg} {h:Kx} {mg:Str->Ks Kq} {fa:Kr} (X:K.In h) (G:h.Ns mainGlobals mg) (hfa:mg "law"=some (.ref fa))
  {f1 f2 f3 f4 f5 f6 f7 f8 f9 f10 f11 f12 f13 f14 f15 f16 f17 f18 f19 f20 f21 f22 f23 f24 f25 f26 f27 f28 f29 f30 f31 f32 f33 f34 f35 f36 f37 f38 f39 f40 f41 f42 f43 f44 f45 f46 f47 f48 f49 f50 f51 f52 f53 f54 f55 f56 f57 f58 f59 f60 f61 f62 f63 f64 f65 f66 f67 f68 f69:Kr} {cd1 cd2 cd3 cd4 cd5 cd6 cd7 cd8 cd9 cd10 cd11 cd12 cd13 cd14 cd15 cd16 cd17 cd18 cd19 cd20 cd21 cd22 cd23 cd24 cd25 cd26 cd27 cd28 cd29 cd30 cd31 cd32 cd33 cd34 cd35 cd36 cd37 cd38 cd39 cd40 cd41 cd42 cd43 cd44 cd45 cd46 cd47 cd48 cd49 cd50 cd51 cd52 cd53 cd54 cd55 cd56 cd57 cd58 cd59 cd60 cd61 cd62 cd63 cd64 cd65 cd66 cd67 cd68 cd69:Kq}
  {ti_MOST_RODS:Tok}
  {ti_MOST_JOINTS:Tok}
  {qg:Kr} {xX:Ks Kr} {xF:Kz (Ks Kq)} {zC:Nat} {yg ya:Tok}
  {zK:Kr} {Ef:Ks Kr} {D3:Kz (Ks Kq)} {FC:Nat} {Es DY:Tok}
  {aB:Kr}
  {aC:Kr}
  {ck:Kr}
  {bj:Kr}
  {fi_Stuck:Kr} {cdi_Stuck:Kq}
  (d1:DI K "common_divisor" fU f1 cd1)
  (d2:DI K "ratio" sI f2 cd2)
  (d3:DI K "plus" vX f3 cd3)
  (d4:DI K "minus" tH f4 cd4)
  (d5:DI K "times" tm f5 cd5)
  (d6:DI K "over" wc f6 cd6)
  (d7:DI K "negative" l8 f7 cd7)
  (d8:DI K "without_sign" g6 f8 cd8)
  (d9:DI K "whole_root" je f9 cd9)
  (d10:DI K "square_root_or_none" dO f10 cd10)
  (d11:DI K "root_in" nL f11 cd11)
  (d12:DI K "is_plain" l_ f12 cd12)
  (d13:DI K "with_sign_of" il f13 cd13)
  (d14:DI K "made" wd f14 cd14)
  (d15:DI K "field_base" jP f15 cd15)
  (d16:DI K "share" tE f16 cd16)
  (d17:DI K "joined" p9 f17 cd17)
  (d18:DI K "root_negative" gs f18 cd18)
  (d19:DI K "root_plus" kq f19 cd19)
  (d20:DI K "root_minus" jm f20 cd20)
  (d21:DI K "root_times" jM f21 cd21)
  (d22:DI K "way_between" iL f22 cd22)
  (d23:DI K "square_of_way" gr f23 cd23)
  (d24:DI K "plain_point" iQ f24 cd24)
  (d25:DI K "place_of" ma f25 cd25)
  (d26:DI K "plain_way" kR f26 cd26)
  (d27:DI K "product_of_ways" fD f27 cd27)
  (d28:DI K "moved" tF f28 cd28)
  (d29:DI K "moved_by_root" gB f29 cd29)
  (d30:DI K "both_moved" jG f30 cd30)
  (d31:DI K "square_of_unlike" dr f31 cd31)
  (d32:DI K "one_field" kO f32 cd32)
  (d33:DI K "ask_one_field" eS f33 cd33)
  (d34:DI K "circles_meet" fE f34 cd34)
  (d35:DI K "direction_of" ie f35 cd35)
  (d36:DI K "crank_end" kr f36 cd36)
  (d37:DI K "is_plain_point" fQ f37 cd37)
  (d38:DI K "pair_point" gO f38 cd38)
  (d39:DI K "like_at" lf f39 cd39)
  (d40:DI K "_law_cell_at" gY f40 cd40)
  (d41:DI K "_law_state" jF f41 cd41)
  (d42:DI K "_law_take" kz f42 cd42)
  (d43:DI K "_law_divisor" iA f43 cd43)
  (d44:DI K "_law_ratio" jc f44 cd44)
  (d45:DI K "_law_times" jk f45 cd45)
  (d46:DI K "_law_small" ju f46 cd46)
  (d47:DI K "_law_above" jW f47 cd47)
  (d48:DI K "_law_two_joints" fH f48 cd48)
  (d49:DI K "_law_rigid" jO f49 cd49)
  (d50:DI K "stand" o_ f50 cd50)
  (d51:DI K "steady_square" eZ f51 cd51)
  (d52:DI K "rods_of_like" fJ f52 cd52)
  (d53:DI K "rods_of_step" fF f53 cd53)
  (d54:DI K "linkage_of" gN f54 cd54)
  (d55:DI K "first_wrong" fX f55 cd55)
  (d56:DI K "is_whole" mf f56 cd56)
  (d57:DI K "is_fraction" iR f57 cd57)
  (d58:DI K "is_above_nought" fC f58 cd58)
  (d59:DI K "is_joint" lO f59 cd59)
  (d60:DI K "is_rod" pj f60 cd60)
  (d61:DI K "are_fixed" km f61 cd61)
  (d62:DI K "are_rods" lV f62 cd62)
  (d63:DI K "is_linkage" jz f63 cd63)
  (d64:DI K "square_apart" ia f64 cd64)
  (d65:DI K "freedom" nD f65 cd65)
  (d66:DI K "_law_drives" iP f66 cd66)
  (d67:DI K "_law_told" kF f67 cd67)
  (d68:DI K "_law_wrong" jN f68 cd68)
  (d69:DI K "law" yv f69 cd69)
  (jK:PySem.W.nsIn K mainGlobals "MOST_RODS"=some (some (.int 12 ti_MOST_RODS)))
  (hG:PySem.W.nsIn K mainGlobals "MOST_JOINTS"=some (some (.int 8 ti_MOST_JOINTS)))
  (nU:PySem.W.nsIn K mainGlobals "NOUGHT"=some (some (.ref qg))) (nR:K.lookup qg=some ⟨.type "tuple",xX,.seq #[.int 0 yg,.int 1 ya] zC,xF⟩)
  (vg:PySem.W.nsIn K mainGlobals "ONE"=some (some (.ref zK))) (wg:K.lookup zK=some ⟨.type "tuple",Ef,.seq #[.int 1 Es,.int 1 DY] FC,D3⟩)
  (ji:PySem.W.nsIn K mainGlobals "NoMachine"=some (some (.ref aB)))
  (me:PySem.W.nsIn K mainGlobals "NoField"=some (some (.ref aC)))
  (pJ:PySem.W.nsIn K mainGlobals "Stuck"=some (some (.ref ck)))
  (nY:PySem.W.nsIn K mainGlobals "NoMeet"=some (some (.ref bj)))
  (jQ:PySem.W.excIn K aC [.type "ValueError",.type "Exception",.type "BaseException",.type "object"] "ValueError.__new__"=true)
  (ll:PySem.W.excIn K bj [.type "ValueError",.type "Exception",.type "BaseException",.type "object"] "ValueError.__new__"=true)
  (ei_Stuck:EI K [.type "ValueError",.type "Exception",.type "BaseException",.type "object"] "Stuck.__init__" "step" wL ck fi_Stuck cdi_Stuck)
  (gR:PySem.W.excIn K aB [.type "ValueError",.type "Exception",.type "BaseException",.type "object"] "ValueError.__new__"=true)
  (xn_NoMachine_NoField_Stuck_NoMachine:PySem.W.exmAny K (.ref aB) [.ref aB,.ref aC,.ref ck]=some true)
  (xn_NoMachine_NoField_Stuck_NoField:PySem.W.exmAny K (.ref aC) [.ref aB,.ref aC,.ref ck]=some true)
  (xn_NoMachine_NoField_Stuck_Stuck:PySem.W.exmAny K (.ref ck) [.ref aB,.ref aC,.ref ck]=some true)
  (io:PySem.W.exmOne K (.ref aC) (.ref aC)=some true)
  (i7:PySem.W.exmOne K (.ref bj) (.ref bj)=some true)
  (hTr:l.prog.given.tree=none)
  (zl:PySem.W.nsIn K mainGlobals "abs"=some none) (Au:PySem.W.nsIn K mainGlobals "zip"=some none) (yS:PySem.W.nsIn K mainGlobals "len"=some none) (se:PySem.W.nsIn K mainGlobals "range"=some none) (sF:PySem.W.nsIn K mainGlobals "tuple"=some none) (k_:PySem.W.nsIn K mainGlobals "enumerate"=some none) (As:PySem.W.nsIn K mainGlobals "max"=some none) (zg:PySem.W.nsIn K mainGlobals "min"=some none) (jC:PySem.W.nsIn K mainGlobals "isinstance"=some none) (u_:PySem.W.nsIn K mainGlobals "bool"=some none) (zX:PySem.W.nsIn K mainGlobals "int"=some none) (Ab:PySem.W.nsIn K mainGlobals "all"=some none):
  ∃ fd:FuncData,(∀ (s:Ko) (v:Kq),BindsTo s fd ⟨[v],[]⟩ [("script",v)])/\∀ base:Kx,K.In base->base.Ns mainGlobals mg->pe mg base->PySem.W.CodeAll [] base->aQ l.prog w K mg base de 44 fa fd ["script"] (dw K uu):=by
 have e:=hfa.symm.trans (PySem.W.mg_of X G d69.a);cases e;have lG:=Ka X G zl;have qW:=Ka X G Au;have bO:=Ka X G yS;have jb:=Ka X G se;have bc:=Ka X G sF;have aW:=Ka X G k_;have mH:=Ka X G As;have ng:=Ka X G zg;have aO:=Ka X G jC;have vR:=Ka X G u_;have zM:=Ka X G zX;have om:=Ka X G Ab;have cO:=PySem.W.mg_of X G ji;have cK:=PySem.W.mg_of X G me;have lq:=PySem.W.mg_of X G pJ;have iX:=PySem.W.mg_of X G nY;have qi_Stuck:yK K mg "Stuck" ck:=ei_Stuck.err lq PySem.F.excBase_ValueError PySem.F.store_ValueError yD ⟨_,_,_,_,rfl⟩ (by rw [typeLookup_type,builtinLookup_eq_fast]; kernel_rfl)
 have kQ:AX mg "MOST_RODS" 12:=⟨_,PySem.W.mg_of X G jK⟩
 have iU:AX mg "MOST_JOINTS" 8:=⟨_,PySem.W.mg_of X G hG⟩
 have a9:mq K mg "NOUGHT" [0,1]:=⟨qg,_,_,_,PySem.W.mg_of X G nU,nR,rfl,rfl,JL rfl,.cons ⟨_,rfl⟩ (.cons ⟨_,rfl⟩ (.nil))⟩
 have k6:mq K mg "ONE" [1,1]:=⟨zK,_,_,_,PySem.W.mg_of X G vg,wg,rfl,rfl,JL rfl,.cons ⟨_,rfl⟩ (.cons ⟨_,rfl⟩ (.nil))⟩
 obtain⟨fd,Fn,hc,hb⟩:=d69.fn;refine⟨fd,hb,λbase _ _ hBl hCA=>?_⟩
 have zb:Bs l.prog w base:=.mk;have cy:=d1.own zb X G λ_ F _=>mS F lG
 have eW:=d2.own zb X G λ_ F _=>zR F cy hBl hTr
 have bL:=d3.own zb X G λ_ F _=>Bc F eW
 have ca:=d4.own zb X G λ_ F _=>zI F eW
 have aK:=d5.own zb X G λ_ F _=>zA F eW
 have dM:=d6.own zb X G λ_ F _=>BP F eW
 have a8:=d7.own zb X G λ_ F _=>uq F
 have a_:=d8.own zb X G λ_ F _=>oG F lG
 have jR:=d9.own zb X G λ_ F _=>qA F hBl hTr
 have cF:=d10.own zb X G λ_ F _=>jl F jR
 have eB:=d11.own zb X G λ_ F _=>we F cF
 have ba:=d12.own zb X G λ_ F _=>uI F
 have bf:=d13.own zb X G λ_ F _=>ow F a8
 have vy:=d14.own zb X G λ_ F _=>CD F eB a_ bL bf a9
 have eA:=d15.own zb X G λ_ F _=>qJ F a_ ba
 have iK:=d16.own zb X G λ_ F _=>yB F ba eB dM a_ bf a9
 have i5:=d17.own zb X G λ_ F _=>yn F aK bf
 have gC:=d18.own zb X G λ_ F _=>nJ F a8
 have bg:=d19.own zb X G λ_ F _=>s_ F eA bL iK i5
 have cf:=d20.own zb X G λ_ F _=>qy F bg gC
 have aX:=d21.own zb X G λ_ F _=>qN F eA iK bL aK i5
 have aU:=d22.own zb X G λ_ F _=>p5 F cf
 have bB:=d23.own zb X G λ_ F _=>nE F bg aX
 have bn:=d24.own zb X G λ_ F _=>pT F a9
 have cz:=d25.own zb X G λ_ F _=>ui F
 have bW:=d26.own zb X G λ_ F _=>sJ F ca
 have aF:=d27.own zb X G λ_ F _=>lW F bL aK
 have gG:=d28.own zb X G λ_ F _=>yC F bL aK
 have eV:=d29.own zb X G λ_ F _=>n4 F aK vy bf qW
 have ek:=d30.own zb X G λ_ F _=>qj F bn a8 eV
 have fc:=d31.own zb X G λ_ F _=>lv F aF
 have eG:=d31.ownX zb X G λ_ F=>kG F aF iX ll
 have fk:=d32.own zb X G λ_ F _=>tw F ba eB dM a_
 have bA:=d33.own zb X G λ_ F _=>nN F ba fk
 have cw:=d33.ownX zb X G λ_ F=>mw F fk ba cK jQ
 have Al:=d34.own zb X G λ_ F _=>oF F cz bW fc dM bL ca aK ek a8 gG
 have gw:=d34.ownX zb X G λ_ F=>nM F ek a8 gG ca aK dM bL bW cz eG
 have hU:=d35.own zb X G λ_ F _=>oK F a8 aK bL dM ca a9 k6
 have fh:=d36.own zb X G λ_ F _=>sw F bn gG hU cz
 have bH:=d37.own zb X G λ_ F _=>my F ba
 have jH:=d38.own zb X G λ_ F _=>qH F bH bO
 have iW:=d38.ownX zb X G λ_ F=>ph F bH gw bO lq qi_Stuck iX ll cK jQ i7
 have nG:=d39.own zb X G λ_ F _=>wm F bA aU cf aX bg a9
 have lS:=d39.ownX zb X G λ_ F=>uA F bg aX cf aU cw a9
 have ic:=d40.own zb X G λ_ F _=>ox F bO
 have jJ:=d41.own zb X G λ_ F _=>qK F ic
 have aH:=d42.own zb X G λ_ F _=>rV F
 have im:=d43.own zb X G λ_ F _=>oM F lG
 have cq:=d44.own zb X G λ_ F _=>qk F im
 have jh:=d45.own zb X G λ_ F _=>qM F cq
 have bp:=d46.own zb X G λ_ F _=>qv F cq aH
 have gM:=d47.own zb X G λ_ F _=>qu F cq aH
 have fG:=d48.own zb X G λ_ F _=>ml F aH
 have js:=d49.own zb X G λ_ F _=>qr F bp gM aH fG jh jb bO bc
 have G_:=d50.own zb X G λ_ F _=>AF F bn fh jH nG aW
 have pH:=d50.ownX zb X G λ_ F=>xW F bn fh iW lS aW
 have gy:=d51.own zb X G λ_ F _=>nC F bW aF mH ng
 have fS:=d51.ownX zb X G λ_ F=>mM F aF bW mH ng cO gR
 have iz:=d52.own zb X G λ_ F _=>oR F gy ca aK aF k6
 have gu:=d52.ownX zb X G λ_ F=>nZ F ca aK aF fS k6 cO gR
 have hZ:=d53.own zb X G λ_ F _=>oO F aK iz
 have gz:=d53.ownX zb X G λ_ F=>nq F aK gu
 have gI:=d54.own zb X G λ_ F _=>qz F hZ aW bc bO
 have iN:=d54.ownX zb X G λ_ F=>pQ F gz bc bO aW
 have A4:=d55.own zb X G λ_ F _=>pG F bA bB aU aW a9
 have gZ:=d55.ownX zb X G λ_ F=>oJ F bB aU cw aW a9
 have cU:=d56.own zb X G λ_ F _=>uj F aO vR zM
 have iT:=d57.own zb X G λ_ F _=>pE F cU cy bO aO bc
 have fy:=d58.own zb X G λ_ F _=>lN F iT
 have fb:=d59.own zb X G λ_ F _=>uE F cU
 have pM:=d60.own zb X G λ_ F _=>xq F fb fy bO aO bc
 have kE:=d61.own zb X G λ_ F _=>rY F fb aO bc om qW
 have lM:=d62.own zb X G λ_ F _=>ue F pM bO aO bc om kQ
 have jU:=d63.own zb X G λ_ F _=>qF F cU lM kE bO aO bc iU
 have iu:=d64.own zb X G λ_ F _=>oH F bA bB aU
 have lh:=d65.own zb X G λ_ F _=>wo F bO
 have iS:=d66.own zb X G λ_ F _=>pw F bp aH bc
 have kT:=d67.own zb X G λ_ F _=>sG F iN pH cO cK lq xn_NoMachine_NoField_Stuck_NoMachine xn_NoMachine_NoField_Stuck_NoField xn_NoMachine_NoField_Stuck_Stuck
 have jI:=d68.own zb X G λ_ F _=>qt F gZ cK io
 exact Et Fn jJ js kT iS jI jU iu lh gI jb mH ng bO bc
theorem walk {l:PySem.W.OpenLaw} {q:Ku} {loose:List Str} {XP:(Str->Ks Kq)->Kx->Prop} {YP:Kw->Kx->Prop} {d:DefRec} {K:Params->Fg} (himp:importsNone q=true) (hn:l.most=some 63) (hdf:d.params.defaults=[])
  (hY:∀ (w:Kw) (h:Kx),YP w h->(K w.params).In h)
  (hnK:∀ w:Kw,PySem.W.noTabs (K w.params)=true) (hT:∀ (w:Kw) (h:Kx),YP w h->PySem.W.TabsAt [] h)
  (F:∀ (w:Kw) (mg:Str->Ks Kq) (fa:Kr) (h:Kx),(K w.params).In h->h.Ns mainGlobals mg->mg d.name=some (.ref fa)->
   ∃ fd:FuncData,(∀ (s:Ko) (u:Kq),BindsTo s fd ⟨[u],[]⟩ [("script",u)])/\∀ base:Kx,(K w.params).In base->base.Ns mainGlobals mg->pe mg base->PySem.W.CodeAll [] base->aQ l.prog w (K w.params) mg base de 44 fa fd ["script"] (dw (K w.params) uu)):
  PySem.W.WalkO q loose XP YP l.row.toRowW d [] (λf vs=>PySem.call f vs):=
 L2.AO (n:=63) (k:=44) (x:="script") (CX:=λ_=>de) (sp:=λw=>dw (K w.params) uu) himp hn (by decide) hdf ⟨rfl,by decide,by decide⟩ hY hnK hT F
  (λw H a ns hl ho hS=>DL.Bk (tq:=[]) ho hS (by simp) (CA ns hl)) λ_ _ _ _ _ z=>z
end My
open PySem PySem.W PyProof.Rows
set_option maxRecDepth 100000 in
set_option maxHeartbeats 0 in
theorem PySem.Challenge.cw_hingedraw_k44_whole_stands_are_places_holds : PySem.Challenge.rw_hingedraw_k44_whole_stands_are_places.Holds := by
 w_on; o_law; k_head; (case hw=>w_witness2)
 k_fill
 refine My.walk (l := PySem.Challenge.rw_hingedraw_k44_whole_stands_are_places) ?imp rfl rfl (λw h Y => PySem.W.kIn_of Y) ?nK ?xs ?F
 case imp=>kernel_rfl
 case nK=>intro w; kernel_rfl
 case xs=>intro w h Y; exact λ_ h=>nomatch h
 case F=>
  intro w mg fa h KX G hmg;refine' My.D9 KX G hmg ?d1 ?d2 ?d3 ?d4 ?d5 ?d6 ?d7 ?d8 ?d9 ?d10 ?d11 ?d12 ?d13 ?d14 ?d15 ?d16 ?d17 ?d18 ?d19 ?d20 ?d21 ?d22 ?d23 ?d24 ?d25 ?d26 ?d27 ?d28 ?d29 ?d30 ?d31 ?d32 ?d33 ?d34 ?d35 ?d36 ?d37 ?d38 ?d39 ?d40 ?d41 ?d42 ?d43 ?d44 ?d45 ?d46 ?d47 ?d48 ?d49 ?d50 ?d51 ?d52 ?d53 ?d54 ?d55 ?d56 ?d57 ?d58 ?d59 ?d60 ?d61 ?d62 ?d63 ?d64 ?d65 ?d66 ?d67 ?d68 ?d69 ?jK ?hG ?nU ?nR ?vg ?wg ?ji ?me ?pJ ?nY ?jQ ?ll ?ei_Stuck ?gR ?xn_NoMachine_NoField_Stuck_NoMachine ?xn_NoMachine_NoField_Stuck_NoField ?xn_NoMachine_NoField_Stuck_Stuck ?io ?i7 ?hTr ?zl ?Au ?yS ?se ?sF ?k_ ?As ?zg ?jC ?u_ ?zX ?Ab
  case d1 | d2 | d3 | d4 | d5 | d6 | d7 | d8 | d9 | d10 | d11 | d12 | d13 | d14 | d15 | d16 | d17 | d18 | d19 | d20 | d21 | d22 | d23 | d24 | d25 | d26 | d27 | d28 | d29 | d30 | d31 | d32 | d33 | d34 | d35 | d36 | d37 | d38 | d39 | d40 | d41 | d42 | d43 | d44 | d45 | d46 | d47 | d48 | d49 | d50 | d51 | d52 | d53 | d54 | d55 | d56 | d57 | d58 | d59 | d60 | d61 | d62 | d63 | d64 | d65 | d66 | d67 | d68 | d69=>refine' ⟨?a,.mk ?l,?e,?k⟩; (case a=>k_is); (case l=>k_is); (case e=>k_is); (case k=>k_is)
  (case jK=>k_is)
  (case hG=>k_is)
  (case nU=>k_is)
  (case nR=>k_is)
  (case vg=>k_is)
  (case wg=>k_is)
  (case ji=>k_is)
  (case me=>k_is)
  (case pJ=>k_is)
  (case nY=>k_is)
  (case jQ=>kernel_rfl)
  (case ll=>kernel_rfl)
  (case ei_Stuck=>refine' ⟨?b,.mk ?l,?e,?k,?i⟩; (case b=>k_is); (case l=>k_is); (case e=>k_is); (case k=>k_is); (case i=>kernel_rfl))
  (case gR=>kernel_rfl)
  (case xn_NoMachine_NoField_Stuck_NoMachine=>kernel_rfl)
  (case xn_NoMachine_NoField_Stuck_NoField=>kernel_rfl)
  (case xn_NoMachine_NoField_Stuck_Stuck=>kernel_rfl)
  (case io=>kernel_rfl)
  (case i7=>kernel_rfl)
  (case hTr=>exact rfl)
  (case zl=>k_is)
  (case Au=>k_is)
  (case yS=>k_is)
  (case se=>k_is)
  (case sF=>k_is)
  (case k_=>k_is)
  (case As=>k_is)
  (case zg=>k_is)
  (case jC=>k_is)
  (case u_=>k_is)
  (case zX=>k_is)
  (case Ab=>k_is)
