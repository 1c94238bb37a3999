import PyProof.Rows.All
import Wide.All
import OpenK.AllK
import Wide.FinOn
import Lean
import PyProof.EqAt
import PyProof.EqKinds
import PyProof.TupleCall
import PySem.Challenge.RW_hingedraw_k42_stands
set_option compiler.extract_closed false
set_option genSizeOfSpec false
set_option Elab.async false
set_option linter.all false
set_option maxRecDepth 100000
set_option Elab.async false
set_option linter.all false
set_option maxRecDepth 100000
theorem Zf {α β γ:Sort _} {f:α->β->γ}:∀ a b,f a b=f a b:=λ_ _=>rfl
section
open PySem PySem.Spec PyProof.Rows
abbrev Mj:=@wpAny_bind
abbrev Mk:=@Heap.get?_push_of_some
abbrev Ml:=@wpAny_pure
abbrev Mm:=@Heap.get?_push_size
abbrev Mn:=@Rat.intCast_mul
abbrev Mo:=@Heap.lt_size
abbrev Mp:=@Nat.le_refl
abbrev Mq:=@List.length_map
abbrev Mr:=@Bool.false_ne_true
abbrev Ms:=@List.size_toArray
abbrev Mt:=@List.mem_cons
abbrev Mu:=@Nat.ne_of_lt
abbrev Mv:=@List.mem_cons_self
abbrev Mw:=@List.mem_cons_of_mem
abbrev Mz:=@Nat.lt_of_lt_of_le
abbrev MA:=@List.mem_append_right
abbrev MB:=@List.length_cons
abbrev MC:=@Rat.mul_eq_zero
abbrev ME:=@List.not_mem_nil
abbrev MF:=@Nat.le_of_ble_eq_true
abbrev MG:=@Rat.intCast_add
abbrev MH:=@Prod.ext
abbrev MI:=@List.length_append
abbrev MJ:=@List.append_nil
abbrev MK:=@Rat.mul_nonneg
abbrev ML:=@wpAny_setField_rec
abbrev MM:=@wpAny_holding
abbrev MN:=@List.getElem?_eq_getElem
abbrev MO:=@wpAny_newObj_type
abbrev MQ:=@List.getElem?_map
abbrev MR:=@Rat.mul_pos
abbrev MS:=@Heap.get?_update_other
abbrev MT:=@Option.some.inj
abbrev MU:=@wpAny_seqItems
abbrev MV:=@Rat.intCast_sub
abbrev MW:=@Rat.divInt_eq_div
abbrev MX:=@List.getElem?_eq_some_iff
abbrev MY:=@wpAny_mono
abbrev MZ:=@wpAny_field
abbrev M1:=@Nat.le_trans
abbrev M2:=@Bool.and_eq_true
abbrev M3:=@PySem.mem_of_lookup
abbrev M4:=@Heap.get?_update_self
abbrev M5:=@PySem.W.mg_none_of
abbrev M6:=@wpAny_call_entry
abbrev M7:=@Int.fmod_nonneg_of_pos
abbrev M8:=@List.drop_eq_getElem_cons
abbrev M9:=@decide_eq_false
abbrev M_:=@Nat.zero_le
abbrev Na:=@Nat.lt_irrefl
abbrev Nb:=@Heap.size_push
abbrev Nc:=@List.all_eq_true
abbrev Nd:=@wpAny_callSpecial?_slot
abbrev Nf:=@Int.fmod_lt_of_pos
abbrev Ng:=@Option.isSome_iff_exists
abbrev Nh:=@Rat.num_eq_zero
abbrev Ni:=@List.length_eq_zero_iff
end
section
open PySem PySem.Spec
abbrev Nj:=Shared
abbrev Nk:=Value
abbrev Nl:=Addr
abbrev Nm:=Option
abbrev No:=Expr
abbrev Np:=Program
abbrev Nq:=Around
abbrev Nr:=World
abbrev Nt:=Heap
abbrev Nu:=Stmt
abbrev Nv:=Array
abbrev Nw:=Bool
abbrev Ny:=String
abbrev Nz:=Obj
end
namespace L2
open PySem PySem.Spec PyProof.Rows
abbrev we:=Sum Int Str
def Fa:we->Nk->Nw
 | .inl k,v=>Value.isInt k v
 | .inr x,v=>Value.isStrOf x v
def Km (w:Nr):we->Int
 | .inl k=>hashInt k
 | .inr x=>hashStr w x
theorem de:∀ {k:we} {v:Nk},Fa k v=true->(∃ i t,k=Sum.inl i/\v=Value.int i t)\/(∃ x t,k=Sum.inr x/\v=Value.str x t)
 | .inl i,v,h=>by
  obtain⟨t,e⟩:=Value.isInt_shape (k:=i) (v:=v) h;exact .inl ⟨i,t,rfl,e⟩
 | .inr x,v,h=>by
  obtain⟨t,e⟩:=Value.isStrOf_shape (x:=x) (v:=v) h;exact .inr ⟨x,t,rfl,e⟩
theorem G4 (a b:Int):decide ((Sum.inl a:we)=Sum.inl b)=(a == b):=by
 by_cases e:a=b
 ·subst e; simp
 ·have h:¬ (Sum.inl a:we)=Sum.inl b:=λq=>e (Sum.inl.inj q)
  rw [M9 h];exact(beq_eq_false_iff_ne.mpr e).symm
theorem G6 (a b:Str):decide ((Sum.inr a:we)=Sum.inr b)=decide (a=b):=by
 by_cases e:a=b
 ·subst e; simp
 ·have h:¬ (Sum.inr a:we)=Sum.inr b:=λq=>e (Sum.inr.inj q)
  rw [M9 h,M9 e]
theorem F4 (a:Int) (b:Str):decide ((Sum.inl a:we)=Sum.inr b)=false:=M9 (λq=>nomatch q)
theorem HQ (a:Str) (b:Int):decide ((Sum.inr a:we)=Sum.inl b)=false:=M9 (λq=>nomatch q)
def zr (prog:Np) (w:Nr):PySem.KeyKind prog w we where
 is:=Fa
 hash:=Km w
 inj:=λv a b ha hb=>by
  rcases de ha with ⟨i,t,rfl,rfl⟩ | ⟨x,t,rfl,rfl⟩
  ·rcases de hb with ⟨j,u,rfl,e⟩ | ⟨y,u,rfl,e⟩
   ·injection e with e1 _; rw [e1]
   ·exact nomatch e
  ·rcases de hb with ⟨j,u,rfl,e⟩ | ⟨y,u,rfl,e⟩
   ·exact nomatch e
   ·injection e with e1 _; rw [e1]
 byValue:=λk v h=>by
  rcases de h with ⟨i,t,rfl,rfl⟩ | ⟨x,t,rfl,rfl⟩ <;> rfl
 pyHash:=λhv h=>by
  rcases de hv with ⟨i,t,rfl,rfl⟩ | ⟨x,t,rfl,rfl⟩
  ·exact wpAny_pyHash_int h
  ·exact wpAny_pyHash_str h
 eqBool:=λhu hv h=>by
  rcases de hu with ⟨i,t,rfl,rfl⟩ | ⟨x,t,rfl,rfl⟩
  ·rcases de hv with ⟨j,u,rfl,rfl⟩ | ⟨y,u,rfl,rfl⟩
   ·rw [G4] at h; exact wpAny_eqBool_int h
   ·rw [F4] at h; exact SeqAt.EqAt.int_str i t y u _ _ _ _ h
  ·rcases de hv with ⟨j,u,rfl,rfl⟩ | ⟨y,u,rfl,rfl⟩
   ·rw [HQ] at h; exact SeqAt.EqAt.str_int x t j u _ _ _ _ h
   ·rw [G6] at h; exact wpAny_eqBool_str h
 «strs»:=λk x t v h=>by
  rcases de h with ⟨i,u,rfl,e⟩ | ⟨y,u,rfl,e⟩
  ·exact nomatch e
  ·injection e with e1 _
   subst e1;cases v <;> rfl
inductive V where
 | non | bl (b:Nw) | int (i:Int) | str (x:Str) | byt (b:Nv UInt8) | flt (b:UInt64) | ref (a:Nl) | ty (n:Ny)
 deriving DecidableEq
def bz:V->Nk->Prop
 | .non,u=>u=Value.none
 | .bl b,u=>u=Value.bool b
 | .int i,u=>∃ t,u=Value.int i t
 | .str x,u=>∃ t,u=Value.str x t
 | .byt b,u=>∃ t,u=Value.bytes b t
 | .flt b,u=>∃ t,u=Value.float b t
 | .ref a,u=>u=Value.ref a
 | .ty n,u=>u=Value.type n
abbrev bA:List V->List Nk->Prop:=Paired bz
theorem bA.length {xs:List V} {us:List Nk} (r:bA xs us):xs.length=us.length:=Paired.length r
theorem bA.get:∀ {xs:List V} {us:List Nk} {i:Nat} {x:V},bA xs us->xs[i]?=some x->∃ u,us[i]?=some u/\bz x u
 | _,_,_,_,.nil,e=>by simp at e
 | _,_,0,_,.cons r _,e=>by simp at e; subst e; exact⟨_,rfl,r⟩
 | _,_,i+1,x,.cons _ t,e=>by
  obtain⟨u,h1,h2⟩:=bA.get (i:=i) (x:=x) t (by simpa using e)
  exact⟨u,by simpa using h1,h2⟩
theorem bA.set {x:V} {u:Nk} (r:bz x u):∀ {xs:List V} {us:List Nk} (i:Nat),bA xs us->bA (xs.set i x) (us.set i u)
 | _,_,_,.nil=>.nil
 | _,_,0,.cons _ t=>.cons r t
 | _,_,i+1,.cons q t=>.cons q (bA.set r i t)
theorem bA.append:∀ {xs ys:List V} {us ws:List Nk},bA xs us->bA ys ws->bA (xs++ys) (us++ws)
 | _,_,_,_,.nil,s=>s
 | _,_,_,_,.cons r t,s=>.cons r (bA.append t s)
theorem bA.take:∀ {xs:List V} {us:List Nk} (n:Nat),bA xs us->bA (xs.take n) (us.take n)
 | _,_,0,_=>.nil
 | _,_,_+1,.nil=>.nil
 | _,_,n+1,.cons r t=>.cons r (bA.take n t)
theorem bA.drop:∀ {xs:List V} {us:List Nk} (n:Nat),bA xs us->bA (xs.drop n) (us.drop n)
 | _,_,0,r=>r
 | _,_,_+1,.nil=>.nil
 | _,_,n+1,.cons _ t=>bA.drop n t
def Bx:Nm V->Nm Nk->Prop
 | some v,some u=>bz v u
 | none,none=>True
 | _,_=>False
def KV {κ:Type}:List (κ×V)->List (κ×Nk)->Prop:=Paired fun(p:κ×V) (q:κ×Nk)=>p.1=q.1/\bz p.2 q.2
def kV:we->V
 | .inl i=>.int i
 | .inr x=>.str x
inductive HO where
 | lst (xs:List V)
 | tup (xs:List V)
 | dK (kvs:List (we×V)) | dT (kvs:List (List we×V))
 | set (S:Int->Nw) (n:Nat)
 | ins (C dx:Nl) (fs:List (Str×V))
 | own (x:Nl)
 | xd (fs:List (Str×V))
 | met (f x:Nl)
 | rng (lo hi:Int)
 | frz (o:Nz) (u:HO)
 | tbl (ps:Nv Nk)
 | ext (φ:Nt->Prop)
abbrev Hp:=Nl->Nm HO
def bL (H:Hp) (a:Nl) (o:HO):Hp:=λb=>if b=a then some o else H b
theorem bp {H:Hp} {a:Nl} {o:HO}:bL H a o a=some o:=by unfold bL; rw [if_pos rfl]
theorem aF {H:Hp} {a b:Nl} {o:HO} (h:b≠a):bL H a o b=H b:=by unfold bL; rw [if_neg h]
theorem bg {H:Hp} {a b:Nl} {o:HO} (h:H a=some o) (h':H b=none):a≠b:=by
 intro e; subst e; rw [h] at h'; cases h'
section
variable (P:Np) (w:Nr)
def dO (H:Hp) (h:Nt) (a:Nl):HO->Prop
 | .lst xs=>xs.length<=sizeLine/\∃ (its:List Nk) (n:Nat),bA xs its/\h.get? a=some {cls:=.type "list",data:=.seq its.toArray n}
 | .tup xs=>xs.length<=sizeLine/\∃ its:List Nk,bA xs its/\IsTup h a its.toArray
 | .dK kvs=>kvs.length<=sizeLine/\(a == sysModules)=false/\∃ vs,KV kvs vs/\h.DictOf (zr P w) a vs
 | .dT kvs=>kvs.length<=sizeLine/\(a == sysModules)=false/\∃ xs:List (List we×Nl×Nk),
   Paired (λ(p:List we×V) (q:List we×Nl×Nk)=>p.1=q.1/\H q.2.1=some (.tup (p.1.map kV))/\bz p.2 q.2.2) kvs xs/\
   ∃ o es ep,h.get? a=some o/\o.ExactDict/\o.data=.dict es ep/\es.toList=xs.map (entryOfKey (tupleKind (zr P w)))/\(xs.map (·.1)).Nodup
 | .set S n=>h.SetOf (intKind P w) a S n
 | .ins C dx fs=>H dx=some (.own a)/\fs.length<=1000/\dx≠a/\h.get? a=some (PySem.W.instObj C dx)/\
   ∃ mA,h.Ns1 dx mA/\(∀ f,Bx (fs.lookup f) (mA f))/\PySem.Within mA (fs.map (·.1))
 | .own _=>∃ o,h.get? a=some o
 | .xd fs=>∃ mA,h.Ns1 a mA/\∀ f,Bx (fs.lookup f) (mA f)
 | .rng lo hi=>∃ t u v,h.get? a=some {cls:=.type "range",data:=.fields #[.int lo t,.int hi u,.int 1 v]}
 | .frz o u=>h.get? a=some o/\dO H h a u
 | .tbl ps=>h.get? a=some {cls:=.none,data:=.fields ps}
 | .met f x=>h.get? a=some (PySem.W.methodObj (.ref f) (.ref x))
 | .ext φ=>φ h/\(∃ o,h.get? a=some o)/\∀ h1 h2:Nt,φ h1->(∀ o,h1.get? a=some o->h2.get? a=some o)->φ h2
def nj (H:Hp) (h:Nt):Prop:=∀ a o,H a=some o->dO P w H h a o
end
section
variable {P:Np} {w:Nr} {H H':Hp} {h h':Nt} {a:Nl} {o:HO}
theorem dO.lt (x:dO P w H h a o):a < h.objs.size:=by
 cases o with
 | lst xs=>obtain⟨_,_,_,_,e⟩:=x; exact Mo e
 | tup xs=>obtain⟨_,_,_,p⟩:=x; exact p.lt
 | dK kvs=>obtain⟨_,_,_,_,o,_,_,e,_⟩:=x; exact Mo e
 | dT kvs=>obtain⟨_,_,_,_,o,_,_,e,_⟩:=x; exact Mo e
 | set S n=>obtain⟨o,_,_,_,e,_⟩:=x; exact Mo e
 | ins C dx fs=>obtain⟨_,_,_,e,_⟩:=x; exact Mo e
 | own y=>obtain⟨_,e⟩:=x; exact Mo e
 | xd fs=>obtain⟨_,⟨_,_,_,e,_⟩,_⟩:=x; exact Mo e
 | rng lo hi=>obtain⟨_,_,_,e⟩:=x; exact Mo e
 | frz ob u=>obtain⟨e,_⟩:=x; exact Mo e
 | tbl ps=>exact Mo (show h.get? a=some _ from x)
 | met f y=>exact Mo (show h.get? a=some _ from x)
 | ext φ=>obtain⟨_,⟨_,e⟩,_⟩:=x; exact Mo e
theorem Paired.mapP {α β:Type} {F G:α->β->Prop}:∀ {l₁:List α} {l₂:List β},Paired F l₁ l₂->(∀ a b,F a b->G a b)->Paired G l₁ l₂
 | _,_,.nil,_=>.nil
 | _,_,.cons r t,f=>.cons (f _ _ r) (Paired.mapP t f)
theorem dO.stay (x:dO P w H h a o) (k:∀ b u,(b=a\/H b=some (.own a))->h.get? b=some u->h'.get? b=some u)
  (ho:∀ b,H b=some (.own a)->H' b=some (.own a)) (ht:∀ b xs,H b=some (.tup xs)->H' b=some (.tup xs)):dO P w H' h' a o:=by
 induction o with
 | lst xs=>obtain⟨z,its,n,r,e⟩:=x; exact⟨z,its,n,r,k _ _ (.inl rfl) e⟩
 | tup xs=>obtain⟨z,its,r,ob,e,c⟩:=x; exact⟨z,its,r,ob,k _ _ (.inl rfl) e,c⟩
 | dK kvs=>obtain⟨z,y,vs,r,ob,es,ep,e,c⟩:=x; exact⟨z,y,vs,r,ob,es,ep,k _ _ (.inl rfl) e,c⟩
 | dT kvs=>
  obtain⟨z,y,xs,r,ob,es,ep,e,c⟩:=x;exact⟨z,y,xs,Paired.mapP r λp q z=>⟨z.1,ht _ _ z.2.1,z.2.2⟩,ob,es,ep,k _ _ (.inl rfl) e,c⟩
 | set S n=>obtain⟨ob,es,ep,t,e,c⟩:=x; exact⟨ob,es,ep,t,k _ _ (.inl rfl) e,c⟩
 | ins C dx fs=>
  obtain⟨d,z,ne,e,mA,⟨od,es,ep,e2,c⟩,r⟩:=x;exact⟨ho _ d,z,ne,k _ _ (.inl rfl) e,mA,⟨od,es,ep,k _ _ (.inr d) e2,c⟩,r⟩
 | own y=>obtain⟨ob,e⟩:=x; exact⟨ob,k _ _ (.inl rfl) e⟩
 | xd fs=>obtain⟨mA,⟨od,es,ep,e,c⟩,r⟩:=x; exact⟨mA,⟨od,es,ep,k _ _ (.inl rfl) e,c⟩,r⟩
 | rng lo hi=>obtain⟨t,u,v,e⟩:=x; exact⟨t,u,v,k _ _ (.inl rfl) e⟩
 | frz ob u ih=>obtain⟨e,q⟩:=x; exact⟨k _ _ (.inl rfl) e,ih q⟩
 | tbl ps=>
  have e:h.get? a=some {cls:=.none,data:=.fields ps}:=x
  show h'.get? a=some {cls:=.none,data:=.fields ps}
  exact k a _ (.inl rfl) e
 | met f y=>
  have e:h.get? a=some (PySem.W.methodObj (.ref f) (.ref y)):=x
  show h'.get? a=some (PySem.W.methodObj (.ref f) (.ref y))
  exact k a _ (.inl rfl) e
 | ext φ=>obtain⟨p,⟨o,e⟩,st⟩:=x; exact⟨st _ _ p λo q=>k _ _ (.inl rfl) q,⟨o,k _ _ (.inl rfl) e⟩,st⟩
theorem nj.lt (x:nj P w H h) (e:H a=some o):a < h.objs.size:=(x a o e).lt
theorem nj.fresh (x:nj P w H h) (e:h.objs.size<=a):H a=none:=by
 cases q:H a with
 | none=>rfl
 | some u=>exact absurd (Mz (x.lt q) e) (Na _)
theorem nj.kept (x:nj P w H h) (k:∀ b u,h.get? b=some u->h'.get? b=some u):nj P w H h':=λa o e=>
 (x a o e).stay (λb u _ q=>k b u q) (λ_ q=>q) λ_ _ q=>q
theorem nj.laid (x:nj P w H h) (k:∀ b u,h.get? b=some u->h'.get? b=some u) (hp:h.objs.size<=a) (new:dO P w (bL H a o) h' a o):nj P w (bL H a o) h':=λb u e=>by
 have hn:=x.fresh hp
 by_cases hb:b=a
 ·subst hb; rw [bp] at e; cases e; exact new
 ·rw [aF hb] at e;exact(x b u e).stay (λc v _ q=>k c v q) (λc q=>by rw [aF (bg q hn)]; exact q) λc xs q=>by rw [aF (bg q hn)]; exact q
end
def Rd (H:Hp) (a:Nl) (u:HO):Prop:=H a=some u\/∃ o,H a=some (.frz o u)
theorem Rd.ok {P:Np} {w:Nr} {H:Hp} {h:Nt} {a:Nl} {u:HO} (r:Rd H a u) (x:nj P w H h):dO P w H h a u:=by
 rcases r with r | ⟨o,r⟩
 ·exact x a u r
 ·obtain⟨_,q⟩:=x a _ r;exact q
def Kd:Nm HO->Prop
 | some (.lst _)=>True
 | some (.dK _)=>True
 | some (.dT _)=>True
 | some (.set _ _)=>True
 | some (.ins _ _ _)=>True
 | some (.ext _)=>True
 | _=>False
section
variable {P:Np} {w:Nr} {H:Hp} {h h':Nt} {x e:Nl} {o':HO}
theorem nj.write (ok:nj P w H h) (mu:Kd (H x)) (he:e=x\/H e=some (.own x)) (k:∀ b u,b≠e->h.get? b=some u->h'.get? b=some u) (heo:∃ u,h'.get? e=some u)
  (new:dO P w (bL H x o') h' x o'):nj P w (bL H x o') h':=λb u q=>by
 have nown:∀ c y,H c=some (.own y)->c≠x:=λc y r z=>by subst z; rw [r] at mu; exact mu
 have ntup:∀ c xs,H c=some (.tup xs)->c≠x:=λc xs r z=>by subst z; rw [r] at mu; exact mu
 by_cases hb:b=x
 ·subst hb; rw [bp] at q; cases q; exact new
 ·rw [aF hb] at q
  by_cases hbe:b=e
  ·have q':H b=some (.own x):=by
    rcases he with z | z
    ·exact absurd (hbe.trans z) hb
    ·rw [hbe]; exact z
   rw [q] at q'; cases q'
   obtain⟨v,hv⟩:=heo;exact⟨v,by rw [hbe]; exact hv⟩
  ·refine(ok b u q).stay (λc v hc r=>k c v ?_ r) (λc r=>by rw [aF (nown c b r)]; exact r) λc xs r=>by rw [aF (ntup c xs r)]; exact r
   rcases hc with rfl | hc
   ·exact hbe
   ·rintro rfl;rcases he with z | z
    ·exact nown c b hc z
    ·rw [hc] at z; cases z; exact hb rfl
end
structure Un (fs ex:List Nl) (H H':Hp) (h h':Nt):Prop where
 keep:∀ b o,h.get? b=some o->H b=none->b∉fs->b∉ex->h'.get? b=some o
 slot:∀ b o,h.get? b=some o->H b=none->b∈fs->b∉ex->∃ sl,h'.get? b=some {o with slots:=sl}
 free:∀ b o,h.get? b=some o->H b=none->b∉ex->H' b=none
 there:∀ b o,h.get? b=some o->b∉ex->∃ o',h'.get? b=some o'
 tups:∀ b xs,H b=some (.tup xs)->H' b=some (.tup xs)
 frzs:∀ b o u,H b=some (.frz o u)->H' b=some (.frz o u)
 tbls:∀ b ps,H b=some (.tbl ps)->∃ more,H' b=some (.tbl (ps++more))
section
variable {fs fs' ex ex':List Nl} {H H1 H2:Hp} {h h1 h2 h':Nt} {a x e:Nl} {o:HO}
theorem Un.any (u:Un fs ex H H1 h h1) {b:Nl} {ob:Nz} (q:h.get? b=some ob) (n:H b=none) (hx:b∉ex):∃ sl,h1.get? b=some {ob with slots:=sl}:=by
 by_cases hb:b∈fs
 ·exact u.slot b ob q n hb hx
 ·exact⟨ob.slots,u.keep b ob q n hb hx⟩
theorem Un.trans (a:Un fs ex H H1 h h1) (b:Un fs ex H1 H2 h1 h2):Un fs ex H H2 h h2 where
 keep:=λc ob q n hc hx=>b.keep c ob (a.keep c ob q n hc hx) (a.free c ob q n hx) hc hx
 slot:=λc ob q n hc hx=>by
  obtain⟨sl,e1⟩:=a.slot c ob q n hc hx;obtain⟨sl',e2⟩:=b.slot c _ e1 (a.free c ob q n hx) hc hx;exact⟨sl',e2⟩
 free:=λc ob q n hx=>by
  obtain⟨o',e1⟩:=a.there c ob q hx;exact b.free c o' e1 (a.free c ob q n hx) hx
 there:=λc ob q hx=>by
  obtain⟨o',e1⟩:=a.there c ob q hx;exact b.there c o' e1 hx
 tups:=λc xs q=>b.tups c xs (a.tups c xs q)
 frzs:=λc ob xs q=>b.frzs c ob xs (a.frzs c ob xs q)
 tbls:=λc ps q=>by
  obtain⟨m1,e1⟩:=a.tbls c ps q;obtain⟨m2,e2⟩:=b.tbls c _ e1;exact⟨m1++m2,by rw [e2,Array.append_assoc]⟩
theorem Un.kept (k:∀ b u,h.get? b=some u->h'.get? b=some u):Un fs ex H H h h':=
 ⟨λb ob q _ _ _=>k b ob q,λb ob q _ _ _=>⟨ob.slots,k b ob q⟩,λ_ _ _ n _=>n,λb ob q _=>⟨ob,k b ob q⟩,λ_ _ q=>q,λ_ _ _ q=>q,λ_ ps q=>⟨#[],by rw [q]; simp⟩⟩
theorem Un.refl:Un fs ex H H h h:=Un.kept λ_ _ q=>q
theorem Un.laid (k:∀ b u,h.get? b=some u->h'.get? b=some u) (hp:h.objs.size<=a) (hn:H a=none):Un fs ex H (bL H a o) h h' where
 keep:=λb u q _ _ _=>k b u q
 slot:=λb u q _ _ _=>⟨u.slots,k b u q⟩
 free:=λb u q n _=>by rw [aF (Mu (Mz (Mo q) hp))]; exact n
 there:=λb u q _=>⟨u,k b u q⟩
 tups:=λb xs q=>by rw [aF (bg q hn)]; exact q
 frzs:=λb u xs q=>by rw [aF (bg q hn)]; exact q
 tbls:=λb ps q=>⟨#[],by rw [aF (bg q hn),q]; simp⟩
theorem Un.write (mu:Kd (H x)) (he:e=x\/H e=some (.own x)) (k:∀ b u,b≠e->h.get? b=some u->h'.get? b=some u) (heo:∃ u,h'.get? e=some u):Un fs ex H (bL H x o) h h':=by
 have hx:∀ b,H b=none->b≠x:=λb n z=>by subst z; rw [n] at mu; exact mu
 have hb:∀ b,H b=none->b≠e:=λb n z=>by
  subst z;rcases he with r | r
  ·exact hx b n r
  ·rw [n] at r; cases r
 have hm:∀ b u,H b=some u->¬ Kd (some u)->b≠x:=λb u q nm z=>by subst z; rw [q] at mu; exact nm mu
 refine⟨λb u q n _ _=>k b u (hb b n) q,λb u q n _ _=>⟨u.slots,k b u (hb b n) q⟩,λb u q n _=>by rw [aF (hx b n)]; exact n,λb u q _=>?_,
  λb xs q=>by rw [aF (hm b _ q λz=>z)]; exact q,λb u xs q=>by rw [aF (hm b _ q λz=>z)]; exact q,λb ps q=>⟨#[],by rw [aF (hm b _ q λz=>z),q]; simp⟩⟩
 by_cases hbe:b=e
 ·subst hbe; exact heo
 ·exact⟨u,k b u hbe q⟩
end
def J_ (h:Nt) (H:Hp):List Nl:=(List.range h.objs.size).filter λa=>(H a).isSome
def tD (h:Nt) (H:Hp):Nt:=PySem.W.hideAll h (J_ h H)
theorem zN (h:Nt) (H:Hp):(tD h H).objs.size=h.objs.size:=PySem.W.hideAll_size _ _
theorem Cg {h:Nt} {H:Hp} {b:Nl} {o:Nz} (e:h.get? b=some o) (n:H b=none):(tD h H).get? b=some o:=
 PySem.W.hideAll_get _ e λhm=>by
  have q:(H b).isSome=true:=(List.mem_filter.mp hm).2;rw [n] at q; simp at q
theorem E3 {h:Nt} {H:Hp} {b:Nl} {o:Nz} (e:(tD h H).get? b=some o):h.get? b=some o/\H b=none:=by
 have e':h.get? b=some o:=PySem.W.of_hideAll (J_ h H) e;refine⟨e',?_⟩;cases q:H b with
 | none=>rfl
 | some x=>
  have hm:b∈J_ h H:=List.mem_filter.mpr ⟨List.mem_range.mpr (Mo e'),by simp [q]⟩
  have z:(tD h H).get? b=none:=PySem.W.hideAll_none (J_ h H) hm;rw [z] at e; cases e
def Ee (g h:Nt) (L:Nl):List (Nl×Nz):=(List.range h.objs.size).filterMap λa=>if a=L\/(g.get? a).isSome=true then none else(h.get? a).map λo=>(a,o)
def eJ (g h:Nt) (L d:Nl):List (Nl×Nz):=(Ee g h L).filter λp=>decide (p.1≠d)
structure Mod (K:PySem.W.Frag) (mg:Str->Nm Nk) (base:Nt):Prop where
 kin:K.In base
 glob:base.Ns mainGlobals mg
 blt:∃ mb,base.Ns builtinsNs mb/\∀ x:Str,x≠"__name__"->mb x=bootBuiltins x
 nolimit:base.NoLimit
structure Cx where
 prog:Np
 w:Nr
 K:PySem.W.Frag
 mg:Str->Nm Nk
 base:Nt
 A:Nq
 N:List Str
 s₀:Nj
 H₀:Hp
 env:Env
 outer:List Env
 stack:List Env
 ex:List Nl
 fn:Str->Nw
 calm:Nw
 pn:List (Nl×Nz)
 xe:Nk->Nj->Prop
def fc (l:List Env):List Nl:=l.filterMap (·.frame)
abbrev Cx.fs (X:Cx):List Nl:=fc X.outer
def tU (sc:Scope) (x:Str):Prop:=sc.names.lookup x=some .local\/sc.names.lookup x=some .cell\/sc.names.lookup x=some .free
def AI (sc:Scope) (x:Str):Prop:=sc.names.lookup x=some .local\/sc.names.lookup x=some .cell
def Kl (env:Env) (h:Nt) (m:Str->Nm Nk) (x:Str) (u:Nk):Prop:=
 (env.kindOf x=some .local/\m x=some u)\/((env.kindOf x=some .cell\/env.kindOf x=some .free)/\∃ c,env.cells.lookup x=some c/\h.IsCell c (some u))
structure Cx.Ok (X:Cx):Prop where
 mod:Mod X.K X.mg X.base
 kind:X.env.scope.kind=.function
 glob:X.env.globals=mainGlobals
 blt:X.env.builtins=builtinsNs
 above:X.s₀.heap.objs.size<=X.env.locals
 inj:∀ x y c,X.env.cells.lookup x=some c->X.env.cells.lookup y=some c->x=y
 has:∀ x,(X.env.kindOf x=some .cell\/X.env.kindOf x=some .free)->∃ c,X.env.cells.lookup x=some c
 cab:∀ x c,X.fn x=true->X.env.cells.lookup x=some c->X.s₀.heap.objs.size<=c
 hd:X.calm=true->X.A.handled=none
 frames:X.A.frames=some X.stack
 stk:X.stack=X.outer\/(X.stack=X.env::X.outer/\X.env.frame=some X.env.locals)
 exf:∀ b∈X.ex,b≠X.env.locals/\∀ x c,X.env.cells.lookup x=some c->c≠b
 bs:∀ b o,X.base.get? b=some o->X.s₀.heap.get? b=some o/\X.H₀ b=none
 bsz:X.base.objs.size<=X.s₀.heap.objs.size
 noex:∀ b o,X.base.get? b=some o->b∉X.ex
 exfs:∀ b∈X.ex,b∉X.fs
 funs:X.s₀.heap.FunFrames X.base X.outer
 frf:∀ b∈X.fs,X.H₀ b=none
structure aI (X:Cx) (NA:List (Nl×Nz)) (σ:List (Nm V)) (H:Hp) (s:Nj):Prop where
 ok:X.Ok
 os:s.os=X.s₀.os
 bare:AllBare s.gens
 base:Un X.fs X.ex X.H₀ H X.s₀.heap s.heap
 loc:∃ m,s.heap.Ns X.env.locals m/\∀ (i:Nat) (x:Str) (v:V),X.N[i]?=some x->σ[i]?=some (some v)->tU X.env.scope x->∃ u,bz v u/\Kl X.env s.heap m x u
 cell:∀ x c,X.env.cells.lookup x=some c->∃ v,s.heap.IsCell c v
 free:H X.env.locals=none
 freeC:∀ x c,X.env.cells.lookup x=some c->H c=none
 pin:∀ p∈X.pn++NA,s.heap.get? p.1=some p.2/\H p.1=none/\p.1≠X.env.locals/\p.1∉X.fs/\∀ v,p.2.data≠.cell v
 hok:nj X.prog X.w H s.heap
 len:σ.length=X.N.length
section
variable {X:Cx} {NA:List (Nl×Nz)} {σ:List (Nm V)} {H H':Hp} {s:Nj} {h':Nt}
theorem Cx.Ok.nofr (ok:X.Ok) {b:Nl} {o:Nz} (e:X.base.get? b=some o):b∉X.fs:=λhb=>by
 have:=(ok.funs.mem hb).1;rw [e] at this; cases this
theorem aI.bs (I:aI X NA σ H s):∀ b o,X.base.get? b=some o->s.heap.get? b=some o/\H b=none:=λb o e=>
 ⟨I.base.keep b o (I.ok.bs b o e).1 (I.ok.bs b o e).2 (I.ok.nofr e) (I.ok.noex b o e),I.base.free b o (I.ok.bs b o e).1 (I.ok.bs b o e).2 (I.ok.noex b o e)⟩
theorem aI.bk (I:aI X NA σ H s):∀ b o,X.base.get? b=some o->s.heap.get? b=some o:=λb o e=>(I.bs b o e).1
theorem aI.mod (I:aI X NA σ H s):Mod X.K X.mg X.base:=I.ok.mod
theorem aI.kIn (I:aI X NA σ H s):X.K.In s.heap:=I.ok.mod.kin.keeps I.bk
theorem aI.nolimit (I:aI X NA σ H s):s.heap.NoLimit:=I.ok.mod.nolimit.keeps I.bk
theorem aI.lt (I:aI X NA σ H s):X.env.locals < s.heap.objs.size:=let ⟨_,hn,_⟩:=I.loc; hn.lt
theorem aI.sz (I:aI X NA σ H s):X.s₀.heap.objs.size<=s.heap.objs.size:=M1 I.ok.above (Nat.le_of_lt I.lt)
theorem aI.nofs (I:aI X NA σ H s) {a:Nl} (h:s.heap.objs.size<=a):a∉X.fs:=λhb=>by
 obtain⟨_,o,ho,_⟩:=I.ok.funs.mem hb;exact absurd (Mz (Mo ho) (M1 I.sz h)) (Na _)
theorem aI.cne (I:aI X NA σ H s):∀ x c,X.env.cells.lookup x=some c->c≠X.env.locals:=λx c e z=>by
 obtain⟨v,o,ho,hd⟩:=I.cell x c e;obtain⟨m,⟨o',es,ep,ho',hd',_⟩,_⟩:=I.loc;rw [z,ho'] at ho; cases ho; rw [hd'] at hd; cases hd
theorem aI.funs (I:aI X NA σ H s):s.heap.FunFrames X.base X.outer:=by
 have all:∀ (l:List Env),(∀ b∈fc l,b∈X.fs)->X.s₀.heap.FunFrames X.base l->s.heap.FunFrames X.base l:=by
  intro l
  induction l with
  | nil=>intro _ _; trivial
  | cons env r ih=>
   intro hs hl;obtain⟨hk,⟨L,o,hf,hn,ho,hd⟩,hr⟩:=hl;have hL:L∈X.fs:=hs L (by unfold fc; rw [List.filterMap_cons,hf]; exact Mv)
   obtain⟨sl,e⟩:=I.base.slot L o ho (I.ok.frf L hL) hL λz=>I.ok.exfs L z hL
   exact⟨hk,⟨L,_,hf,hn,e,hd⟩,ih (λb hb=>hs b (by unfold fc; rw [List.filterMap_cons,hf]; exact Mw _ hb)) hr⟩
 exact all X.outer (λ_ hb=>hb) I.ok.funs
theorem aI.stack (I:aI X NA σ H s):s.heap.FunFrames X.base X.stack:=by
 rcases I.ok.stk with e | ⟨e,hf⟩
 ·rw [e]; exact I.funs
 ·rw [e];obtain⟨m,hn,_⟩:=I.loc;refine .cons (by rw [I.ok.kind]; decide) hf hn ?_ I.funs
  exact Heap.get?_none_of_le (M1 I.ok.bsz I.ok.above)
theorem aI.stkSub (I:aI X NA σ H s):∀ b∈fc X.stack,b∈X.env.locals::X.fs:=λb hb=>by
 rcases I.ok.stk with e | ⟨e,hf⟩
 ·rw [e] at hb; exact Mw _ hb
 ·rw [e] at hb;unfold fc at hb;rw [List.filterMap_cons,hf] at hb;exact hb
theorem aI.stkFree (I:aI X NA σ H s):∀ b∈fc X.stack,H b=none:=λb hb=>by
 rcases Mt.mp (I.stkSub b hb) with e | hb
 ·rw [e]; exact I.free
 ·obtain⟨_,o,ho,_⟩:=I.ok.funs.mem hb;exact I.base.free b o ho (I.ok.frf b hb) λz=>I.ok.exfs b z hb
theorem aI.step {g':Nv GenState} {t':Nat} {d':Drawn} {ch:List Nl} (I:aI X NA σ H s)
  (hch:∀ b∈ch,(b∈X.ex\/X.s₀.heap.objs.size<=b)/\b≠X.env.locals/\(∀ x c,X.env.cells.lookup x=some c->c≠b)/\∀ p∈X.pn++NA,p.1≠b)
  (keep:∀ b o,b≠X.env.locals->b∉X.fs->b∉ch->s.heap.get? b=some o->H b=none->h'.get? b=some o)
  (slot:∀ b o,b≠X.env.locals->b∈X.fs->b∉ch->s.heap.get? b=some o->H b=none->∃ sl,h'.get? b=some {o with slots:=sl}) (free:∀ b o,b∉ch->s.heap.get? b=some o->H b=none->H' b=none)
  (there:∀ b o,b∉ch->s.heap.get? b=some o->∃ o',h'.get? b=some o')
  (tups:∀ b xs,H b=some (.tup xs)->H' b=some (.tup xs)) (frzs:∀ b o u,H b=some (.frz o u)->H' b=some (.frz o u)) (tbls:∀ b ps,H b=some (.tbl ps)->∃ more,H' b=some (.tbl (ps++more)))
  (ns:∀ m,s.heap.Ns X.env.locals m->h'.Ns X.env.locals m) (hok:nj X.prog X.w H' h') (hg:AllBare g'):
  aI X NA σ H' {s with heap:=h',gens:=g',drawn:=d',toks:=t'}:=by
 have neL:∀ b o,X.s₀.heap.get? b=some o->b≠X.env.locals:=λb o e=>Mu (Mz (Mo e) I.ok.above)
 have neC:∀ b o,X.s₀.heap.get? b=some o->b∉X.ex->b∉ch:=λb o e hx hb=>by
  rcases(hch b hb).1 with z | z
  ·exact hx z
  ·exact absurd (Mz (Mo e) z) (Na _)
 have cellK:∀ x c,X.env.cells.lookup x=some c->∀ v,s.heap.IsCell c v->h'.IsCell c v:=λx c e v ⟨o,ho,hd⟩=>by
  have nch:c∉ch:=λz=>(hch c z).2.2.1 x c e rfl
  by_cases hc:c∈X.fs
  ·obtain⟨sl,q⟩:=slot c o (I.cne x c e) hc nch ho (I.freeC x c e);exact⟨_,q,hd⟩
  ·exact⟨o,keep c o (I.cne x c e) hc nch ho (I.freeC x c e),hd⟩
 refine⟨I.ok,I.os,hg,⟨λb o e n hb hx=>?_,λb o e n hb hx=>?_,λb o e n hx=>?_,λb o e hx=>?_,λb xs e=>tups b xs (I.base.tups b xs e),λb o xs e=>frzs b o xs (I.base.frzs b o xs e),λb ps e=>?_⟩,?_,λx c e=>?_,?_,λx c e=>?_,λp hp=>?_,hok,I.len⟩
 ·exact keep b o (neL b o e) hb (neC b o e hx) (I.base.keep b o e n hb hx) (I.base.free b o e n hx)
 ·obtain⟨sl,e1⟩:=I.base.slot b o e n hb hx;obtain⟨sl',e2⟩:=slot b _ (neL b o e) hb (neC b o e hx) e1 (I.base.free b o e n hx);exact⟨sl',e2⟩
 ·obtain⟨o',e1⟩:=I.base.there b o e hx;exact free b o' (neC b o e hx) e1 (I.base.free b o e n hx)
 ·obtain⟨o',e1⟩:=I.base.there b o e hx;exact there b o' (neC b o e hx) e1
 ·obtain⟨m1,e1⟩:=I.base.tbls b ps e;obtain⟨m2,e2⟩:=tbls b _ e1;exact⟨m1++m2,by rw [e2,Array.append_assoc]⟩
 ·obtain⟨m,hn,hl⟩:=I.loc;refine⟨m,ns m hn,λi x v e1 e2 e3=>?_⟩
  obtain⟨u,r,l⟩:=hl i x v e1 e2 e3;refine⟨u,r,?_⟩;rcases l with l | ⟨k,c,e,z⟩
  ·exact .inl l
  ·exact .inr ⟨k,c,e,cellK x c e _ z⟩
 ·obtain⟨v,z⟩:=I.cell x c e;exact⟨v,cellK x c e v z⟩
 ·obtain⟨m,⟨o,_,_,ho,_⟩,_⟩:=I.loc;exact free _ o (λz=>(hch _ z).2.1 rfl) ho I.free
 ·obtain⟨v,o,ho,hd⟩:=I.cell x c e;exact free c o (λz=>(hch c z).2.2.1 x c e rfl) ho (I.freeC x c e)
 ·obtain⟨e,n,ne,nf,d⟩:=I.pin p hp;have nch:p.1∉ch:=λz=>(hch p.1 z).2.2.2 p hp rfl
  exact⟨keep p.1 p.2 ne nf nch e n,free p.1 p.2 nch e n,ne,nf,d⟩
theorem aI.un {t':Nat} (I:aI X NA σ H s) (u:Un X.fs [] H H' s.heap h') (hok:nj X.prog X.w H' h'):aI X NA σ H' {s with heap:=h',toks:=t'}:=by
 obtain⟨m,⟨o,es,ep,ho,r⟩,_⟩:=id I.loc;obtain⟨sl,hL⟩:=u.any ho I.free (by simp)
 exact I.step (g':=s.gens) (d':=s.drawn) (ch:=[]) (λ_ z=>nomatch z) (λb o _ hb _ e n=>u.keep b o e n hb (by simp)) (λb o _ hb _ e n=>u.slot b o e n hb (by simp)) (λb o _ e n=>u.free b o e n (by simp)) (λb o _ e=>u.there b o e (by simp)) u.tups u.frzs u.tbls (λm' hm=>by
  obtain⟨o',es',ep',ho',r'⟩:=hm;rw [ho] at ho'; cases ho'
  exact⟨_,es',ep',hL,r'⟩) hok I.bare
theorem aI.call {g':Nv GenState} {t':Nat} {d':Drawn} {ch:List Nl} (I:aI X NA σ H s) (u:Un (fc X.stack) ch H H' s.heap h') (hok:nj X.prog X.w H' h') (hg:AllBare g')
  (hch:∀ b∈ch,(b∈X.ex\/X.s₀.heap.objs.size<=b)/\b≠X.env.locals/\(∀ x c,X.env.cells.lookup x=some c->c≠b)/\∀ p∈X.pn++NA,p.1≠b):
  aI X NA σ H' {s with heap:=h',gens:=g',drawn:=d',toks:=t'}:=by
 obtain⟨m,⟨o,es,ep,ho,r⟩,_⟩:=id I.loc;obtain⟨sl,hL⟩:=u.any ho I.free λz=>(hch _ z).2.1 rfl
 exact I.step (ch:=ch) hch (λb o hL hb hc e n=>u.keep b o e n (λz=>(Mt.mp (I.stkSub b z)).elim hL hb) hc) (λb o _ _ hc e n=>u.any e n hc) (λb o hc e n=>u.free b o e n hc) (λb o hc e=>u.there b o e hc) u.tups u.frzs u.tbls (λm' hm=>by
  obtain⟨o',es',ep',ho',r'⟩:=hm;rw [ho] at ho'; cases ho'
  exact⟨_,es',ep',hL,r'⟩) hok hg
theorem aI.turned {t':Nat} {it:Nl} (I:aI X NA σ H s) (k:∀ b o,b≠it->s.heap.get? b=some o->h'.get? b=some o) (hn:H it=none) (hL:it≠X.env.locals)
  (h1:it∈X.ex\/X.s₀.heap.objs.size<=it) (h2:∀ x c,X.env.cells.lookup x=some c->c≠it) (h3:∀ p∈X.pn++NA,p.1≠it):aI X NA σ H {s with heap:=h',toks:=t'}:=by
 have nit:∀ b u,H b=some u->b≠it:=λb u e z=>by rw [z,hn] at e; cases e
 refine I.step (g':=s.gens) (d':=s.drawn) (ch:=[it]) (λb hb=>?_) (λb o _ _ hc e _=>k b o (λz=>hc (by simp [z])) e) (λb o _ _ hc e _=>⟨o.slots,k b o (λz=>hc (by simp [z])) e⟩) (λ_ _ _ _ n=>n)
  (λb o hc e=>⟨o,k b o (λz=>hc (by simp [z])) e⟩) (λ_ _ e=>e) (λ_ _ _ e=>e) (λb ps e=>⟨#[],by rw [e]; simp⟩) (λm hm=>?_) (λb u e=>?_) I.bare
 ·have e:b=it:=by simpa using hb
  subst e;exact⟨h1,hL,h2,h3⟩
 ·obtain⟨o,es,ep,ho,r⟩:=hm;exact⟨o,es,ep,k _ o (Ne.symm hL) ho,r⟩
 ·refine(I.hok b u e).stay (λc v hc q=>k c v ?_ q) (λ_ q=>q) λ_ _ q=>q
  rcases hc with z | z
  ·rw [z]; exact nit b u e
  ·exact nit c _ z
theorem aI.tok (I:aI X NA σ H s) (t:Nat):aI X NA σ H {s with toks:=t}:=I.un (h':=s.heap) (t':=t) Un.refl I.hok
theorem aI.kept {t':Nat} (I:aI X NA σ H s) (k:∀ b u,s.heap.get? b=some u->h'.get? b=some u):aI X NA σ H {s with heap:=h',toks:=t'}:=I.un (Un.kept k) (I.hok.kept k)
theorem aI.laid {a:Nl} {o:HO} {t':Nat} (I:aI X NA σ H s) (k:∀ b u,s.heap.get? b=some u->h'.get? b=some u) (hp:s.heap.objs.size<=a) (new:dO X.prog X.w (bL H a o) h' a o):
  aI X NA σ (bL H a o) {s with heap:=h',toks:=t'}:=I.un (Un.laid k hp (I.hok.fresh hp)) (I.hok.laid k hp new)
theorem aI.write {x e:Nl} {o:HO} {t':Nat} (I:aI X NA σ H s) (mu:Kd (H x)) (he:e=x\/H e=some (.own x)) (k:∀ b u,b≠e->s.heap.get? b=some u->h'.get? b=some u) (heo:∃ u,h'.get? e=some u)
  (new:dO X.prog X.w (bL H x o) h' x o):aI X NA σ (bL H x o) {s with heap:=h',toks:=t'}:=I.un (Un.write mu he k heo) (I.hok.write mu he k heo new)
theorem aI.pins_of {pins':List (Nl×Nz)} (I:aI X NA σ H s) (h:∀ p∈pins',s.heap.get? p.1=some p.2/\H p.1=none/\p.1≠X.env.locals/\p.1∉X.fs/\∀ v,p.2.data≠.cell v):aI X pins' σ H s:=
 ⟨I.ok,I.os,I.bare,I.base,I.loc,I.cell,I.free,I.freeC,λp hp=>(List.mem_append.mp hp).elim (λz=>I.pin p (List.mem_append_left _ z)) (h p),I.hok,I.len⟩
theorem r8 {N:List Str} (hN:N.Nodup) {i j:Nat} {x:Str} (a:N[i]?=some x) (b:N[j]?=some x):i=j:=by
 obtain⟨h1,e1⟩:=MX.mp a;obtain⟨h2,e2⟩:=MX.mp b;exact(List.getElem_inj hN).mp (e1.trans e2.symm)
theorem Au {M:Model} {A:Nq} {E:Nk->Nj->Prop} {i:Nat} {x:Str} {v:V} {u:Nk} {Q:Unit->Nj->Prop} (I:aI X NA σ H s) (hN:X.N.Nodup) (hi:X.N[i]?=some x) (hx:AI X.env.scope x) (r:bz v u)
  (h:∀ s',aI X NA (σ.set i (some v)) H s'->(∃ a,Heap.SameBut a s.heap s'.heap/\(a=X.env.locals\/X.env.cells.lookup x=some a))->Q () s') (hf:X.fn x=true\/X.env.scope.names.lookup x=some .local:=by first | exact .inl rfl | exact .inr rfl | assumption):wpAny M A (storeName X.env x u) Q E s:=by
 obtain⟨m,hn,hl⟩:=id I.loc;have hcls:(X.env.scope.kind == .class || (X.env.scope.kind == .module && X.env.locals != X.env.globals))=false:=by rw [I.ok.kind]; rfl
 have hiσ:i < σ.length:=by rw [I.len]; exact(MX.mp hi).1
 have cne:=I.cne;have tracked:∀ {a:Nl} {h':Nt},(∃ o,s.heap.get? a=some o/\H a=none)->Heap.SameBut a s.heap h'->nj X.prog X.w H h':=λ{a h'} ha hs b ob e=>by
  obtain⟨_,_,hfree⟩:=ha;refine(I.hok b ob e).stay (λc w' hc q=>(hs.2 c ?_).trans q) (λ_ q=>q) λ_ _ q=>q
  rintro rfl;rcases hc with rfl | hc
  ·rw [hfree] at e; cases e
  ·rw [hfree] at hc; cases hc
 rcases hx with hk | hk
 ·refine wpAny_storeName_local hk hn (λh' hn' hs=>?_) hcls
  obtain⟨oL,_,_,hoL,_⟩:=id hn;refine h _ ⟨I.ok,I.os,I.bare,⟨λb o e n hb hx=>?_,λb o e n hb hx=>?_,I.base.free,λb o e hx=>?_,I.base.tups,I.base.frzs,I.base.tbls⟩,⟨_,hn',λj y v' e1 e2 e3=>?_⟩,λy c e=>?_,I.free,I.freeC,λp hp=>?_,tracked ⟨oL,hoL,I.free⟩ hs,by simpa using I.len⟩ ⟨_,hs,.inl rfl⟩
  ·exact(hs.2 b (Mu (Mz (Mo e) I.ok.above))).trans (I.base.keep b o e n hb hx)
  ·obtain⟨sl,e1⟩:=I.base.slot b o e n hb hx;exact⟨sl,(hs.2 b (Mu (Mz (Mo e) I.ok.above))).trans e1⟩
  ·obtain⟨o',e1⟩:=I.base.there b o e hx;exact⟨o',(hs.2 b (Mu (Mz (Mo e) I.ok.above))).trans e1⟩
  ·by_cases hj:j=i
   ·subst hj;rw [hi] at e1; cases e1
    rw [List.getElem?_set_self hiσ] at e2;cases e2;exact⟨u,r,.inl ⟨hk,by simp⟩⟩
   ·rw [List.getElem?_set_ne (Ne.symm hj)] at e2;obtain⟨u',r',q⟩:=hl j y v' e1 e2 e3;refine⟨u',r',?_⟩;rcases q with ⟨k,e⟩ | ⟨k,c,e,z⟩
    ·refine .inl ⟨k,?_⟩;have:y≠x:=λe=>hj (r8 hN e1 (e▸hi))
     simp [this,e]
    ·exact .inr ⟨k,c,e,z.sameBut hs (cne y c e)⟩
  ·obtain⟨w',z⟩:=I.cell y c e;exact⟨w',z.sameBut hs (cne y c e)⟩
  ·obtain⟨e,n,ne,nf,d⟩:=I.pin p hp;exact⟨(hs.2 p.1 ne).trans e,n,ne,nf,d⟩
 ·have hfn:X.fn x=true:=by
   rcases hf with z | z
   ·exact z
   ·rw [z] at hk; cases hk
  obtain⟨c,hc⟩:=I.ok.has x (.inl hk);obtain⟨w',z⟩:=I.cell x c hc;refine wpAny_storeName_cell I.ok.kind hk hc z (λh' hc' hs=>?_)
  obtain⟨oc,hoc,hocd⟩:=id z;refine h {s with heap:=h'} ⟨I.ok,I.os,I.bare,⟨λb o e n hb hx=>?_,λb o e n hb hx=>?_,I.base.free,λb o e hx=>?_,I.base.tups,I.base.frzs,I.base.tbls⟩,⟨m,hn.sameBut hs (Ne.symm (cne x c hc)),λj y v' e1 e2 e3=>?_⟩,λy c' e=>?_,I.free,I.freeC,λp hp=>?_,tracked ⟨oc,hoc,I.freeC x c hc⟩ hs,by simpa using I.len⟩ ⟨c,hs,.inr hc⟩
  ·exact(hs.2 b (Mu (Mz (Mo e) (I.ok.cab x c hfn hc)))).trans (I.base.keep b o e n hb hx)
  ·obtain⟨sl,e1⟩:=I.base.slot b o e n hb hx;exact⟨sl,(hs.2 b (Mu (Mz (Mo e) (I.ok.cab x c hfn hc)))).trans e1⟩
  ·obtain⟨o',e1⟩:=I.base.there b o e hx;exact⟨o',(hs.2 b (Mu (Mz (Mo e) (I.ok.cab x c hfn hc)))).trans e1⟩
  ·by_cases hj:j=i
   ·subst hj;rw [hi] at e1; cases e1
    rw [List.getElem?_set_self hiσ] at e2;cases e2;exact⟨u,r,.inr ⟨.inl hk,c,hc,hc'⟩⟩
   ·rw [List.getElem?_set_ne (Ne.symm hj)] at e2;obtain⟨u',r',q⟩:=hl j y v' e1 e2 e3;refine⟨u',r',?_⟩;rcases q with q | ⟨k,c',e,z'⟩
    ·exact .inl q
    ·refine .inr ⟨k,c',e,z'.sameBut hs ?_⟩;rintro rfl;exact hj (r8 hN e1 (I.ok.inj _ _ _ e hc▸hi))
  ·by_cases hcc:c'=c
   ·subst hcc; exact⟨_,hc'⟩
   ·obtain⟨w2,z2⟩:=I.cell y c' e;exact⟨w2,z2.sameBut hs hcc⟩
  ·obtain⟨e,n,ne,nf,d⟩:=I.pin p hp;refine⟨(hs.2 p.1 ?_).trans e,n,ne,nf,d⟩;intro q;rw [q,hoc] at e;have q':oc=p.2:=MT e;exact d w' (by rw [<- q']; exact hocd)
theorem fY {M:Model} {A:Nq} {E:Nk->Nj->Prop} {i:Nat} {x:Str} {v:V} {u:Nk} {Q:Unit->Nj->Prop} (I:aI X NA σ H s) (hN:X.N.Nodup) (hi:X.N[i]?=some x) (hx:AI X.env.scope x) (r:bz v u)
  (h:∀ s',aI X NA (σ.set i (some v)) H s'->Q () s') (hf:X.fn x=true\/X.env.scope.names.lookup x=some .local:=by first | exact .inl rfl | exact .inr rfl | assumption):wpAny M A (storeName X.env x u) Q E s:=
 Au I hN hi hx r (λs' I' _=>h s' I') hf
theorem aI.call' {s':Nj} {ch:List Nl} (I:aI X NA σ H s) (ho:s'.os=s.os) (u:Un (fc X.stack) ch H H' s.heap s'.heap) (hok:nj X.prog X.w H' s'.heap) (hg:AllBare s'.gens)
  (hch:∀ b∈ch,(b∈X.ex\/X.s₀.heap.objs.size<=b)/\b≠X.env.locals/\(∀ x c,X.env.cells.lookup x=some c->c≠b)/\∀ p∈X.pn++NA,p.1≠b):aI X NA σ H' s':=by
 obtain⟨h',g',d',t',o'⟩:=s';have e:o'=s.os:=ho;subst e;exact I.call (g':=g') (t':=t') (d':=d') u hok hg hch
end
abbrev XK:=Nk->Nm Nl->Hp->Prop
abbrev St:=List (Nm V)
abbrev VK:=V->Hp->Prop
abbrev TE:=St->Hp->VK->Prop
abbrev TT:=St->Hp->(Nw->Hp->Prop)->Prop
abbrev TA:=St->Hp->(List V->Hp->Prop)->Prop
structure sT where
 nx:St->Hp->Prop
 rt:VK
 bk:St->Hp->Prop:=λ_ _=>False
 ct:St->Hp->Prop:=λ_ _=>False
abbrev TS:=sT->St->Hp->Prop
def EP (X:Cx) (NA:List (Nl×Nz)) (σ:St) (Q:VK) (u:Nk) (s':Nj):Prop:=∃ v H',aI X NA σ H' s'/\bz v u/\Q v H'
def TP (X:Cx) (NA:List (Nl×Nz)) (σ:St) (Q:Nw->Hp->Prop) (b:Nw) (s':Nj):Prop:=∃ H',aI X NA σ H' s'/\Q b H'
def AP (X:Cx) (NA:List (Nl×Nz)) (σ:St) (Q:List V->Hp->Prop) (us:List Nk) (s':Nj):Prop:=∃ vs H',aI X NA σ H' s'/\bA vs us/\Q vs H'
def SP (X:Cx) (NA:List (Nl×Nz)) (D:sT) (f:Flow) (s':Nj):Prop:=
 match f with
 | .next=>∃ σ' H',aI X NA σ' H' s'/\D.nx σ' H'
 | .brk=>∃ σ' H',aI X NA σ' H' s'/\D.bk σ' H'
 | .cont=>∃ σ' H',aI X NA σ' H' s'/\D.ct σ' H'
 | .ret u=>∃ v σ' H',aI X NA σ' H' s'/\bz v u/\D.rt v H'
def PE (X:Cx) (e:No) (t:TE):Prop:=
 ∀ (NA:List (Nl×Nz)) (s:Nj) (σ:St) (H:Hp) (Q:VK),aI X NA σ H s->t σ H Q->wpAny (model X.prog X.w) X.A (eval e X.env) (EP X NA σ Q) X.xe s
def PT (X:Cx) (e:No) (t:TT):Prop:=
 ∀ (NA:List (Nl×Nz)) (s:Nj) (σ:St) (H:Hp) (Q:Nw->Hp->Prop),aI X NA σ H s->t σ H Q->wpAny (model X.prog X.w) X.A (isTrue e X.env (eval e X.env)) (TP X NA σ Q) X.xe s
def PW (X:Cx) (e:No) (t:TT):Prop:=
 ∀ (whole:Sem Nk) (NA:List (Nl×Nz)) (s:Nj) (σ:St) (H:Hp) (Q:Nw->Hp->Prop),aI X NA σ H s->t σ H Q->wpAny (model X.prog X.w) X.A (isTrue e X.env whole) (TP X NA σ Q) X.xe s
theorem PW.pt {X:Cx} {e:No} {t:TT} (h:PW X e t):PT X e t:=h _
def PA (X:Cx) (es:List No) (t:TA):Prop:=
 ∀ (pos:Pos) (NA:List (Nl×Nz)) (s:Nj) (σ:St) (H:Hp) (Q:List V->Hp->Prop),aI X NA σ H s->t σ H Q->wpAny (model X.prog X.w) X.A (spliced (backTo pos (starEach es X.env))) (AP X NA σ Q) X.xe s
def PS (X:Cx) (st:Nu) (t:TS):Prop:=
 ∀ (NA:List (Nl×Nz)) (s:Nj) (σ:St) (H:Hp) (D:sT),aI X NA σ H s->t D σ H->wpAny (model X.prog X.w) X.A (exec st X.env) (SP X NA D) X.xe s
def tI (X:Cx) (st:List Nu) (t:TS):Prop:=
 ∀ (NA:List (Nl×Nz)) (s:Nj) (σ:St) (H:Hp) (D:sT),aI X NA σ H s->t D σ H->wpAny (model X.prog X.w) X.A (execs st X.env) (SP X NA D) X.xe s
theorem cu {α:Type} {t:Sem α} {Q Q':α->Nj->Prop} {M:Model} {A:Nq} {E:Nk->Nj->Prop} {s:Nj} (h:wpAny M A t Q E s) (hQ:∀ a s,Q a s->Q' a s):wpAny M A t Q' E s:=MY h hQ λ_ _ x=>x
section
variable {X:Cx}
def K8 (i:Nat):TE:=fun σ H Q=>∃ v,σ[i]?=some (some v)/\Q v H
def tC (v:V):TE:=λ_ H Q=>Q v H
theorem Gm {i:Nat} {x:Str} {pos:Pos} (hN:X.N[i]?=some x) (hv:tU X.env.scope x) (hd:(x == ("__debug__":Str))=false:=by decide) (hcd:(x == ("__classdict__":Str))=false:=by decide):PE X (.Name x pos) (K8 i):=by
 intro NA s σ H Q I h;obtain⟨v,e,h⟩:=h;obtain⟨m,hn,hl⟩:=I.loc;obtain⟨u,r,l⟩:=hl i x v hN e hv;have fin:EP X NA σ Q u s:=⟨v,H,I,r,h⟩;rcases l with ⟨hk,hm⟩ | ⟨hk,c,hc,hcell⟩
 ·exact wpAny_Name (wpAny_loadName_local I.ok.kind hk hn hm fin) hd
 ·rcases hk with hk | hk
  ·exact wpAny_Name (wpAny_loadName_cell I.ok.kind hk hc hcell fin) hd
  ·exact wpAny_Name (wpAny_loadName_free I.ok.kind hk hc hcell fin hcd) hd
theorem Gj {i j pos}:PE X (.Constant (.int i) j pos) (tC (.int i)):=λ_ _ _ H _ I h=>wpAny_Constant_int ⟨.int i,H,I.tok _,⟨_,rfl⟩,h⟩
theorem JE {b j pos}:PE X (.Constant (.bool b) j pos) (tC (.bl b)):=λ_ _ _ H _ I h=>Constant_bool ⟨.bl b,H,I,rfl,h⟩
theorem Hc {j pos}:PE X (.Constant .none j pos) (tC .non):=λ_ _ _ H _ I h=>Constant_none ⟨.non,H,I,rfl,h⟩
theorem Gs {x j pos}:PE X (.Constant (.str x) j pos) (tC (.str x)):=λ_ _ _ H _ I h=>Calls.Constant_str ⟨.str x,H,I.tok _,⟨_,rfl⟩,h⟩
def Gl (X:Cx) (x:Str):Prop:=X.env.kindOf x=some .globalImplicit
theorem fh {E:Nk->Nj->Prop} {NA:List (Nl×Nz)} {s:Nj} {σ:St} {H:Hp} {x:Str} {u:Nk} {pos:Pos} {Q:Nk->Nj->Prop} (I:aI X NA σ H s) (hg:Gl X x) (hm:X.mg x=some u) (h:Q u s)
  (hd:(x == ("__debug__":Str))=false:=by decide):wpAny (model X.prog X.w) X.A (eval (.Name x pos) X.env) Q E s:=
 Calls.Name_function_global I.ok.kind hg (Calls.loadGlobal_global (by rw [I.ok.glob]; exact I.mod.glob.keeps I.bk) hm h) hd
theorem qx {E:Nk->Nj->Prop} {NA:List (Nl×Nz)} {s:Nj} {σ:St} {H:Hp} {x:Str} {u:Nk} {pos:Pos} {Q:Nk->Nj->Prop} (I:aI X NA σ H s) (hg:Gl X x) (hm:X.mg x=none) (hv:bootBuiltins x=some u) (h:Q u s)
  (hn:x≠"__name__":=by decide) (hd:(x == ("__debug__":Str))=false:=by decide):wpAny (model X.prog X.w) X.A (eval (.Name x pos) X.env) Q E s:=by
 obtain⟨mb,h1,h2⟩:=I.mod.blt;exact Calls.Name_function_global I.ok.kind hg (Calls.loadGlobal_builtin (by rw [I.ok.glob]; exact I.mod.glob.keeps I.bk) hm (by rw [I.ok.blt]; exact h1.keeps I.bk) ((h2 x hn).trans hv) h) hd
theorem ET {x:Str} {v:V} {u:Nk} {pos:Pos} (hg:Gl X x) (hm:X.mg x=some u) (r:bz v u) (hd:(x == ("__debug__":Str))=false:=by decide):PE X (.Name x pos) (tC v):=
 λ_ _ _ H _ I h=>fh I hg hm ⟨v,H,I,r,h⟩ hd
theorem Es {x:Str} {v:V} {u:Nk} {pos:Pos} (hg:Gl X x) (hm:X.mg x=none) (hv:bootBuiltins x=some u) (r:bz v u) (hn:x≠"__name__":=by decide) (hd:(x == ("__debug__":Str))=false:=by decide):PE X (.Name x pos) (tC v):=
 λ_ _ _ H _ I h=>qx I hg hm hv ⟨v,H,I,r,h⟩ hn hd
variable {a b:No} {ta tb:TE} {pos:Pos}
def tB (t:TE):TT:=fun σ H Q=>t σ H λx H1=>∃ c,x=.bl c/\Q c H1
theorem Ga {e:No} {t:TE} (h:PE X e t) (he:∀ whole,isTrue e X.env whole=(do let v <- whole; standAt e.pos; holding [v] (truthy v)):=by intro _; rfl):PT X e (tB t):=by
 intro NA s σ H Q I hw;refine isTrue_plain (cu (h NA s σ H _ I hw) λv s1 ⟨x,H1,I1,r1,q1⟩=>?_) (he _)
 obtain⟨d,rfl,q⟩:=q1;cases r1;exact wpAny_truthy_bool ⟨H1,I1,q⟩
variable {tA tB':TT} {eJ:List No}
def Ki (t u:TT):TT:=fun σ H Q=>t σ H λc H1=>if c=true then u σ H1 Q else Q false H1
def Mf (t u:TT):TT:=fun σ H Q=>t σ H λc H1=>if c=true then Q true H1 else u σ H1 Q
def KZ (t:TT):TT:=fun σ H Q=>t σ H λc H1=>Q (!c) H1
theorem Ei (ha:PT X a tA):PW X (.BoolOp .And [a] pos) tA:=by
 intro wh NA s σ H Q I h;refine isTrue_and (cu (ha NA s σ H Q I h) λc s1 e=>?_)
 cases c with
 | true=>exact isTrue_and_nil e
 | false=>exact e
theorem GB (ha:PT X a tA):PW X (.BoolOp .Or [a] pos) tA:=by
 intro wh NA s σ H Q I h;refine isTrue_or (cu (ha NA s σ H Q I h) λc s1 e=>?_)
 cases c with
 | false=>exact isTrue_or_nil e
 | true=>exact e
theorem F3 (ha:PT X a tA) (hb:PW X (.BoolOp .And (b::eJ) pos) tB'):PW X (.BoolOp .And (a::b::eJ) pos) (Ki tA tB'):=by
 intro wh NA s σ H Q I h;refine isTrue_and (cu (ha NA s σ H _ I h) λc s1 z9=>?_)
 obtain⟨H1,I1,q1⟩:=z9;cases c with
 | true=>exact hb wh NA s1 σ H1 Q I1 q1
 | false=>exact⟨H1,I1,q1⟩
theorem JT (ha:PT X a tA) (hb:PW X (.BoolOp .Or (b::eJ) pos) tB'):PW X (.BoolOp .Or (a::b::eJ) pos) (Mf tA tB'):=by
 intro wh NA s σ H Q I h;refine isTrue_or (cu (ha NA s σ H _ I h) λc s1 z9=>?_)
 obtain⟨H1,I1,q1⟩:=z9;cases c with
 | true=>exact⟨H1,I1,q1⟩
 | false=>exact hb wh NA s1 σ H1 Q I1 q1
theorem FZ (ha:PT X a tA):PT X (.UnaryOp .Not a pos) (KZ tA):=by
 intro NA s σ H Q I h;exact isTrue_not (ha NA s σ H (λc H1=>Q (!c) H1) I h)
def Jr (ta tb:TE):TE:=fun σ H Q=>ta σ H λx H1=>∃ c,x=.bl c/\if c=true then tb σ H1 Q else Q (.bl false) H1
def Kf (ta tb:TE):TE:=fun σ H Q=>ta σ H λx H1=>∃ c,x=.bl c/\if c=true then Q (.bl true) H1 else tb σ H1 Q
theorem Hw {op} {t:TE} (h:PE X a t):PE X (.BoolOp op [a] pos) t:=λNA s σ H Q I hw=>BoolOp_one (h NA s σ H Q I hw)
theorem Gx (ha:PE X a ta) (hb:PE X (.BoolOp .And (b::eJ) pos) tb):PE X (.BoolOp .And (a::b::eJ) pos) (Jr ta tb):=by
 intro NA s σ H Q I h;refine BoolOp_and (cu (ha NA s σ H _ I h) λv s1 z9=>?_)
 obtain⟨x,H1,I1,r1,q1⟩:=z9;obtain⟨c,rfl,q1⟩:=q1;cases r1;refine wpAny_truthy_bool ?_;cases c with
 | true=>exact hb NA s1 σ H1 Q I1 q1
 | false=>exact⟨.bl false,H1,I1,rfl,q1⟩
theorem IY (ha:PE X a ta) (hb:PE X (.BoolOp .Or (b::eJ) pos) tb):PE X (.BoolOp .Or (a::b::eJ) pos) (Kf ta tb):=by
 intro NA s σ H Q I h;refine BoolOp_or (cu (ha NA s σ H _ I h) λv s1 z9=>?_)
 obtain⟨x,H1,I1,r1,q1⟩:=z9;obtain⟨c,rfl,q1⟩:=q1;cases r1;refine wpAny_truthy_bool ?_;cases c with
 | false=>exact hb NA s1 σ H1 Q I1 q1
 | true=>exact⟨.bl true,H1,I1,rfl,q1⟩
def L_ (t:TT) (ta tb:TE):TE:=fun σ H Q=>t σ H λc H1=>if c=true then ta σ H1 Q else tb σ H1 Q
theorem AG {c:No} (hc:PT X c tA) (ha:PE X a ta) (hb:PE X b tb):PE X (.IfExp c a b pos) (L_ tA ta tb):=by
 intro NA s σ H Q I h;refine wpAny_IfExp (cu (hc NA s σ H _ I h) λd s1 z9=>?_)
 obtain⟨H1,I1,q1⟩:=z9;cases d with
 | true=>exact ha NA s1 σ H1 Q I1 q1
 | false=>exact hb NA s1 σ H1 Q I1 q1
end
def jW (K:PySem.W.Frag) (H:Hp) (a:Nl) (xs:List V):Prop:=
 Rd H a (.lst xs)\/
  ∃ (o:Nz) (its:Nv Nk) (n:Nat),K.lookup a=some o/\o.cls=.type "list"/\o.dict=none/\o.data=.seq its n/\its.size<=sizeLine/\bA xs its.toList
def mB (K:PySem.W.Frag) (H:Hp) (a:Nl) (xs:List V):Prop:=
 Rd H a (.tup xs)\/
  ∃ (o:Nz) (its:Nv Nk) (n:Nat),K.lookup a=some o/\o.cls=.type "tuple"/\o.data=.seq its n/\its.size<=sizeLine/\bA xs its.toList
def Lh:Nk->Nm V
 | .none=>some .non
 | .bool b=>some (.bl b)
 | .int i _=>some (.int i)
 | .str x _=>some (.str x)
 | .bytes b _=>some (.byt b)
 | .float b _=>some (.flt b)
 | .ref a=>some (.ref a)
 | .type n=>some (.ty n)
 | _=>none
theorem bz.abs {x:V} {u:Nk} (r:bz x u):Lh u=some x:=by
 cases x with
 | non=>cases r; rfl
 | bl _=>cases r; rfl
 | int _=>obtain⟨t,rfl⟩:=r; rfl
 | str _=>obtain⟨t,rfl⟩:=r; rfl
 | byt _=>obtain⟨t,rfl⟩:=r; rfl
 | flt _=>obtain⟨t,rfl⟩:=r; rfl
 | ref _=>cases r; rfl
 | ty _=>cases r; rfl
theorem bz.inj {x y:V} {u:Nk} (r:bz x u) (q:bz y u):x=y:=MT (r.abs.symm.trans q.abs)
theorem bA.inj:∀ {xs ys:List V} {us:List Nk},bA xs us->bA ys us->xs=ys
 | _,_,_,.nil,.nil=>rfl
 | _,_,_,.cons r t,.cons r' t'=>by rw [r.inj r',bA.inj t t']
section
variable {X:Cx} {NA:List (Nl×Nz)} {σ:St} {H:Hp} {s:Nj} {a:Nl} {xs ys:List V}
theorem jW.of {K:PySem.W.Frag} (h:H a=some (.lst xs)):jW K H a xs:=.inl (.inl h)
theorem mB.of {K:PySem.W.Frag} (h:H a=some (.tup xs)):mB K H a xs:=.inl (.inl h)
theorem aI.list (I:aI X NA σ H s) (h:jW X.K H a xs):∃ its:List Nk,bA xs its/\PlainL s.heap a its.toArray/\xs.length<=sizeLine:=by
 rcases h with h | ⟨o,its,n,hk,hc,hd,hs,hz,r⟩
 ·obtain⟨z,its,n,r,e⟩:=h.ok I.hok;exact⟨its,r,⟨_,n,e,rfl,rfl,rfl⟩,z⟩
 ·refine⟨its.toList,r,⟨o,n,I.kIn a o hk,hc,hd,by simpa using hs⟩,?_⟩
  have e:=r.length;simp only [Array.length_toList] at e;omega
theorem aI.tuple (I:aI X NA σ H s) (h:mB X.K H a xs):∃ its:List Nk,bA xs its/\IsTup s.heap a its.toArray/\xs.length<=sizeLine:=by
 rcases h with h | ⟨o,its,n,hk,hc,hs,hz,r⟩
 ·obtain⟨z,its,r,p⟩:=h.ok I.hok;exact⟨its,r,p,z⟩
 ·refine⟨its.toList,r,⟨o,I.kIn a o hk,hc,n,by simpa using hs⟩,?_⟩
  have e:=r.length;simp only [Array.length_toList] at e;omega
theorem aI.list_inj (I:aI X NA σ H s) (h:jW X.K H a xs) (h':jW X.K H a ys):xs=ys:=by
 obtain⟨its,r,⟨o,n,e,_,_,d⟩,_⟩:=I.list h;obtain⟨its',r',⟨o',n',e',_,_,d'⟩,_⟩:=I.list h';rw [e] at e'; cases e'
 rw [d] at d';injection d' with d1 _
 have:its=its':=by simpa using congrArg Array.toList d1
 subst this;exact r.inj r'
theorem aI.tuple_inj (I:aI X NA σ H s) (h:mB X.K H a xs) (h':mB X.K H a ys):xs=ys:=by
 obtain⟨its,r,⟨o,e,_,n,d⟩,_⟩:=I.tuple h;obtain⟨its',r',⟨o',e',_,n',d'⟩,_⟩:=I.tuple h';rw [e] at e'; cases e'
 rw [d] at d';injection d' with d1 _
 have:its=its':=by simpa using congrArg Array.toList d1
 subst this;exact r.inj r'
end
abbrev Cx.wish (X:Cx) (E:Nk->Nj->Prop):Cx:={X with xe:=E}
abbrev Cx.nox (X:Cx):Cx:=X.wish λ_ _=>False
theorem Cx.Ok.wish {X:Cx} (ok:X.Ok) (E:Nk->Nj->Prop):(X.wish E).Ok:=
 ⟨ok.mod,ok.kind,ok.glob,ok.blt,ok.above,ok.inj,ok.has,ok.cab,ok.hd,ok.frames,ok.stk,ok.exf,ok.bs,ok.bsz,ok.noex,ok.exfs,ok.funs,ok.frf⟩
theorem Cx.Ok.unwish {X:Cx} {E:Nk->Nj->Prop} (ok:(X.wish E).Ok):X.Ok:=
 ⟨ok.mod,ok.kind,ok.glob,ok.blt,ok.above,ok.inj,ok.has,ok.cab,ok.hd,ok.frames,ok.stk,ok.exf,ok.bs,ok.bsz,ok.noex,ok.exfs,ok.funs,ok.frf⟩
section
variable {X:Cx} {NA:List (Nl×Nz)} {σ:St} {H:Hp} {s:Nj} {E:Nk->Nj->Prop}
theorem aI.wish (I:aI X NA σ H s) (E:Nk->Nj->Prop):aI (X.wish E) NA σ H s:=⟨I.ok.wish E,I.os,I.bare,I.base,I.loc,I.cell,I.free,I.freeC,I.pin,I.hok,I.len⟩
theorem aI.unwish (I:aI (X.wish E) NA σ H s):aI X NA σ H s:=⟨I.ok.unwish,I.os,I.bare,I.base,I.loc,I.cell,I.free,I.freeC,I.pin,I.hok,I.len⟩
theorem SP.unwish {D:sT} {f:Flow} {s':Nj} (h:SP (X.wish E) NA D f s'):SP X NA D f s':=by
 cases f with
 | next=>obtain⟨σ',H',I,q⟩:=h; exact⟨σ',H',I.unwish,q⟩
 | brk=>obtain⟨σ',H',I,q⟩:=h; exact⟨σ',H',I.unwish,q⟩
 | cont=>obtain⟨σ',H',I,q⟩:=h; exact⟨σ',H',I.unwish,q⟩
 | ret u=>obtain⟨v,σ',H',I,r,q⟩:=h; exact⟨v,σ',H',I.unwish,r,q⟩
theorem tI.nox {st:List Nu} {t:TS} (h:tI X.nox st t):tI X st t:=λNA s σ H D I hw=>
 MY (h NA s σ H D (I.wish _) hw) (λ_ _ q=>q.unwish) λ_ _ z=>False.elim z
end
section
variable {X:Cx} {st:Nu} {eJ:List Nu} {t u:TS} {e:No} {te:TE} {pos:Pos}
def Jx:TS:=λD σ H=>D.nx σ H
def JB (t u:TS):TS:=λD σ H=>t {D with nx:=u D} σ H
theorem EF:tI X [] Jx:=λ_ _ σ H _ I h=>wpAny_execs_nil ⟨σ,H,I,h⟩
theorem Ci (h1:PS X st t) (h2:tI X eJ u):tI X (st::eJ) (JB t u):=by
 intro NA s σ H D I h;refine wpAny_execs_cons (cu (h1 NA s σ H {D with nx:=u D} I h) λf s1 q=>?_)
 cases f with
 | next=>
  obtain⟨σ',H',I',q⟩:=q;exact h2 NA s1 σ' H' D I' q
 | ret v=>exact q
 | brk=>exact q
 | cont=>exact q
theorem E7 (h1:PS X st t):tI X [st] t:=by
 intro NA s σ H D I h;refine wpAny_execs_cons (cu (h1 NA s σ H D I h) λf s1 q=>?_)
 cases f with
 | next=>exact wpAny_execs_nil q
 | ret v=>exact q
 | brk=>exact q
 | cont=>exact q
theorem aI.quiet {NA:List (Nl×Nz)} {σ:St} {H:Hp} {s:Nj} (I:aI X NA σ H s):interactive X.env=false:=by simp [interactive,I.ok.kind]
def Io (te:TE):TS:=λD σ H=>te σ H λ_ H1=>D.nx σ H1
theorem DM (he:PE X e te) (hs:swapsWith e none pos.line X.env=pure false:=by rfl):PS X (.Expr e pos) (Io te):=by
 intro NA s σ H D I h;exact wpAny_Expr_any (cu (he NA s σ H _ I h) λv s1 z9=>by obtain⟨x,H1,I1,r1,q1⟩:=z9; exact⟨σ,H1,I1,q1⟩) I.quiet hs
def Ld (te:TE):TS:=λD σ H=>te σ H D.rt
theorem FS (he:PE X e te):PS X (.Return (some e) pos) (Ld te):=by
 intro NA s σ H D I h;exact wpAny_Return_some (cu (he NA s σ H _ I h) λv s1 z9=>by obtain⟨x,H1,I1,r1,q1⟩:=z9; exact⟨x,σ,H1,I1,r1,q1⟩)
def KQ (c:TT) (t u:TS):TS:=λD σ H=>c σ H λb H1=>if b=true then t D σ H1 else u D σ H1
theorem II {c:No} {a b:List Nu} {tc:TT} (hc:PT X c tc) (ha:tI X a t) (hb:tI X b u):PS X (.If c a b pos) (KQ tc t u):=by
 intro NA s σ H D I h;refine wpAny_If (cu (hc NA s σ H _ I h) λd s1 z9=>?_)
 obtain⟨H1,I1,q1⟩:=z9;cases d with
 | true=>exact ha NA s1 σ H1 D I1 q1
 | false=>exact hb NA s1 σ H1 D I1 q1
def Hf:TS:=λ_ _ _=>False
theorem Bc:PS X st Hf:=λ_ _ _ _ _ _ h=>h.elim
end
abbrev TG:=V->St->Hp->(St->Hp->Prop)->Prop
abbrev AO:=List V->St->Hp->(St->Hp->Prop)->Prop
def PG (X:Cx) (target:No) (t:TG):Prop:=
 ∀ (NA:List (Nl×Nz)) (s:Nj) (σ:St) (H:Hp) (v:V) (u:Nk) (Q:St->Hp->Prop),aI X NA σ H s->bz v u->t v σ H Q->
  wpAny (model X.prog X.w) X.A (assign target X.env u) (λ_ s'=>∃ σ' H',aI X NA σ' H' s'/\Q σ' H') X.xe s
def Bu (X:Cx) (ts:List No) (t:AO):Prop:=
 ∀ (NA:List (Nl×Nz)) (s:Nj) (σ:St) (H:Hp) (vs:List V) (us:List Nk) (Q:St->Hp->Prop),aI X NA σ H s->bA vs us->t vs σ H Q->
  wpAny (model X.prog X.w) X.A (assignInOrder ((assignEach ts X.env).map (·.2)) us) (λ_ s'=>∃ σ' H',aI X NA σ' H' s'/\Q σ' H') X.xe s
abbrev FU:=V->V->V->Hp->(Hp->Prop)->Prop
def Iu (X:Cx) (t:FU):Prop:=
 ∀ (NA:List (Nl×Nz)) (s:Nj) (σ:St) (H:Hp) (o i v:V) (ov iv u:Nk) (Q:Hp->Prop),aI X NA σ H s->bz o ov->bz i iv->bz v u->t o i v H Q->
  wpAny (model X.prog X.w) X.A (setItem ov iv u) (λ_ s'=>∃ H',aI X NA σ H' s'/\Q H') X.xe s
section
variable {X:Cx} {pos:Pos}
def qF (i:Nat):TG:=λv σ H Q=>Q (σ.set i (some v)) H
theorem vR {i:Nat} {x:Str} (hN:X.N.Nodup) (hi:X.N[i]?=some x) (hx:AI X.env.scope x) (hf:X.fn x=true\/X.env.scope.names.lookup x=some .local:=by first | exact .inl rfl | exact .inr rfl | assumption):PG X (.Name x pos) (qF i):=by
 intro NA s σ H v u Q I r h;exact wpAny_assign_Name (fY I hN hi hx r (λs' I'=>⟨_,H,I',h⟩) hf)
def KU:AO:=λvs σ H Q=>vs=[]/\Q σ H
def Jn (t:TG) (u:AO):AO:=λvs σ H Q=>∃ v r,vs=v::r/\t v σ H fun σ' H'=>u r σ' H' Q
theorem Dx:Bu X [] KU:=by
 intro NA s σ H vs us Q I r h;obtain⟨e,h⟩:=h;subst e;cases r;exact assignInOrder_nil ⟨σ,H,I,h⟩
theorem A2 {e:No} {es:List No} {t:TG} {u:AO} (h1:PG X e t) (h2:Bu X es u)
  (hs:(assignEach (e::es) X.env).map (·.2)=assign e X.env::(assignEach es X.env).map (·.2):=by rfl):Bu X (e::es) (Jn t u):=by
 intro NA s σ H vs us Q I r h;obtain⟨v,vr,e1,h⟩:=h;subst e1;cases r with
 | cons r rr=>
  rw [hs];refine assignInOrder_cons (cu (h1 NA s σ H _ _ _ I r h) λ_ s1 z9=>?_)
  obtain⟨σ1,H1,I1,q1⟩:=z9;exact h2 NA s1 σ1 H1 _ _ Q I1 rr q1
def Lf (K:PySem.W.Frag) (n:Nat) (t:AO):TG:=λv σ H Q=>∃ a xs,v=.ref a/\mB K H a xs/\xs.length=n/\t xs σ H Q
theorem F6 {es:List No} {k:Nat} {t:AO} {n:Nat} (hc:X.calm=true) (h:Bu X es t)
  (hn:(assignEach es X.env).length=n:=by rfl) (hst:(assignEach es X.env).findIdx? (·.1)=none:=by rfl):PG X (.Tuple es k pos) (Lf X.K n t):=by
 intro NA s σ H v u Q I r hw;obtain⟨a,xs,e1,hq,hl,hw⟩:=hw;subst e1;cases r;obtain⟨its,rv,ht,hz⟩:=I.tuple hq;refine assign_Tuple_tuple (I.ok.hd hc) ht (by simp [hn,<- hl,rv.length]) hst λh' hx=>?_
 have I1:aI X NA σ H {s with heap:=h'}:=I.kept (t':=s.toks) λb o e=>hx b o (Mu (Mo e)) e
 exact h NA _ σ H xs _ Q I1 (by simpa using rv) hw
def Le (to ti:TE) (t:FU):TG:=λv σ H Q=>to σ H λo H1=>ti σ H1 λi H2=>t o i v H2 λH3=>Q σ H3
theorem Hy {o i:No} {to ti:TE} {t:FU} (ho:PE X o to) (hi:PE X i ti) (hs:Iu X t)
  (ha:∀ v,assign (.Subscript o i pos) X.env v=(do
   let ov <- holding [v] (eval o X.env)
   let iv <- holding [v,ov] (eval i X.env)
   standAt pos
   holding [v,ov,iv] (setItem ov iv v)
   release [v,ov,iv] []):=by intro _; rfl):PG X (.Subscript o i pos) (Le to ti t):=by
 intro NA s σ H v u Q I r h;rw [ha];refine Mj (MM (cu (ho NA s σ H _ I h) λov s1 z9=>?_))
 obtain⟨x,H1,I1,r1,q1⟩:=z9;refine Mj (MM (cu (hi NA s1 σ H1 _ I1 q1) λiv s2 z9=>?_))
 obtain⟨y,H2,I2,r2,q2⟩:=z9;refine Mj (wpAny_standAt (Mj (MM (cu (hs NA s2 σ H2 x y v ov iv u _ I2 r1 r2 r q2) λ_ s3 z9=>?_))))
 obtain⟨H3,I3,q3⟩:=z9;exact wpAny_release ⟨σ,H3,I3,q3⟩
def Bq (te:TE) (g:TG):TS:=λD σ H=>te σ H λx H1=>g x σ H1 D.nx
theorem G7 {tg e:No} {te:TE} {g:TG} (he:PE X e te) (hg:PG X tg g) (hs:swapsWithSole [tg] e pos.line X.env=pure false:=by rfl) (hw:swappedStores [tg] e X.env=pure none:=by rfl)
  (h1:(assignEach [tg] X.env).map (·.2)=[assign tg X.env]:=by rfl):PS X (.Assign [tg] e pos) (Bq te g):=by
 intro NA s σ H D I h;refine wpAny_Assign_stores (cu (he NA s σ H _ I h) λv s1 ⟨x,H1,I1,r1,q1⟩=>?_) hs hw
 rw [h1];exact cu (hg NA s1 σ H1 x v _ I1 r1 q1) λ_ s2 q=>q
theorem G' {i:Nat} {x:Str} {e:No} {te:TE} {pos':Pos} (hN:X.N.Nodup) (hi:X.N[i]?=some x) (hx:AI X.env.scope x) (he:PE X e te) (hs:swapsWith e (some (.Name x pos')) pos.line X.env=pure false:=by rfl) (hf:X.fn x=true\/X.env.scope.names.lookup x=some .local:=by first | exact .inl rfl | exact .inr rfl | assumption):
  PS X (.Assign [.Name x pos'] e pos) (Bq te (qF i)):=by
 intro NA s σ H D I h;refine wpAny_Assign_Name (cu (he NA s σ H _ I h) λv s1 ⟨y,H1,I1,r1,q1⟩=>?_) hs
 exact fY I1 hN hi hx r1 (λs2 I2=>⟨_,H1,I2,q1⟩) hf
def Ko (i j:Nat) (ta:TA):TS:=λD σ H=>ta σ H λvs H1=>∃ v w,vs=[v,w]/\D.nx ((σ.set i (some v)).set j (some w)) H1
theorem G5 {i j:Nat} {x y:Str} {a b:No} {ta:TA} {px py pt:Pos} {kt k2 pt2} (hc:X.calm=true) (hN:X.N.Nodup) (hi:X.N[i]?=some x) (hj:X.N[j]?=some y) (hij:i≠j)
  (hx:X.env.scope.names.lookup x=some .local) (hy:X.env.scope.names.lookup y=some .local) (ha:PA X [a,b] ta)
  (hw:swappedStores [.Tuple [.Name x px,.Name y py] kt pt] (.Tuple [a,b] k2 pt2) X.env=pure (some [x,y]))
  (hs:swapsWithSole [.Tuple [.Name x px,.Name y py] kt pt] (.Tuple [a,b] k2 pt2) pos.line X.env=pure false:=by rfl):
  PS X (.Assign [.Tuple [.Name x px,.Name y py] kt pt] (.Tuple [a,b] k2 pt2) pos) (Ko i j ta):=by
 intro NA s σ H D I h;rw [exec_Assign_arm];refine Mj (wpAny_standAt ?_);rw [hs];refine Mj (Ml ?_);rw [if_neg (by decide)]
 refine Mj (Tuple_ (cu (ha _ NA s σ H _ I h) λus s1 z9=>?_))
 obtain⟨vs,H1,I1,r1,q1⟩:=z9;obtain⟨v,w,e1,q1⟩:=q1;subst e1;obtain⟨u1,u2,rfl,rv,rw'⟩:∃ u1 u2,us=[u1,u2]/\bz v u1/\bz w u2:=by
  cases r1 with
  | cons p q=>
   cases q with
   | cons p' q'=>
    cases q';exact⟨_,_,rfl,p,p'⟩
 refine MO ?_ (by show 2<=sizeLine; decide)
 have I2:aI X NA σ H1 {s1 with heap:=s1.heap.push {cls:=.type "tuple",data:=.seq [u1,u2].toArray}}:=I1.kept (t':=s1.toks) λb o e=>Mk _ e
 rw [hw];refine Mj (Ml ?_)
 show wpAny (model X.prog X.w) X.A (do rule "assign.swapped-stores"; let items <- unpackItems (.ref s1.heap.objs.size) 2 none; assignInOrder [λv=>bindName X.env y v,λv=>bindName X.env x v] items.reverse; pure Flow.next) _ _ _
 refine Mj (wpAny_rule (Mj (unpackItems_tuple (items:=#[u1,u2]) (I.ok.hd hc) (IsTup.new s1.heap _) λh' hx'=>?_)))
 have I3:=I2.kept (h':=h') (t':=s1.toks) λb o e=>hx' b o (Mu (Mo e)) e
 show wpAny _ _ (assignInOrder [λv=>bindName X.env y v,λv=>bindName X.env x v] [u2,u1] >>= λ_=>pure Flow.next) _ _ _
 refine Mj (assignInOrder_cons (wpAny_bindName (fY I3 hN hj (.inl hy) rw' (λs2 I4=>?_) (.inr hy))))
 refine assignInOrder_cons (wpAny_bindName (fY I4 hN hi (.inl hx) rv (λs3 I5=>assignInOrder_nil (Ml ?_)) (.inr hx)))
 rw [List.set_comm _ _ (Ne.symm hij)] at I5;exact⟨_,H1,I5,q1⟩
def HE (c:TT) (tb:TS):TS:=λD σ H=>∃ W:Nat->St->Hp->Prop,(∃ m,W m σ H)/\∀ m σ H,W m σ H->
 c σ H λb H1=>if b=true then ∃ N:St->Hp->Prop,(∀ σ' H',N σ' H'->∃ m',m' < m/\W m' σ' H')/\tb {D with nx:=N,ct:=N,bk:=D.nx} σ H1 else D.nx σ H1
theorem Cy {c:No} {body:List Nu} {tc:TT} {tb:TS} (hp:PassesOwn (model X.prog X.w) X.A X.env X.xe) (hc:PT X c tc) (hb:tI X body tb):PS X (.While c body [] pos) (HE tc tb):=by
 intro NA s σ H D I h;obtain⟨W,⟨m0,w0⟩,turn⟩:=h;refine wpAny_While (codeAny_whileLoop (λn s'=>∃ σ' H',aI X NA σ' H' s'/\W n σ' H') ?_ m0 ⟨σ,H,I,w0⟩)
 rintro n s1 ⟨σ1,H1,I1,w1⟩;refine wpAny_passesOwn hp (cu (hc NA s1 σ1 H1 _ I1 (turn n σ1 H1 w1)) λb s2 z9=>?_)
 obtain⟨H2,I2,q2⟩:=z9;cases b with
 | true=>
  obtain⟨N,hN,q2⟩:=q2;rw [if_pos rfl];refine wpAny_passesOwn hp (cu (hb NA s2 σ1 H2 _ I2 q2) λf s3 q3=>?_)
  cases f with
  | next=>
   obtain⟨σ3,H3,I3,n3⟩:=q3;obtain⟨m',hm,w3⟩:=hN σ3 H3 n3;exact⟨m',hm,σ3,H3,I3,w3⟩
  | cont=>
   obtain⟨σ3,H3,I3,n3⟩:=q3;obtain⟨m',hm,w3⟩:=hN σ3 H3 n3;exact⟨m',hm,σ3,H3,I3,w3⟩
  | brk=>exact q3
  | ret v=>exact q3
 | false=>
  rw [if_neg Mr];exact wpAny_execs_nil ⟨σ1,H2,I2,q2⟩
end
structure It where
 go:Nat->Hp->Prop
 yld:Nat->Hp->V->Hp->Prop
 stop:Nat->Hp->Prop
def qQ (X:Cx) (NA:List (Nl×Nz)) (H:Hp) (b:Nl):Prop:=
 H b=none/\b≠X.env.locals/\b∉X.fs/\(b∈X.ex\/X.s₀.heap.objs.size<=b)/\(∀ x c,X.env.cells.lookup x=some c->c≠b)/\∀ p∈X.pn++NA,p.1≠b
theorem aI.fpOk {X:Cx} {NA:List (Nl×Nz)} {σ:St} {H H':Hp} {s:Nj} {b:Nl} (I:aI X NA σ H s) (hb:s.heap.objs.size<=b) (hn:H' b=none):qQ X NA H' b:=by
 refine⟨hn,Nat.ne_of_gt (Mz I.lt hb),I.nofs hb,.inr (M1 I.sz hb),λx c e z=>?_,λp hp z=>?_⟩
 ·obtain⟨v,q⟩:=I.cell x c e;exact absurd (Mz q.lt (by rw [z]; exact hb)) (Na _)
 ·exact absurd (Mz (Mo (I.pin p hp).1) (by rw [z]; exact hb)) (Na _)
structure zM (P:Np) (w:Nr) (K:PySem.W.Frag) (tg:No) (J:It) (fp:List Nl) (it:Nl) (tn:Nat->Nt->Prop):Prop where
 mem:it∈fp
 obj:∀ i h,tn i h->∀ b∈fp,∃ o,h.get? b=some o/\∀ v,o.data≠.cell v
 keep:∀ i h h',tn i h->(∀ b∈fp,∀ o,h.get? b=some o->h'.get? b=some o)->tn i h'
 item:∀ (X:Cx),X.prog=P->X.w=w->X.K=K->X.calm=true->∀ (i:Nat) (NA:List (Nl×Nz)) (s:Nj) (σ:St) (H:Hp) (E:Nk->Nj->Prop),aI X NA σ H s->(∀ b∈fp,qQ X NA H b)->tn i s.heap->J.go i H->
  wpAny (model P w) X.A (pyNext (.ref it)) (λr s1=>∃ u,r=some u/\
   wpAny (model P w) X.A (letOwnedTupleGo tg (.ref it) u) (λ_ s2=>∃ x H',aI X NA σ H' s2/\bz x u/\J.yld i H x H'/\tn (i+1) s2.heap/\∀ b∈fp,H' b=none) E s1) E s
 done:∀ (X:Cx),X.prog=P->X.w=w->X.K=K->X.calm=true->∀ (i:Nat) (NA:List (Nl×Nz)) (s:Nj) (σ:St) (H:Hp) (E:Nk->Nj->Prop),aI X NA σ H s->(∀ b∈fp,qQ X NA H b)->tn i s.heap->J.stop i H->
  wpAny (model P w) X.A (pyNext (.ref it)) (λr s1=>r=none/\aI X NA σ H s1) E s
 self:∀ (A:Nq) (i:Nat) (s:Nj) (Q:Nk->Nj->Prop) (E:Nk->Nj->Prop),tn i s.heap->Q (.ref it) s->wpAny (model P w) A (pyIter (.ref it)) Q E s
abbrev TI:=St->Hp->(It->Hp->Prop)->Prop
def LB (X:Cx) (NA:List (Nl×Nz)) (σ:St) (tg:No) (R:It->Hp->Prop) (itv:Nk) (s2:Nj):Prop:=
 ∃ (it:Nl) (fp:List Nl) (tn:Nat->Nt->Prop) (J:It) (H':Hp),itv=.ref it/\aI X NA σ H' s2/\zM X.prog X.w X.K tg J fp it tn/\tn 0 s2.heap/\(∀ b∈fp,qQ X NA H' b)/\R J H'
def PI (X:Cx) (tg iter:No) (wi:TI):Prop:=
 ∀ (NA:List (Nl×Nz)) (s:Nj) (σ:St) (H:Hp) (R:It->Hp->Prop),aI X NA σ H s->wi σ H R->
  wpAny (model X.prog X.w) X.A (eval iter X.env) (λv s1=>wpAny (model X.prog X.w) X.A (pyIter v) (LB X NA σ tg R) X.xe s1) X.xe s
theorem AR {M:Model} {A:Nq} {E:Nk->Nj->Prop} {s:Nj} {tg:No} {it:Nl} {u:Nk} {o:Nz} {n:Ny} {vs:Nv Nk} {Q:Unit->Nj->Prop} (ho:s.heap.get? it=some o) (hc:o.cls=.type n) (hd:o.data=.fields vs)
  (hn:["enumerate","zip","dict_itemiterator","dict_reverseitemiterator","odict_iterator","itertools.zip_longest","itertools.pairwise"].contains n=false) (hQ:Q () s):wpAny M A (letOwnedTupleGo tg (.ref it) u) Q E s:=by
 unfold letOwnedTupleGo;cases tg <;> first
  | exact Ml hQ
  | (cases u <;> first
    | exact Ml hQ
    | (refine Mj (wpAny_load ho ?_)
       rw [hc,hd]
       show wpAny M A (if (["enumerate","zip","dict_itemiterator","dict_reverseitemiterator","odict_iterator","itertools.zip_longest","itertools.pairwise"].contains n && vs[0]? == some (rawInt _))=true then _ else _) Q E s
       rw [if_neg (by intro h; rw [hn,Bool.false_and] at h; cases h)]
       exact Ml hQ))
def Im (K:PySem.W.Frag) (a:Nl):It:=
 ⟨λi H=>∃ xs x,jW K H a xs/\xs[i]?=some x,λi H x H'=>H'=H/\∀ xs,jW K H a xs->xs[i]?=some x,λi H=>∃ xs,jW K H a xs/\xs.length<=i⟩
def IB (K:PySem.W.Frag) (a:Nl):It:=
 ⟨λi H=>∃ xs x,mB K H a xs/\xs[i]?=some x,λi H x H'=>H'=H/\∀ xs,mB K H a xs->xs[i]?=some x,λi H=>∃ xs,mB K H a xs/\xs.length<=i⟩
def I_ (lo:Int) (n:Nat):It:=⟨λi _=>i < n,λi H x H'=>H'=H/\x=.int (lo+i),λi _=>n<=i⟩
theorem zV {P:Np} {w:Nr} {K:PySem.W.Frag} {tg:No} (a it:Nl):zM P w K tg (Im K a) [it] it (λi h=>h.IsListIter it a i) where
 mem:=by simp
 obj:=λi h st b hb=>by
  have e:b=it:=by simpa using hb
  subst e;obtain⟨o,e,c,d⟩:=st;exact⟨o,e,λv z=>by rw [d] at z; cases z⟩
 keep:=λi h h' st k=>st.at λo e=>k it (by simp) o e
 item:=by
  intro X hP hw hK hc i NA s σ H E I hf st hg;subst hP hw hK;obtain⟨xs,x,hq,hx⟩:=hg;obtain⟨its,rv,p,hz⟩:=I.list hq;obtain⟨u,hu,ru⟩:=rv.get hx;obtain⟨f0,f1,f2,f3,f4,f5⟩:=hf it (by simp)
  refine wpAny_pyNext_list_item st p.isList (x:=u) (by simpa using hu) λh' st' sb=>?_
  have I1:aI X NA σ H {s with heap:=h'}:=I.turned (t':=s.toks) (λb o hb e=>(sb.2 b hb).trans e) f0 f1 f3 f4 f5
  obtain⟨o,e,c,d⟩:=id st';exact⟨u,rfl,AR (s:={s with heap:=h'}) e c d (by decide) ⟨x,H,I1,ru,⟨rfl,λys hy=>by rw [I.list_inj hy hq]; exact hx⟩,st',λb hb=>(hf b hb).1⟩⟩
 done:=by
  intro X hP hw hK hc i NA s σ H E I hf st hg;subst hP hw hK;obtain⟨xs,hq,hx⟩:=hg;obtain⟨its,rv,p,hz⟩:=I.list hq;obtain⟨f0,f1,f2,f3,f4,f5⟩:=hf it (by simp)
  have hl:=rv.length;exact wpAny_pyNext_list_end (I.ok.hd hc) st p.isList (by simp; omega) λh' eb=>⟨rfl,I.turned (t':=s.toks) (λb o hb e=>eb b o hb e) f0 f1 f3 f4 f5⟩
 self:=λ_ _ _ _ _ st h=>wpAny_pyIter_listiter st h
theorem yg {P:Np} {w:Nr} {K:PySem.W.Frag} {tg:No} (a it:Nl):zM P w K tg (IB K a) [it] it (λi h=>h.IsTupleIter it a i) where
 mem:=by simp
 obj:=λi h st b hb=>by
  have e:b=it:=by simpa using hb
  subst e;obtain⟨o,e,c,d⟩:=st;exact⟨o,e,λv z=>by rw [d] at z; cases z⟩
 keep:=λi h h' st k=>st.at λo e=>k it (by simp) o e
 item:=by
  intro X hP hw hK hc i NA s σ H E I hf st hg;subst hP hw hK;obtain⟨xs,x,hq,hx⟩:=hg;obtain⟨its,rv,p,hz⟩:=I.tuple hq;obtain⟨u,hu,ru⟩:=rv.get hx;obtain⟨f0,f1,f2,f3,f4,f5⟩:=hf it (by simp)
  refine wpAny_pyNext_tuple_item st (show s.heap.IsTuple a its.toArray from p) (x:=u) (by simpa using hu) λh' st' sb=>?_
  have I1:aI X NA σ H {s with heap:=h'}:=I.turned (t':=s.toks) (λb o hb e=>(sb.2 b hb).trans e) f0 f1 f3 f4 f5
  obtain⟨o,e,c,d⟩:=id st';exact⟨u,rfl,AR (s:={s with heap:=h'}) e c d (by decide) ⟨x,H,I1,ru,⟨rfl,λys hy=>by rw [I.tuple_inj hy hq]; exact hx⟩,st',λb hb=>(hf b hb).1⟩⟩
 done:=by
  intro X hP hw hK hc i NA s σ H E I hf st hg;subst hP hw hK;obtain⟨xs,hq,hx⟩:=hg;obtain⟨its,rv,p,hz⟩:=I.tuple hq;obtain⟨f0,f1,f2,f3,f4,f5⟩:=hf it (by simp)
  have hl:=rv.length;exact wpAny_pyNext_tuple_end (I.ok.hd hc) st (show s.heap.IsTuple a its.toArray from p) (by simp; omega) λh' eb=>⟨rfl,I.turned (t':=s.toks) (λb o hb e=>eb b o hb e) f0 f1 f3 f4 f5⟩
 self:=λ_ _ _ _ _ st h=>wpAny_pyIter_tupleiter st h
theorem yt {P:Np} {w:Nr} {K:PySem.W.Frag} {tg:No} (it:Nl) (lo:Int) (n:Nat):zM P w K tg (I_ lo n) [it] it (λi h=>IsRangeIter h it (lo+(i:Nat)*1) ((n:Int) - (i:Nat)) 1) where
 mem:=by simp
 obj:=λi h st b hb=>by
  have e:b=it:=by simpa using hb
  subst e;exact⟨_,st,λv z=>by
   have z':Data.fields _=Data.cell v:=z;cases z'⟩
 keep:=λi h h' st k=>k it (by simp) _ st
 item:=by
  intro X hP hw hK hc i NA s σ H E I hf st hg;subst hP hw hK;obtain⟨f0,f1,f2,f3,f4,f5⟩:=hf it (by simp)
  have W:=Walks.range (prog:=X.prog) (w:=X.w) (I.ok.hd hc) it lo 1 n;refine W.item i s _ _ hg st λv h' tk hv st' kk=>?_
  obtain⟨t,rfl⟩:=hv;have I1:aI X NA σ H {s with heap:=h',toks:=tk}:=I.turned (λb o hb e=>kk b o (by simpa using hb) e) f0 f1 f3 f4 f5
  refine⟨_,rfl,AR (s:={s with heap:=h',toks:=tk}) (n:="range_iterator") st' rfl rfl (by decide) ⟨.int (lo+i),H,I1,⟨t,?_⟩,⟨rfl,rfl⟩,st',λb hb=>(hf b hb).1⟩⟩
  rw [Int.mul_one]
 done:=by
  intro X hP hw hK hc i NA s σ H E I hf st hg;subst hP hw hK;obtain⟨f0,f1,f2,f3,f4,f5⟩:=hf it (by simp)
  exact wpAny_pyNext_range_end (I.ok.hd hc) st (by have:n<=i:=hg; omega) λh' eb=>⟨rfl,I.turned (t':=s.toks) (λb o hb e=>eb b o hb e) f0 f1 f3 f4 f5⟩
 self:=λ_ _ _ _ _ st h=>wpAny_pyIter_rangeiter st h
section
variable {X:Cx} {tg:No}
theorem BJ {NA:List (Nl×Nz)} {σ:St} {H:Hp} {s:Nj} {R:It->Hp->Prop} {E:Nk->Nj->Prop} {lo hi:Int} {t u v:Tok} {tk:Nat} (I:aI X NA σ H s) (h1:-(2 ^ 62)<=lo) (h2:lo < 2 ^ 62) (h3:-(2 ^ 62)<=hi) (h4:hi < 2 ^ 62)
  (q:R (I_ lo (hi - lo).toNat) H):wpAny (model X.prog X.w) X.A (pyIter (.ref s.heap.objs.size)) (LB X NA σ tg R) E {s with heap:=s.heap.push {cls:=.type "range",data:=.fields #[.int lo t,.int hi u,.int 1 v]},toks:=tk}:=by
 refine wpAny_pyIter_range (IsRange.new ..) (small_one h1 h2 h3 h4) ?_;have I1:aI X NA σ H {s with heap:=s.heap.push {cls:=.type "range",data:=.fields #[.int lo t,.int hi u,.int 1 v]},toks:=tk}:=I.kept λb o e=>Mk _ e
 refine⟨(s.heap.push {cls:=.type "range",data:=.fields #[.int lo t,.int hi u,.int 1 v]}).objs.size,[(s.heap.push {cls:=.type "range",data:=.fields #[.int lo t,.int hi u,.int 1 v]}).objs.size],_,_,H,rfl,
  I1.kept (t':=tk) λb o e=>Mk _ e,yt _ lo (hi - lo).toNat,?_,λb hb=>?_,q⟩
 ·have e1:lo+((0:Nat):Int)*1=lo:=by simp
  have e2:(((hi - lo).toNat:Nat):Int) - ((0:Nat):Int)=Builtin.Range.rangeSize lo hi 1:=by rw [rangeSize_one]; split <;> omega
  show IsRangeIter _ _ (lo+((0:Nat):Int)*1) ((((hi - lo).toNat:Nat):Int) - ((0:Nat):Int)) 1
  rw [e1,e2];exact Mm _ rfl
 ·have e:b=(s.heap.push {cls:=.type "range",data:=.fields #[.int lo t,.int hi u,.int 1 v]}).objs.size:=by simpa using hb
  subst e;exact I1.fpOk (Mp _) (I1.hok.fresh (Mp _))
def IK (ta:TA):TI:=fun σ H R=>ta σ H λvs H1=>∃ j:Int,vs=[.int j]/\-(2 ^ 62)<=j/\j < 2 ^ 62/\R (I_ 0 j.toNat) H1
theorem mz {a:No} {ta:TA} {p pos:Pos} (hg:Gl X "range") (hm:X.mg "range"=none) (ha:PA X [a] ta) (hs:starEach [a] X.env=[(false,eval a X.env)]:=by rfl):PI X tg (.Call (.Name "range" p) [a] [] pos) (IK ta):=by
 intro NA s σ H R I h;refine Call_ (qx I hg hm boot_range (PyProof.Rows.callWith_type1 (cu (ha pos NA s σ H _ I h) λus s1 ⟨vs,H1,I1,r1,q1⟩=>?_) hs rfl))
 obtain⟨j,e,q1,q2,q⟩:=q1;subst e;cases r1 with
 | cons r rr=>
  cases rr;obtain⟨t,rfl⟩:=r;exact call_range_1 (BJ I1 (by omega) (by omega) q1 q2 (by simpa using q))
def Kv (wi:TI) (g:TG) (tb:TS):TS:=λD σ H=>wi σ H λJ H1=>∃ W:Nat->Nat->St->Hp->Prop,(∃ m,W 0 m σ H1)/\∀ i m σ H,W i m σ H->
 (J.stop i H/\D.nx σ H)\/(J.go i H/\∃ N:St->Hp->Prop,(∀ σ' H',N σ' H'->∃ m',m' < m/\W (i+1) m' σ' H')/\∀ x H',J.yld i H x H'->g x σ H' fun σ2 H2=>tb {D with nx:=N,ct:=N,bk:=D.nx} σ2 H2)
def qw (fp:List Nl) (h:Nt):List (Nl×Nz):=fp.filterMap λb=>(h.get? b).map λo=>(b,o)
theorem dn {fp:List Nl} {h:Nt} {b:Nl} {o:Nz} (hb:b∈fp) (e:h.get? b=some o):(b,o)∈qw fp h:=List.mem_filterMap.mpr ⟨b,hb,by rw [e]; rfl⟩
theorem zP {fp:List Nl} {h:Nt} {p:Nl×Nz} (hp:p∈qw fp h):p.1∈fp/\h.get? p.1=some p.2:=by
 obtain⟨b,hb,e⟩:=List.mem_filterMap.mp hp;cases q:h.get? b with
 | none=>rw [q] at e; cases e
 | some o=>
  rw [q] at e;have e':(b,o)=p:=MT e;subst e';exact⟨hb,q⟩
theorem aI.pinned {NA:List (Nl×Nz)} {σ:St} {H:Hp} {s:Nj} {fp:List Nl} (I:aI X NA σ H s) (hf:∀ b∈fp,qQ X NA H b) (ho:∀ b∈fp,∃ o,s.heap.get? b=some o/\∀ v,o.data≠.cell v):aI X (NA++qw fp s.heap) σ H s:=
 I.pins_of λp hp=>(List.mem_append.mp hp).elim (λz=>I.pin p (MA _ z)) λz=>by
  obtain⟨hb,e⟩:=zP z;obtain⟨f0,f1,f2,_⟩:=hf p.1 hb;obtain⟨o,e',d⟩:=ho p.1 hb;rw [e] at e'; cases e'
  exact⟨e,f0,f1,f2,d⟩
theorem aI.unpinned {NA pl:List (Nl×Nz)} {σ:St} {H:Hp} {s:Nj} (I:aI X (NA++pl) σ H s):aI X NA σ H s:=I.pins_of λp hp=>I.pin p (MA _ (List.mem_append_left _ hp))
theorem wl {iter:No} {body:List Nu} {wi:TI} {g:TG} {tb:TS} {pos:Pos} (hp:PassesOwn (model X.prog X.w) X.A X.env X.xe) (hc:X.calm=true) (hi:PI X tg iter wi) (hg:PG X tg g) (hb:tI X body tb)
  (hs:∀ x,foldedSetIterable iter X.env x=pure x:=by intro _; rfl):PS X (.For tg iter body [] pos) (Kv wi g tb):=by
 intro NA s σ H D I h;refine wpAny_For (cu (hi NA s σ H _ I h) λv s1 h1=>cu h1 λitv s2 h2=>?_) hs
 obtain⟨it,fp,tn,J,H2,e,I2,T,st2,f2,W,⟨m0,w0⟩,turn⟩:=h2;subst e;have stat:∀ {H':Hp},(∀ b∈fp,H' b=none)->∀ b∈fp,qQ X NA H' b:=λhn b hb=>⟨hn b hb,(f2 b hb).2⟩
 refine codeAny_forLoop_any (λn s'=>∃ i σ' H',aI X NA σ' H' s'/\tn i s'.heap/\(∀ b∈fp,H' b=none)/\W i n σ' H') ?_ m0 ⟨0,σ,H2,I2,st2,λb hb=>(f2 b hb).1,w0⟩
 rintro n s3 ⟨i,σ3,H3,I3,st3,fr3,w3⟩;rcases turn i n σ3 H3 w3 with ⟨stop,qn⟩ | ⟨go,N,hN,step⟩
 ·refine wpAny_passesOwn hp (cu (T.done X rfl rfl rfl hc i NA s3 σ3 H3 X.xe I3 (stat fr3) st3 stop) λr s4 z9=>?_)
  obtain⟨hr,I4⟩:=z9;subst hr;exact wpAny_execs_nil ⟨σ3,H3,I4,qn⟩
 ·refine wpAny_passesOwn hp (cu (T.item X rfl rfl rfl hc i NA s3 σ3 H3 X.xe I3 (stat fr3) st3 go) λr s4 z9=>?_)
  obtain⟨u,hr,h4⟩:=z9;subst hr;refine wpAny_passesOwn hp (cu h4 λ_ s5 z9=>?_)
  obtain⟨x,H5,I5,r5,y5,st5,fr5⟩:=z9;have I5':=I5.pinned (stat fr5) (T.obj _ _ st5);refine wpAny_passesOwn hp (cu (hg _ s5 σ3 H5 x u _ I5' r5 (step x H5 y5)) λ_ s6 z9=>?_)
  obtain⟨σ6,H6,I6,q6⟩:=z9;refine wpAny_passesOwn hp (cu (hb _ s6 σ6 H6 _ I6 q6) λf s7 q7=>?_)
  have again:∀ {σ7:St} {H7:Hp},aI X (NA++qw fp s5.heap) σ7 H7 s7->N σ7 H7->∃ m,m < n/\∃ i σ' H',aI X NA σ' H' s7/\tn i s7.heap/\(∀ b∈fp,H' b=none)/\W i m σ' H':=λ{σ7 H7} I7 n7=>by
   obtain⟨m',hm,w7⟩:=hN σ7 H7 n7;refine⟨m',hm,i+1,σ7,H7,I7.unpinned,T.keep _ _ _ st5 λb hb o e=>(I7.pin (b,o) (MA _ (MA _ (dn hb e)))).1,λb hb=>?_,w7⟩
   obtain⟨o,e,d⟩:=T.obj _ _ st5 b hb;exact(I7.pin (b,o) (MA _ (MA _ (dn hb e)))).2.1
  cases f with
  | next=>obtain⟨σ7,H7,I7,n7⟩:=q7; exact again I7 n7
  | cont=>obtain⟨σ7,H7,I7,n7⟩:=q7; exact again I7 n7
  | brk=>obtain⟨σ7,H7,I7,q7⟩:=q7; exact⟨σ7,H7,I7.unpinned,q7⟩
  | ret v=>obtain⟨x7,σ7,H7,I7,r7,q7⟩:=q7; exact⟨x7,σ7,H7,I7.unpinned,r7,q7⟩
end
abbrev R2:=V->V->Hp->VK->Prop
def gp (X:Cx) (f:Nk->Nk->Sem Nk) (r:R2):Prop:=
 ∀ (NA:List (Nl×Nz)) (s:Nj) (σ:St) (H:Hp) (x y:V) (v u:Nk) (Q:VK),aI X NA σ H s->bz x v->bz y u->r x y H Q->
  wpAny (model X.prog X.w) X.A (f v u) (EP X NA σ Q) X.xe s
def Jf (X:Cx) (f:Nk->Sem Nk) (r:V->Hp->VK->Prop):Prop:=
 ∀ (NA:List (Nl×Nz)) (s:Nj) (σ:St) (H:Hp) (x:V) (v:Nk) (Q:VK),aI X NA σ H s->bz x v->r x H Q->
  wpAny (model X.prog X.w) X.A (f v) (EP X NA σ Q) X.xe s
def dZ (X:Cx) (f:Nk) (r:List V->Hp->VK->Prop):Prop:=
 ∀ (NA:List (Nl×Nz)) (s:Nj) (σ:St) (H:Hp) (xs:List V) (us:List Nk) (Q:VK),aI X NA σ H s->bA xs us->r xs H Q->
  wpAny (model X.prog X.w) X.A (call f us) (EP X NA σ Q) X.xe s
def Jv (r:R2) (ta tb:TE):TE:=fun σ H Q=>ta σ H λx H1=>tb σ H1 λy H2=>r x y H2 Q
def LP (r:V->Hp->VK->Prop) (ta:TE):TE:=fun σ H Q=>ta σ H λx H1=>r x H1 Q
def rI (C:Int->Int->Prop) (g:Int->Int->V):R2:=λx y H Q=>∃ i j,x=.int i/\y=.int j/\C i j/\Q (g i j) H
def EZ (g:Int->Int->V):R2:=λx y H Q=>∃ i j,x=.int i/\y=.int j/\Q (g i j) H
def rU (g:Int->V):V->Hp->VK->Prop:=λx H Q=>∃ i,x=.int i/\Q (g i) H
section
variable {X:Cx} {a b c:No} {ta tb tc:TE} {pos:Pos}
theorem HL (ha:PE X a ta) (hb:PE X b tb) {NA:List (Nl×Nz)} {s:Nj} {σ:St} {H:Hp} {R:V->V->Hp->Prop} (I:aI X NA σ H s)
  (h:ta σ H λx H1=>tb σ H1 λy H2=>R x y H2) {Q:Nk->Nj->Prop} {f:Nk->Nk->Sem Nk}
  (hf:∀ v u s2 x y H2,aI X NA σ H2 s2->bz x v->bz y u->R x y H2->wpAny (model X.prog X.w) X.A (f v u) Q X.xe s2):
  wpAny (model X.prog X.w) X.A (eval a X.env) (λv s₁=>wpAny (model X.prog X.w) X.A (eval b X.env) (λu s₂=>wpAny (model X.prog X.w) X.A (f v u) Q X.xe s₂) X.xe s₁) X.xe s:=by
 refine cu (ha NA s σ H _ I h) λv s1 z9=>?_
 obtain⟨x,H1,I1,r1,q1⟩:=z9;refine cu (hb NA s1 σ H1 _ I1 q1) λu s2 z9=>?_
 obtain⟨y,H2,I2,r2,q2⟩:=z9;exact hf v u s2 x y H2 I2 r1 r2 q2
theorem JQ {op:Operator} {r:R2} (ho:gp X (binaryOp op) r) (ha:PE X a ta) (hb:PE X b tb):PE X (.BinOp a op b pos) (Jv r ta tb):=by
 intro NA s σ H Q I h;exact wpAny_BinOp (HL ha hb I h λv u s2 x y H2 I2 rx ry q=>ho NA s2 σ H2 x y v u Q I2 rx ry q)
theorem JG {op:UnaryOp} {r:V->Hp->VK->Prop} (ho:Jf X (unaryOp op) r) (ha:PE X a ta):PE X (.UnaryOp op a pos) (LP r ta):=by
 intro NA s σ H Q I h;exact UnaryOp_ (cu (ha NA s σ H _ I h) λv s1 z9=>by obtain⟨x,H1,I1,r1,q1⟩:=z9; exact ho NA s1 σ H1 x v Q I1 r1 q1)
theorem IM {f:Nk->Nk->Sem Nk} {C:Int->Int->Prop} {g:Int->Int->Int}
  (rule:∀ (i j:Int) (t u:Tok) (s:Nj) (Q:Nk->Nj->Prop) (E:Nk->Nj->Prop),C i j->Q (.int (g i j) s.toks) {s with toks:=s.toks+1}->wpAny (model X.prog X.w) X.A (f (.int i t) (.int j u)) Q E s):
  gp X f (rI C λi j=>.int (g i j)):=by
 intro NA s σ H x y v u Q I rx ry h;obtain⟨i,j,rfl,rfl,hc,q⟩:=h;obtain⟨t,rfl⟩:=rx;obtain⟨t',rfl⟩:=ry;exact rule i j t t' s _ _ hc ⟨.int (g i j),H,I.tok _,⟨_,rfl⟩,q⟩
theorem IC {f:Nk->Nk->Sem Nk} {g:Int->Int->Int}
  (rule:∀ (i j:Int) (t u:Tok) (s:Nj) (Q:Nk->Nj->Prop) (E:Nk->Nj->Prop),Q (.int (g i j) s.toks) {s with toks:=s.toks+1}->wpAny (model X.prog X.w) X.A (f (.int i t) (.int j u)) Q E s):
  gp X f (EZ λi j=>.int (g i j)):=by
 intro NA s σ H x y v u Q I rx ry h;obtain⟨i,j,rfl,rfl,q⟩:=h;obtain⟨t,rfl⟩:=rx;obtain⟨t',rfl⟩:=ry;exact rule i j t t' s _ _ ⟨.int (g i j),H,I.tok _,⟨_,rfl⟩,q⟩
theorem Ec {f:Nk->Nk->Sem Nk} {g:Int->Int->Nw}
  (rule:∀ (i j:Int) (t u:Tok) (s:Nj) (Q:Nk->Nj->Prop) (E:Nk->Nj->Prop),Q (.bool (g i j)) s->wpAny (model X.prog X.w) X.A (f (.int i t) (.int j u)) Q E s):
  gp X f (EZ λi j=>.bl (g i j)):=by
 intro NA s σ H x y v u Q I rx ry h;obtain⟨i,j,rfl,rfl,q⟩:=h;obtain⟨t,rfl⟩:=rx;obtain⟨t',rfl⟩:=ry;exact rule i j t t' s _ _ ⟨.bl (g i j),H,I,rfl,q⟩
def Hn (i j:Int):Prop:=0<=j/\j<=1000000/\i.natAbs < 2 ^ 64
theorem Gr:gp X (binaryOp .Add) (EZ λi j=>.int (i+j)):=IC λ_ _ _ _ _ _ _ q=>add_int q
theorem Hu:gp X (binaryOp .Sub) (EZ λi j=>.int (i - j)):=IC λ_ _ _ _ _ _ _ q=>sub_int q
theorem DY:gp X (binaryOp .Mod) (rI (λ_ j=>j≠0) λi j=>.int (i.fmod j)):=IM λ_ _ _ _ _ _ _ hc q=>mod_int' hc q
theorem GC:gp X (binaryOp .Pow) (rI Hn λi j=>.int (i ^ j.toNat)):=IM λ_ _ _ _ _ _ _ hc q=>pow_int_small hc.1 hc.2.1 hc.2.2 q
theorem LU {f:Nk->Sem Nk} {g:Int->Int}
  (rule:∀ (i:Int) (t:Tok) (s:Nj) (Q:Nk->Nj->Prop) (E:Nk->Nj->Prop),Q (.int (g i) s.toks) {s with toks:=s.toks+1}->wpAny (model X.prog X.w) X.A (f (.int i t)) Q E s):
  Jf X f (rU λi=>.int (g i)):=by
 intro NA s σ H x v Q I rx h;obtain⟨i,rfl,q⟩:=h;obtain⟨t,rfl⟩:=rx;exact rule i t s _ _ ⟨.int (g i),H,I.tok _,⟨_,rfl⟩,q⟩
theorem GR:Jf X (unaryOp .USub) (rU λi=>.int (-i)):=LU λ_ _ _ _ _ q=>neg_int q
end
def Hi:V->V->Nw
 | .non,.non=>true | .non,.int _=>true | .int _,.non=>true | .non,.bl _=>true | .bl _,.non=>true | .non,.str _=>true | .str _,.non=>true
 | .int _,.int _=>true | .bl _,.bl _=>true | .str _,.str _=>true | .byt _,.byt _=>true
 | .int _,.str _=>true | .str _,.int _=>true | .bl _,.str _=>true | .str _,.bl _=>true
 | _,_=>false
def L4:R2:=λx y H Q=>Hi x y=true/\Q (.bl (decide (x=y))) H
def Mb:R2:=λx y H Q=>Hi x y=true/\Q (.bl (!decide (x=y))) H
theorem y_ {i j:Int}:decide (V.int i=V.int j)=(i == j):=by
 rw [Bool.eq_iff_iff];simp
theorem Bo {i j:Nw}:decide (V.bl i=V.bl j)=(i == j):=by
 rw [Bool.eq_iff_iff];simp
theorem zh {i j:Str}:decide (V.str i=V.str j)=(i == j):=by
 rw [Bool.eq_iff_iff];simp
theorem zq {i j:Nv UInt8}:decide (V.byt i=V.byt j)=(i.toList == j.toList):=by
 rw [Bool.eq_iff_iff];cases i;cases j;simp
section
variable {X:Cx} {a b c:No} {ta tb tc:TE} {pos:Pos}
theorem bJ {NA:List (Nl×Nz)} {σ:St} {H:Hp} {s:Nj} {Q:VK} {k k':Nw} (I:aI X NA σ H s) (q:Q (.bl k) H) (e:k=k'):EP X NA σ Q (.bool k') s:=by
 subst e;exact⟨.bl k,H,I,rfl,q⟩
theorem Jc:gp X (compareOp .Eq) L4:=by
 intro NA s σ H x y v u Q I rx ry h;obtain⟨hs,q⟩:=h;cases x with
 | non=>
  cases rx;cases y with
  | non=>cases ry; exact PySem.EqNone.eq_none_none (bJ I q (by simp))
  | bl j=>cases ry; exact PySem.EqNone.eq_none_bool (bJ I q (by simp))
  | int j=>obtain⟨t',rfl⟩:=ry; exact PySem.EqNone.eq_none_int (bJ I q (by simp))
  | str j=>obtain⟨t',rfl⟩:=ry; exact PySem.EqNone.eq_none_str (bJ I q (by simp))
  | _=>exact absurd (show false=true from hs) Mr
 | bl i=>
  cases rx;cases y with
  | non=>cases ry; exact PySem.EqNone.eq_bool_none (bJ I q (by simp))
  | bl j=>cases ry; exact eq_bool (bJ I q Bo)
  | str j=>obtain⟨t',rfl⟩:=ry; exact PySem.EqMixed.eq_bool_str (bJ I q (by simp))
  | _=>exact absurd (show false=true from hs) Mr
 | int i=>
  obtain⟨t,rfl⟩:=rx;cases y with
  | non=>cases ry; exact PySem.EqNone.eq_int_none (bJ I q (by simp))
  | int j=>obtain⟨t',rfl⟩:=ry; exact eq_int (bJ I q y_)
  | str j=>obtain⟨t',rfl⟩:=ry; exact PySem.EqMixed.eq_int_str (bJ I q (by simp))
  | _=>exact absurd (show false=true from hs) Mr
 | str i=>
  obtain⟨t,rfl⟩:=rx;cases y with
  | non=>cases ry; exact PySem.EqNone.eq_str_none (bJ I q (by simp))
  | bl j=>cases ry; exact PySem.EqMixed.eq_str_bool (bJ I q (by simp))
  | int j=>obtain⟨t',rfl⟩:=ry; exact PySem.EqMixed.eq_str_int (bJ I q (by simp))
  | str j=>obtain⟨t',rfl⟩:=ry; exact eq_str (bJ I q zh)
  | _=>exact absurd (show false=true from hs) Mr
 | byt i=>
  obtain⟨t,rfl⟩:=rx;cases y with
  | byt j=>obtain⟨t',rfl⟩:=ry; exact PySem.W.eq_bytes (bJ I q zq)
  | _=>exact absurd (show false=true from hs) Mr
 | _=>cases y <;> exact absurd (show false=true from hs) Mr
theorem IP:gp X (compareOp .NotEq) Mb:=by
 intro NA s σ H x y v u Q I rx ry h;obtain⟨hs,q⟩:=h;cases x with
 | non=>
  cases rx;cases y with
  | non=>cases ry; exact PySem.EqNone.ne_none_none (bJ I q (by simp))
  | bl j=>cases ry; exact PySem.EqNone.ne_none_bool (bJ I q (by simp))
  | int j=>obtain⟨t',rfl⟩:=ry; exact PySem.EqNone.ne_none_int (bJ I q (by simp))
  | str j=>obtain⟨t',rfl⟩:=ry; exact PySem.EqNone.ne_none_str (bJ I q (by simp))
  | _=>exact absurd (show false=true from hs) Mr
 | bl i=>
  cases rx;cases y with
  | non=>cases ry; exact PySem.EqNone.ne_bool_none (bJ I q (by simp))
  | bl j=>cases ry; exact ne_bool (bJ I q (congrArg not Bo))
  | str j=>obtain⟨t',rfl⟩:=ry; exact PySem.EqMixed.ne_bool_str (bJ I q (by simp))
  | _=>exact absurd (show false=true from hs) Mr
 | int i=>
  obtain⟨t,rfl⟩:=rx;cases y with
  | non=>cases ry; exact PySem.EqNone.ne_int_none (bJ I q (by simp))
  | int j=>obtain⟨t',rfl⟩:=ry; exact ne_int (bJ I q (congrArg not y_))
  | str j=>obtain⟨t',rfl⟩:=ry; exact PySem.EqMixed.ne_int_str (bJ I q (by simp))
  | _=>exact absurd (show false=true from hs) Mr
 | str i=>
  obtain⟨t,rfl⟩:=rx;cases y with
  | non=>cases ry; exact PySem.EqNone.ne_str_none (bJ I q (by simp))
  | bl j=>cases ry; exact PySem.EqMixed.ne_str_bool (bJ I q (by simp))
  | int j=>obtain⟨t',rfl⟩:=ry; exact PySem.EqMixed.ne_str_int (bJ I q (by simp))
  | str j=>obtain⟨t',rfl⟩:=ry; exact ne_str (bJ I q (congrArg not zh))
  | _=>exact absurd (show false=true from hs) Mr
 | byt i=>
  obtain⟨t,rfl⟩:=rx;cases y with
  | byt j=>obtain⟨t',rfl⟩:=ry; exact PySem.W.ne_bytes (bJ I q (congrArg not zq))
  | _=>exact absurd (show false=true from hs) Mr
 | _=>cases y <;> exact absurd (show false=true from hs) Mr
theorem Jm:gp X (compareOp .Lt) (EZ λi j=>.bl (decide (i < j))):=Ec λ_ _ _ _ _ _ _ q=>lt_int q
theorem Jz:gp X (compareOp .LtE) (EZ λi j=>.bl (decide (i<=j))):=Ec λ_ _ _ _ _ _ _ q=>le_int q
theorem JP:gp X (compareOp .Gt) (EZ λi j=>.bl (decide (j < i))):=Ec λ_ _ _ _ _ _ _ q=>gt_int q
theorem Jp:gp X (compareOp .GtE) (EZ λi j=>.bl (decide (j<=i))):=Ec λ_ _ _ _ _ _ _ q=>ge_int q
theorem Gq:gp X (compareOp .Is) (λx y H Q=>y=.non/\Q (.bl (decide (x=.non))) H):=by
 intro NA s σ H x y v u Q I rx ry h;obtain⟨rfl,q⟩:=h;cases ry;refine is_none_gen (bJ I q ?_);cases x <;> first
  | (cases rx; rfl)
  | (obtain ⟨t,rfl⟩:=rx; rfl)
theorem E5:gp X (compareOp .IsNot) (λx y H Q=>y=.non/\Q (.bl (!decide (x=.non))) H):=by
 intro NA s σ H x y v u Q I rx ry h;obtain⟨rfl,q⟩:=h;cases ry;refine isnot_none_gen (bJ I q ?_);cases x <;> first
  | (cases rx; rfl)
  | (obtain ⟨t,rfl⟩:=rx; rfl)
theorem aD (b:No) {op:CmpOp} (h:op≠.In:=by decide) (h2:op≠.NotIn:=by decide):behindInMarks op b=false:=by
 have e1:(op == CmpOp.In)=false:=by cases op <;> first | rfl | exact absurd rfl h
 have e2:(op == CmpOp.NotIn)=false:=by cases op <;> first | rfl | exact absurd rfl h2
 cases b <;> simp [behindInMarks,e1,e2]
theorem DU {op:CmpOp} {r:R2} (ho:gp X (compareOp op) r) (ha:PE X a ta) (hb:PE X b tb) (hm:behindInMarks op b=false):PE X (.Compare a [op] [b] pos) (Jv r ta tb):=by
 intro NA s σ H Q I h;exact wpAny_Compare1 (HL ha hb I h λv u s2 x y H2 I2 rx ry q=>ho NA s2 σ H2 x y v u Q I2 rx ry q) hm
def Fw (t:TE):TT:=fun σ H Q=>t σ H λx H'=>∃ k,x=.bl k/\Q k H'
theorem DF {op:CmpOp} {r:R2} (ho:gp X (compareOp op) r) (ha:PE X a ta) (hb:PE X b tb) (hm:behindInMarks op b=false):PT X (.Compare a [op] [b] pos) (Fw (Jv r ta tb)):=by
 intro NA s σ H Q I h;refine wpAny_isTrue_Compare1 (cu (ha NA s σ H _ I h) λv s1 ⟨x,H1,I1,r1,q1⟩=>cu (hb NA s1 σ H1 _ I1 q1) λu s2 ⟨y,H2,I2,r2,q2⟩=>
  cu (ho NA s2 σ H2 x y v u _ I2 r1 r2 q2) λc s3 ⟨z,H3,I3,r3,k,e,q3⟩=>?_) hm
 subst e;cases r3;exact wpAny_truthy_bool ⟨H3,I3,q3⟩
theorem vD:(sizeLine:Nat) < 2 ^ 63:=by rw [sizeLine_eq]; decide
theorem xG:gp X (binaryOp .Add) (λx y H Q=>∃ i j,x=.str i/\y=.str j/\i.length+j.length<=sizeLine/\Q (.str (i++j)) H):=by
 intro NA s σ H x y v u Q I rx ry h;obtain⟨i,j,rfl,rfl,hz,q⟩:=h;obtain⟨t,rfl⟩:=rx;obtain⟨t',rfl⟩:=ry;exact add_str (λt' tk=>⟨.str (i++j),H,I.tok _,⟨_,rfl⟩,q⟩) hz
theorem wx {x:V} {us:List Nk} (r:bA [x] us):∃ u,us=[u]/\bz x u:=by
 cases r with
 | cons r1 r2=>cases r2; exact⟨_,rfl,r1⟩
theorem uG {x y:V} {us:List Nk} (r:bA [x,y] us):∃ u w',us=[u,w']/\bz x u/\bz y w':=by
 cases r with
 | cons r1 r2=>
  cases r2 with
  | cons r3 r4=>cases r4; exact⟨_,_,rfl,r1,r3⟩
theorem C6:dZ X (.builtin "abs") (λxs H Q=>∃ i,xs=[.int i]/\Q (.int (if i < 0 then -i else i)) H):=by
 intro NA s σ H xs us Q I r h;obtain⟨i,rfl,q⟩:=h;obtain⟨u,rfl,t,rfl⟩:=wx r;exact call_abs_int λu tk=>⟨.int (if i < 0 then -i else i),H,I.tok _,⟨_,rfl⟩,q⟩
theorem zB (hc:X.calm=true):dZ X (.builtin "max") (λxs H Q=>∃ i j,xs=[.int i,.int j]/\Q (.int (if j > i then j else i)) H):=by
 intro NA s σ H xs us Q I r h;obtain⟨i,j,rfl,q⟩:=h;obtain⟨u,w',rfl,⟨t,rfl⟩,⟨t',rfl⟩⟩:=uG r;refine max_two_ints (I.ok.hd hc) λh' tk k=>⟨_,H,I.kept k,?_,q⟩
 by_cases hj:j > i
 ·rw [if_pos hj,if_pos hj]; exact⟨_,rfl⟩
 ·rw [if_neg hj,if_neg hj]; exact⟨_,rfl⟩
theorem zT (hc:X.calm=true):dZ X (.builtin "min") (λxs H Q=>∃ i j,xs=[.int i,.int j]/\Q (.int (if j < i then j else i)) H):=by
 intro NA s σ H xs us Q I r h;obtain⟨i,j,rfl,q⟩:=h;obtain⟨u,w',rfl,⟨t,rfl⟩,⟨t',rfl⟩⟩:=uG r;refine min_two_ints (I.ok.hd hc) λh' tk k=>⟨_,H,I.kept k,?_,q⟩
 by_cases hj:j < i
 ·rw [if_pos hj,if_pos hj]; exact⟨_,rfl⟩
 ·rw [if_neg hj,if_neg hj]; exact⟨_,rfl⟩
theorem u_:dZ X (.type "int") (λxs H Q=>(∃ i,xs=[.int i]/\Q (.int i) H)\/∃ k,xs=[.bl k]/\Q (.int (if k then 1 else 0)) H):=by
 intro NA s σ H xs us Q I r h;rcases h with ⟨i,rfl,q⟩ | ⟨k,rfl,q⟩
 ·obtain⟨u,rfl,t,rfl⟩:=wx r;exact call_int_int ⟨.int i,H,I,⟨_,rfl⟩,q⟩
 ·obtain⟨u,rfl,r1⟩:=wx r;cases r1;exact call_int_bool ⟨.int (if k then 1 else 0),H,I.tok _,⟨_,rfl⟩,q⟩
end
section
variable {X:Cx} {NA:List (Nl×Nz)} {σ:St} {H:Hp} {s:Nj} {a C dx:Nl} {fs:List (Str×V)} {f:Str} {v:V} {A:Nq} {E:Nk->Nj->Prop}
theorem EY {prog:Np} {w:Nr} {env:Env} {e:No} {f:Str} {pos:Pos} {s:Nj} {Q:Nk->Nj->Prop} (hb:attributeBase e f env (eval e env)=eval e env)
  (h:wpAny (model prog w) A (eval e env) (λo s₁=>wpAny (model prog w) A (getAttr o f true) Q E s₁) E s):wpAny (model prog w) A (eval (.Attribute e f pos) env) Q E s:=
 Attribute_any_ h (by rw [arm_eval_Attribute,hb])
end
structure bE (k:Nat) (A:Nq):Prop where
 hd:A.handled=none
 dp:A.depth+3*k+5 < recursionLimit
 un:A.units+16*k+200 < cLine
theorem bE.mono {j k:Nat} {A:Nq} (r:bE k A) (h:j<=k):bE j A:=⟨r.hd,by have:=r.dp; omega,by have:=r.un; omega⟩
theorem bE.deeper {k:Nat} {A:Nq} (r:bE (k+1) A) (env:Env):bE k (A.deeper env):=
 ⟨r.hd,by have:=r.dp; show A.depth+1+3*k+5 < _; omega,by have:=r.un; show A.units+3+16*k+200 < _; omega⟩
theorem yf {A:Nq} {C:Nl} {us:List Nk} {kw:List (Str×Nk)}:(A.under (.builtin "type.__call__" ⟨.ref C::us,kw⟩)).depth=A.depth+1:=by
 first | rfl | simp [Around.under,Code.weight,Code.isCreation,Code.isGuard,Code.isCaller,Code.frames,Code.isFrame,guardIds]
theorem yA {A:Nq} {C:Nl} {us:List Nk} {kw:List (Str×Nk)}:(A.under (.builtin "type.__call__" ⟨.ref C::us,kw⟩)).units=A.units+1:=by
 first | rfl | simp [Around.under,Code.cUnits,Code.frames,Code.isFrame]
theorem bE.make {k:Nat} {A:Nq} (r:bE (k+1) A) (C:Nl) (us:List Nk) (kw:List (Str×Nk)):bE k (A.under (.builtin "type.__call__" ⟨.ref C::us,kw⟩)):=
 ⟨r.hd,by have:=r.dp; rw [yf]; omega,by have:=r.un; rw [yA]; omega⟩
theorem bE.depth {k:Nat} {A:Nq} (r:bE k A):A.depth < recursionLimit:=by have:=r.dp; omega
theorem bE.units {k:Nat} {A:Nq} (r:bE k A):A.units+64 < cLine:=by have:=r.un; omega
def Kh:TA:=λ_ H Q=>Q [] H
def JU (ta:TE) (tr:TA):TA:=fun σ H Q=>ta σ H λx H1=>tr σ H1 λxs H2=>Q (x::xs) H2
section
variable {X:Cx} {e:No} {es:List No} {te:TE} {t:TA} {pos:Pos}
theorem xO:PA X [] Kh:=λ_ _ _ _ H Q I h=>Calls.spliced_nil ⟨[],H,I,.nil,h⟩
theorem vh (ha:PE X e te) (hr:PA X es t) (hs:starEach (e::es) X.env=(false,eval e X.env)::starEach es X.env:=by rfl):PA X (e::es) (JU te t):=by
 intro pos NA s σ H Q I h;rw [hs]
 show wpAny _ _ (spliced ((false,eval e X.env)::backTo pos (starEach es X.env))) _ _ s
 refine Calls.spliced_cons (cu (ha NA s σ H _ I h) λu s1 z9=>?_)
 obtain⟨x,H1,I1,r1,q1⟩:=z9;exact cu (hr pos NA s1 σ H1 _ I1 q1) λus s2 z9=>by obtain⟨xs,H2,I2,r2,q2⟩:=z9; exact⟨x::xs,H2,I2,.cons r1 r2,q2⟩
def K4 (t:TA):TE:=fun σ H Q=>t σ H λxs H1=>xs.length<=sizeLine/\∀ p,H1 p=none->Q (.ref p) (bL H1 p (.tup xs))
def Kn (t:TA):TE:=fun σ H Q=>t σ H λxs H1=>xs.length<=sizeLine/\∀ p,H1 p=none->Q (.ref p) (bL H1 p (.lst xs))
theorem F0 {x1} (h:PA X es t):PE X (.Tuple es x1 pos) (K4 t):=by
 intro NA s σ H Q I hq;refine wpAny_Tuple_spliced (cu (h pos NA s σ H _ I hq) λus s1 ⟨xs,H1,I1,r,z,q⟩=>⟨by rw [<- r.length]; exact z,?_⟩)
 have hf:H1 s1.heap.objs.size=none:=I1.hok.fresh (Mp _);refine⟨.ref s1.heap.objs.size,bL H1 s1.heap.objs.size (.tup xs),I1.laid (t':=s1.toks) (λb u e=>Mk _ e) (Mp _) ?_,rfl,q _ hf⟩
 exact⟨z,us,r,⟨_,Mm _ rfl,rfl,_,rfl⟩⟩
theorem HA (h:PA X es t):PE X (.List es pos) (Kn t):=by
 intro NA s σ H Q I hq;refine wpAny_List_spliced (cu (h pos NA s σ H _ I hq) λus s1 ⟨xs,H1,I1,r,z,q⟩=>⟨by rw [<- r.length]; exact z,?_⟩)
 have hf:H1 s1.heap.objs.size=none:=I1.hok.fresh (Mp _);refine⟨.ref s1.heap.objs.size,bL H1 s1.heap.objs.size (.lst xs),I1.laid (t':=s1.toks) (λb u e=>Mk _ e) (Mp _) ?_,rfl,q _ hf⟩
 exact⟨z,us,0,r,Mm _ rfl⟩
end
abbrev Sp:=List V->Hp->VK->XK->Prop
abbrev zU:=List Env->Hp->Nj->XK->Nk->Nj->Prop
structure oJ (P:Np) (w:Nr) (K:PySem.W.Frag) (mg:Str->Nm Nk) (base:Nt) (A:Nq) (outer:List Env) (s:Nj) (H:Hp):Prop where
 frames:A.frames=some outer
 mod:Mod K mg base
 bs:∀ b o,base.get? b=some o->s.heap.get? b=some o/\H b=none
 bsz:base.objs.size<=s.heap.objs.size
 funs:s.heap.FunFrames base outer
 frf:∀ b∈fc outer,H b=none
 hok:nj P w H s.heap
 bare:AllBare s.gens
def CE (outer:List Env) (P:Np) (w:Nr) (H:Hp) (s:Nj) (Q:VK) (u:Nk) (s':Nj):Prop:=
 ∃ v H',s'.os=s.os/\AllBare s'.gens/\Un (fc outer) [] H H' s.heap s'.heap/\nj P w H' s'.heap/\bz v u/\Q v H'
def CR (CX:zU) (outer:List Env) (P:Np) (w:Nr) (H:Hp) (s:Nj) (Q:VK) (E:XK) (r:Result) (s':Nj):Prop:=
 match r with
 | .ok (.ret u)=>CE outer P w H s Q u s'
 | .ok _=>False
 | .error e=>CX outer H s E e s'
structure aU (P:Np) (w:Nr) (K:PySem.W.Frag) (mg:Str->Nm Nk) (base:Nt) (CX:zU) (k:Nat) (f:Nl) (fd:FuncData) (ps:List Str) (sp:Sp):Prop where
 len:∀ vs H Q E,sp vs H Q E->vs.length=ps.length
 run:∀ (A:Nq) (outer:List Env) (s:Nj) (H:Hp) (args:Args) (us:List Nk) (vs:List V) (Q:VK) (E:XK),bE k A->oJ P w K mg base A outer s H->BindsTo s fd args (ps.zip us)->bA vs us->sp vs H Q E->
  codeAny (model P w) A (.call (.ref f) args) (CR CX outer P w H s Q E) s
theorem oJ.make {P:Np} {w:Nr} {K:PySem.W.Frag} {mg:Str->Nm Nk} {base:Nt} {A:Nq} {outer:List Env} {s:Nj} {H:Hp} (e:oJ P w K mg base A outer s H) (C:Nl) (us:List Nk) (kw:List (Str×Nk)):
  oJ P w K mg base (A.under (.builtin "type.__call__" ⟨.ref C::us,kw⟩)) outer s H:=⟨by first | exact e.frames | (simpa [Around.under,Code.envs,Code.isFrame,pushEnvs] using e.frames),e.mod,e.bs,e.bsz,e.funs,e.frf,e.hok,e.bare⟩
section
variable {X:Cx} {NA:List (Nl×Nz)} {σ:St} {H:Hp} {s s':Nj}
theorem aI.env0 (I:aI X NA σ H s):oJ X.prog X.w X.K X.mg X.base X.A X.stack s H:=
 ⟨I.ok.frames,I.ok.mod,I.bs,M1 I.ok.bsz I.sz,I.stack,I.stkFree,I.hok,I.bare⟩
theorem aI.after {Q:VK} {u:Nk} (I:aI X NA σ H s) (h:CE X.stack X.prog X.w H s Q u s'):EP X NA σ Q u s':=by
 obtain⟨v,H',os,bare,un,hok,r,q⟩:=h;obtain⟨hh,g,d,t,os'⟩:=s';obtain rfl:os'=s.os:=os;exact⟨v,H',I.call (h':=hh) (g':=g) (d':=d) (t':=t) (ch:=[]) un hok bare (λb z=>absurd z (by simp)),r,q⟩
end
def Ij (sp:Sp) (dvs:List V) (E:XK) (t:TA):TE:=fun σ H Q=>t σ H λvs H1=>sp (vs++dvs) H1 Q E
def gM (K:PySem.W.Frag) (fd:FuncData) (ps:List Str) (ds:List Nk):Prop:=
 ∀ (s:Nj) (us:List Nk),K.In s.heap->(us++ds).length=ps.length->BindsTo s fd ⟨us,[]⟩ (ps.zip (us++ds))
theorem gM.all {K:PySem.W.Frag} {fd:FuncData} {ps:List Str} (h:∀ us:List Nk,us.length=ps.length->bindArgs fd ⟨us,[]⟩=pure (ps.zip us)):gM K fd ps []:=λs us _ hl=>by
 rw [MJ] at hl ⊢;exact .of_eq (h us hl)
def sG (CX:zU) (X:Cx) (E:XK):Prop:=∀ (NA:List (Nl×Nz)) (σ:St) (H:Hp) (s:Nj) (e:Nk) (s':Nj),aI X NA σ H s->CX X.stack H s E e s'->X.xe e s'
section
variable {X:Cx} {CX:zU} {k:Nat} {f C:Nl} {fd:FuncData} {ps:List Str} {sp:Sp} {dvs:List V} {ds:List Nk} {E:XK} {x m:Str} {p pos apos:Pos} {e o:No} {es:List No} {ta:TE} {t:TA}
theorem FQ {NA:List (Nl×Nz)} {σ:St} {H:Hp} {s:Nj} {Q:VK} {us:List Nk} {vs:List V} (F:aU X.prog X.w X.K X.mg X.base CX k f fd ps sp) (hr:bE k X.A) (hb:gM X.K fd ps ds) (hd:bA dvs ds) (hx:sG CX X E)
  (I:aI X NA σ H s) (r:bA vs us) (h:sp (vs++dvs) H Q E):wpAny (model X.prog X.w) X.A (call (.ref f) us) (EP X NA σ Q) X.xe s:=by
 have r2:bA (vs++dvs) (us++ds):=r.append hd;have hl:(us++ds).length=ps.length:=by rw [<- r2.length]; exact F.len _ _ _ _ h
 refine wpAny_call (codeAny_mono (F.run X.A X.stack s H ⟨us,[]⟩ (us++ds) (vs++dvs) Q E hr I.env0 (hb s us I.kIn hl) r2 h) λr s' hq=>?_)
 cases r with
 | error e=>exact hx NA σ H s e s' I hq
 | ok fl=>
  cases fl with
  | ret u=>exact I.after hq
  | next=>exact False.elim hq
  | brk=>exact False.elim hq
  | cont=>exact False.elim hq
theorem vH (F:aU X.prog X.w X.K X.mg X.base CX k f fd ps sp) (hr:bE k X.A) (hg:Gl X x) (hm:X.mg x=some (.ref f)) (hk:PySem.W.keepIn X.K (.ref f)=true) (hb:gM X.K fd ps ds) (hd:bA dvs ds) (hx:sG CX X E)
  (ha:PA X (e::es) t) (hdb:(x == ("__debug__":Str))=false:=by decide) (he:starEach (e::es) X.env=(false,eval e X.env)::starEach es X.env:=by rfl) (hpl:(backTo pos (starEach es X.env)).any (·.1)=false:=by rfl):
  PE X (.Call (.Name x p) (e::es) [] pos) (Ij sp dvs E t):=by
 intro NA s σ H Q I h;refine wpAny_Call_Name_kw (fh I hg hm ?_ hdb);refine PySem.W.callWith_K (h₀:=X.base) I.ok.mod.kin hk (cu (ha pos NA s σ H _ I h) λus s1 ⟨vs,H1,I1,r,q⟩=>⟨I1.kIn,?_⟩) he hpl
 exact FQ F hr hb hd hx I1 r q
end
structure av (N P:List Str) (sc:Scope):Prop where
 kind:sc.kind=.function
 co:sc.isCoroutine=false
 gen:sc.isGenerator=false
 nd:N.Nodup
 pre:N.take P.length=P
 par:∀ x∈P,sc.names.lookup x=some .local\/sc.names.lookup x=some .cell
 nofree:∀ y∈sc.names,y.2≠.free
theorem ej {N P:List Str} {sc:Scope} (a:sc.kind=.function:=by rfl) (b:sc.isCoroutine=false:=by rfl) (c:sc.isGenerator=false:=by rfl) (d:N.Nodup:=by decide +kernel) (e:N.take P.length=P:=by rfl) (f:∀ x∈P,sc.names.lookup x=some .local\/sc.names.lookup x=some .cell:=by decide +kernel) (g:∀ y∈sc.names,y.2≠.free:=by decide +kernel):av N P sc:=⟨a,b,c,d,e,f,g⟩
theorem uH {kindOf:Str->Nm NameKind} {x:Str}:∀ {binds:List (Str×Nk)} {m:Str->Nm Nk},(∀ v,(x,v)∉binds)->bindL kindOf binds m x=m x
 | [],_,_=>rfl
 | (n,v)::r,m,h=>by
  unfold bindL;rw [uH λw hw=>h w (Mw _ hw)]
  split
  ·have:x≠n:=by rintro rfl; exact h v Mv
   simp [this]
  ·rfl
theorem uY {kindOf:Str->Nm NameKind} {x:Str}:∀ {binds:List (Str×Nk)} {m:Str->Nm Nk},(∀ v,(x,v)∉binds)->bindC kindOf binds m x=m x
 | [],_,_=>rfl
 | (n,v)::r,m,h=>by
  unfold bindC;rw [uY λw hw=>h w (Mw _ hw)]
  split
  ·rfl
  ·have:x≠n:=by rintro rfl; exact h v Mv
   simp [this]
theorem uz {kindOf:Str->Nm NameKind} {x:Str} {v:Nk}:∀ {P:List Str} {vs:List Nk} {i:Nat} {m:Str->Nm Nk},P.Nodup->P[i]?=some x->vs[i]?=some v->kindOf x=some .local->
  bindL kindOf (P.zip vs) m x=some v
 | [],_,_,_,_,h,_,_=>by simp at h
 | _::_,[],_,_,_,_,h,_=>by simp at h
 | p::P,w::vs,0,m,nd,h1,h2,hk=>by
  simp at h1 h2; subst h1; subst h2
  show bindL kindOf ((p,w)::P.zip vs) m p=_
  unfold bindL;rw [uH λv hv=>(List.nodup_cons.mp nd).1 (List.of_mem_zip hv).1,if_pos hk]
  simp
 | p::P,w::vs,i+1,m,nd,h1,h2,hk=>by
  show bindL kindOf ((p,w)::P.zip vs) m x=_
  unfold bindL;exact uz (i:=i) (List.nodup_cons.mp nd).2 (by simpa using h1) (by simpa using h2) hk
theorem uT {kindOf:Str->Nm NameKind} {x:Str} {v:Nk}:∀ {P:List Str} {vs:List Nk} {i:Nat} {m:Str->Nm Nk},P.Nodup->P[i]?=some x->vs[i]?=some v->kindOf x≠some .local->
  bindC kindOf (P.zip vs) m x=some v
 | [],_,_,_,_,h,_,_=>by simp at h
 | _::_,[],_,_,_,_,h,_=>by simp at h
 | p::P,w::vs,0,m,nd,h1,h2,hk=>by
  simp at h1 h2; subst h1; subst h2
  show bindC kindOf ((p,w)::P.zip vs) m p=_
  unfold bindC;rw [uY λv hv=>(List.nodup_cons.mp nd).1 (List.of_mem_zip hv).1,if_neg hk]
  simp
 | p::P,w::vs,i+1,m,nd,h1,h2,hk=>by
  show bindC kindOf ((p,w)::P.zip vs) m x=_
  unfold bindC;exact uT (i:=i) (List.nodup_cons.mp nd).2 (by simpa using h1) (by simpa using h2) hk
def start (N:List Str) (vs:List V):St:=vs.map some++List.replicate (N.length - vs.length) none
def cQ (CX:zU) (P:Np) (w:Nr) (K:PySem.W.Frag) (mg:Str->Nm Nk) (base:Nt) (N:List Str) (qual:Str) (scope:Scope) (f:Nl) (cd:Nk) (A:Nq) (outer:List Env) (s:Nj) (H:Hp) (E:XK):Cx where
 prog:=P
 w:=w
 K:=K
 mg:=mg
 base:=base
 A:=A.deeper (envOfC qual scope s.heap.objs.size f cd)
 N:=N
 s₀:=s
 H₀:=H
 env:=envOfC qual scope s.heap.objs.size f cd
 outer:=outer
 stack:=envOfC qual scope s.heap.objs.size f cd::outer
 ex:=[]
 calm:=true
 fn:=λ_=>true
 pn:=[]
 xe:=λe s'=>wpAny (model P w) (A.deeper (envOfC qual scope s.heap.objs.size f cd)) (leaving (envOfC qual scope s.heap.objs.size f cd) e) (λ_ s''=>CX outer H s E e s'') (λe' s''=>CX outer H s E e' s'') s'
theorem xo {sc:Scope} {n:Nat} {x:Str} (h:sc.names.lookup x=some .cell):∃ c,(cellsFrom n sc.names []).lookup x=some c:=by
 have q:=PySem.W.cellsFrom_some sc.names n [] (.inl h);exact Ng.mp q
theorem qh {CX:zU} {P:Np} {w:Nr} {K:PySem.W.Frag} {mg:Str->Nm Nk} {base:Nt} {N ps:List Str} {qual:Str} {scope:Scope} {f:Nl} {cd:Nk} {A:Nq} {outer:List Env} {s s1:Nj} {H:Hp} {E:XK} {us:List Nk} {vs:List V}
  (S:av N ps scope) (hd:A.handled=none) (e0:oJ P w K mg base A outer s H) (hl:vs.length=ps.length) (r:bA vs us)
  (x:InCallC s s.heap.objs.size (bindL (envOfC qual scope s.heap.objs.size f cd).kindOf (ps.zip us) λ_=>none) (cellsFrom (s.heap.objs.size+1) scope.names []) (bindC (envOfC qual scope s.heap.objs.size f cd).kindOf (ps.zip us) λ_=>none) s1):
  aI (cQ CX P w K mg base N qual scope f cd A outer s H E) [] (start N vs) H s1:=by
 have hpl:ps.length<=N.length:=by have:=congrArg List.length S.pre; rw [List.length_take] at this; omega
 obtain⟨h1,tk,rfl,hk⟩:=x.done;have noA:∀ b:Nl,b∉(cQ CX P w K mg base N qual scope f cd A outer s H E).ex:=λb z=>absurd (show b∈([]:List Nl) from z) (by simp)
 refine⟨⟨e0.mod,S.kind,rfl,rfl,Mp _,λy z c h1 h2=>?_,λy hy=>?_,λy c _ h=>?_,λ_=>hd,Around.frames_deeper e0.frames,.inr ⟨rfl,rfl⟩,λb z=>absurd z (noA b),e0.bs,e0.bsz,λb _ _=>noA b,λb z=>absurd z (noA b),e0.funs,e0.frf⟩,
  rfl,e0.bare,Un.kept hk,⟨_,x.toInCall.ns,λi y v h1 h2 h3=>?_⟩,λy c h=>⟨_,x.cell y c h⟩,e0.hok.fresh (Mp _),λy c h=>?_,λp hp=>absurd (show p∈([]:List (Nl×Nz)) from hp) (by simp),e0.hok.kept hk,?_⟩
 ·exact name_of_addr x.apart (M3 h1) (M3 h2)
 ·have hy:scope.names.lookup y=some .cell\/scope.names.lookup y=some .free:=hy;rcases hy with hy | hy
  ·exact xo hy
  ·exact absurd rfl (S.nofree _ (M3 hy))
 ·exact Nat.le_of_lt (x.above y c (M3 h))
 ·have hi:i < vs.length:=by
   unfold start at h2
   by_cases hi:i < vs.length
   ·exact hi
   ·rw [List.getElem?_append_right (by simpa using hi)] at h2
    rw [List.getElem?_replicate] at h2
    split at h2 <;> cases h2
  have ha:vs[i]?=some v:=by
   unfold start at h2;rw [List.getElem?_append_left (by simpa using hi),MQ] at h2
   cases e:vs[i]? with
   | none=>rw [e] at h2; cases h2
   | some a=>rw [e] at h2; cases h2; rfl
  obtain⟨u,hu,rv⟩:=r.get ha;have hp:ps[i]?=some y:=by
   rw [<- S.pre,List.getElem?_take_of_lt (by omega)]; exact h1
  have ndP:ps.Nodup:=by rw [<- S.pre]; exact S.nd.sublist (List.take_sublist _ _)
  refine⟨u,rv,?_⟩;rcases S.par y (List.mem_of_getElem? hp) with k | k
  ·exact .inl ⟨k,uz ndP hp hu k⟩
  ·obtain⟨c,e⟩:=xo (n:=s.heap.objs.size+1) k;refine .inr ⟨.inl k,c,e,?_⟩;have q:=x.cell y c e;rw [uT ndP hp hu (by show scope.names.lookup y≠_; rw [k]; decide)] at q
   exact q
 ·exact e0.hok.fresh (Nat.le_of_lt (x.above y c (M3 h)))
 ·unfold start
  show _=N.length
  rw [MI,Mq,List.length_replicate];omega
theorem BM {CX:zU} {P:Np} {w:Nr} {K:PySem.W.Frag} {mg:Str->Nm Nk} {base:Nt} {k:Nat} {f:Nl} {name qual:Str} {params:Arguments} {body:List Nu} {scope:Scope} {dV kV doc pm cdv ct oc:Nk} {an od:Nm Nl}
  {osl:Nv (Nm Nk)} {N ps:List Str} {sp:Sp} (lk:K.lookup f=some ⟨oc,od,.func (PySem.W.fnOf name qual params body scope dV kV doc pm an cdv ct),osl⟩) (hcd:PySem.W.codeIn K cdv qual=true) (S:av N ps scope)
  (len:∀ vs H Q E,sp vs H Q E->vs.length=ps.length)
  (hbody:∀ (A:Nq) (outer:List Env) (s:Nj) (H:Hp) (vs:List V) (Q:VK) (E:XK),bE k (A.deeper (envOfC qual scope s.heap.objs.size f cdv))->sp vs H Q E->
   ∃ t,tI (cQ CX P w K mg base N qual scope f cdv A outer s H E) body t/\t {nx:=λ_ H'=>Q .non H',rt:=Q} (start N vs) H):
  aU P w K mg base CX (k+1) f (PySem.W.fnOf name qual params body scope dV kV doc pm an cdv ct) ps sp:=by
 refine⟨len,λA outer s H args us vs Q E hr e0 hb r hsp=>?_⟩
 have hl:=len _ _ _ _ hsp;have KX:K.In s.heap:=e0.mod.kin.keeps λb o e=>(e0.bs b o e).1
 have lim:s.heap.NoLimit:=e0.mod.nolimit.keeps λb o e=>(e0.bs b o e).1
 have hkind:∀ y∈ps.zip us,scope.names.lookup y.1=some .local\/(scope.names.lookup y.1=some .cell/\((cellsFrom (s.heap.objs.size+1) scope.names []).lookup y.1).isSome=true):=λ⟨n,v⟩ hy=>by
  rcases S.par n (List.of_mem_zip hy).1 with q | q
  ·exact .inl q
  ·exact .inr ⟨q,PySem.W.cellsFrom_some _ _ _ (.inl q)⟩
 refine codeAny_call_function hr.depth (KX _ _ lk) rfl S.co S.gen rfl (PySem.W.codeRec_of KX hcd) (hb _ _ _ _ ?_);refine wpAny_newFunctionEnv_cells S.kind hkind λenv he s1 x=>?_
 subst he;refine⟨lim.keeps x.toInCall.keep,codeAny_func ?_⟩;obtain⟨t,ht,hq⟩:=hbody A outer s H vs Q E (hr.deeper _) hsp;have I:aI (cQ CX P w K mg base N qual scope f cdv A outer s H E) [] (start N vs) H s1:=qh S hr.hd e0 hl r x;refine MY (ht [] s1 (start N vs) H _ I hq) (λfl s' hs=>?_) λe s' hs=>hs
 have fin:∀ {σ':St} {H':Hp} {v:V} {u:Nk},aI (cQ CX P w K mg base N qual scope f cdv A outer s H E) [] σ' H' s'->bz v u->Q v H'->CE outer P w H s Q u s':=
  λ{σ' H' v u} J rv q=>⟨v,H',J.os,J.bare,J.base,J.hok,rv,q⟩
 cases fl with
 | ret u=>
  obtain⟨v,σ',H',J,rv,q⟩:=hs;exact fin J rv q
 | next=>
  obtain⟨σ',H',J,q⟩:=hs;exact fin (v:=V.non) (u:=Value.none) J rfl q
 | brk=>
  obtain⟨_,_,_,q⟩:=hs;exact False.elim q
 | cont=>
  obtain⟨_,_,_,q⟩:=hs;exact False.elim q
section
variable {X:Cx} {x:Str} {p pos:Pos} {e:No} {es:List No} {t:TA} {id T:Ny} {r:List V->Hp->VK->Prop}
def KB (r:List V->Hp->VK->Prop) (t:TA):TE:=fun σ H Q=>t σ H λvs H1=>r vs H1 Q
theorem Cu (hc:dZ X (.builtin id) r) (hg:Gl X x) (hm:X.mg x=none) (hv:bootBuiltins x=some (.builtin id)) (ha:PA X (e::es) t) (hn:x≠"__name__":=by decide) (hdb:(x == ("__debug__":Str))=false:=by decide)
  (he:starEach (e::es) X.env=(false,eval e X.env)::starEach es X.env:=by rfl) (hpl:(backTo pos (starEach es X.env)).any (·.1)=false:=by rfl):PE X (.Call (.Name x p) (e::es) [] pos) (KB r t):=by
 intro NA s σ H Q I h;refine wpAny_Call_Name_kw (qx I hg hm hv ?_ hn hdb);exact PyProof.Rows.callWith_builtin1 (cu (ha pos NA s σ H _ I h) λus s1 z9=>by obtain⟨vs,H1,I1,r1,q1⟩:=z9; exact hc NA s1 σ H1 vs us Q I1 r1 q1) he hpl
theorem zL (hc:dZ X (.type T) r) (hg:Gl X x) (hm:X.mg x=none) (hv:bootBuiltins x=some (.type T)) (ha:PA X (e::es) t) (hn:x≠"__name__":=by decide) (hdb:(x == ("__debug__":Str))=false:=by decide)
  (he:starEach (e::es) X.env=(false,eval e X.env)::starEach es X.env:=by rfl) (hpl:(backTo pos (starEach es X.env)).any (·.1)=false:=by rfl):PE X (.Call (.Name x p) (e::es) [] pos) (KB r t):=by
 intro NA s σ H Q I h;refine wpAny_Call_Name_kw (qx I hg hm hv ?_ hn hdb);exact PyProof.Rows.callWith_type1 (cu (ha pos NA s σ H _ I h) λus s1 z9=>by obtain⟨vs,H1,I1,r1,q1⟩:=z9; exact hc NA s1 σ H1 vs us Q I1 r1 q1) he hpl
end
end L2
namespace HT
open PySem PyProof.Rows
section
variable {prog:Np} {w:Nr} {A:Nq} {E:Nk->Nj->Prop} {s:Nj}
theorem D_ {t b:Nl} {vs ws:List Nk} {Q:Nk->Nj->Prop} (ht:IsTup s.heap t vs.toArray) (hb:IsTup s.heap b ws.toArray) (hv:vs≠[])
  (h1:ws=[]->Q (.ref t) s) (h2:ws≠[]->Q (.ref s.heap.objs.size) {s with heap:=s.heap.push {cls:=.type "tuple",data:=.seq (vs++ws).toArray}})
  (hsz:vs.length+ws.length<=sizeLine):wpAny (model prog w) A (binaryOp .Add (.ref t) (.ref b)) Q E s:=by
 obtain⟨⟨cls,dd,data,sl⟩,ho,hc,n,hd⟩:=id ht;obtain⟨⟨cls2,dd2,data2,sl2⟩,ho2,hc2,n2,hd2⟩:=id hb;simp only at hc hd hc2 hd2
 subst hc hd hc2 hd2;have e:vs.toArray++ws.toArray=(vs++ws).toArray:=by simp
 by_cases hw:ws=[]
 ·exact concat_meets ⟨_,ho,rfl⟩ ⟨_,ho2,rfl⟩ noFill_tuple_add seq_tuple_add PySem.F.slot_tuple_add PySem.F.entry_tuple_add (PySem.F.args_tuple_add_2 _ _)
   (tuple_addW1 t b vs.toArray ws.toArray n n2 dd dd2 sl sl2 (by simpa using hv) (by simp [hw])) ⟨ho,ho2,h1 hw⟩
 ·refine concat_meets ⟨_,ho,rfl⟩ ⟨_,ho2,rfl⟩ noFill_tuple_add seq_tuple_add PySem.F.slot_tuple_add PySem.F.entry_tuple_add (PySem.F.args_tuple_add_2 _ _)
   (tuple_addW2 t b vs.toArray ws.toArray n n2 dd dd2 sl sl2 (by simpa using hv) (by simpa using hw) (by rw [Ms,Ms]; exact hsz)) ⟨ho,ho2,?_⟩
  rw [e];exact h2 hw
def dX (n d:Nat):Nm Int->Nat
 | none=>d
 | some v=>if v < 0 then(v+(n:Int)).toNat else min v.toNat n
theorem GS (n d:Nat) (hd:d<=n) (o:Nm Int):dX n d o<=n:=by
 cases o with
 | none=>exact hd
 | some v=>
  show(if v < 0 then(v+(n:Int)).toNat else min v.toNat n)<=n
  by_cases hv:v < 0
  ·rw [if_pos hv]; omega
  ·rw [if_neg hv]; exact Nat.min_le_right _ _
theorem zv (v:Int) (n d:Nat):(if v < 0 then max (v+(n:Int)) 0 else min v (n:Int))=((dX n d (some v):Nat):Int):=by
 show(if v < 0 then max (v+(n:Int)) 0 else min v (n:Int))=(((if v < 0 then(v+(n:Int)).toNat else min v.toNat n):Nat):Int)
 by_cases hv:v < 0
 ·simp only [if_pos hv]; omega
 ·simp only [if_neg hv]; omega
theorem yC (lo hi:Nm Int) (n:Nat):Builtin.Slice.sliceAdjust lo hi 1 (n:Int)=(((dX n 0 lo:Nat):Int),((dX n n hi:Nat):Int)):=by
 have h1:¬ ((1:Int) < 0):=by omega
 unfold Builtin.Slice.sliceAdjust;simp only [h1,if_false];refine MH ?_ ?_
 ·cases lo with
  | none=>rfl
  | some v=>exact zv v n 0
 ·cases hi with
  | none=>rfl
  | some v=>exact zv v n n
theorem xS (i j:Nat):Builtin.Slice.slicePlaces (i:Int) (j:Int) 1=j - i:=by
 unfold Builtin.Slice.slicePlaces;have h1:(1:Int) > 0:=by omega
 simp only [h1,if_true,Int.ediv_one]
 split <;> omega
theorem rJ {v:Nk} {o:Nm Int} {Q:Nm Int->Nj->Prop} (p:IsPart v o) (h:Q o s):wpAny (model prog w) A (Builtin.Slice.slicePartIndex v) Q E s:=by
 cases p with
 | none=>exact slicePart_none h
 | int i t=>exact slicePart_int h
theorem jN {sl:Nl} {vl vu:Nk} {lo hi:Nm Int} {n:Nat} {Q:Int×Int×Nat->Nj->Prop} (hs:s.heap.IsSliceOf sl vl vu .none) (pl:IsPart vl lo) (pu:IsPart vu hi)
  (h:Q (((dX n 0 lo:Nat):Int),1,dX n n hi - dX n 0 lo) s):wpAny (model prog w) A (Builtin.Slice.sliceApplied (.ref sl) (pure (n:Int))) Q E s:=by
 obtain⟨os,hos,hcs,hds⟩:=id hs;unfold Builtin.Slice.sliceApplied Builtin.Slice.sliceFields;refine Mj (Mj (MZ hos hds (x:=vl) rfl (Mj (MZ hos hds (x:=vu) rfl (Mj (MZ hos hds (x:=.none) rfl (Ml ?_)))))));refine Mj (slicePart_none ?_)
 show wpAny _ _ (if ((1:Int) == 0)=true then _ else _) _ _ s
 rw [if_neg (by decide)]
 refine Mj (rJ pl (Mj (rJ pu (Mj (Ml ?_)))))
 show wpAny _ _ (match Builtin.Slice.sliceAdjust lo hi 1 (n:Int) with | (lo,hi)=>pure (lo,(1:Int),Builtin.Slice.slicePlaces lo hi 1)) _ _ s
 rw [yC lo hi n]
 show wpAny _ _ (pure (((dX n 0 lo:Nat):Int),(1:Int),Builtin.Slice.slicePlaces ((dX n 0 lo:Nat):Int) ((dX n n hi:Nat):Int) 1)) _ _ s
 rw [xS];exact Ml h
theorem BP (xs:Nv Nk) (i k:Nat):((List.range k).filterMap fun(m:Nat)=>xs[((i:Int)+(m:Int)*1).toNat]?).toArray=((xs.toList.drop i).take k).toArray:=by
 have e:(λ(m:Nat)=>xs[((i:Int)+(m:Int)*1).toNat]?)=λm=>xs[i+m]?:=by
  funext m
  have:((i:Int)+(m:Int)*1).toNat=i+m:=by omega
  rw [this]
 rw [e];have:=pick_run xs i k;rw [List.filterMap_map] at this;have e2:((λx=>xs[x]?) ∘ λx=>i+x)=λm=>xs[i+m]?:=rfl
 rw [e2] at this;rw [this]
theorem nZ {t sl:Nl} {items:Nv Nk} {vl vu:Nk} {lo hi:Nm Int} {Q:Nk->Nj->Prop} (ht:IsTup s.heap t items) (hs:s.heap.IsSliceOf sl vl vu .none) (pl:IsPart vl lo) (pu:IsPart vu hi)
  (hw:¬ (dX items.size 0 lo=0/\dX items.size items.size hi=items.size))
  (h:Q (.ref s.heap.objs.size) {s with heap:=s.heap.push {cls:=.type "tuple",data:=.seq ((items.toList.drop (dX items.size 0 lo)).take (dX items.size items.size hi - dX items.size 0 lo)).toArray}})
  (hsz:items.size<=sizeLine):wpAny (model prog w) A (getItem (.ref t) (.ref sl)) Q E s:=by
 have htake:sizeOk (.seq ((items.toList.drop (dX items.size 0 lo)).take (dX items.size items.size hi - dX items.size 0 lo)).toArray):=by
  show((items.toList.drop (dX items.size 0 lo)).take (dX items.size items.size hi - dX items.size 0 lo)).toArray.size<=sizeLine
  rw [Ms,List.length_take,List.length_drop,Array.length_toList];omega
 have hj:dX items.size items.size hi<=items.size:=GS _ _ (Mp _) hi;obtain⟨os,hos,hcs,hds⟩:=id hs;have hTs:s.TypeIs (.ref sl) "slice":=⟨os,hos,hcs⟩
 unfold getItem
 try with_reducible refine MM ?_
 first | refine Mj (Ml ?_) | skip
 refine Mj (wpAny_sequenceKey ht.typeIs (by decide) ?_)
 refine Mj (Nd (name:=Str.ofString "__getitem__") ht.typeIs PyProof.Rows.slot_tuple_getitem
  (M6 PyProof.Rows.slot_tuple_getitem ht.typeIs entry_tuple_getitem ?_ (args_tuple_getitem _ _)))
 show wpAny _ _ (Builtin.Tuple.tupleItemsOf (.ref t) >>= _) _ _ s
 refine Mj (tupleItemsOf_ ht ?_);refine Mj (wpAny_typeOf hTs ?_);rw [if_pos (by decide)]
 refine Mj (jN hs pl pu ?_);have hno:¬ ((((dX items.size 0 lo:Nat):Int) == 0 && (1:Int) == 1 && (dX items.size items.size hi - dX items.size 0 lo) == items.size)=true):=by
  intro q;rw [M2,M2] at q;have q1:((dX items.size 0 lo:Nat):Int)=0:=eq_of_beq q.1.1;have q2:dX items.size items.size hi - dX items.size 0 lo=items.size:=eq_of_beq q.2;exact hw ⟨by omega,by omega⟩
 show wpAny _ _ (if (((dX items.size 0 lo:Nat):Int) == 0 && (1:Int) == 1 && (dX items.size items.size hi - dX items.size 0 lo) == items.size)=true then _ else _) _ _ s
 rw [if_neg hno,BP]
 first
  | exact Mj (m:=Builtin.Tuple.tupleExact _) (MO (Ml ⟨_,rfl,Ml h⟩) htake)
  | exact Mj (m:=Builtin.Tuple.tupleExact _) (MO (Mj (Ml (Ml ⟨_,rfl,Ml h⟩))) htake)
  | exact Mj (Mj (m:=Builtin.Tuple.tupleExact _) (MO (Ml (Ml ⟨_,rfl,Ml h⟩)) htake))
  | exact Mj (Mj (m:=Builtin.Tuple.tupleExact _) (MO (Ml ⟨_,rfl,Ml h⟩) htake))
end
end HT
namespace L2
open PySem PySem.Spec PyProof.Rows
abbrev TO:=St->Hp->(Nm Int->Hp->Prop)->Prop
def PO (X:Cx) (e:Nm No) (t:TO):Prop:=
 ∀ (NA:List (Nl×Nz)) (s:Nj) (σ:St) (H:Hp) (Q:Nm Int->Hp->Prop),aI X NA σ H s->t σ H Q->
  wpAny (model X.prog X.w) X.A (evalPart e X.env) (λu s'=>∃ o H',aI X NA σ H' s'/\IsPart u o/\Q o H') X.xe s
def EG:TO:=λ_ H Q=>Q none H
def IF (t:TE):TO:=fun σ H Q=>t σ H λx H1=>∃ i,x=.int i/\Q (some i) H1
section
variable {X:Cx} {e:No} {te:TE} {lo hi:Nm No} {tl th:TO} {pos p2:Pos}
theorem D3:PO X none EG:=by
 intro NA s σ H Q I h;rw [evalPart_none];exact Ml ⟨none,H,I,.none,h⟩
theorem EW (h:PE X e te):PO X (some e) (IF te):=by
 intro NA s σ H Q I hw;rw [evalPart_some];refine cu (h NA s σ H _ I hw) λu s1 z9=>?_
 obtain⟨x,H1,I1,r1,q1⟩:=z9;obtain⟨i,rfl,q⟩:=q1;obtain⟨t,rfl⟩:=r1;exact⟨some i,H1,I1,.int i t,q⟩
def Du (X:Cx) (r:V->Nm Int->Nm Int->Hp->VK->Prop):Prop:=
 ∀ (NA:List (Nl×Nz)) (s:Nj) (σ:St) (H:Hp) (x:V) (v vl vu:Nk) (lo hi:Nm Int) (sl:Nl) (Q:VK),aI X NA σ H s->bz x v->s.heap.IsSliceOf sl vl vu .none->IsPart vl lo->IsPart vu hi->r x lo hi H Q->
  ∃ T id,typeLookup (.type T) "__getitem__"=pure (some (.builtin id))/\s.TypeIs v T/\wpAny (model X.prog X.w) X.A (getItem v (.ref sl)) (EP X NA σ Q) X.xe s
theorem Du.or {r r':V->Nm Int->Nm Int->Hp->VK->Prop} (h:Du X r) (h':Du X r'):Du X (λx lo hi H Q=>r x lo hi H Q\/r' x lo hi H Q):=by
 intro NA s σ H x v vl vu lo hi sl Q I rx hs pl pu q;rcases q with q | q
 ·exact h NA s σ H x v vl vu lo hi sl Q I rx hs pl pu q
 ·exact h' NA s σ H x v vl vu lo hi sl Q I rx hs pl pu q
def LK (r:V->Nm Int->Nm Int->Hp->VK->Prop) (te:TE) (tl th:TO):TE:=fun σ H Q=>te σ H λx H1=>tl σ H1 λl H2=>th σ H2 λu H3=>r x l u H3 Q
theorem tE {r:V->Nm Int->Nm Int->Hp->VK->Prop} (hr:Du X r) (he:PE X e te) (hl:PO X lo tl) (hu:PO X hi th):PE X (.Subscript e (.Slice lo hi none p2) pos) (LK r te tl th):=by
 intro NA s σ H Q I h;refine Subscript_ (cu (he NA s σ H _ I h) λv s1 z9=>?_)
 obtain⟨x,H1,I1,r1,q1⟩:=z9;refine wpAny_Slice (cu (hl NA s1 σ H1 _ I1 q1) λvl s2 ⟨l,H2,I2,pl,q2⟩=>cu (hu NA s2 σ H2 _ I2 q2) λvu s3 z9=>?_)
 obtain⟨u,H3,I3,pu,q3⟩:=z9;rw [evalPart_none];refine Ml ?_;have I4:aI X NA σ H3 {s3 with heap:=s3.heap.push {cls:=.type "slice",data:=.fields #[vl,vu,.none]}}:=I3.kept (t':=s3.toks) λb ob q=>Mk _ q
 obtain⟨T,id,hT,ht,hg⟩:=hr NA {s3 with heap:=s3.heap.push {cls:=.type "slice",data:=.fields #[vl,vu,.none]}} σ H3 x v vl vu l u s3.heap.objs.size Q I4 r1 (Heap.IsSliceOf.new ..) pl pu q3
 show wpAny (model X.prog X.w) X.A (subscriptTail e (.Slice lo hi none p2) v (.ref s3.heap.objs.size)) (EP X NA σ Q) X.xe {s3 with heap:=s3.heap.push {cls:=.type "slice",data:=.fields #[vl,vu,.none]}}
 exact tail_any (ops:=[.ref s3.heap.objs.size,v]) ht hT hg (by with_unfolding_all rfl)
def qy (xs:List V) (lo hi:Nm Int):List V:=(xs.drop (HT.dX xs.length 0 lo)).take (HT.dX xs.length xs.length hi - HT.dX xs.length 0 lo)
theorem qK (xs:List V) (lo hi:Nm Int):(qy xs lo hi).length<=xs.length:=by
 unfold qy;rw [List.length_take,List.length_drop];omega
def KC (K:PySem.W.Frag):V->Nm Int->Nm Int->Hp->VK->Prop:=λx lo hi H Q=>∃ a xs,x=.ref a/\mB K H a xs/\
 ¬ (HT.dX xs.length 0 lo=0/\HT.dX xs.length xs.length hi=xs.length)/\∀ p,H p=none->Q (.ref p) (bL H p (.tup (qy xs lo hi)))
theorem Cf:Du X (KC X.K):=by
 intro NA s σ H x v vl vu lo hi sl Q I rx hs pl pu h;obtain⟨a,xs,rfl,hx,hw,q⟩:=h;cases rx;obtain⟨its,r,ht,hz⟩:=I.tuple hx;have hlen:its.toArray.size=xs.length:=by rw [Ms]; exact r.length.symm
 refine⟨"tuple",_,PyProof.Rows.slot_tuple_getitem.lookup,ht.typeIs,?_⟩
 refine HT.nZ ht hs pl pu (by rw [hlen]; exact hw) ?_ (by rw [hlen]; exact hz)
 rw [hlen];refine⟨.ref s.heap.objs.size,_,I.laid (t':=s.toks) (o:=.tup (qy xs lo hi)) (λb ob q=>Mk _ q) (Mp _) ?_,rfl,q _ (I.hok.fresh (Mp _))⟩
 exact⟨M1 (qK xs lo hi) hz,_,(r.drop (HT.dX xs.length 0 lo)).take (HT.dX xs.length xs.length hi - HT.dX xs.length 0 lo),IsTup.new _ _⟩
def JY (K:PySem.W.Frag):R2:=λx y H Q=>∃ a b xs ys,x=.ref a/\y=.ref b/\mB K H a xs/\mB K H b ys/\xs≠[]/\xs.length+ys.length<=sizeLine/\
 (ys=[]->Q (.ref a) H)/\(ys≠[]->∀ p,H p=none->Q (.ref p) (bL H p (.tup (xs++ys))))
theorem bA.nil_iff {xs:List V} {us:List Nk} (r:bA xs us):us=[]↔xs=[]:=by
 cases r with
 | nil=>simp
 | cons _ _=>simp
theorem zj:gp X (binaryOp .Add) (JY X.K):=by
 intro NA s σ H x y v u Q I rx ry h;obtain⟨a,b,xs,ys,rfl,rfl,ha,hb,hx,hz,q1,q2⟩:=h;cases rx;cases ry;obtain⟨its,r1,p1,_⟩:=I.tuple ha;obtain⟨its2,r2,p2,_⟩:=I.tuple hb;refine HT.D_ p1 p2 (λz=>hx (r1.nil_iff.mp z)) (λz=>⟨.ref a,H,I,rfl,q1 (r2.nil_iff.mp z)⟩) (λz=>?_) (by rw [<- r1.length,<- r2.length]; exact hz)
 refine⟨.ref s.heap.objs.size,_,I.laid (t':=s.toks) (o:=.tup (xs++ys)) (λb ob q=>Mk _ q) (Mp _) ?_,rfl,q2 (λw=>z (r2.nil_iff.mpr w)) _ (I.hok.fresh (Mp _))⟩
 exact⟨by rw [MI]; exact hz,_,r1.append r2,IsTup.new _ _⟩
end
def AH (n:Nat) (i:Int):Nm Nat:=if 0<=i then(if i < n then some i.toNat else none) else if -(n:Int)<=i then some (i+n).toNat else none
def atI {α:Type} (xs:List α) (i:Int):Nm α:=(AH xs.length i).bind λj=>xs[j]?
theorem yR {n:Nat} {i:Int} {j:Nat} (h:AH n i=some j):seqIndex? i n=some j/\j < n/\-(n:Int)<=i/\i < n:=by
 unfold AH at h
 by_cases h0:0<=i
 ·rw [if_pos h0] at h
  by_cases h1:i < n
  ·rw [if_pos h1] at h;have e:i.toNat=j:=MT h;exact⟨by rw [seqIndex_of h0 h1,e],by omega,by omega,h1⟩
  ·rw [if_neg h1] at h; cases h
 ·rw [if_neg h0] at h
  by_cases h1:-(n:Int)<=i
  ·rw [if_pos h1] at h;have e:(i+n).toNat=j:=MT h;exact⟨by rw [seqIndex_neg (by omega) h1,e],by omega,h1,by omega⟩
  ·rw [if_neg h1] at h; cases h
theorem yP {α:Type} {xs:List α} {i:Int} {v:α} (h:atI xs i=some v):∃ j,seqIndex? i xs.length=some j/\xs[j]?=some v/\j < xs.length/\-(xs.length:Int)<=i/\i < xs.length:=by
 unfold atI at h;cases e:AH xs.length i with
 | none=>rw [e] at h; cases h
 | some j=>
  rw [e] at h;obtain⟨h1,h2,h3,h4⟩:=yR e;exact⟨j,h1,h,h2,h3,h4⟩
theorem h_ {α:Type} {xs:List α} {j:Nat} {v:α} (h:xs[j]?=some v):atI xs (j:Int)=some v:=by
 have hj:j < xs.length:=(MX.mp h).1;have e:AH xs.length (j:Int)=some j:=by
  unfold AH;rw [if_pos (by omega),if_pos (by omega)]; simp
 unfold atI; rw [e]; exact h
def zc (b:No):Prop:=∀ o i,subscripted b false o i=operate [o,i] (getItem o i)
def AB (X:Cx) (r:R2):Prop:=
 ∀ (value slice:No) (NA:List (Nl×Nz)) (s:Nj) (σ:St) (H:Hp) (x y:V) (v u:Nk) (Q:VK),aI X NA σ H s->bz x v->bz y u->r x y H Q->
  subscripted slice false v u=operate [v,u] (getItem v u)->wpAny (model X.prog X.w) X.A (subscriptTail value slice v u) (EP X NA σ Q) X.xe s
def Ly (X:Cx) (id:Ny) (r:V->List V->Hp->VK->Prop):Prop:=
 ∀ (NA:List (Nl×Nz)) (s:Nj) (σ:St) (H:Hp) (x:V) (xs:List V) (v:Nk) (us:List Nk) (Q:VK),aI X NA σ H s->bz x v->bA xs us->r x xs H Q->
  wpAny (model X.prog X.w) X.A (call (.builtin id) (v::us)) (EP X NA σ Q) X.xe s
section
variable {X:Cx} {a b:No} {ta tb:TE} {pos:Pos}
theorem Ii {r:R2} (hr:AB X r) (ha:PE X a ta) (hb:PE X b tb) (hs:zc b):PE X (.Subscript a b pos) (Jv r ta tb):=by
 intro NA s σ H Q I h;exact Subscript_ (HL ha hb I h λv u s2 x y H2 I2 rx ry q=>hr a b NA s2 σ H2 x y v u Q I2 rx ry q (hs _ _))
def Ku (K:PySem.W.Frag):R2:=λx y H Q=>∃ p xs i v,x=.ref p/\y=.int i/\jW K H p xs/\atI xs i=some v/\Q v H
def K1 (K:PySem.W.Frag):R2:=λx y H Q=>∃ p xs i v,x=.ref p/\y=.int i/\mB K H p xs/\atI xs i=some v/\Q v H
theorem yX:AB X (Ku X.K):=by
 intro value slice NA s σ H x y v u Q I rx ry h hs;obtain⟨p,xs,i,z,rfl,rfl,hq,he,q⟩:=h;cases rx;obtain⟨t,rfl⟩:=ry;obtain⟨its,r,pl,hz⟩:=I.list hq;obtain⟨j,h1,h2,h3,h4,h5⟩:=yP he;obtain⟨w,ew,rw'⟩:=r.get h2;have hl:=r.length;have hn:=vD;have fin:EP X NA σ Q w s:=⟨z,H,I,rw',q⟩
 by_cases h0:0<=i
 ·have hj:i.toNat=j:=by
   rw [seqIndex_of h0 h5] at h1;exact MT h1
  exact item_listR pl.isList h0 (by omega) (by rw [hj]; simpa using ew) fin hs
 ·have hj:(i+(its.toArray.size:Int)).toNat=j:=by
   rw [seqIndex_neg (by omega) h4] at h1
   rw [Ms,<- hl];exact MT h1
  exact subscriptTail_builtinR (x:=w) pl.isList.typeIs slot_list_getitem.lookup
   (wpAny_getItem_list_neg (Q:=λr s'=>r=w/\EP X NA σ Q r s') pl.isList (by omega) (by rw [Ms] <;> omega) (by omega) (by rw [hj]; simpa using ew) ⟨rfl,fin⟩) hs
theorem FV:AB X (K1 X.K):=by
 intro value slice NA s σ H x y v u Q I rx ry h hs;obtain⟨p,xs,i,z,rfl,rfl,hq,he,q⟩:=h;cases rx;obtain⟨t,rfl⟩:=ry;obtain⟨its,r,pl,hz⟩:=I.tuple hq;obtain⟨j,h1,h2,h3,h4,h5⟩:=yP he;obtain⟨w,ew,rw'⟩:=r.get h2;have hl:=r.length;have hn:=vD;have fin:EP X NA σ Q w s:=⟨z,H,I,rw',q⟩;exact subscriptTail_builtinR (x:=w) pl.typeIs slot_tuple_getitem.lookup
  (getItem_tuple (j:=j) (Q:=λr s'=>r=w/\EP X NA σ Q r s') pl (by omega) (by omega) (by rw [Ms,<- hl]; exact h1) (by simpa using ew) ⟨rfl,fin⟩) hs
theorem xP (its:List Nk) (n j:Nat) (u:Nk):Obj.mapSeq (·.setIfInBounds j u) {cls:=.type "list",data:=.seq its.toArray n}={cls:=.type "list",data:=.seq (its.set j u).toArray n}:=by
 simp [Obj.mapSeq]
theorem aI.lst {NA:List (Nl×Nz)} {σ:St} {H:Hp} {s:Nj} {p:Nl} {xs:List V} (I:aI X NA σ H s) (h:H p=some (.lst xs)):
  ∃ (its:List Nk) (n:Nat),bA xs its/\s.heap.get? p=some {cls:=.type "list",data:=.seq its.toArray n}/\xs.length<=sizeLine:=by
 obtain⟨z,its,n,r,e⟩:=I.hok p _ h;exact⟨its,n,r,e,z⟩
theorem aI.lstUpd {NA:List (Nl×Nz)} {σ:St} {H:Hp} {s:Nj} {p:Nl} {xs ys:List V} {its its':List Nk} {n n':Nat} {f:Nz->Nz} (I:aI X NA σ H s) (h:H p=some (.lst xs))
  (ho:s.heap.get? p=some {cls:=.type "list",data:=.seq its.toArray n}) (hf:f {cls:=.type "list",data:=.seq its.toArray n}={cls:=.type "list",data:=.seq its'.toArray n'}) (r:bA ys its') (hz:ys.length<=sizeLine) (t:Nat):
  aI X NA σ (bL H p (.lst ys)) {s with heap:=s.heap.update p f,toks:=t}:=by
 have e:(s.heap.update p f).get? p=some {cls:=.type "list",data:=.seq its'.toArray n'}:=by
  rw [M4 f ho (by rw [hf] <;> rfl),hf]
 refine I.write (x:=p) (e:=p) (by rw [h]; trivial) (.inl rfl) (λb u hb q=>(MS _ _ (Ne.symm hb)).trans q) ⟨_,e⟩ ?_
 exact⟨hz,its',n',r,e⟩
def Iq:V->V->V->Hp->(Hp->Prop)->Prop:=λo i v H Q=>∃ p xs k j,o=.ref p/\i=.int k/\H p=some (.lst xs)/\AH xs.length k=some j/\Q (bL H p (.lst (xs.set j v)))
theorem Co:Iu X Iq:=by
 intro NA s σ H o i v ov iv u Q I ro ri rv h;obtain⟨p,xs,k,j,rfl,rfl,hp,hj,q⟩:=h;cases ro;obtain⟨t,rfl⟩:=ri;obtain⟨its,n,r,ho,hz⟩:=I.lst hp;obtain⟨h1,h2,h3,h4⟩:=yR hj;have hl:=r.length;have hn:=vD;have I':aI X NA σ (bL H p (.lst (xs.set j v))) {s with heap:=s.heap.update p (Obj.mapSeq (·.setIfInBounds j u))}:=
  I.lstUpd hp ho (xP its n j u) (r.set rv j) (by rw [List.length_set]; exact hz) s.toks
 by_cases h0:0<=k
 ·have hk:k.toNat=j:=by
   rw [seqIndex_of h0 h4] at h1;exact MT h1
  exact PySem.W.ki_setAt ho h0 (by omega) (by rw [Ms,<- hl]; exact h4) (by rw [hk]; exact⟨_,I',q⟩)
 ·have hk:(k+(its.toArray.size:Int)).toNat=j:=by
   rw [seqIndex_neg (by omega) h3] at h1
   rw [Ms,<- hl];exact MT h1
  exact PySem.W.ki_setBack ho (by omega) (by rw [Ms,<- hl]; exact h3) (by omega) (by rw [hk]; exact⟨_,I',q⟩)
theorem vq (lo hi:Nm Int) (n:Nat):(sliceBounds lo hi none n).1=((HT.dX n 0 lo:Nat):Int)/\(sliceBounds lo hi none n).2.1=((HT.dX n n hi:Nat):Int)/\(sliceBounds lo hi none n).2.2=1:=by
 refine⟨?_,?_,rfl⟩
 ·cases lo with
  | none=>simp [sliceBounds,HT.dX]
  | some i=>
   simp only [sliceBounds,HT.dX,Option.getD_none,show(1:Int) > 0 by decide,if_true]
   by_cases h:i < 0
   ·simp only [h,if_true] <;> omega
   ·simp only [h,if_false] <;> omega
 ·cases hi with
  | none=>simp [sliceBounds,HT.dX]
  | some i=>
   simp only [sliceBounds,HT.dX,Option.getD_none,show(1:Int) > 0 by decide,if_true]
   by_cases h:i < 0
   ·simp only [h,if_true] <;> omega
   ·simp only [h,if_false] <;> omega
theorem tV (its:List Nk) (lo hi:Nm Int):slicePick its.toArray lo hi none=((its.drop (HT.dX its.length 0 lo)).take (HT.dX its.length its.length hi - HT.dX its.length 0 lo)).toArray:=by
 obtain⟨h1,h2,h3⟩:=vq lo hi its.toArray.size;unfold slicePick;rw [h1,h2,h3];simp only [sliceRange_one,pick_run,Ms] <;> rfl
def K9 (K:PySem.W.Frag):V->Nm Int->Nm Int->Hp->VK->Prop:=λx lo hi H Q=>∃ a xs,x=.ref a/\jW K H a xs/\∀ p,H p=none->Q (.ref p) (bL H p (.lst (qy xs lo hi)))
theorem yS:Du X (K9 X.K):=by
 intro NA s σ H x v vl vu lo hi sl Q I rx hs pl pu h;obtain⟨a,xs,rfl,hx,q⟩:=h;cases rx;obtain⟨its,r,ht,hz⟩:=I.list hx;have hlen:=r.length;refine⟨"list",_,slot_list_getitem.lookup,ht.isList.typeIs,?_⟩
 refine wpAny_getItem_list_slice ht.isList hs pl pu .none (by simp) ?_ (by rw [Ms] <;> omega)
 rw [tV,<- hlen];refine⟨.ref s.heap.objs.size,_,I.laid (t':=s.toks) (o:=.lst (qy xs lo hi)) (λb ob q=>Mk _ q) (Mp _) ?_,rfl,q _ (I.hok.fresh (Mp _))⟩
 exact⟨M1 (qK xs lo hi) hz,_,0,(r.drop (HT.dX xs.length 0 lo)).take (HT.dX xs.length xs.length hi - HT.dX xs.length 0 lo),Mm _ rfl⟩
theorem kg:dZ X (.builtin "len") (λxs H Q=>∃ p ys,xs=[.ref p]/\(jW X.K H p ys\/mB X.K H p ys)/\Q (.int ys.length) H):=by
 intro NA s σ H xs us Q I r h;obtain⟨p,ys,rfl,hq,q⟩:=h;obtain⟨u,rfl,rx⟩:=wx r;cases rx;have hn:=vD;rcases hq with hq | hq
 ·obtain⟨its,r',pl,hz⟩:=I.list hq;have hlen:=r'.length;exact Calls.call_len_list pl.isList (by simp only [Ms] <;> omega) ⟨.int ys.length,H,I.tok _,⟨s.toks+1,by rw [Ms,hlen]⟩,q⟩
 ·obtain⟨its,r',pl,hz⟩:=I.tuple hq;have hlen:=r'.length;exact len_tuple pl (by simp only [Ms] <;> omega) ⟨.int ys.length,H,I.tok _,⟨s.toks+1,by rw [Ms,hlen]⟩,q⟩
theorem mS:dZ X (.type "tuple") (λxs H Q=>∃ p ys,xs=[.ref p]/\((jW X.K H p ys/\∀ l,H l=none->Q (.ref l) (bL H l (.tup ys)))\/(mB X.K H p ys/\Q (.ref p) H))):=by
 intro NA s σ H xs us Q I r h;obtain⟨p,ys,rfl,h⟩:=h;obtain⟨u,rfl,rx⟩:=wx r;cases rx;rcases h with ⟨hq,q⟩ | ⟨hq,q⟩
 ·obtain⟨its,r',pl,hz⟩:=I.list hq;have hlen:=r'.length;refine call_tuple_list pl.isList (λh' kp=>?_) (by simp only [Ms] <;> omega)
  have I1:aI X NA σ H {s with heap:=h'}:=I.kept (t':=s.toks) kp
  have I2:aI X NA σ (bL H h'.objs.size (.tup ys)) {s with heap:=h'.push {cls:=.type "tuple",data:=.seq its.toArray}}:=
   I1.laid (t':=s.toks) (λb o e=>Mk _ e) (Mp _) (show dO X.prog X.w _ _ _ (.tup ys) from⟨hz,its,r',IsTup.new _ _⟩)
  exact⟨.ref h'.objs.size,_,I2,rfl,q _ (I1.hok.fresh (Mp _))⟩
 ·obtain⟨its,r',pl,hz⟩:=I.tuple hq;exact call_tuple_same pl ⟨.ref p,H,I,rfl,q⟩
def KD (K:PySem.W.Frag) (T:Ny) (x:V) (H:Hp):Prop:=match x with
 | .str _=>T="str"
 | .int _=>T="int"
 | .ref p=>(T="list"/\∃ xs,jW K H p xs)\/(T="tuple"/\∃ o,K.lookup p=some o/\o.cls=.type "tuple"/\o.dict=none)\/
   (T="dict"/\((∃ kvs,H p=some (.dK kvs))\/∃ kvs,H p=some (.dT kvs)))\/(T="set"/\∃ S n,H p=some (.set S n))
 | _=>False
theorem A5 {NA:List (Nl×Nz)} {σ:St} {H:Hp} {s:Nj} {T:Ny} {x:V} {v:Nk} (I:aI X NA σ H s) (r:bz x v) (ty:KD X.K T x H):
  s.TypeIs v T/\∀ a,v=.ref a->∃ ob,s.heap.get? a=some ob/\ob.dict=none:=by
 cases x with
 | str z=>
  obtain⟨t,rfl⟩:=r;cases (show T="str" from ty)
  exact⟨typeIs_str s z t,λ_ e=>nomatch e⟩
 | int i=>
  obtain⟨t,rfl⟩:=r;cases (show T="int" from ty)
  exact⟨typeIs_int s i t,λ_ e=>nomatch e⟩
 | ref p=>
  cases r;rcases ty with ⟨rfl,xs,hq⟩ | ⟨rfl,o,hk,hc,hd⟩ | ⟨rfl,hk⟩ | ⟨rfl,S,n,hk⟩
  ·obtain⟨its,_,pl,_⟩:=I.list hq;refine⟨pl.isList.typeIs,λa e=>?_⟩
   cases e;obtain⟨o,n,e,c,hd,_⟩:=pl;exact⟨o,e,hd⟩
  ·refine⟨⟨o,I.kIn p o hk,hc⟩,λa e=>?_⟩
   cases e;exact⟨o,I.kIn _ o hk,hd⟩
  ·have z:∃ o,s.heap.get? p=some o/\o.ExactDict:=by
    rcases hk with ⟨kvs,hk⟩ | ⟨kvs,hk⟩
    ·obtain⟨_,_,_,_,o,_,_,e,ex,_⟩:=I.hok p _ hk;exact⟨o,e,ex⟩
    ·obtain⟨_,_,_,_,o,_,_,e,ex,_⟩:=I.hok p _ hk;exact⟨o,e,ex⟩
   obtain⟨o,e,ex⟩:=z;refine⟨⟨o,e,ex.1⟩,λa e2=>?_⟩
   cases e2;exact⟨o,e,ex.2.1⟩
  ·obtain⟨o,_,_,_,e,ex,_⟩:=I.hok p _ hk;refine⟨⟨o,e,ex.1⟩,λa e2=>?_⟩
   cases e2;exact⟨o,e,ex.2.1⟩
 | _=>exact False.elim ty
def KG (K:PySem.W.Frag) (T:Ny) (r:V->List V->Hp->VK->Prop) (to:TE):TE:=fun σ H Q=>to σ H λx H1=>KD K T x H1/\r x [] H1 Q
def Mh (K:PySem.W.Frag) (T:Ny) (r:V->List V->Hp->VK->Prop) (to:TE) (t:TA):TE:=fun σ H Q=>to σ H λx H1=>KD K T x H1/\t σ H1 λxs H2=>r x xs H2 Q
variable {o e:No} {es:List No} {to:TE} {t:TA} {name:Str} {apos cpos:Pos} {T id:Ny} {r:V->List V->Hp->VK->Prop}
theorem Bv (pa:PlainAttrs T) (slot:Slot T name id) (hty:typeOf (.builtin id)=pure (.type "method_descriptor")) (hm:Ly X id r) (ho:PE X o to)
  (hbase:attributeBase o name X.env (eval o X.env)=eval o X.env:=by rfl) (hline:(apos.endLine == cpos.line)=true:=by rfl):PE X (.Call (.Attribute o name apos) [] [] cpos) (KG X.K T r to):=by
 intro NA s σ H Q I h;refine wpAny_Call_method0_late hbase hline (cu (ho NA s σ H _ I h) λv s1 z9=>?_)
 obtain⟨x,H1,I1,r1,ty,q1⟩:=z9;obtain⟨h1,h2⟩:=A5 I1 r1 ty;exact⟨T,id,pa,slot,hty,h1,h2,Calls.callWith_builtin rfl (PySem.evalArgs_none (hm NA s1 σ H1 x [] v [] Q I1 r1 .nil q1))⟩
theorem Fk (pa:PlainAttrs T) (slot:Slot T name id) (hty:typeOf (.builtin id)=pure (.type "method_descriptor")) (hm:Ly X id r) (ho:PE X o to) (ha:PA X (e::es) t)
  (hbase:attributeBase o name X.env (eval o X.env)=eval o X.env:=by rfl)
  (hfew:((backTo cpos (starEach (e::es) X.env)).all (λx=>!x.1) && (backToKw cpos (keywordEach [] X.env)).all (λx=>x.1.isSome)
   && decide ((e::es).length+([]:List Keyword).length+(if ([]:List Keyword).isEmpty then 0 else 1) < 30))=true:=by rfl)
  (hline:(apos.endLine == cpos.line)=true:=by rfl) (hs:starEach (e::es) X.env=(false,eval e X.env)::starEach es X.env:=by rfl) (hplain:(backTo cpos (starEach es X.env)).any (·.1)=false:=by rfl):
  PE X (.Call (.Attribute o name apos) (e::es) [] cpos) (Mh X.K T r to t):=by
 intro NA s σ H Q I h;refine wpAny_Call_method_late hbase hfew hline rfl (cu (ho NA s σ H _ I h) λv s1 z9=>?_)
 obtain⟨x,H1,I1,r1,ty,q1⟩:=z9;obtain⟨h1,h2⟩:=A5 I1 r1 ty;refine⟨T,id,pa,slot,hty,h1,h2,?_⟩;have hA:=ha cpos NA s1 σ H1 _ I1 q1;rw [hs] at hA ⊢;refine Calls.callWith_builtin (by show(false || (backTo cpos (starEach es X.env)).any (·.1))=false; rw [hplain] <;> rfl) (Calls.evalArgs_plain ?_)
 exact cu hA λus s2 z9=>by obtain⟨vs,H2,I2,r2,q2⟩:=z9; exact hm NA s2 σ H2 x vs v us Q I2 r1 r2 q2
end
def KO (X:Cx) (id:Ny) (r:V->List V->Hp->VK->Prop):Prop:=
 ∀ (NA:List (Nl×Nz)) (s:Nj) (σ:St) (H:Hp) (x:V) (xs:List V) (v:Nk) (us:List Nk) (Q:VK),aI X NA σ H s->bz x v->bA xs us->r x xs H Q->
  wpAny (model X.prog X.w) X.A (call (.builtin id) (v::us)) (EP X NA σ Q) X.xe s
theorem bA.one:∀ {x:V} {us:List Nk},bA [x] us->∃ u,us=[u]/\bz x u
 | _,_,.cons r .nil=>⟨_,rfl,r⟩
theorem bA.zero:∀ {us:List Nk},bA [] us->us=[]
 | _,.nil=>rfl
section
variable {X:Cx} {NA:List (Nl×Nz)} {σ:St} {H:Hp} {s:Nj} {l b:Nl} {xs ys zs:List V}
theorem aI.lset {its its':List Nk} {n:Nat} {f:Nv Nk->Nv Nk} {t':Nat} (I:aI X NA σ H s) (hH:H l=some (.lst xs))
  (e:s.heap.get? l=some {cls:=.type "list",data:=.seq its.toArray n}) (hf:f its.toArray=its'.toArray) (hv:bA ys its') (hz:ys.length<=sizeLine):
  aI X NA σ (bL H l (.lst ys)) {s with heap:=s.heap.update l (Obj.mapSeq f),toks:=t'}:=by
 have q:=PySem.IsL.update e f;rw [hf] at q;refine I.write (x:=l) (e:=l) (by rw [hH]; exact trivial) (.inl rfl) (λb' u hb hu=>(MS s.heap (Obj.mapSeq f) (Ne.symm hb)).trans hu) ⟨_,q⟩ ?_
 exact⟨hz,its',_,hv,q⟩
theorem aI.lnew {its:List Nk} {t':Nat} (I:aI X NA σ H s) (hv:bA ys its) (hz:ys.length<=sizeLine):
  aI X NA σ (bL H s.heap.objs.size (.lst ys)) {s with heap:=s.heap.push {cls:=.type "list",data:=.seq its.toArray},toks:=t'}:=
 I.laid (λ_ _ q=>Mk _ q) (Mp _) ⟨hz,its,0,hv,Mm _ rfl⟩
theorem aI.fresh (I:aI X NA σ H s):H s.heap.objs.size=none:=I.hok.fresh (Mp _)
theorem aI.lstM (I:aI X NA σ H s) (hH:H l=some (.lst xs)):xs.length<=sizeLine/\∃ (its:List Nk) (n:Nat),bA xs its/\xs.length=its.length/\s.heap.get? l=some {cls:=.type "list",data:=.seq its.toArray n}:=by
 obtain⟨z,its,n,r,e⟩:=I.hok l _ hH;exact⟨z,its,n,r,r.length,e⟩
theorem AY {n:Nat} (h:n<=sizeLine):Builtin.List.listTooLong n=false:=by
 unfold Builtin.List.listTooLong;exact M9 (by omega)
end
section
variable {X:Cx}
def Ef:V->List V->Hp->VK->Prop:=λx vs H Q=>∃ l xs y,x=.ref l/\vs=[y]/\H l=some (.lst xs)/\xs.length < sizeLine/\Q .non (bL H l (.lst (xs++[y])))
theorem jE:KO X "list.append" Ef:=by
 intro NA s σ H x vs v us Q I rx rv h;obtain⟨l,xs,y,rfl,rfl,hH,hz,q⟩:=h;cases rx;obtain⟨u,rfl,ru⟩:=rv.one;obtain⟨z,its,n,r,hl,e⟩:=I.lstM hH;refine call_meets F.slot_list_append ⟨_,e,rfl⟩ F.entry_list_append (F.args_list_append_2 _ _) (PySem.list_append l its.toArray n u (by rw [Ms]; omega)) ⟨e,?_⟩
 refine⟨.non,_,I.lset (its':=its++[u]) hH e (by simp) (r.append (.cons ru .nil)) ?_,rfl,q⟩
 rw [MI,List.length_singleton];omega
def El:V->List V->Hp->VK->Prop:=λx vs H Q=>∃ l b xs zs,x=.ref l/\vs=[.ref b]/\H l=some (.lst xs)/\H b=some (.lst zs)/\xs.length+zs.length<=sizeLine/\Q .non (bL H l (.lst (xs++zs)))
theorem zW:KO X "list.extend" El:=by
 intro NA s σ H x vs v us Q I rx rv h;obtain⟨l,b,xs,zs,rfl,rfl,hH,hB,hz,q⟩:=h;cases rx;obtain⟨u,rfl,ru⟩:=rv.one;cases ru;obtain⟨z,its,n,r,hl,e⟩:=I.lstM hH;obtain⟨z2,its2,n2,r2,hl2,e2⟩:=I.lstM hB;have hsz:its.toArray.size+its2.toArray.size<=sizeLine:=by rw [Ms,Ms]; omega
 have hlong:¬ (!its.toArray.isEmpty && Builtin.List.listTooLong (its.toArray.size+its2.toArray.size))=true:=by
  rw [AY hsz,Bool.and_false];exact Mr
 refine call_meets F.slot_list_extend ⟨_,e,rfl⟩ F.entry_list_extend (F.args_list_extend_2 _ _)
  (AutoSeq1.list_extend_list_list_0 l its.toArray n b its2.toArray n2 hlong (by rw [Ms]; omega) (by omega)) ⟨e,e2,?_⟩
 refine⟨.non,_,I.lset (its':=its++its2) hH e (by simp) (r.append r2) ?_,rfl,q⟩
 rw [MI];omega
def HI:V->List V->Hp->VK->Prop:=λx vs H Q=>∃ l xs,x=.ref l/\vs=[]/\H l=some (.lst xs)/\Q .non (bL H l (.lst []))
theorem C7:KO X "list.clear" HI:=by
 intro NA s σ H x vs v us Q I rx rv h;obtain⟨l,xs,rfl,rfl,hH,q⟩:=h;cases rx;have hus:=rv.zero;subst hus;obtain⟨z,its,n,r,hl,e⟩:=I.lstM hH;refine call_meets F.slot_list_clear ⟨_,e,rfl⟩ F.entry_list_clear (F.args_list_clear_1 _) (AutoSeq1.list_clear_list_0 l its.toArray n (by rw [Ms]; omega)) ⟨e,?_⟩
 exact⟨.non,_,I.lset (its':=[]) (ys:=[]) hH e rfl .nil (M_ _),rfl,q⟩
def Kw:R2:=λx y H Q=>∃ l b xs zs,x=.ref l/\y=.ref b/\H l=some (.lst xs)/\H b=some (.lst zs)/\xs.length+zs.length<=sizeLine/\∀ p,H p=none->Q (.ref p) (bL H p (.lst (xs++zs)))
theorem Gk:gp X (binaryOp .Add) Kw:=by
 intro NA s σ H x y v u Q I rx ry h;obtain⟨l,b,xs,zs,rfl,rfl,hH,hB,hz,q⟩:=h;cases rx;cases ry;obtain⟨z,its,n,r,hl,e⟩:=I.lstM hH;obtain⟨z2,its2,n2,r2,hl2,e2⟩:=I.lstM hB;refine PySem.P.add_list e e2 ?_ (by rw [Ms,Ms]; omega)
 have ea:its.toArray++its2.toArray=(its++its2).toArray:=by simp
 rw [ea];exact⟨.ref _,_,I.lnew (t':=s.toks) (r.append r2) (by rw [MI]; omega),rfl,q _ I.fresh⟩
end
def cK (H:Hp) (a:Nl):Prop:=(∃ kvs,Rd H a (.dK kvs))\/∃ kvs,Rd H a (.dT kvs)
end L2
namespace Att
open PySem PySem.W PySem.Calls PyProof.Rows
theorem rf {P:Params} {h:Nt}:∀ (ns:List Int) (vs:List Nk),WellAll P h vs (ns.map WData.int)->IntsAre vs ns:=by
 intro ns
 induction ns with
 | nil=>
  intro vs w;rw [List.map_nil] at w;cases w;exact .nil
 | cons n ns ih=>
  intro vs w;rw [List.map_cons] at w;cases w with
  | cons a b=>
   cases a;exact .cons _ _ (ih _ b)
theorem zY {l:OpenLaw} {n:Nat} (hn:l.most=some n) {P:Params} {h:Nt} {args:List WData} {vals:List Nk}
  (hpre:l.row.toRowW.claim.pre args=true) (hwl:WellAll P h vals args):
  ∃ a vs ns,vals=[Value.ref a]/\args=[WData.list (ns.map WData.int)]/\h.get? a=some {cls:=.type "list",data:=.seq vs.toArray}/\IntsAre vs ns/\ns.length<=n:=by
 have hsh:WShape.hasAll [] args [.list .int]=true:=(pre_splitW hpre).1;have hc:l.pre.holds [] {args:=args}=true:=(pre_splitW hpre).2;obtain⟨d,r,rfl,h1,h2⟩:=hasAllW_cons hsh;obtain rfl:=hasAllW_nil h2;obtain⟨xs,rfl,h3⟩:=hasW_list h1;obtain⟨ns,rfl⟩:=items_int h3;have hlen:ns.length<=n:=by
  unfold OpenLaw.pre at hc;have h4:(WTm.not (.lt (.lit (.int (n:Int))) (.len (.arg 0)))).holds [] {args:=[.list (ns.map .int)]}=true:=by
   have h4:=(holds_andW hc).1;rw [hn] at h4;exact h4
  have h5:=condW_of h4 (w_not (w_lt w_lit (w_len_list (w_arg rfl))));rw [Mq] at h5;refine Nat.le_of_not_lt λq=>?_
  have q':(n:Int) < ((ns.length:Nat):Int):=by omega
  first
   | (rw [decide_eq_true q'] at h5; exact absurd h5 (by decide))
   | (simp at h5; omega)
 cases hwl with
 | cons w1 w2=>
  cases w2;cases w1 with
  | list ho hall=>exact⟨_,_,ns,rfl,rfl,ho,rf ns _ hall,hlen⟩
theorem Aq (l:OpenLaw) (args:List WData):l.row.toRowW.claim.post args (.bool true) args=true:=
 postW_of (r:=l.row.toRowW) (X:=(true == true))
  (show WShape.has [] (.bool true) .bool=true by first | rfl | decide | simp [WShape.has,WShape.arms,WShape.armsAll])
  (show (WTm.eq .res (.lit (.bool true))).value [] {args:=args,res:=some (.bool true),after:=args}=some (.bool (true == true)) from w_eq_bool (w_res rfl) w_lit) rfl
theorem attach_call {l:OpenLaw} {n:Nat} {q:Np} {loose:List Str} {XP:(Str->Nm Nk)->Nt->Prop} {YP:Nr->Nt->Prop} {d:DefRec}
  (hn:l.most=some n) (hdf:d.params.defaults=[])
  (call:∀ (w:Nr) (s₀ s₁:Nj) (mg mb:Str->Nm Nk) (fa:Nl) (o:Nz) (pm cd doc:Nk) (a:Nl) (vs:List Nk) (ns:List Int),
   Ground q loose [] XP w s₀ mg mb s₁.heap->YP w s₁.heap->
   s₁.heap.get? fa=some o->o.data=.func (docDef d.name d.params d.body d.scope pm cd doc)->s₁.heap.CodeRec cd d.name->mg d.name=some (.ref fa)->
   s₁.heap.get? a=some {cls:=.type "list",data:=.seq vs.toArray}->IntsAre vs ns->ns.length<=n->s₁.gens=#[]->
   codeAny (model l.prog w) callerA (.call (.ref fa) ⟨[.ref a],[]⟩) (λr s'=>r=.ok (.ret (.bool true))/\OldK s₁.heap s'.heap/\s'.os=s₁.os/\AllBare s'.gens) s₁):
  WalkO q loose XP YP l.row.toRowW d [] (λf vs=>PySem.call f vs):=by
 intro w s₀ s₁ mg mb G Y fa o pm cd doc dV kV ho hd hcd hD hmg hg args vals as hpre hlay hrd hwl hlo;obtain rfl:dV=.none:=Dflts.none hD hdf;obtain rfl:kV=.none:=Dflts.noKw hD;obtain⟨a,vs,ns,rfl,rfl,hobj,hints,hlen⟩:=zY hn hpre hwl;refine enter_call (codeAny_mono (call w s₀ s₁ mg mb fa o pm cd doc a vs ns G Y ho (fd_plain hd) hcd hmg hobj hints hlen hg) λr s' hq=>?_)
 obtain⟨rfl,h2,h3,h4⟩:=hq;exact⟨.inl ⟨.bool true,.bool true,[],rfl,λ_=>rfl,.bool true,Aq l _,λ_=>⟨List.Pairwise.nil,λ_ hm=>(nomatch hm)⟩⟩,h2,h3,h4⟩
section
variable {prog:Np} {w:Nr} {A:Nq} {E:Nk->Nj->Prop} {s:Nj} {K:Frag}
def Kt (h:Nt) (L d:Nl):List (Nl×Nz):=(List.range h.objs.size).filterMap λa=>if a=L\/a=d then none else(h.get? a).map λo=>(a,o)
end
end Att
namespace L2
open PySem PySem.Spec PyProof.Rows
theorem uJ:∀ {vs:List Nk} {ns:List Int},IntsAre vs ns->bA (ns.map V.int) vs
 | _,_,.nil=>.nil
 | _,_,.cons n t h=>.cons ⟨t,rfl⟩ (uJ h)
abbrev Mi {K:PySem.W.Frag} {h:Nt} (_:K.In h):PySem.W.Frag:=K
def E1 (s:Nu) (j:Nat):Nu:=match s with
 | .ClassDef _ _ _ body _ _ _ _ _ _ _=>body.getD j (.Pass ⟨0,0,0,0⟩)
 | _=>.Pass ⟨0,0,0,0⟩
def d_ (s:Nu):Arguments:=match s with
 | .FunctionDef _ a _ _ _ _ _ _ _ _=>a
 | _=>{posonlyargs:=[],args:=[],vararg:=none,kwonlyargs:=[],kw_defaults:=[],kwarg:=none,defaults:=[]}
def b_ (s:Nu):List Nu:=match s with
 | .FunctionDef _ _ b _ _ _ _ _ _ _=>b
 | _=>[]
def am (s:Nu):Scope:=match s with
 | .FunctionDef _ _ _ _ _ _ sc _ _ _=>sc
 | _=>{kind:=.function,names:=[],isGenerator:=false,isCoroutine:=false}
abbrev cW:zU:=λ_ _ _ _ _ _=>False
abbrev E0:XK:=λ_ _ _=>False
theorem Bl {X:Cx}:sG cW X E0:=λ_ _ _ _ _ _ _ h=>h.elim
structure rC (K:PySem.W.Frag) (x qual:Str) (st:Nu) (f:Nl) (fd:FuncData):Prop where
 ex:∃ (oc:Nk) (od:Nm Nl) (kV doc pm:Nk) (an:Nm Nl) (cdv ct:Nk) (osl:Nv (Nm Nk)),
  fd=PySem.W.fnOf x qual (d_ st) (b_ st) (am st) .none kV doc pm an cdv ct/\K.lookup f=some ⟨oc,od,.func fd,osl⟩/\PySem.W.codeIn K cdv qual=true
 kp:PySem.W.keepIn K (.ref f)=true
section
variable {P:Np} {w:Nr} {K:PySem.W.Frag} {mg:Str->Nm Nk} {base:Nt}
theorem rC.ok {x qual:Str} {st:Nu} {f:Nl} {fd:FuncData} {N ps:List Str} {k:Nat} {sp:Sp} (F:rC K x qual st f fd) (S:av N ps (am st)) (len:∀ vs H Q E,sp vs H Q E->vs.length=ps.length)
  (hbody:∀ (cdv:Nk) (A:Nq) (outer:List Env) (s:Nj) (H:Hp) (vs:List V) (Q:VK) (E:XK),bE k (A.deeper (envOfC qual (am st) s.heap.objs.size f cdv))->sp vs H Q E->
   ∃ t,tI (cQ cW P w K mg base N qual (am st) f cdv A outer s H E).nox (b_ st) t/\t {nx:=λ_ H'=>Q .non H',rt:=Q} (start N vs) H):aU P w K mg base cW (k+1) f fd ps sp:=by
 obtain⟨oc,od,kV,doc,pm,an,cdv,ct,osl,rfl,lk,hcd⟩:=F.ex;refine BM lk hcd S len λA outer s H vs Q E hr hsp=>?_
 obtain⟨t,h,q⟩:=hbody cdv A outer s H vs Q E hr hsp;exact⟨t,h.nox,q⟩
theorem rC.binds {x qual:Str} {st:Nu} {f:Nl} {fd:FuncData} {ps:List Str} (F:rC K x qual st f fd)
  (h:∀ (kV doc pm:Nk) (an:Nm Nl) (cdv ct:Nk) (us:List Nk),us.length=ps.length->bindArgs (PySem.W.fnOf x qual (d_ st) (b_ st) (am st) .none kV doc pm an cdv ct) ⟨us,[]⟩=pure (ps.zip us)):gM K fd ps []:=by
 obtain⟨oc,od,kV,doc,pm,an,cdv,ct,osl,rfl,lk,hcd⟩:=F.ex;exact .all (h kV doc pm an cdv ct)
theorem sK {x qual:Str} {st:Nu} {f:Nl} {oc:Nk} {od an:Nm Nl} {osl:Nv (Nm Nk)} {kV doc pm cdv ct:Nk} (l:K.lookup f=some ⟨oc,od,.func (PySem.W.fnOf x qual (d_ st) (b_ st) (am st) .none kV doc pm an cdv ct),osl⟩)
  (c:PySem.W.codeIn K cdv qual=true) (k:PySem.W.keepIn K (.ref f)=true):rC K x qual st f (PySem.W.fnOf x qual (d_ st) (b_ st) (am st) .none kV doc pm an cdv ct):=⟨⟨oc,od,kV,doc,pm,an,cdv,ct,osl,rfl,l,c⟩,k⟩
end
theorem EM {A B:Prop} (h:B):if false=true then A else B:=by
 rw [if_neg Mr];exact h
theorem vg {A B:Prop} (h:A):if true=true then A else B:=by
 rw [if_pos rfl];exact h
end L2
set_option linter.all false
namespace HM
theorem wO (a b:Int):Int.gcd b (a.fmod b)=Int.gcd a b:=by
 have h:=Int.gcd_sub_mul_right_right b a (a.fdiv b);rw [Int.fmod_def,Int.mul_comm b,h,Int.gcd_comm]
theorem yU (a b:Int) (h:b≠0):(a.fmod b).natAbs < b.natAbs:=by
 rcases Int.lt_or_gt_of_ne h with hb | hb
 ·have e:a.fmod b=-((-a).fmod (-b)):=by rw [Int.neg_fmod_neg,Int.neg_neg]
  have h1:=M7 (-a) (show 0 < -b by omega)
  have h2:=Nf (-a) (show 0 < -b by omega)
  omega
 ·have h1:=M7 a hb;have h2:=Nf a hb;omega
theorem w9 (a:Int):((Int.gcd a 0:Nat):Int)=if a < 0 then -a else a:=by
 rw [Int.gcd_zero_right]
 split <;> omega
def Ay (t b:Int):Int:=if b < 0 then -((Int.gcd t b:Nat):Int) else((Int.gcd t b:Nat):Int)
theorem Ct {t b:Int} (h:b≠0):Ay t b≠0:=by
 have h1:Int.gcd t b≠0:=λe=>h (Int.gcd_eq_zero_iff.mp e).2
 unfold Ay
 split <;> omega
theorem rk {t b:Int} (h:b≠0):t.fdiv (Ay t b)=(Rat.divInt t b).num:=by
 have hg:((Int.gcd t b:Nat):Int) ∣ t:=Int.gcd_dvd_left t b;rw [Rat.num_divInt,Int.gcd_comm b t];unfold Ay;rcases Int.lt_or_gt_of_ne h with hb | hb
 ·rw [if_pos hb,Int.sign_eq_neg_one_of_neg hb,Int.fdiv_eq_ediv_of_dvd (Int.neg_dvd.mpr hg),Int.ediv_neg,Int.neg_mul,Int.one_mul,Int.neg_ediv_of_dvd hg]
 ·rw [if_neg (by omega),Int.sign_eq_one_of_pos hb,Int.fdiv_eq_ediv_of_dvd hg,Int.one_mul]
theorem oM {t b:Int} (h:b≠0):b.fdiv (Ay t b)=((Rat.divInt t b).den:Int):=by
 have hg:((Int.gcd t b:Nat):Int) ∣ b:=Int.gcd_dvd_right t b;rw [Rat.den_divInt,Int.gcd_comm b t,if_neg h];unfold Ay;rcases Int.lt_or_gt_of_ne h with hb | hb
 ·rw [if_pos hb,Int.fdiv_eq_ediv_of_dvd (Int.neg_dvd.mpr hg),Int.ediv_neg,Int.natCast_ediv];rw [show ((b.natAbs:Nat):Int)=-b by omega,Int.neg_ediv_of_dvd hg]
 ·rw [if_neg (by omega),Int.fdiv_eq_ediv_of_dvd hg,Int.natCast_ediv]
  rw [show ((b.natAbs:Nat):Int)=b by omega]
theorem eG (a b:Rat):Rat.divInt (a.num*b.den+b.num*a.den) (a.den*b.den)=a+b:=by
 rw [Rat.add_def',Rat.mkRat_eq_div,MW]; simp [Rat.intCast_natCast]
theorem x_ (a b:Rat):Rat.divInt (a.num*b.den - b.num*a.den) (a.den*b.den)=a - b:=by
 rw [Rat.sub_def',Rat.mkRat_eq_div,MW]; simp [Rat.intCast_natCast]
theorem bW (a b:Rat):Rat.divInt (a.num*b.num) (a.den*b.den)=a*b:=by
 rw [Rat.mul_def',Rat.mkRat_eq_div,MW]; simp [Rat.intCast_natCast]
theorem xX (a b:Rat):Rat.divInt (a.num*b.den) (a.den*b.num)=a / b:=by
 rw [Rat.div_def,<- Rat.num_divInt_den b,Rat.inv_divInt]
 conv=>rhs; rw [<- Rat.num_divInt_den a]
 rw [Rat.divInt_mul_divInt,Rat.num_divInt_den]
def kJ:Nat->Nat
 | 0=>0
 | n+1=>if (kJ n+1)*(kJ n+1)<=n+1 then kJ n+1 else kJ n
theorem uZ:∀ n,kJ n*kJ n<=n/\n < (kJ n+1)*(kJ n+1)
 | 0=>by decide
 | n+1=>by
  obtain⟨h1,h2⟩:=uZ n;unfold kJ
  split
  ·rename_i h
   refine⟨h,?_⟩;have:(kJ n+1+1)*(kJ n+1+1)=(kJ n+1)*(kJ n+1)+2*(kJ n+1)+1:=by grind
   omega
  ·rename_i h
   exact⟨Nat.le_succ_of_le h1,Nat.lt_of_not_le h⟩
def jq (n:Int):Int:=(kJ n.toNat:Nat)
structure Rt (n r:Int):Prop where
 nn:0<=r
 le:r*r<=n
 lt:n < (r+1)*(r+1)
theorem kU {n:Int} (h:0<=n):Rt n (jq n):=by
 obtain⟨h1,h2⟩:=uZ n.toNat;refine⟨by unfold jq; omega,?_,?_⟩
 ·unfold jq;have:((kJ n.toNat*kJ n.toNat:Nat):Int)<=(n.toNat:Int):=Int.ofNat_le.mpr h1;rw [Int.natCast_mul] at this;omega
 ·unfold jq;have:((n.toNat:Nat):Int) < (((kJ n.toNat+1)*(kJ n.toNat+1):Nat):Int):=Int.ofNat_lt.mpr h2;rw [Int.natCast_mul,Int.natCast_add] at this;rw [show ((n.toNat:Nat):Int)=n by omega] at this
  exact this
theorem kr {a b:Int} (ha:0<=a) (h:a<=b):a*a<=b*b:=Int.mul_le_mul h h ha (by omega)
theorem Rt.le_of {n r x:Int} (h:Rt n r) (hx:x*x<=n):x<=r:=by
 apply Int.not_lt.mp;intro hl;have:=kr (a:=r+1) (b:=x) (by have:=h.nn; omega) (by omega)
 have:=h.lt;omega
theorem Rt.uniq {n r q:Int} (h:Rt n r) (h':Rt n q):r=q:=Int.le_antisymm (h'.le_of h.le) (h.le_of h'.le)
theorem A_ {n r:Int} (h:Rt n r):jq n=r:=(kU (Int.le_trans (by have:=kr (Int.le_refl 0) h.nn; omega) h.le)).uniq h
theorem pI {n x:Int} (e:x*x=n):jq n*jq n=n:=by
 have h:Rt n x.natAbs:=by
  refine⟨by omega,?_,?_⟩
  ·rw [Int.natAbs_mul_self' x]; omega
  ·have:((x.natAbs:Int)+1)*((x.natAbs:Int)+1)=(x.natAbs:Int)*(x.natAbs:Int)+2*x.natAbs+1:=by grind
   rw [Int.natAbs_mul_self' x] at this;omega
 rw [A_ h,Int.natAbs_mul_self' x];exact e
theorem zS {n g r:Int} (hg:0 < g) (hr:0<=r) (h:r*r<=n):r<=(g+n / g) / 2:=by
 apply Int.not_lt.mp;intro hl;have h1:g+n / g+1<=2*r:=by omega
 have hn:0<=n:=by have:=kr (Int.le_refl 0) hr; omega
 have hq:0<=n / g:=Int.ediv_nonneg hn (by omega)
 have h2:=kr (a:=g+n / g+1) (b:=2*r) (by omega) h1
 have h3:n < (n / g+1)*g:=by
  have:=Int.lt_ediv_add_one_mul_self n hg;exact this
 have h4:0<=(g - (n / g+1))*(g - (n / g+1)):=by
  rw [<- Int.natAbs_mul_self' (g - (n / g+1))]; exact Int.natCast_nonneg _
 generalize n / g=q at*
 grind
theorem Ah {n g r:Int} (hn:0<=n) (h:Rt n r) (hg:r < g):(g+n / g) / 2 < g:=by
 have h0:=h.nn;have h1:n / g < r+1:=by
  apply Int.ediv_lt_of_lt_mul (by omega)
  have:=h.lt;have h2:(r+1)*(r+1)<=(r+1)*g:=Int.mul_le_mul_of_nonneg_left (by omega) (by omega)
  omega
 omega
def Bt (n:Nat) (x:Int):Prop:=x.natAbs < 2 ^ n
theorem s9 {m n:Nat} (h:m<=n):2 ^ m<=2 ^ n:=Nat.pow_le_pow_right (by decide) h
theorem Bt.mono {m n:Nat} {x:Int} (h:Bt m x) (hm:m<=n):Bt n x:=Mz h (s9 hm)
theorem Bt.mul {m n:Nat} {x y:Int} (hx:Bt m x) (hy:Bt n y):Bt (m+n) (x*y):=by
 unfold Bt at*
 rw [Int.natAbs_mul,Nat.pow_add];exact Nat.mul_lt_mul'' hx hy
theorem Bt.add {m n:Nat} {x y:Int} (hx:Bt m x) (hy:Bt n y):Bt (max m n+1) (x+y):=by
 have h1:=hx.mono (Nat.le_max_left m n);have h2:=hy.mono (Nat.le_max_right m n);unfold Bt at*
 have:=Int.natAbs_add_le x y;rw [Nat.pow_succ];omega
theorem Bt.neg {m:Nat} {x:Int} (hx:Bt m x):Bt m (-x):=by unfold Bt at *; omega
theorem Bt.sub {m n:Nat} {x y:Int} (hx:Bt m x) (hy:Bt n y):Bt (max m n+1) (x - y):=by
 rw [Int.sub_eq_add_neg]; exact hx.add hy.neg
theorem Bt.le {m:Nat} {x y:Int} (hx:Bt m x) (h:y.natAbs<=x.natAbs):Bt m y:=Nat.lt_of_le_of_lt h hx
structure Sz (n:Nat) (q:Rat):Prop where
 num:Bt n q.num
 den:Bt n q.den
theorem Sz.mono {m n:Nat} {q:Rat} (h:Sz m q) (hm:m<=n):Sz n q:=⟨h.num.mono hm,h.den.mono hm⟩
theorem eA:∀ a b:Int,(a.fdiv b).natAbs<=a.natAbs
 | .ofNat 0,b=>by
  have e:Int.fdiv (.ofNat 0) b=0:=Int.zero_fdiv b;rw [e]; exact M_ _
 | .ofNat (k+1),.ofNat j=>Nat.div_le_self (k+1) j
 | .ofNat (k+1),.negSucc j=>Nat.succ_le_succ (Nat.div_le_self k (j+1))
 | .negSucc _,.ofNat 0=>M_ _
 | .negSucc k,.ofNat (j+1)=>Nat.succ_le_succ (Nat.div_le_self k (j+1))
 | .negSucc k,.negSucc j=>Nat.div_le_self (k+1) (j+1)
theorem Sz.divInt {n:Nat} {t b:Int} (ht:Bt n t) (hb:Bt n b) (h:b≠0):Sz n (Rat.divInt t b):=
 ⟨by rw [<- rk h]; exact ht.le (eA _ _),by rw [<- oM h]; exact hb.le (eA _ _)⟩
theorem lZ (q:Rat):(q.den:Int)≠0:=by have:=q.den_nz; omega
theorem ax (p q:Rat):(p.den:Int)*q.den≠0:=Int.mul_ne_zero (lZ p) (lZ q)
theorem Sz.add {m n:Nat} {a b:Rat} (ha:Sz m a) (hb:Sz n b):Sz (m+n+1) (a+b):=by
 rw [<- eG];refine .divInt ?_ ?_ (ax a b)
 ·exact((ha.num.mul hb.den).add (hb.num.mul ha.den)).mono (by omega)
 ·exact(ha.den.mul hb.den).mono (by omega)
theorem Sz.sub {m n:Nat} {a b:Rat} (ha:Sz m a) (hb:Sz n b):Sz (m+n+1) (a - b):=by
 rw [<- x_];refine .divInt ?_ ?_ (ax a b)
 ·exact((ha.num.mul hb.den).sub (hb.num.mul ha.den)).mono (by omega)
 ·exact(ha.den.mul hb.den).mono (by omega)
theorem Sz.mul {m n:Nat} {a b:Rat} (ha:Sz m a) (hb:Sz n b):Sz (m+n) (a*b):=by
 rw [<- bW];exact .divInt (ha.num.mul hb.num) (ha.den.mul hb.den) (ax a b)
theorem vC {q:Rat} (h:q≠0):q.num≠0:=λe=>h (Nh.mp e)
theorem Sz.div {m n:Nat} {a b:Rat} (ha:Sz m a) (hb:Sz n b) (h:b≠0):Sz (m+n) (a / b):=by
 rw [<- xX];exact .divInt (ha.num.mul hb.den) (ha.den.mul hb.num) (Int.mul_ne_zero (lZ a) (vC h))
theorem Sz.neg {m:Nat} {a:Rat} (ha:Sz m a):Sz m (-a):=⟨by rw [Rat.neg_num]; exact ha.num.neg,by rw [Rat.neg_den]; exact ha.den⟩
theorem nQ (r:Rat):(r*r).num=r.num*r.num:=by
 have h:=Rat.num_pow r 2;rw [show r ^ 2=r*r by grind,show r.num ^ 2=r.num*r.num by grind] at h
 exact h
theorem pE (r:Rat):(r*r).den=r.den*r.den:=by
 have h:=Rat.den_pow r 2;rw [show r ^ 2=r*r by grind,show r.den ^ 2=r.den*r.den by grind] at h
 exact h
def fW (u:Rat):Prop:=∀ r:Rat,r*r≠u
theorem FT {n:Int} (h:0<=n):jq n<=n:=by
 have rt:=kU h;have h0:=rt.nn;have h1:=rt.le;rcases Int.lt_or_le (jq n) 1 with h2 | h2
 ·omega
 ·have:jq n*1<=jq n*jq n:=Int.mul_le_mul_of_nonneg_left h2 h0;omega
theorem td {n:Int} {m:Nat} (h:0<=n) (hb:Bt m n):Bt m (jq n):=hb.le (by have:=FT h; have:=(kU h).nn; omega)
theorem CA:jq 0=0:=by decide
theorem tz (a:Int) {b:Int} (h:0 < b):a.fdiv b=a / b:=Int.fdiv_eq_ediv_of_nonneg a (by omega)
abbrev m9 (a:Int):Int:=if a < 0 then -a else a
theorem zi (a:Int):0<=m9 a:=by unfold m9; split <;> omega
theorem yV {n:Nat} {a:Int} (h:Bt n a):Bt n (m9 a):=h.le (by unfold m9; split <;> omega)
theorem fb (r:Rat):0<=r*r:=by
 rcases Rat.le_total (a:=0) (b:=r) with h | h
 ·exact MK h h
 ·have:0<=-r:=by grind
  have:=MK this this;grind
theorem qL (w:Rat):(w.num:Rat)=w*(w.den:Rat):=by
 have h:=Rat.num_divInt_den w;rw [MW,Rat.intCast_natCast] at h;have hd:(w.den:Rat)≠0:=by
  have:=w.den_nz;exact λe=>this (by exact_mod_cast e)
 grind
theorem rS (w:Rat):(w.den:Rat)≠0:=by
 have:=w.den_nz;exact λe=>this (by exact_mod_cast e)
def ab (b:Rat):Rat:=if b < 0 then -b else b
theorem mP (b:Rat):0<=ab b:=by unfold ab; split <;> grind
theorem sH (b:Rat):ab b*ab b=b*b:=by unfold ab; split <;> grind
def ss (b:Rat):Rat:=b*ab b
theorem cM (q:Rat):q.num < 0↔q < 0:=by
 have:=Rat.num_nonneg (q:=q)
 constructor
 ·intro h;apply Rat.not_le.mp;intro h2;have:=this.mpr h2;omega
 ·intro h;apply Int.not_le.mp;intro h2;exact absurd (this.mp h2) (Rat.not_le.mpr h)
theorem GX (q:Rat):(ab q).num=m9 q.num:=by
 unfold ab m9
 by_cases h:q < 0
 ·rw [if_pos h,if_pos ((cM q).mpr h),Rat.neg_num]
 ·rw [if_neg h,if_neg (λe=>h ((cM q).mp e))]
theorem FP (q:Rat):(ab q).den=q.den:=by
 unfold ab
 split
 ·exact Rat.neg_den _
 ·rfl
theorem xq {x:Int} (h:0<=x):jq (x*x)=x:=A_ ⟨h,Int.le_refl _,by grind⟩
theorem jg {b u:Rat} (hu:0 < u):ss b*u=0↔b=0:=by
 unfold ss ab
 constructor
 ·intro h;have hu':u≠0:=by grind
  split at h <;> grind
 ·intro h;subst h;grind
theorem Cp {b u:Rat} (hu:0 < u):ab (ss b*u)=b*b*u:=by
 have h2:=fb b;have h3:=MK h2 (Rat.le_of_lt hu);unfold ss
 by_cases h:b < 0
 ·have e:b*ab b*u=-(b*b*u):=by unfold ab; rw [if_pos h]; grind
  rw [e];have hp:0 < b*b*u:=by
   have h4:0 < -b:=by grind
   have h5:=MR h4 h4;have h6:=MR h5 hu;grind
  unfold ab;rw [if_pos (by grind)]
  grind
 ·have e:b*ab b*u=b*b*u:=by unfold ab; rw [if_neg h]
  rw [e];unfold ab;rw [if_neg (by grind)]
theorem mX {b u:Rat} (hu:0 < u):ss b*u < 0↔b < 0:=by
 have h2:=fb b;have h3:=MK h2 (Rat.le_of_lt hu);unfold ss ab
 constructor
 ·intro h
  split at h
  ·assumption
  ·exfalso; grind
 ·intro h;rw [if_pos h];have h4:0 < -b:=by grind
  have h5:=MR h4 h4;have h6:=MR h5 hu;grind
theorem r_ (a b:Rat):ss (a*b)=ss a*ss b:=by
 have e:ab (a*b)=ab a*ab b:=by
  unfold ab
  by_cases ha:a < 0 <;> by_cases hb:b < 0
  ·have:=MR (show 0 < -a by grind) (show 0 < -b by grind)
   rw [if_neg (by grind),if_pos ha,if_pos hb]; grind
  ·rw [if_pos ha,if_neg hb]
   by_cases h0:b=0
   ·subst h0; grind
   ·have:=MR (show 0 < -a by grind) (show 0 < b by grind)
    rw [if_pos (by grind)]; grind
  ·rw [if_neg ha,if_pos hb]
   by_cases h0:a=0
   ·subst h0; grind
   ·have:=MR (show 0 < a by grind) (show 0 < -b by grind)
    rw [if_pos (by grind)]; grind
  ·have:=MK (show 0<=a by grind) (show 0<=b by grind)
   rw [if_neg (by grind),if_neg ha,if_neg hb]
 unfold ss;rw [e];grind
theorem uK (b:Rat):ss (-b)=-ss b:=by
 unfold ss ab
 by_cases h:b < 0
 ·rw [if_neg (by grind),if_pos h]; grind
 ·by_cases h0:b=0
  ·subst h0; grind
  ·rw [if_pos (by grind),if_neg h]; grind
theorem jT {b:Rat} (h:0<=b):ss b=b*b:=by unfold ss ab; rw [if_neg (by grind)]
def sg (p q:Rat):Rat:=if q < 0 then -p else p
def Ex (q:Rat):Int:=if 0 < q then 1 else if q < 0 then -1 else 0
theorem vI {q:Rat} (h:0 < q):Ex q=1:=if_pos h
theorem rz {q:Rat} (h:q < 0):Ex q=-1:=by unfold Ex; rw [if_neg (by grind),if_pos h]
theorem tri (q:Rat):0 < q\/q < 0\/q=0:=by
 rcases Rat.le_total (a:=0) (b:=q) with h | h
 ·by_cases e:q=0
  ·exact .inr (.inr e)
  ·exact .inl (by grind)
 ·by_cases e:q=0
  ·exact .inr (.inr e)
  ·exact .inr (.inl (by grind))
def yE (a b u:Rat):Int:=if 0 < a*a - b*b*u then Ex a else Ex b
theorem la {x y:Rat} (hx:0<=x) (hy:0<=y):0<=x / y:=by
 by_cases h:y=0
 ·subst h;rw [show x / 0=0 by grind]
  exact Rat.le_refl
 ·apply Rat.not_lt.mp;intro hl;have h1:=MR (show 0 < -(x / y) by grind) (show 0 < y by grind)
  have h2:x / y*y=x:=by grind
  grind
theorem cy:ss 0=0:=by unfold ss; grind
theorem rY {q:Rat} (h:0<=q):0<=q.num:=Rat.num_nonneg.mpr h
theorem iT {q r:Rat} (h0:0<=r) (e:r*r=q):jq q.num=r.num/\jq (q.den:Int)=(r.den:Int):=by
 subst e;rw [nQ,pE];refine⟨xq (rY h0),?_⟩;rw [Int.natCast_mul];exact xq (by omega)
theorem nC {q:Rat} (h0:0<=q) (s1:jq q.num*jq q.num=q.num) (s2:jq (q.den:Int)*jq (q.den:Int)=(q.den:Int)):∃ r:Rat,0<=r/\r*r=q:=by
 have n1:=(kU (rY h0)).nn;have n2:=(kU (n:=(q.den:Int)) (by omega)).nn
 generalize jq q.num=x at s1 n1
 generalize jq (q.den:Int)=y at s2 n2
 have t1:(x:Rat)*x=(q.num:Rat):=by
  have:=congrArg (λz:Int=>(z:Rat)) s1
  simpa [Mn] using this
 have t2:(y:Rat)*y=(q.den:Rat):=by
  have:=congrArg (λz:Int=>(z:Rat)) s2
  simpa [Mn,Rat.intCast_natCast] using this
 have hd:=rS q;have hy0:(y:Rat)≠0:=by intro e; rw [e] at t2; exact hd (by grind)
 have hwn:=qL q;have x0:(0:Rat)<=x:=by exact_mod_cast n1
 have y0:(0:Rat)<=y:=by exact_mod_cast n2
 refine⟨(x:Rat) / y,?_,by grind⟩
 exact la x0 y0
theorem mI {e:Rat} (h:e≠0):ab e≠0:=by unfold ab; split <;> grind
theorem ym {e:Rat} (h:e≠0):0 < ab e:=by have:=mP e; have:=mI h; grind
theorem IL {r s:Rat} (hr:0<=r) (hs:0<=s) (e:r*r=s*s):r=s:=by
 by_cases h:r+s=0
 ·grind
 ·have:(r - s)*(r+s)=0:=by grind
  grind
theorem xM {b e u r:Rat} (u0:0 < u) (he:e≠0) (hr:0<=r) (h:r*r=(b*b*u) / (e*e*u)):r=ab b / ab e:=by
 have u1:u≠0:=by grind
 have e1:=sH e;have b1:=sH b;have e2:=mI he;apply IL hr (la (mP b) (mP e));rw [h];have:ab b / ab e*(ab b / ab e)=(ab b*ab b) / (ab e*ab e):=by grind
 rw [this,e1,b1];grind
theorem CN {b e u:Rat} (u0:0 < u) (he:e≠0):(ab b / ab e)*(ab b / ab e)=(b*b*u) / (e*e*u):=by
 have u1:u≠0:=by grind
 have e1:=sH e;have b1:=sH b;have e2:=mI he;have:ab b / ab e*(ab b / ab e)=(ab b*ab b) / (ab e*ab e):=by grind
 rw [this,e1,b1];grind
theorem B6 {b e u:Rat} (u0:0 < u):sg (ab b / ab e) (ss b*u)=b / ab e:=by
 unfold sg
 by_cases h:b < 0
 ·rw [if_pos ((mX u0).mpr h)];unfold ab;rw [if_pos h];grind
 ·rw [if_neg (λz=>h ((mX u0).mp z))]
  unfold ab;rw [if_neg h]
theorem GV {x y:Rat} (hy:0 < y):ss (x / y)=ss x / (y*y):=by
 have h1:x / y=x*(1 / y):=by grind
 have h2:0<=1 / y:=la (by decide) (Rat.le_of_lt hy)
 rw [h1,r_,jT h2];grind
theorem yF {x e u:Rat} (he:e≠0):ss (x / ab e)*(e*e*u)=ss x*u:=by
 have e1:=sH e;rw [GV (ym he),e1];grind
theorem C3 (p base:Rat):sg (p*p*base) p=ss p*base:=by
 unfold sg ss ab
 by_cases h:p < 0
 ·rw [if_pos h,if_pos h]; grind
 ·rw [if_neg h,if_neg h]
def pick (b d:Rat):Rat:=if b=0 then d else b
theorem BR {b d:Rat}:b=0\/pick b d≠0:=by
 unfold pick
 by_cases h:b=0
 ·exact .inl h
 ·rw [if_neg h]; exact .inr h
theorem Cs {b d:Rat}:d=0\/pick b d≠0:=by
 unfold pick
 by_cases h:b=0
 ·rw [if_pos h]
  by_cases h2:d=0
  ·exact .inl h2
  ·exact .inr h2
 ·rw [if_neg h]; exact .inr h
theorem pW {b d:Rat} (h:pick b d=0):b=0/\d=0:=by
 unfold pick at h
 by_cases h2:b=0
 ·rw [if_pos h2] at h; exact⟨h2,h⟩
 ·rw [if_neg h2] at h; exact absurd h h2
theorem Ae {b d u:Rat}:ss (b / ab (pick b d)+d / ab (pick b d))*(pick b d*pick b d*u)=ss (b+d)*u:=by
 by_cases h:pick b d=0
 ·obtain⟨rfl,rfl⟩:=pW h;rw [h];have:ss ((0:Rat)+0)=0:=by rw [show (0:Rat)+0=0 by grind]; exact cy
  rw [this];grind
 ·rw [<- yF (x:=b+d) h]
  congr 2
  have:=mI h;grind
theorem xF {a b c d u:Rat}:a*c+(b / ab (pick b d))*(d / ab (pick b d))*(pick b d*pick b d*u)=a*c+b*d*u:=by
 by_cases h:pick b d=0
 ·obtain⟨rfl,rfl⟩:=pW h;rw [h];grind
 ·have e1:=sH (pick b d);have e2:=mI h;rw [<- e1];grind
theorem yn {a b c d u:Rat}:ss (a*(d / ab (pick b d))+c*(b / ab (pick b d)))*(pick b d*pick b d*u)=ss (a*d+b*c)*u:=by
 by_cases h:pick b d=0
 ·obtain⟨rfl,rfl⟩:=pW h;rw [h,show a*(0 / ab (0:Rat))+c*(0 / ab 0)=0 by grind,show a*0+0*c=0 by grind,cy]
  grind
 ·rw [<- yF (x:=a*d+b*c) h]
  congr 2
  have:=mI h;grind
theorem oW {b u:Rat} (u0:0 < u):ab (ss b*u)=b*b*u:=Cp u0
theorem Sz.ab {n:Nat} {q:Rat} (h:Sz n q):Sz n (HM.ab q):=by
 unfold HM.ab
 split
 ·exact h.neg
 ·exact h
theorem Sz.ss {n:Nat} {q:Rat} (h:Sz n q):Sz (n+n) (HM.ss q):=h.mul h.ab
theorem Sz.sg {n:Nat} {p q:Rat} (h:Sz n p):Sz n (HM.sg p q):=by
 unfold HM.sg
 split
 ·exact h.neg
 ·exact h
theorem Sz.zero:Sz 1 0:=⟨by show(0:Int).natAbs < 2 ^ 1; decide,by show((1:Nat):Int).natAbs < 2 ^ 1; decide⟩
theorem Sz.pick {n:Nat} {b d:Rat} (hb:Sz n b) (hd:Sz n d):Sz n (HM.pick b d):=by
 unfold HM.pick
 split
 ·exact hd
 ·exact hb
theorem Sz.div' {m n:Nat} {a b:Rat} (ha:Sz m a) (hb:Sz n b):Sz (m+n+1) (a / b):=by
 by_cases h:b=0
 ·subst h;rw [show a / 0=0 by grind]
  exact Sz.zero.mono (by omega)
 ·exact(ha.div hb h).mono (by omega)
theorem HP {b u:Rat} (u0:0 < u):Ex (ss b*u)=Ex b:=by
 rcases tri b with h | h | h
 ·have:=MR (MR h (ym (show b≠0 by grind))) u0
  unfold ss;rw [vI h,vI this]
 ·rw [rz h,rz ((mX u0).mpr h)]
 ·subst h;rw [cy,show(0:Rat)*u=0 by grind]
end HM
namespace L2
open PySem PySem.Spec PyProof.Rows
theorem vV (elt target iter:No) (scope:Scope) (pos:Pos) (it acc:Nk) (env:Env):
  compTurn (.ListComp elt [⟨target,iter,[],0⟩] scope pos) 0 it acc env=(standAt iter.pos >>= λ_=>pyNext it >>= λr=>match r with
   | none=>pure (.done .next)
   | some v=>letOwnedTupleGo target it v >>= λ_=>assign target env v >>= λ_=>
    (eval elt env >>= λx=>call (.builtin "list.append") [acc,x] >>= λ_=>pure ()) >>= λ_=>
     again (.compLoop (.ListComp elt [⟨target,iter,[],0⟩] scope pos) 0 it acc env)):=by rfl
section
variable {prog:Np} {w:Nr} {A:Nq} {R:Result->Nj->Prop} {s:Nj}
abbrev mq:Nk->Nj->Prop:=λ_ _=>False
theorem Br {α:Type} {M:Model} {A:Nq} {t:Sem α} {Q:α->Nj->Prop} {E:Nk->Nj->Prop} {s:Nj} (h:wpAny M A t Q mq s):wpAny M A t Q E s:=MY h (λ_ _ q=>q) λ_ _ z=>z.elim
theorem on {elt target iter:No} {scope:Scope} {pos:Pos} {it acc:Nk} {env:Env} (I:Nat->Nj->Prop)
  (turn:∀ n s,I n s->wpAny (model prog w) A (pyNext it) (λr s1=>match r with
   | none=>R (.ok .next) s1
   | some v=>wpAny (model prog w) A (letOwnedTupleGo target it v) (λ_ s2=>wpAny (model prog w) A (assign target env v) (λ_ s3=>wpAny (model prog w) A (eval elt env) (λx s4=>
     wpAny (model prog w) A (call (.builtin "list.append") [acc,x]) (λ_ s5=>∃ m,m < n/\I m s5) mq s4) mq s3) mq s2) mq s1) mq s)
  (n:Nat) (h:I n s):codeAny (model prog w) A (.compLoop (.ListComp elt [⟨target,iter,[],0⟩] scope pos) 0 it acc env) R s:=by
 refine codeAny_loop rfl I (λn s hI=>?_) n h
 show wpAny _ _ ((compTurn (.ListComp elt [⟨target,iter,[],0⟩] scope pos) 0 it acc env).onRaise (λx=>do noteFrame x env; theTreesLotGoes x)) _ _ s
 refine wpAny_noted ?_;rw [vV];refine Mj (wpAny_standAt (Mj (Br (MY (turn n s hI) (λr s1 h1=>?_) λ_ _ z=>z))))
 cases r with
 | none=>exact Ml h1
 | some v=>
  exact Mj (Br (cu h1 λ_ s2 h2=>Mj (Br (cu h2 λ_ s3 h3=>Mj (Mj (Br (cu h3 λx s4 h4=>Mj (Br (cu h4 λ_ s5 h5=>Ml (Ml ⟨rfl,h5⟩))))))))))
theorem qP {M:Model} {A:Nq} {E:Nk->Nj->Prop} {c:No} {env:Env} {Q:Nw->Nj->Prop} {s:Nj} (h:wpAny M A (PySem.isTrue c env (eval c env)) Q E s):
  wpAny M A (forIn [c] true λc r=>if r=true then do let ok <- PySem.isTrue c env (eval c env); pure (ForInStep.yield ok) else pure (ForInStep.yield r)) Q E s:=by
 rw [List.forIn_cons];refine Mj ?_;rw [if_pos rfl];refine Mj (cu h λok s1 q=>Ml ?_)
 show wpAny M A (forIn [] ok _) Q E s1
 rw [List.forIn_nil];exact Ml q
theorem n6 {elt target iter c:No} {scope:Scope} {pos:Pos} {it acc:Nk} {env:Env} (I:Nat->Nj->Prop)
  (turn:∀ n s,I n s->wpAny (model prog w) A (pyNext it) (λr s1=>match r with
   | none=>R (.ok .next) s1
   | some v=>wpAny (model prog w) A (letOwnedTupleGo target it v) (λ_ s2=>wpAny (model prog w) A (assign target env v) (λ_ s3=>wpAny (model prog w) A (isTrue c env (eval c env)) (λb s3'=>
     if b=true then wpAny (model prog w) A (eval elt env) (λx s4=>wpAny (model prog w) A (call (.builtin "list.append") [acc,x]) (λ_ s5=>∃ m,m < n/\I m s5) mq s4) mq s3'
     else ∃ m,m < n/\I m s3') mq s3) mq s2) mq s1) mq s)
  (n:Nat) (h:I n s):codeAny (model prog w) A (.compLoop (.ListComp elt [⟨target,iter,[c],0⟩] scope pos) 0 it acc env) R s:=by
 refine codeAny_loop rfl I (λn s hI=>?_) n h
 show wpAny _ _ ((compTurn (.ListComp elt [⟨target,iter,[c],0⟩] scope pos) 0 it acc env).onRaise (λx=>do noteFrame x env; theTreesLotGoes x)) _ _ s
 refine wpAny_noted ?_;rw [compTurn_list];refine Mj (wpAny_standAt (Mj (Br (MY (turn n s hI) (λr s1 h1=>?_) λ_ _ z=>z))))
 cases r with
 | none=>exact Ml h1
 | some v=>
  refine Mj (Br (cu h1 λ_ s2 h2=>Mj (Br (cu h2 λ_ s3 h3=>Mj (qP (Br (cu h3 λb s3' h3'=>?_)))))))
  cases b with
  | true=>
   rw [if_pos rfl] at h3' ⊢;exact Mj (Mj (Br (cu h3' λx s4 h4=>Mj (Br (cu h4 λ_ s5 h5=>Ml (Ml ⟨rfl,h5⟩))))))
  | false=>
   rw [if_neg Mr] at h3' ⊢;exact Ml ⟨rfl,h3'⟩
end
def gQ (X:Cx) (scope:Scope) (cl:List (Str×Nl)) (N:List Str) (s0:Nj) (H0:Hp) (ex:List Nl) (C:Nl):Cx where
 prog:=X.prog
 w:=X.w
 K:=X.K
 mg:=X.mg
 base:=X.base
 A:=X.A
 N:=N
 s₀:=s0
 H₀:=H0
 env:=compEnvC scope cl C X.env
 outer:=X.stack
 stack:=X.stack
 ex:=ex
 fn:=λ_=>false
 calm:=X.calm
 pn:=[]
 xe:=mq
structure fV (X:Cx) (scope:Scope) (cl:List (Str×Nl)) (N:List Str) (cap:List (Nm Nat)):Prop where
 kind:scope.kind=.function
 clos:closureFor scope X.env=pure cl
 nocell:(scope.names.all λy=>y.2 != NameKind.cell)=true
 names:(scope.names.all λy=>y.2 != NameKind.local || scope.names.lookup y.1 == some NameKind.local)=true
 sub:∀ p∈cl,X.env.cells.lookup p.1=some p.2
 has:((relabel scope X.env).names.all λy=>(y.2 != NameKind.cell && y.2 != NameKind.free) || (cl.lookup y.1).isSome)=true
 len:cap.length=N.length
 caps:∀ (i j:Nat) (x:Str),cap[i]?=some (some j)->N[i]?=some x->X.N[j]?=some x/\(X.env.scope.names.lookup x=some .cell\/X.env.scope.names.lookup x=some .free)/\((relabel scope X.env).names.lookup x=some .cell\/(relabel scope X.env).names.lookup x=some .free)
def fN (cap:List (Nm Nat)) (σ:St):St:=cap.map λo=>match o with
 | some j=>(σ[j]?).join
 | none=>none
theorem qb {cap:List (Nm Nat)} {σ:St} {i:Nat} {v:V} (h:(fN cap σ)[i]?=some (some v)):∃ j,cap[i]?=some (some j)/\σ[j]?=some (some v):=by
 unfold fN at h;rw [MQ] at h;cases e:cap[i]? with
 | none=>rw [e] at h; cases h
 | some o=>
  rw [e] at h;cases o with
  | none=>cases h
  | some j=>
   refine⟨j,rfl,?_⟩;have h:(σ[j]?).join=some v:=MT h;cases e2:σ[j]? with
   | none=>rw [e2] at h; cases h
   | some q=>rw [e2] at h; exact congrArg some h
theorem gB {X:Cx} {cl:List (Str×Nl)} (h:∀ p∈cl,X.env.cells.lookup p.1=some p.2) {x:Str} {c:Nl} (e:cl.lookup x=some c):X.env.cells.lookup x=some c:=h (x,c) (M3 e)
theorem pd {X:Cx} {scope:Scope} {cl:List (Str×Nl)} {N:List Str} {cap:List (Nm Nat)} (Sc:fV X scope cl N cap) {NA:List (Nl×Nz)} {σ:St} {H:Hp} {s:Nj} {fp:List Nl} (I:aI X NA σ H s)
  (hf:∀ b∈fp,qQ X NA H b) (ho:∀ b∈fp,∃ o,s.heap.get? b=some o) {h1 h1':Nt} {m:Str->Nm Nk} {tk:Nat} {ob:Nz}
  (hD:s.heap.push {cls:=.type "list",data:=.seq ([]:List Nk).toArray}=h1') (hns:h1.Ns h1'.objs.size m) (hsb:Heap.SameBut h1'.objs.size (h1'.push ob) h1):
  aI (gQ X scope cl N {s with heap:=h1'} (bL H s.heap.objs.size (.lst [])) fp h1'.objs.size) [] (fN cap σ) (bL H s.heap.objs.size (.lst [])) {s with heap:=h1,toks:=tk}/\
   Un (fc X.stack) fp H (bL H s.heap.objs.size (.lst [])) s.heap h1':=by
 have hC:h1'.objs.size=s.heap.objs.size+1:=by rw [<- hD,Nb]
 have k1:∀ b o,s.heap.get? b=some o->h1'.get? b=some o:=λb o e=>by rw [<- hD]; exact Mk _ e
 have k2:∀ b o,h1'.get? b=some o->h1.get? b=some o:=λb o e=>(hsb.2 b (Mu (Mo e))).trans (Mk _ e)
 have hHn:H s.heap.objs.size=none:=I.hok.fresh (Mp _);have neD:∀ b o,s.heap.get? b=some o->b≠s.heap.objs.size:=λb o e=>Mu (Mo e)
 have un1:Un (fc X.stack) fp H (bL H s.heap.objs.size (.lst [])) s.heap h1':=Un.laid k1 (Mp _) hHn;have new:dO X.prog X.w (bL H s.heap.objs.size (.lst [])) h1' s.heap.objs.size (.lst []):=⟨M_ _,[],0,.nil,by rw [<- hD]; exact Mm _ rfl⟩
 have hok1:nj X.prog X.w (bL H s.heap.objs.size (.lst [])) h1':=I.hok.laid k1 (Mp _) new;have fsub:∀ b∈fp,b∉fc X.stack:=λb hb z=>by
  obtain⟨_,f1,f2,_⟩:=hf b hb;rcases Mt.mp (I.stkSub b z) with e | e
  ·exact f1 e
  ·exact f2 e
 have cellK:∀ x c,cl.lookup x=some c->∃ v,s.heap.IsCell c v:=λx c e=>I.cell x c (gB Sc.sub e)
 refine⟨⟨⟨I.ok.mod,?_,I.ok.glob,I.ok.blt,Mp _,λx y c e1 e2=>I.ok.inj x y c (gB Sc.sub e1) (gB Sc.sub e2),λx hx=>?_,λx c z=>(by cases z),I.ok.hd,I.ok.frames,.inl rfl,λb hb=>⟨?_,λx c e=>?_⟩,λb o e=>⟨?_,?_⟩,?_,λb o e hb=>?_,fsub,?_,λb hb=>?_⟩,
  rfl,I.bare,Un.kept k2,⟨m,hns,λi x v e1 e2 e3=>?_⟩,λx c e=>?_,?_,λx c e=>?_,λp hp=>absurd hp (by simp [gQ]),hok1.kept k2,?_⟩,un1⟩
 ·exact Sc.kind
 ·have hx:(relabel scope X.env).names.lookup x=some .cell\/(relabel scope X.env).names.lookup x=some .free:=hx;have ha:=Nc.mp Sc.has
  show ∃ c,cl.lookup x=some c
  rcases hx with hx | hx
  ·have:=ha _ (M3 hx);exact Ng.mp (by simpa using this)
  ·have:=ha _ (M3 hx);exact Ng.mp (by simpa using this)
 ·obtain⟨o,e⟩:=ho b hb;have:=Mo e
  show b≠h1'.objs.size
  rw [hC];exact Mu (Nat.lt_succ_of_lt this)
 ·exact(hf b hb).2.2.2.2.1 x c (gB Sc.sub e)
 ·exact k1 b o (I.bk b o e)
 ·show bL H s.heap.objs.size (.lst []) b=none
  rw [aF (neD b o (I.bk b o e))];exact(I.bs b o e).2
 ·show X.base.objs.size<=h1'.objs.size
  rw [hC];exact Nat.le_succ_of_le (M1 I.ok.bsz I.sz)
 ·obtain⟨_,_,_,f3,_⟩:=hf b hb;rcases f3 with f3 | f3
  ·exact I.ok.noex b o e f3
  ·have q1:=Mo e;have q2:=I.ok.bsz;exact absurd (Mz q1 (M1 q2 f3)) (Na _)
 ·exact I.stack.of_keeps λb o e _=>⟨o,k1 b o e,rfl⟩
 ·show bL H s.heap.objs.size (.lst []) b=none
  obtain⟨_,o,e,_⟩:=I.stack.mem hb;rw [aF (neD b o e)];exact I.stkFree b hb
 ·obtain⟨j,c1,c2⟩:=qb e2;obtain⟨d1,d2,d3⟩:=Sc.caps i j x c1 e1;obtain⟨m0,_,l0⟩:=I.loc;obtain⟨u,ru,lk⟩:=l0 j x v d1 c2 (d2.elim (λz=>.inr (.inl z)) λz=>.inr (.inr z))
  refine⟨u,ru,.inr ⟨d3,?_⟩⟩;rcases lk with ⟨z,_⟩ | ⟨_,c,z1,z2⟩
  ·have z:X.env.scope.names.lookup x=some .local:=z;rcases d2 with q | q <;> (rw [q] at z; cases z)
  ·have ha:=Nc.mp Sc.has;have hs:∃ c',cl.lookup x=some c':=by
    rcases d3 with q | q
    ·exact Ng.mp (by simpa using ha _ (M3 q))
    ·exact Ng.mp (by simpa using ha _ (M3 q))
   obtain⟨c',q⟩:=hs;have q2:=gB Sc.sub q;rw [z1] at q2;cases q2;obtain⟨o,e,d⟩:=z2;exact⟨c,q,o,k2 _ _ (k1 _ _ e),d⟩
 ·obtain⟨v,o,e1,d⟩:=cellK x c e;exact⟨v,o,k2 _ _ (k1 _ _ e1),d⟩
 ·show bL H s.heap.objs.size (.lst []) h1'.objs.size=none
  rw [hC,aF (Nat.succ_ne_self _)];exact I.hok.fresh (Nat.le_succ _)
 ·obtain⟨v,o,e1,d⟩:=cellK x c e
  show bL H s.heap.objs.size (.lst []) c=none
  rw [aF (neD c o e1)];exact I.freeC x c (gB Sc.sub e)
 ·show(fN cap σ).length=N.length
  unfold fN;rw [Mq];exact Sc.len
def FF (cap:List (Nm Nat)) (wi:TI) (g:TG) (te:TE):TE:=fun σ H Q=>wi σ H λJ H1=>∀ D,H1 D=none->∃ W:Nat->Nat->St->Hp->Prop,(∃ m,W 0 m (fN cap σ) (bL H1 D (.lst [])))/\∀ i m σ' H',W i m σ' H'->
 (J.stop i H'/\Q (.ref D) H')\/(J.go i H'/\∃ N:St->Hp->Prop,(∀ σ2 H2,N σ2 H2->∃ m',m' < m/\W (i+1) m' σ2 H2)/\∀ x H2,J.yld i H' x H2->g x σ' H2 fun σ3 H3=>te σ3 H3 λv H4=>∃ ys,H4 D=some (.lst ys)/\ys.length < sizeLine/\N σ3 (bL H4 D (.lst (ys++[v]))))
def yM (cap:List (Nm Nat)) (wi:TI) (g:TG) (tc:TT) (te:TE):TE:=fun σ H Q=>wi σ H λJ H1=>∀ D,H1 D=none->∃ W:Nat->Nat->St->Hp->Prop,(∃ m,W 0 m (fN cap σ) (bL H1 D (.lst [])))/\∀ i m σ' H',W i m σ' H'->
 (J.stop i H'/\Q (.ref D) H')\/(J.go i H'/\∃ N:St->Hp->Prop,(∀ σ2 H2,N σ2 H2->∃ m',m' < m/\W (i+1) m' σ2 H2)/\∀ x H2,J.yld i H' x H2->g x σ' H2 fun σ3 H3=>tc σ3 H3 λb H3'=>if b=true then te σ3 H3' λv H4=>∃ ys,H4 D=some (.lst ys)/\ys.length < sizeLine/\N σ3 (bL H4 D (.lst (ys++[v]))) else N σ3 H3')
section
variable {X:Cx} {elt tg iter c:No} {scope:Scope} {cl:List (Str×Nl)} {N:List Str} {cap:List (Nm Nat)} {pos:Pos} {wi:TI} {g:TG} {te:TE} {tc:TT}
theorem sV (Sc:fV X scope cl N cap) {NA:List (Nl×Nz)} {σ σ3:St} {H2 H3:Hp} {s2 s4:Nj} {fp:List Nl} {h1':Nt} {C:Nl} (I2:aI X NA σ H2 s2) (f2:∀ b∈fp,qQ X NA H2 b) {H1:Hp}
  (un3:Un (fc X.stack) fp H2 H1 s2.heap h1') (I4:aI (gQ X scope cl N {s2 with heap:=h1'} H1 fp C) [] σ3 H3 s4) {h':Nt} (hC:s2.heap.objs.size<=C) (sb:Heap.SameBut C s4.heap h'):aI X NA σ H3 {s4 with heap:=h'}:=by
 have u:Un (fc X.stack) fp H2 H3 s2.heap s4.heap:=un3.trans I4.base;have ne:∀ b o,s2.heap.get? b=some o->b≠C:=λb o e=>Mu (Mz (Mo e) hC)
 have u':Un (fc X.stack) fp H2 H3 s2.heap h':=⟨λb o e n hb hx=>(sb.2 b (ne b o e)).trans (u.keep b o e n hb hx),λb o e n hb hx=>by
   obtain⟨sl,q⟩:=u.slot b o e n hb hx;exact⟨sl,(sb.2 b (ne b o e)).trans q⟩,u.free,λb o e hx=>by
   obtain⟨o',q⟩:=u.there b o e hx;exact⟨o',(sb.2 b (ne b o e)).trans q⟩,u.tups,u.frzs,u.tbls⟩
 have hok:nj X.prog X.w H3 h':=λb ob e=>by
  refine(I4.hok b ob e).stay (λc w' hc q=>(sb.2 c ?_).trans q) (λ_ q=>q) λ_ _ q=>q
  rintro rfl;have hfree:H3 c=none:=I4.free;rcases hc with rfl | hc
  ·rw [hfree] at e; cases e
  ·rw [hfree] at hc; cases hc
 refine I2.call' (s':={s4 with heap:=h'}) (ch:=fp) I4.os u' hok I4.bare λb hb=>?_
 obtain⟨_,f1,_,f3,f4,f5⟩:=f2 b hb;exact⟨f3,f1,f4,f5⟩
theorem fg {s0:Nj} {H0:Hp} {C:Nl} {fp:List Nl} {σ:St} {H:Hp} {s:Nj} (I:aI (gQ X scope cl N s0 H0 fp C) [] σ H s) (hn:∀ b∈fp,H b=none):∀ b∈fp,qQ (gQ X scope cl N s0 H0 fp C) [] H b:=λb hb=>
 ⟨hn b hb,(I.ok.exf b hb).1,I.ok.exfs b hb,.inl hb,(I.ok.exf b hb).2,λp hp=>absurd hp (by simp [gQ])⟩
theorem ES (hc:X.calm=true) (Sc:fV X scope cl N cap) (hi:PI X tg iter wi) (hg:∀ s0 H0 ex C,PG (gQ X scope cl N s0 H0 ex C) tg g) (he:∀ s0 H0 ex C,PE (gQ X scope cl N s0 H0 ex C) elt te)
  (hs:∀ x,foldedSetIterable iter X.env x=pure x:=by intro _; rfl):PE X (.ListComp elt [⟨tg,iter,[],0⟩] scope pos) (FF cap wi g te):=by
 intro NA s σ H Q I h;rw [eval_ListComp];have hcell:∀ y∈scope.names,y.2≠.cell:=λy hy=>by simpa using Nc.mp Sc.nocell y hy
 have hnames:∀ y∈scope.names,y.2=.local->scope.names.lookup y.1=some .local:=λy hy e=>by
  have:=Nc.mp Sc.names y hy;rw [e] at this
  simpa using this
 refine wpAny_comprehension_free (use:=none) rfl hs Sc.clos Sc.kind hnames (cu (hi NA s σ H _ I h) λv s1 h1=>cu h1 λitv s2 h2=>?_)
 obtain⟨it,fp,tn,J,H2,e,I2,T,st2,f2,hW⟩:=h2;subst e;refine MO (wpAny_newFunctionEnv hcell (by intro y hy; simp at hy) (λh1 hns hsb=>?_) Sc.kind)
 obtain⟨W,⟨m0,w0⟩,turn⟩:=hW s2.heap.objs.size I2.fresh;dsimp only at hns hsb ⊢
 generalize hD:s2.heap.push {cls:=.type "list",dict:=none,data:=.seq ([]:List Nk).toArray}=h1' at hns hsb ⊢
 obtain⟨I3,un3⟩:=pd (tk:=s2.toks+([]:List (Str×Nk)).length) Sc I2 f2 (λb hb=>let ⟨o,e,_⟩:=T.obj 0 _ st2 b hb; ⟨o,e⟩) hD hns hsb
 have hC:s2.heap.objs.size<=h1'.objs.size:=by rw [<- hD,Nb]; exact Nat.le_succ _
 have k1:∀ b o,s2.heap.get? b=some o->h1.get? b=some o:=λb o e=>by
  have e1:h1'.get? b=some o:=by rw [<- hD]; exact Mk _ e
  exact(hsb.2 b (Mu (Mo e1))).trans (Mk _ e1)
 have st3:tn 0 h1:=T.keep 0 _ _ st2 λb _ o e=>k1 b o e
 have fr3:∀ b∈fp,(bL H2 s2.heap.objs.size (.lst [])) b=none:=λb hb=>by
  obtain⟨o,e,_⟩:=T.obj 0 _ st2 b hb;rw [aF (Mu (Mo e))];exact(f2 b hb).1
 have loop:∀ s3:Nj,s3={s2 with heap:=h1,toks:=s2.toks+([]:List (Str×Nk)).length}->
   codeAny (model X.prog X.w) X.A (.compLoop (.ListComp elt [⟨tg,iter,[],0⟩] scope pos) 0 (.ref it) (.ref s2.heap.objs.size) (compEnvC scope cl h1'.objs.size X.env))
    (compPost (model X.prog X.w) X.A X.xe none (EP X NA σ Q) (.ref s2.heap.objs.size) h1'.objs.size) s3:=by
  rintro s3 rfl;refine on (λn s'=>∃ i σ' H',aI (gQ X scope cl N {s2 with heap:=h1'} (bL H2 s2.heap.objs.size (.lst [])) fp h1'.objs.size) [] σ' H' s'/\tn i s'.heap/\(∀ b∈fp,H' b=none)/\W i n σ' H') ?_ m0 ⟨0,_,_,I3,st3,fr3,w0⟩
  rintro n s3 ⟨i,σ3,H3,I3,st3,fr3,w3⟩;rcases turn i n σ3 H3 w3 with ⟨stop,qn⟩ | ⟨go,Nn,hN,step⟩
  ·refine cu (T.done (gQ X scope cl N {s2 with heap:=h1'} (bL H2 s2.heap.objs.size (.lst [])) fp h1'.objs.size) rfl rfl rfl hc i [] s3 σ3 H3 mq I3 (fg I3 fr3) st3 stop) λr s4 z9=>?_
   obtain⟨hr,I4⟩:=z9;subst hr;obtain⟨m,hm,_⟩:=I4.loc;exact⟨m,hm,λh' sb=>⟨.ref _,H3,sV Sc I2 f2 un3 I4 hC sb,rfl,qn⟩⟩
  ·refine cu (T.item (gQ X scope cl N {s2 with heap:=h1'} (bL H2 s2.heap.objs.size (.lst [])) fp h1'.objs.size) rfl rfl rfl hc i [] s3 σ3 H3 mq I3 (fg I3 fr3) st3 go) λr s4 z9=>?_
   obtain⟨u,hr,h4⟩:=z9;subst hr;refine cu h4 λ_ s5 z9=>?_
   obtain⟨x,H5,I5,r5,y5,st5,fr5⟩:=z9;have I5':=I5.pinned (fg I5 fr5) (T.obj _ _ st5);refine cu (hg _ _ _ _ _ s5 σ3 H5 x u _ I5' r5 (step x H5 y5)) λ_ s6 z9=>?_
   obtain⟨σ6,H6,I6,q6⟩:=z9;refine cu (he _ _ _ _ _ s6 σ6 H6 _ I6 q6) λuv s7 z9=>?_
   obtain⟨v,H7,I7,r7,ys,hy,hl,q7⟩:=z9;refine cu (jE (X:=gQ X scope cl N {s2 with heap:=h1'} (bL H2 s2.heap.objs.size (.lst [])) fp h1'.objs.size) _ s7 σ6 H7 (.ref s2.heap.objs.size) [v] (.ref s2.heap.objs.size) [uv] (λ_ H8=>Nn σ6 H8) I7 rfl (.cons r7 .nil) ⟨_,ys,v,rfl,rfl,hy,hl,q7⟩) λ_ s8 z9=>?_
   obtain⟨_,H8,I8,_,n8⟩:=z9;obtain⟨m',hm,w8⟩:=hN σ6 H8 n8;refine⟨m',hm,i+1,σ6,H8,I8.unpinned,T.keep _ _ _ st5 λb hb o e=>(I8.pin (b,o) (MA _ (MA _ (dn hb e)))).1,λb hb=>?_,w8⟩
   obtain⟨o,e,d⟩:=T.obj _ _ st5 b hb;exact(I8.pin (b,o) (MA _ (MA _ (dn hb e)))).2.1
 exact codeAny_compStart_list (loop _ rfl) (T.self _ 0 _ _ _ st3 (loop _ rfl))
theorem uW (hc:X.calm=true) (Sc:fV X scope cl N cap) (hi:PI X tg iter wi) (hg:∀ s0 H0 ex C,PG (gQ X scope cl N s0 H0 ex C) tg g) (hcnd:∀ s0 H0 ex C,PT (gQ X scope cl N s0 H0 ex C) c tc) (he:∀ s0 H0 ex C,PE (gQ X scope cl N s0 H0 ex C) elt te)
  (hs:∀ x,foldedSetIterable iter X.env x=pure x:=by intro _; rfl):PE X (.ListComp elt [⟨tg,iter,[c],0⟩] scope pos) (yM cap wi g tc te):=by
 intro NA s σ H Q I h;rw [eval_ListComp];have hcell:∀ y∈scope.names,y.2≠.cell:=λy hy=>by simpa using Nc.mp Sc.nocell y hy
 have hnames:∀ y∈scope.names,y.2=.local->scope.names.lookup y.1=some .local:=λy hy e=>by
  have:=Nc.mp Sc.names y hy;rw [e] at this
  simpa using this
 refine wpAny_comprehension_free (use:=none) rfl hs Sc.clos Sc.kind hnames (cu (hi NA s σ H _ I h) λv s1 h1=>cu h1 λitv s2 h2=>?_)
 obtain⟨it,fp,tn,J,H2,e,I2,T,st2,f2,hW⟩:=h2;subst e;refine MO (wpAny_newFunctionEnv hcell (by intro y hy; simp at hy) (λh1 hns hsb=>?_) Sc.kind)
 obtain⟨W,⟨m0,w0⟩,turn⟩:=hW s2.heap.objs.size I2.fresh;dsimp only at hns hsb ⊢
 generalize hD:s2.heap.push {cls:=.type "list",dict:=none,data:=.seq ([]:List Nk).toArray}=h1' at hns hsb ⊢
 obtain⟨I3,un3⟩:=pd (tk:=s2.toks+([]:List (Str×Nk)).length) Sc I2 f2 (λb hb=>let ⟨o,e,_⟩:=T.obj 0 _ st2 b hb; ⟨o,e⟩) hD hns hsb
 have hC:s2.heap.objs.size<=h1'.objs.size:=by rw [<- hD,Nb]; exact Nat.le_succ _
 have k1:∀ b o,s2.heap.get? b=some o->h1.get? b=some o:=λb o e=>by
  have e1:h1'.get? b=some o:=by rw [<- hD]; exact Mk _ e
  exact(hsb.2 b (Mu (Mo e1))).trans (Mk _ e1)
 have st3:tn 0 h1:=T.keep 0 _ _ st2 λb _ o e=>k1 b o e
 have fr3:∀ b∈fp,(bL H2 s2.heap.objs.size (.lst [])) b=none:=λb hb=>by
  obtain⟨o,e,_⟩:=T.obj 0 _ st2 b hb;rw [aF (Mu (Mo e))];exact(f2 b hb).1
 have loop:∀ s3:Nj,s3={s2 with heap:=h1,toks:=s2.toks+([]:List (Str×Nk)).length}->
   codeAny (model X.prog X.w) X.A (.compLoop (.ListComp elt [⟨tg,iter,[c],0⟩] scope pos) 0 (.ref it) (.ref s2.heap.objs.size) (compEnvC scope cl h1'.objs.size X.env))
    (compPost (model X.prog X.w) X.A X.xe none (EP X NA σ Q) (.ref s2.heap.objs.size) h1'.objs.size) s3:=by
  rintro s3 rfl;refine n6 (λn s'=>∃ i σ' H',aI (gQ X scope cl N {s2 with heap:=h1'} (bL H2 s2.heap.objs.size (.lst [])) fp h1'.objs.size) [] σ' H' s'/\tn i s'.heap/\(∀ b∈fp,H' b=none)/\W i n σ' H') ?_ m0 ⟨0,_,_,I3,st3,fr3,w0⟩
  rintro n s3 ⟨i,σ3,H3,I3,st3,fr3,w3⟩;rcases turn i n σ3 H3 w3 with ⟨stop,qn⟩ | ⟨go,Nn,hN,step⟩
  ·refine cu (T.done (gQ X scope cl N {s2 with heap:=h1'} (bL H2 s2.heap.objs.size (.lst [])) fp h1'.objs.size) rfl rfl rfl hc i [] s3 σ3 H3 mq I3 (fg I3 fr3) st3 stop) λr s4 z9=>?_
   obtain⟨hr,I4⟩:=z9;subst hr;obtain⟨m,hm,_⟩:=I4.loc;exact⟨m,hm,λh' sb=>⟨.ref _,H3,sV Sc I2 f2 un3 I4 hC sb,rfl,qn⟩⟩
  ·refine cu (T.item (gQ X scope cl N {s2 with heap:=h1'} (bL H2 s2.heap.objs.size (.lst [])) fp h1'.objs.size) rfl rfl rfl hc i [] s3 σ3 H3 mq I3 (fg I3 fr3) st3 go) λr s4 z9=>?_
   obtain⟨u,hr,h4⟩:=z9;subst hr;refine cu h4 λ_ s5 z9=>?_
   obtain⟨x,H5,I5,r5,y5,st5,fr5⟩:=z9;have I5':=I5.pinned (fg I5 fr5) (T.obj _ _ st5);refine cu (hg _ _ _ _ _ s5 σ3 H5 x u _ I5' r5 (step x H5 y5)) λ_ s6 z9=>?_
   obtain⟨σ6,H6,I6,q6⟩:=z9;have again:∀ {s8:Nj} {H8:Hp},aI (gQ X scope cl N {s2 with heap:=h1'} (bL H2 s2.heap.objs.size (.lst [])) fp h1'.objs.size) ([]++qw fp s5.heap) σ6 H8 s8->Nn σ6 H8->
     ∃ m,m < n/\∃ i σ' H',aI (gQ X scope cl N {s2 with heap:=h1'} (bL H2 s2.heap.objs.size (.lst [])) fp h1'.objs.size) [] σ' H' s8/\tn i s8.heap/\(∀ b∈fp,H' b=none)/\W i m σ' H':=λ{s8 H8} I8 n8=>by
    obtain⟨m',hm,w8⟩:=hN σ6 H8 n8;refine⟨m',hm,i+1,σ6,H8,I8.unpinned,T.keep _ _ _ st5 λb hb o e=>(I8.pin (b,o) (MA _ (MA _ (dn hb e)))).1,λb hb=>?_,w8⟩
    obtain⟨o,e,d⟩:=T.obj _ _ st5 b hb;exact(I8.pin (b,o) (MA _ (MA _ (dn hb e)))).2.1
   refine cu (hcnd _ _ _ _ _ s6 σ6 H6 _ I6 q6) λb s6' z9=>?_
   obtain⟨H6',I6',q6'⟩:=z9;cases b with
   | true=>
    rw [if_pos rfl] at q6' ⊢;refine cu (he _ _ _ _ _ s6' σ6 H6' _ I6' q6') λuv s7 z9=>?_
    obtain⟨v,H7,I7,r7,ys,hy,hl,q7⟩:=z9;refine cu (jE (X:=gQ X scope cl N {s2 with heap:=h1'} (bL H2 s2.heap.objs.size (.lst [])) fp h1'.objs.size) _ s7 σ6 H7 (.ref s2.heap.objs.size) [v] (.ref s2.heap.objs.size) [uv] (λ_ H8=>Nn σ6 H8) I7 rfl (.cons r7 .nil) ⟨_,ys,v,rfl,rfl,hy,hl,q7⟩) λ_ s8 z9=>?_
    obtain⟨_,H8,I8,_,n8⟩:=z9;exact again I8 n8
   | false=>
    rw [if_neg Mr] at q6' ⊢;exact again I6' q6'
 exact codeAny_compStart_list (loop _ rfl) (T.self _ 0 _ _ _ st3 (loop _ rfl))
end
end L2
namespace DL
open PySem PySem.Spec PyProof.Rows L2
abbrev Fg:=PySem.W.Frag
inductive Ty where
 | non | bool | int | str | tup | lst | dic | verr
def Ty.name:Ty->Ny
 | .non=>"NoneType" | .bool=>"bool" | .int=>"int" | .str=>"str" | .tup=>"tuple" | .lst=>"list" | .dic=>"dict" | .verr=>"ValueError"
inductive D where
 | non | bl (b:Nw) | int (i:Int) | str (x:Str) | tup (ds:List D) | rl (ds:List D) | ref (a:Nl) | ty (n:Ty)
def HZ (K:Fg) (H:Hp) (a:Nl) (xs:List V):Prop:=
 (∃ o,H a=some (.frz o (.lst xs)))\/∃ (o:Nz) (its:Nv Nk) (n:Nat),K.lookup a=some o/\o.cls=.type "list"/\o.dict=none/\o.data=.seq its n/\its.size<=sizeLine/\bA xs its.toList
theorem HZ.sq {K:Fg} {H:Hp} {a:Nl} {xs:List V} (h:HZ K H a xs):jW K H a xs:=by
 rcases h with h | h
 ·exact .inl (.inr h)
 ·exact .inr h
mutual
def cK (K:Fg) (H:Hp):D->V->Prop
 | .non,v=>v=.non
 | .bl b,v=>v=.bl b
 | .int i,v=>v=.int i
 | .str x,v=>v=.str x
 | .tup ds,v=>∃ a xs,v=.ref a/\mB K H a xs/\IsDs K H ds xs
 | .rl ds,v=>∃ a xs,v=.ref a/\HZ K H a xs/\IsDs K H ds xs
 | .ref a,v=>v=.ref a
 | .ty n,v=>v=.ty n.name
def IsDs (K:Fg) (H:Hp):List D->List V->Prop
 | [],vs=>vs=[]
 | d::ds,vs=>∃ v r,vs=v::r/\cK K H d v/\IsDs K H ds r
end
def K7:HO->Prop
 | .tup _=>True
 | .frz _ _=>True
 | _=>False
def Kp (H H':Hp):Prop:=∀ a o,H a=some o->K7 o->H' a=some o
theorem Kp.refl (H:Hp):Kp H H:=λ_ _ h _=>h
theorem Kp.trans {H H1 H2:Hp} (a:Kp H H1) (b:Kp H1 H2):Kp H H2:=λc o h i=>b c o (a c o h i) i
theorem Kp.tup {K:Fg} {H H':Hp} {a:Nl} {xs:List V} (k:Kp H H') (h:mB K H a xs):mB K H' a xs:=by
 rcases h with (h | ⟨o,h⟩) | h
 ·exact .inl (.inl (k _ _ h trivial))
 ·exact .inl (.inr ⟨o,k _ _ h trivial⟩)
 ·exact .inr h
theorem Kp.fro {K:Fg} {H H':Hp} {a:Nl} {xs:List V} (k:Kp H H') (h:HZ K H a xs):HZ K H' a xs:=by
 rcases h with ⟨o,h⟩ | h
 ·exact .inl ⟨o,k _ _ h trivial⟩
 ·exact .inr h
theorem Kp.new {H:Hp} {p:Nl} {o:HO} (h:H p=none):Kp H (bL H p o):=λb u e _=>by rw [aF (bg e h)]; exact e
theorem Kp.mut {H:Hp} {p:Nl} {o u:HO} (h:H p=some u) (n:¬ K7 u):Kp H (bL H p o):=λb z e i=>by
 rw [aF (λq=>by subst q; rw [h] at e; cases e; exact n i)]; exact e
mutual
theorem cK.kp {K:Fg} {H H':Hp} (k:Kp H H'):∀ {d:D} {v:V},cK K H d v->cK K H' d v
 | .non,_,h=>by unfold cK at *; exact h
 | .bl _,_,h=>by unfold cK at *; exact h
 | .int _,_,h=>by unfold cK at *; exact h
 | .str _,_,h=>by unfold cK at *; exact h
 | .ref _,_,h=>by unfold cK at *; exact h
 | .ty _,_,h=>by unfold cK at *; exact h
 | .tup ds,_,h=>by
  unfold cK at*
  obtain⟨a,xs,e,t,r⟩:=h;exact⟨a,xs,e,k.tup t,IsDs.kp k r⟩
 | .rl ds,_,h=>by
  unfold cK at*
  obtain⟨a,xs,e,t,r⟩:=h;exact⟨a,xs,e,k.fro t,IsDs.kp k r⟩
theorem IsDs.kp {K:Fg} {H H':Hp} (k:Kp H H'):∀ {ds:List D} {vs:List V},IsDs K H ds vs->IsDs K H' ds vs
 | [],_,h=>by unfold IsDs at *; exact h
 | d::ds,_,h=>by
  unfold IsDs at*
  obtain⟨v,r,e,h1,h2⟩:=h;exact⟨v,r,e,cK.kp k h1,IsDs.kp k h2⟩
end
section
variable {K:Fg} {H:Hp}
theorem isInt {i:Int} {v:V}:cK K H (.int i) v↔v=.int i:=by unfold cK; exact Iff.rfl
theorem ce {b:Nw} {v:V}:cK K H (.bl b) v↔v=.bl b:=by unfold cK; exact Iff.rfl
theorem i7 {b:Str} {v:V}:cK K H (.str b) v↔v=.str b:=by unfold cK; exact Iff.rfl
theorem du {v:V}:cK K H .non v↔v=.non:=by unfold cK; exact Iff.rfl
theorem cf {a:Nl} {v:V}:cK K H (.ref a) v↔v=.ref a:=by unfold cK; exact Iff.rfl
theorem C8 {a:Ty} {v:V}:cK K H (.ty a) v↔v=.ty a.name:=by unfold cK; exact Iff.rfl
theorem cF {ds:List D} {v:V}:cK K H (.tup ds) v↔∃ a xs,v=.ref a/\mB K H a xs/\IsDs K H ds xs:=by unfold cK; exact Iff.rfl
theorem wM {ds:List D} {v:V}:cK K H (.rl ds) v↔∃ a xs,v=.ref a/\HZ K H a xs/\IsDs K H ds xs:=by unfold cK; exact Iff.rfl
theorem jS {vs:List V}:IsDs K H [] vs↔vs=[]:=by unfold IsDs; exact Iff.rfl
theorem dI {d:D} {ds:List D} {vs:List V}:IsDs K H (d::ds) vs↔∃ v r,vs=v::r/\cK K H d v/\IsDs K H ds r:=by
 constructor
 ·intro h; unfold IsDs at h; exact h
 ·intro h; unfold IsDs; exact h
theorem IsDs.nil:IsDs K H [] []:=jS.mpr rfl
theorem IsDs.cons {d:D} {ds:List D} {v:V} {vs:List V} (h1:cK K H d v) (h2:IsDs K H ds vs):IsDs K H (d::ds) (v::vs):=dI.mpr ⟨v,vs,rfl,h1,h2⟩
theorem IsDs.length:∀ {ds:List D} {vs:List V},IsDs K H ds vs->ds.length=vs.length
 | [],_,h=>by rw [jS.mp h]; rfl
 | d::ds,_,h=>by
  obtain⟨v,r,rfl,_,h2⟩:=dI.mp h;rw [MB,MB,IsDs.length h2]
theorem IsDs.get:∀ {ds:List D} {vs:List V} {i:Nat} {d:D},IsDs K H ds vs->ds[i]?=some d->∃ v,vs[i]?=some v/\cK K H d v
 | [],_,_,_,_,e=>by simp at e
 | c::ds,_,0,d,h,e=>by
  obtain⟨v,r,rfl,h1,h2⟩:=dI.mp h;simp at e;subst e;exact⟨v,rfl,h1⟩
 | c::ds,_,i+1,d,h,e=>by
  obtain⟨v,r,rfl,h1,h2⟩:=dI.mp h;obtain⟨u,q1,q2⟩:=IsDs.get (i:=i) (d:=d) h2 (by simpa using e)
  exact⟨u,by simpa using q1,q2⟩
theorem IsDs.set:∀ {ds:List D} {vs:List V} {d:D} {v:V} (i:Nat),IsDs K H ds vs->cK K H d v->IsDs K H (ds.set i d) (vs.set i v)
 | [],_,_,_,_,h,_=>by rw [jS.mp h]; exact IsDs.nil
 | c::ds,_,d,v,0,h,hd=>by
  obtain⟨u,r,rfl,h1,h2⟩:=dI.mp h;exact IsDs.cons hd h2
 | c::ds,_,d,v,i+1,h,hd=>by
  obtain⟨u,r,rfl,h1,h2⟩:=dI.mp h;exact IsDs.cons h1 (IsDs.set i h2 hd)
theorem IsDs.append:∀ {ds es:List D} {vs us:List V},IsDs K H ds vs->IsDs K H es us->IsDs K H (ds++es) (vs++us)
 | [],_,_,_,h,h'=>by rw [jS.mp h]; exact h'
 | c::ds,_,_,_,h,h'=>by
  obtain⟨u,r,rfl,h1,h2⟩:=dI.mp h;exact IsDs.cons h1 (IsDs.append h2 h')
theorem IsDs.drop:∀ {ds:List D} {vs:List V} (n:Nat),IsDs K H ds vs->IsDs K H (ds.drop n) (vs.drop n)
 | _,_,0,h=>h
 | [],_,n+1,h=>by rw [jS.mp h]; exact IsDs.nil
 | c::ds,_,n+1,h=>by
  obtain⟨u,r,rfl,h1,h2⟩:=dI.mp h;exact IsDs.drop n h2
theorem IsDs.take:∀ {ds:List D} {vs:List V} (n:Nat),IsDs K H ds vs->IsDs K H (ds.take n) (vs.take n)
 | _,_,0,h=>by simpa using IsDs.nil
 | [],_,n+1,h=>by rw [jS.mp h]; exact IsDs.nil
 | c::ds,_,n+1,h=>by
  obtain⟨u,r,rfl,h1,h2⟩:=dI.mp h;exact IsDs.cons h1 (IsDs.take n h2)
end
def Jq (ks:List Int):Int:=reduceHash (Builtin.Tuple.tupleHashOf (ks.map hashInt))
def eT (x:List Int×Nl×Nk):DictEntry:=⟨Jq x.1,.ref x.2.1,x.2.2⟩
def L8 (es:Nv DictEntry) (ep:Nat):Nz:={cls:=.type "dict",dict:=none,data:=.dict es ep,slots:=#[]}
def Ma (a:Nl) (xs:List (List Int×Nl×Nk)) (ep:Nat):Nt->Prop:=λh=>(a == sysModules)=false/\xs.length<=sizeLine/\(xs.map (·.1)).Nodup/\h.get? a=some (L8 (xs.map eT).toArray ep)
inductive J6 where
 | dT (kvs:List (List Int×D)) (ep:Nat)
 | dK (kvs:List (we×D))
abbrev Ke (K:Fg) (H:Hp):List (List Int×D)->List (List Int×Nl×Nk)->Prop:=Paired λp q=>p.1=q.1/\mB K H q.2.1 (p.1.map V.int)/\∃ v,bz v q.2.2/\cK K H p.2 v
def sN (K:Fg) (H:Hp) (a:Nl):J6->Prop
 | .dT kvs ep=>∃ xs,H a=some (.ext (Ma a xs ep))/\Ke K H kvs xs
 | .dK kvs=>∃ ys,H a=some (.dK ys)/\Paired (λ(p:we×D) (q:we×V)=>p.1=q.1/\cK K H p.2 q.2) kvs ys
theorem Ke.kp {K:Fg} {H H':Hp} {kvs:List (List Int×D)} {xs:List (List Int×Nl×Nk)} (r:Ke K H kvs xs) (k:Kp H H'):Ke K H' kvs xs:=
 Paired.mapP r λ_ _ z9=>by obtain⟨a,b,v,c,d⟩:=z9; exact⟨a,k.tup b,v,c,d.kp k⟩
theorem sN.there {K:Fg} {H:Hp} {a:Nl} {g:J6} (h:sN K H a g):∃ o,H a=some o/\¬ K7 o:=by
 cases g with
 | dT kvs ep=>obtain⟨xs,e,_⟩:=h; exact⟨_,e,λz=>z⟩
 | dK kvs=>obtain⟨xs,e,_⟩:=h; exact⟨_,e,λz=>z⟩
theorem sN.step {K:Fg} {H H':Hp} {a:Nl} {g:J6} (h:sN K H a g) (k:Kp H H') (s:H' a=H a):sN K H' a g:=by
 cases g with
 | dT kvs ep=>obtain⟨xs,e,r⟩:=h; exact⟨xs,s.trans e,r.kp k⟩
 | dK kvs=>obtain⟨xs,e,r⟩:=h; exact⟨xs,s.trans e,Paired.mapP r λ_ _ z=>⟨z.1,z.2.kp k⟩⟩
inductive DO where
 | lst (ds:List D)
 | dic
 | exc (C:Nl)
 | fn (φ:Hp->Prop)
 | tbl (ψ:Hp->Nv Nk->Prop)
 | gen (g:J6)
abbrev DH:=Nl->Nm DO
def put (S:DH) (a:Nl) (o:DO):DH:=λb=>if b=a then some o else S b
theorem ak {S:DH} {a:Nl} {o:DO}:put S a o a=some o:=by unfold put; rw [if_pos rfl]
theorem bw {S:DH} {a b:Nl} {o:DO} (h:b≠a):put S a o b=S b:=by unfold put; rw [if_neg h]
theorem yY {S:DH} {a:Nl} {o u:DO}:put (put S a o) a u=put S a u:=by funext b; unfold put; split <;> rfl
theorem BI {S:DH} {a p:Nl} {o:DO} (h:S a=some o) (h':S p=none):a≠p:=by intro e; subst e; rw [h] at h'; cases h'
def KT (K:Fg) (H:Hp) (a:Nl):DO->Prop
 | .lst ds=>∃ xs,H a=some (.lst xs)/\IsDs K H ds xs
 | .dic=>∃ kvs,H a=some (.dK kvs)
 | .exc C=>∃ o u,H a=some (.frz o u)/\o.cls=.ref C
 | .fn φ=>(∃ o u,H a=some (.frz o u))/\∀ H',Kp H H'->φ H'
 | .tbl ψ=>∃ ps,H a=some (.tbl ps)/\∀ H',Kp H H'->ψ H' ps
 | .gen g=>sN K H a g
def Hs (K:Fg) (H:Hp) (S:DH):Prop:=∀ a o,S a=some o->KT K H a o
section
variable {K:Fg} {H H':Hp} {S:DH} {p:Nl}
theorem Hs.lst {ds:List D} (h:Hs K H S) (e:S p=some (.lst ds)):∃ xs,H p=some (.lst xs)/\IsDs K H ds xs:=h p _ e
theorem Hs.free (h:Hs K H S) (e:H p=none):S p=none:=by
 cases q:S p with
 | none=>rfl
 | some o=>
  have z:=h p o q;cases o with
  | lst ds=>obtain⟨xs,z,_⟩:=z; rw [e] at z; cases z
  | dic=>obtain⟨xs,z⟩:=z; rw [e] at z; cases z
  | exc C=>obtain⟨_,_,z,_⟩:=z; rw [e] at z; cases z
  | fn φ=>obtain⟨⟨_,_,z⟩,_⟩:=z; rw [e] at z; cases z
  | tbl ψ=>obtain⟨_,z,_⟩:=z; rw [e] at z; cases z
  | gen g=>obtain⟨_,z,_⟩:=sN.there z; rw [e] at z; cases z
theorem Hs.step (h:Hs K H S) (k:Kp H H') (s:∀ a o,S a=some o->H' a=H a):Hs K H' S:=λa o e=>by
 have z:=h a o e;cases o with
 | lst ds=>obtain⟨xs,z,r⟩:=z; exact⟨xs,by rw [s a _ e]; exact z,r.kp k⟩
 | dic=>obtain⟨xs,z⟩:=z; exact⟨xs,by rw [s a _ e]; exact z⟩
 | exc C=>obtain⟨x,y,z,r⟩:=z; exact⟨x,y,by rw [s a _ e]; exact z,r⟩
 | fn φ=>obtain⟨⟨x,y,z⟩,r⟩:=z; exact⟨⟨x,y,by rw [s a _ e]; exact z⟩,λH2 k2=>r H2 (k.trans k2)⟩
 | tbl ψ=>obtain⟨ps,z,r⟩:=z; exact⟨ps,by rw [s a _ e]; exact z,λH2 k2=>r H2 (k.trans k2)⟩
 | gen g=>exact sN.step z k (s a _ e)
theorem Hs.new {o:HO} (h:Hs K H S) (e:H p=none):Hs K (bL H p o) S:=h.step (Kp.new e) λa u q=>by
 rw [aF]; intro z; subst z; rw [h.free e] at q; cases q
theorem Hs.newL {xs:List V} {ds:List D} (h:Hs K H S) (e:H p=none) (r:IsDs K H ds xs):Hs K (bL H p (.lst xs)) (put S p (.lst ds)):=λa o q=>by
 by_cases z:a=p
 ·subst z;rw [ak] at q;cases q;exact⟨xs,bp,r.kp (Kp.new e)⟩
 ·rw [bw z] at q;exact(h.new e) a o q
theorem Hs.setL {xs ys:List V} {ds:List D} (h:Hs K H S) (e:H p=some (.lst xs)) (r:IsDs K H ds ys):Hs K (bL H p (.lst ys)) (put S p (.lst ds)):=λa o q=>by
 have k:Kp H (bL H p (.lst ys)):=Kp.mut e (λz=>z)
 by_cases z:a=p
 ·subst z;rw [ak] at q;cases q;exact⟨ys,bp,r.kp k⟩
 ·rw [bw z] at q;have w:=h a o q;cases o with
  | lst ds=>obtain⟨xs,w,r⟩:=w; exact⟨xs,by rw [aF z]; exact w,r.kp k⟩
  | dic=>obtain⟨xs,w⟩:=w; exact⟨xs,by rw [aF z]; exact w⟩
  | exc C=>obtain⟨x,y,w,r⟩:=w; exact⟨x,y,by rw [aF z]; exact w,r⟩
  | fn φ=>obtain⟨⟨x,y,w⟩,r⟩:=w; exact⟨⟨x,y,by rw [aF z]; exact w⟩,λH2 k2=>r H2 (k.trans k2)⟩
  | tbl ψ=>obtain⟨ps,w,r⟩:=w; exact⟨ps,by rw [aF z]; exact w,λH2 k2=>r H2 (k.trans k2)⟩
  | gen g=>exact sN.step w k (aF z)
end
abbrev Lo:=List (Nm D)
def Lc (K:Fg) (H:Hp):Lo->L2.St->Prop
 | [],σ=>σ=[]
 | none::L,σ=>∃ x r,σ=x::r/\Lc K H L r
 | some d::L,σ=>∃ v r,σ=some v::r/\cK K H d v/\Lc K H L r
section
variable {K:Fg} {H H':Hp}
theorem Lc.kp (k:Kp H H'):∀ {L:Lo} {σ:L2.St},Lc K H L σ->Lc K H' L σ
 | [],_,h=>h
 | none::L,_,h=>by
  obtain⟨x,r,e,h⟩:=h;exact⟨x,r,e,Lc.kp k h⟩
 | some d::L,_,h=>by
  obtain⟨v,r,e,h1,h⟩:=h;exact⟨v,r,e,h1.kp k,Lc.kp k h⟩
theorem Lc.get:∀ {L:Lo} {σ:L2.St} {i:Nat} {d:D},Lc K H L σ->L[i]?=some (some d)->∃ v,σ[i]?=some (some v)/\cK K H d v
 | [],_,_,_,_,e=>by simp at e
 | none::L,_,0,_,_,e=>by simp at e
 | some c::L,_,0,d,h,e=>by
  obtain⟨v,r,rfl,h1,h⟩:=h;simp at e;subst e;exact⟨v,rfl,h1⟩
 | none::L,_,i+1,d,h,e=>by
  obtain⟨x,r,rfl,h⟩:=h;obtain⟨u,q1,q2⟩:=Lc.get (i:=i) (d:=d) h (by simpa using e)
  exact⟨u,by simpa using q1,q2⟩
 | some c::L,_,i+1,d,h,e=>by
  obtain⟨v,r,rfl,_,h⟩:=h;obtain⟨u,q1,q2⟩:=Lc.get (i:=i) (d:=d) h (by simpa using e)
  exact⟨u,by simpa using q1,q2⟩
theorem Lc.set {d:D} {v:V} (hd:cK K H d v):∀ {L:Lo} {σ:L2.St} (i:Nat),Lc K H L σ->Lc K H (L.set i (some d)) (σ.set i (some v))
 | [],_,_,h=>by
  have e:_=[]:=h;subst e;exact rfl
 | none::L,_,0,h=>by
  obtain⟨x,r,rfl,h⟩:=h;exact⟨v,r,rfl,hd,h⟩
 | some c::L,_,0,h=>by
  obtain⟨x,r,rfl,_,h⟩:=h;exact⟨v,r,rfl,hd,h⟩
 | none::L,_,i+1,h=>by
  obtain⟨x,r,rfl,h⟩:=h;exact⟨x,r.set i (some v),rfl,Lc.set hd i h⟩
 | some c::L,_,i+1,h=>by
  obtain⟨x,r,rfl,h1,h⟩:=h;exact⟨x,r.set i (some v),rfl,h1,Lc.set hd i h⟩
theorem Lc.none:∀ (n:Nat),Lc K H (List.replicate n .none) (List.replicate n .none)
 | 0=>rfl
 | n+1=>⟨_,_,rfl,Lc.none n⟩
theorem Lc.start:∀ {ds:List D} {vs:List V} (n:Nat),IsDs K H ds vs->Lc K H (ds.map some++List.replicate n .none) (vs.map some++List.replicate n .none)
 | [],_,n,h=>by rw [jS.mp h]; exact Lc.none n
 | d::ds,_,n,h=>by
  obtain⟨v,r,rfl,h1,h2⟩:=dI.mp h;exact⟨v,_,rfl,h1,Lc.start n h2⟩
end
abbrev DK:=D->DH->Prop
abbrev DE:=Lo->DH->DK->Prop
abbrev DT:=Lo->DH->(Nw->DH->Prop)->Prop
abbrev DA:=Lo->DH->(List D->DH->Prop)->Prop
structure oY where
 nx:Lo->DH->Prop
 rt:DK
 bk:Lo->DH->Prop:=λ_ _=>False
 ct:Lo->DH->Prop:=λ_ _=>False
abbrev DS:=oY->Lo->DH->Prop
def up (K:Fg) (g:DE):TE:=fun σ H Q=>∃ L S k,Lc K H L σ/\Hs K H S/\g L S k/\∀ d S' v H',k d S'->Kp H H'->Hs K H' S'->cK K H' d v->Q v H'
def xY (K:Fg) (g:DT):TT:=fun σ H Q=>∃ L S k,Lc K H L σ/\Hs K H S/\g L S k/\∀ b S' H',k b S'->Kp H H'->Hs K H' S'->Q b H'
def qR (K:Fg) (g:DA):TA:=fun σ H Q=>∃ L S k,Lc K H L σ/\Hs K H S/\g L S k/\∀ ds S' vs H',k ds S'->Kp H H'->Hs K H' S'->IsDs K H' ds vs->Q vs H'
structure wv (K:Fg) (H:Hp) (M:oY) (N:sT):Prop where
 nx:∀ L S σ H',M.nx L S->Kp H H'->Lc K H' L σ->Hs K H' S->N.nx σ H'
 rt:∀ d S v H',M.rt d S->Kp H H'->Hs K H' S->cK K H' d v->N.rt v H'
 bk:∀ L S σ H',M.bk L S->Kp H H'->Lc K H' L σ->Hs K H' S->N.bk σ H'
 ct:∀ L S σ H',M.ct L S->Kp H H'->Lc K H' L σ->Hs K H' S->N.ct σ H'
theorem wv.kp {K:Fg} {H H1:Hp} {M:oY} {N:sT} (r:wv K H M N) (k:Kp H H1):wv K H1 M N:=
 ⟨λL S σ H' h k'=>r.nx L S σ H' h (k.trans k'),λd S v H' h k'=>r.rt d S v H' h (k.trans k'),λL S σ H' h k'=>r.bk L S σ H' h (k.trans k'),λL S σ H' h k'=>r.ct L S σ H' h (k.trans k')⟩
def Dq (K:Fg) (g:DS):TS:=λN σ H=>∃ L S M,Lc K H L σ/\Hs K H S/\g M L S/\wv K H M N
theorem PE.imp {X:Cx} {e:No} {t t':TE} (h:PE X e t) (i:∀ σ H Q,t' σ H Q->t σ H Q):PE X e t':=λNA s σ H Q I q=>h NA s σ H Q I (i σ H Q q)
theorem PT.imp {X:Cx} {e:No} {t t':TT} (h:PT X e t) (i:∀ σ H Q,t' σ H Q->t σ H Q):PT X e t':=λNA s σ H Q I q=>h NA s σ H Q I (i σ H Q q)
theorem PW.imp {X:Cx} {e:No} {t t':TT} (h:PW X e t) (i:∀ σ H Q,t' σ H Q->t σ H Q):PW X e t':=λw NA s σ H Q I q=>h w NA s σ H Q I (i σ H Q q)
theorem PA.imp {X:Cx} {e:List No} {t t':TA} (h:PA X e t) (i:∀ σ H Q,t' σ H Q->t σ H Q):PA X e t':=λpos NA s σ H Q I q=>h pos NA s σ H Q I (i σ H Q q)
theorem PS.imp {X:Cx} {e:Nu} {t t':TS} (h:PS X e t) (i:∀ N σ H,t' N σ H->t N σ H):PS X e t':=λNA s σ H Q I q=>h NA s σ H Q I (i Q σ H q)
theorem tI.imp {X:Cx} {e:List Nu} {t t':TS} (h:tI X e t) (i:∀ N σ H,t' N σ H->t N σ H):tI X e t':=λNA s σ H Q I q=>h NA s σ H Q I (i Q σ H q)
theorem up.go {K:Fg} {g:DE} {σ:L2.St} {H:Hp} {Q:VK} {L:Lo} {S:DH} {k:DK} (hL:Lc K H L σ) (hS:Hs K H S) (h:g L S k)
  (n:∀ d S' v H',k d S'->Kp H H'->Lc K H' L σ->Hs K H' S'->cK K H' d v->Q v H'):up K g σ H Q:=
 ⟨L,S,k,hL,hS,h,λd S' v H' a b c e=>n d S' v H' a b (hL.kp b) c e⟩
theorem xY.go {K:Fg} {g:DT} {σ:L2.St} {H:Hp} {Q:Nw->Hp->Prop} {L:Lo} {S:DH} {k:Nw->DH->Prop} (hL:Lc K H L σ) (hS:Hs K H S) (h:g L S k)
  (n:∀ b S' H',k b S'->Kp H H'->Lc K H' L σ->Hs K H' S'->Q b H'):xY K g σ H Q:=
 ⟨L,S,k,hL,hS,h,λb S' H' a c e=>n b S' H' a c (hL.kp c) e⟩
theorem qR.go {K:Fg} {g:DA} {σ:L2.St} {H:Hp} {Q:List V->Hp->Prop} {L:Lo} {S:DH} {k:List D->DH->Prop} (hL:Lc K H L σ) (hS:Hs K H S) (h:g L S k)
  (n:∀ ds S' vs H',k ds S'->Kp H H'->Lc K H' L σ->Hs K H' S'->IsDs K H' ds vs->Q vs H'):qR K g σ H Q:=
 ⟨L,S,k,hL,hS,h,λd S' v H' a b c e=>n d S' v H' a b (hL.kp b) c e⟩
section
variable {X:Cx} {a b c:No} {ga gb gc:DE} {pos:Pos}
def fG (i:Nat):DE:=λL S k=>match L[i]? with
 | some (some d)=>k d S
 | _=>False
def dC (d:D):DE:=λ_ S k=>k d S
theorem HV {e:No} {d:D} {v:V} (h:PE X e (tC v)) (hd:∀ H,cK X.K H d v):PE X e (up X.K (dC d)):=
 PE.imp h fun σ H Q z9=>by obtain⟨L,S,k,hL,hS,h,n⟩:=z9; exact n d S v H h (Kp.refl H) hS (hd H)
def Fh:No->Nw
 | .Starred _ _=>true
 | _=>false
theorem cq {a:No} {es:List No} {env:Env} (h:Fh a=false):starEach (a::es) env=(false,eval a env)::starEach es env:=by
 cases a <;> first | rfl | cases h
theorem fQ {pos:Pos} {env:Env}:∀ {es:List No},(es.all λe=>!Fh e)=true->(backTo pos (starEach es env)).any (·.1)=false
 | [],_=>rfl
 | e::es,h=>by
  rw [List.all_cons,M2] at h;rw [cq (by simpa using h.1)]
  exact fQ h.2
def ku:DA:=λ_ S k=>k [] S
def cH (g:DE) (t:DA):DA:=λL S k=>g L S λd S1=>t L S1 λds S2=>k (d::ds) S2
def wn (t:DA):DE:=λL S k=>t L S λds S1=>ds.length<=sizeLine/\k (.tup ds) S1
def Lg (t:DA):DE:=λL S k=>t L S λds S1=>ds.length<=sizeLine/\∀ p,S1 p=none->k (.ref p) (put S1 p (.lst ds))
abbrev D2:=D->D->DH->DK->Prop
def jX (K:Fg) (r:D2):R2:=λx y H Q=>∃ d e S k,cK K H d x/\cK K H e y/\Hs K H S/\r d e S k/\∀ d' S' v H',k d' S'->Kp H H'->Hs K H' S'->cK K H' d' v->Q v H'
def t4 (r:D2) (ga gb:DE):DE:=λL S k=>ga L S λx S1=>gb L S1 λy S2=>r x y S2 k
theorem vv {K:Fg} {r:D2}:∀ σ H Q,up K (t4 r ga gb) σ H Q->Jv (jX K r) (up K ga) (up K gb) σ H Q:=fun σ H Q ⟨L,S,k,hL,hS,h,n⟩=>
 up.go hL hS h λd S1 v H1 h1 k1 hL1 hS1 i1=>up.go hL1 hS1 h1 λe S2 u H2 h2 k2 hL2 hS2 i2=>
  ⟨d,e,S2,k,i1.kp k2,i2,hS2,h2,λd' S' v H' q k3 z1 z2=>n d' S' v H' q (k1.trans (k2.trans k3)) z1 z2⟩
abbrev D1:=D->DH->DK->Prop
def Lr (K:Fg) (r:D1):V->Hp->VK->Prop:=λx H Q=>∃ d S k,cK K H d x/\Hs K H S/\r d S k/\∀ d' S' v H',k d' S'->Kp H H'->Hs K H' S'->cK K H' d' v->Q v H'
def LC (r:D1) (ga:DE):DE:=λL S k=>ga L S λx S1=>r x S1 k
def tS (g:DE):DT:=λL S k=>g L S λd S1=>match d with
 | .bl c=>k c S1
 | _=>False
theorem wS {K:Fg} {g:DE}:∀ σ H Q,xY K (tS g) σ H Q->Fw (up K g) σ H Q:=fun σ H Q ⟨L,S,k,hL,hS,h,n⟩=>
 up.go hL hS h λd S1 v H1 h1 k1 hL1 hS1 i1=>by
  cases d with
  | bl c=>
   have e:=ce.mp i1;subst e;exact⟨c,rfl,n c S1 H1 h1 k1 hS1⟩
  | _=>exact(show False from h1).elim
variable {tA tB':DT} {eJ:List No}
def JX (t u:DT):DT:=λL S k=>t L S λc S1=>if c=true then u L S1 k else k false S1
def IG (t u:DT):DT:=λL S k=>t L S λc S1=>if c=true then k true S1 else u L S1 k
def IA (t:DT):DT:=λL S k=>t L S λc S1=>k (!c) S1
def Ia (ga gb:DE):DE:=λL S k=>ga L S λx S1=>match x with
 | .bl c=>if c=true then gb L S1 k else k (.bl false) S1
 | _=>False
def Lb (ga gb:DE):DE:=λL S k=>ga L S λx S1=>match x with
 | .bl c=>if c=true then k (.bl true) S1 else gb L S1 k
 | _=>False
def LM (t:DT) (ga gb:DE):DE:=λL S k=>t L S λc S1=>if c=true then ga L S1 k else gb L S1 k
end
section
variable {X:Cx}
theorem po {K:Fg} {H:Hp} {S:DH} {k:DK} {Q:VK} {d:D} {v:V} (n:∀ d' S' v H',k d' S'->Kp H H'->Hs K H' S'->cK K H' d' v->Q v H') (hS:Hs K H S) (h:k d S) (i:cK K H d v):Q v H:=n d S v H h (Kp.refl H) hS i
def Gy (C:Int->Int->Prop) (g:Int->Int->D):D2:=λd e S k=>match d,e with
 | .int i,.int j=>C i j/\k (g i j) S
 | _,_=>False
theorem zy {f:Nk->Nk->Sem Nk} {C:Int->Int->Prop} {g:Int->Int->D} {gV:Int->Int->V} (ho:gp X f (rI C gV)) (hg:∀ i j H,cK X.K H (g i j) (gV i j)):gp X f (jX X.K (Gy C g)):=by
 intro NA s σ H x y v u Q I rx ry h;obtain⟨d,e,S,k,i1,i2,hS,r,n⟩:=h;cases d with
 | int i=>
  cases e with
  | int j=>
   have e1:=isInt.mp i1;have e2:=isInt.mp i2;subst e1;subst e2;exact ho NA s σ H _ _ v u Q I rx ry ⟨i,j,rfl,rfl,r.1,po n hS r.2 (hg i j H)⟩
  | _=>exact(show False from r).elim
 | _=>exact(show False from r).elim
def As (g:Int->Int->D):D2:=λd e S k=>match d,e with
 | .int i,.int j=>k (g i j) S
 | _,_=>False
theorem xa {f:Nk->Nk->Sem Nk} {g:Int->Int->D} {gV:Int->Int->V} (ho:gp X f (EZ gV)) (hg:∀ i j H,cK X.K H (g i j) (gV i j)):gp X f (jX X.K (As g)):=by
 intro NA s σ H x y v u Q I rx ry h;obtain⟨d,e,S,k,i1,i2,hS,r,n⟩:=h;cases d with
 | int i=>
  cases e with
  | int j=>
   have e1:=isInt.mp i1;have e2:=isInt.mp i2;subst e1;subst e2;exact ho NA s σ H _ _ v u Q I rx ry ⟨i,j,rfl,rfl,po n hS r (hg i j H)⟩
  | _=>exact(show False from r).elim
 | _=>exact(show False from r).elim
def BK (i j:Int):Prop:=j≠0/\j.natAbs.log2 < 9000
abbrev K5:D2:=As λi j=>.int (i - j)
abbrev Ht:D2:=Gy IntMulOk λi j=>.int (i*j)
abbrev La:D2:=Gy BK λi j=>.int (i.fdiv j)
abbrev Kj:D2:=Gy (λ_ j=>j≠0) λi j=>.int (i.fmod j)
abbrev Kg:D2:=Gy Hn λi j=>.int (i ^ j.toNat)
abbrev LX:D2:=As λi j=>.bl (decide (i < j))
abbrev LQ:D2:=As λi j=>.bl (decide (i<=j))
abbrev L7:D2:=As λi j=>.bl (decide (j < i))
abbrev L5:D2:=As λi j=>.bl (decide (j<=i))
theorem qG:gp X (binaryOp .Sub) (jX X.K K5):=xa Hu λ_ _ _=>isInt.mpr rfl
theorem cN:gp X (binaryOp .Mult) (jX X.K Ht):=zy (C:=IntMulOk) (gV:=λi j=>.int (i*j)) (IM λ_ _ _ _ _ _ _ hc q=>mul_int q hc) λ_ _ _=>isInt.mpr rfl
theorem A1:gp X (binaryOp .FloorDiv) (jX X.K La):=zy (C:=BK) (gV:=λi j=>.int (i.fdiv j)) (IM λ_ _ _ _ _ _ _ hc q=>floordiv_int hc.1 q (.inl (PyProof.noPylong_of_log2 hc.2))) λ_ _ _=>isInt.mpr rfl
theorem oq:gp X (binaryOp .Mod) (jX X.K Kj):=zy DY λ_ _ _=>isInt.mpr rfl
theorem E9:gp X (binaryOp .Pow) (jX X.K Kg):=zy GC λ_ _ _=>isInt.mpr rfl
theorem rb:gp X (compareOp .Lt) (jX X.K LX):=xa Jm λ_ _ _=>ce.mpr rfl
theorem K_:gp X (compareOp .LtE) (jX X.K LQ):=xa Jz λ_ _ _=>ce.mpr rfl
theorem J0:gp X (compareOp .Gt) (jX X.K L7):=xa JP λ_ _ _=>ce.mpr rfl
theorem K3:gp X (compareOp .GtE) (jX X.K L5):=xa Jp λ_ _ _=>ce.mpr rfl
def Ho:D2:=λd e S k=>match d,e with
 | .int i,.int j=>k (.int (i+j)) S
 | .str x,.str y=>x.length+y.length<=sizeLine/\k (.str (x++y)) S
 | .tup xs,.tup ys=>xs≠[]/\ys≠[]/\xs.length+ys.length<=sizeLine/\k (.tup (xs++ys)) S
 | .ref a,.ref b=>∃ xs ys,S a=some (.lst xs)/\S b=some (.lst ys)/\xs.length+ys.length<=sizeLine/\∀ p,S p=none->k (.ref p) (put S p (.lst (xs++ys)))
 | _,_=>False
theorem pA {K:Fg} {H:Hp} {ds:List D} {vs:List V} (i:IsDs K H ds vs) (h:ds≠[]):vs≠[]:=by
 intro e;subst e;have:=i.length;exact h (Ni.mp this)
theorem dF:gp X (binaryOp .Add) (jX X.K Ho):=by
 intro NA s σ H x y v u Q I rx ry h;obtain⟨d,e,S,k,i1,i2,hS,r,n⟩:=h;cases d with
 | int i=>
  cases e with
  | int j=>
   have e1:=isInt.mp i1;have e2:=isInt.mp i2;subst e1;subst e2;exact Gr NA s σ H _ _ v u Q I rx ry ⟨i,j,rfl,rfl,po n hS r (isInt.mpr rfl)⟩
  | _=>exact(show False from r).elim
 | str i=>
  cases e with
  | str j=>
   have e1:=i7.mp i1;have e2:=i7.mp i2;subst e1;subst e2;exact xG NA s σ H _ _ v u Q I rx ry ⟨i,j,rfl,rfl,r.1,po n hS r.2 (i7.mpr rfl)⟩
  | _=>exact(show False from r).elim
 | tup xs=>
  cases e with
  | tup ys=>
   obtain⟨a,vs,rfl,t1,j1⟩:=cF.mp i1;obtain⟨b,us,rfl,t2,j2⟩:=cF.mp i2;obtain⟨h1,h2,h3,r⟩:=r;refine zj NA s σ H _ _ v u Q I rx ry ⟨a,b,vs,us,rfl,rfl,t1,t2,pA j1 h1,by rw [<- j1.length,<- j2.length]; exact h3,λz=>absurd z (pA j2 h2),λ_ p hp=>?_⟩
   have kp:Kp H (bL H p (.tup (vs++us))):=Kp.new hp;exact n _ S _ _ r kp (hS.new hp) (cF.mpr ⟨p,_,rfl,mB.of bp,(j1.append j2).kp kp⟩)
  | _=>exact(show False from r).elim
 | ref a=>
  cases e with
  | ref b=>
   have e1:=cf.mp i1;have e2:=cf.mp i2;subst e1;subst e2;obtain⟨xs,ys,h1,h2,h3,r⟩:=r;obtain⟨vs,q1,j1⟩:=hS.lst h1;obtain⟨us,q2,j2⟩:=hS.lst h2;refine Gk NA s σ H _ _ v u Q I rx ry ⟨a,b,vs,us,rfl,rfl,q1,q2,by rw [<- j1.length,<- j2.length]; exact h3,λp hp=>?_⟩
   exact n _ _ _ _ (r p (hS.free hp)) (Kp.new hp) (hS.newL hp (j1.append j2)) (cf.mpr rfl)
  | _=>exact(show False from r).elim
 | _=>exact(show False from r).elim
def H_:D->D->Nm Nw
 | .int i,.int j=>some (decide (i=j))
 | .bl i,.bl j=>some (decide (i=j))
 | .str i,.str j=>some (decide (i=j))
 | _,_=>none
def Lx:D2:=λd e S k=>match H_ d e with
 | some b=>k (.bl b) S
 | none=>False
def J8:D2:=λd e S k=>match H_ d e with
 | some b=>k (.bl (!b)) S
 | none=>False
theorem FJ {K:Fg} {H:Hp} {d e:D} {x y:V} {b:Nw} (h:H_ d e=some b) (i1:cK K H d x) (i2:cK K H e y):Hi x y=true/\decide (x=y)=b:=by
 unfold H_ at h
 split at h
 ·have e1:=isInt.mp i1;have e2:=isInt.mp i2;subst e1; subst e2
  cases h;exact⟨rfl,by simp⟩
 ·have e1:=ce.mp i1;have e2:=ce.mp i2;subst e1; subst e2
  cases h;exact⟨rfl,by simp⟩
 ·have e1:=i7.mp i1;have e2:=i7.mp i2;subst e1; subst e2
  cases h;exact⟨rfl,by simp⟩
 ·cases h
theorem fC:gp X (compareOp .Eq) (jX X.K Lx):=by
 intro NA s σ H x y v u Q I rx ry h;obtain⟨d,e,S,k,i1,i2,hS,r,n⟩:=h;unfold Lx at r;cases q:H_ d e with
 | none=>rw [q] at r; exact r.elim
 | some b=>
  rw [q] at r;obtain⟨h1,h2⟩:=FJ q i1 i2;exact Jc NA s σ H _ _ v u Q I rx ry ⟨h1,by rw [h2]; exact po n hS r (ce.mpr rfl)⟩
theorem xW:gp X (compareOp .NotEq) (jX X.K J8):=by
 intro NA s σ H x y v u Q I rx ry h;obtain⟨d,e,S,k,i1,i2,hS,r,n⟩:=h;unfold J8 at r;cases q:H_ d e with
 | none=>rw [q] at r; exact r.elim
 | some b=>
  rw [q] at r;obtain⟨h1,h2⟩:=FJ q i1 i2;exact IP NA s σ H _ _ v u Q I rx ry ⟨h1,by rw [h2]; exact po n hS r (ce.mpr rfl)⟩
def yv:D->Nw
 | .non=>true
 | _=>false
def Lq:D2:=λd e S k=>match d,e with
 | .bl c,.bl b=>k (.bl (c == b)) S
 | d,.non=>k (.bl (yv d)) S
 | _,_=>False
def B8:D2:=λd e S k=>match d,e with
 | .bl c,.bl b=>k (.bl (!(c == b))) S
 | d,.non=>k (.bl (!yv d)) S
 | _,_=>False
theorem wR {K:Fg} {H:Hp} {d:D} {x:V} (i:cK K H d x):decide (x=.non)=yv d:=by
 cases d with
 | non=>rw [du.mp i]; rfl
 | bl b=>rw [ce.mp i]; rfl
 | int b=>rw [isInt.mp i]; rfl
 | str b=>rw [i7.mp i]; rfl
 | ref b=>rw [cf.mp i]; rfl
 | ty b=>rw [C8.mp i]; rfl
 | tup b=>obtain⟨a,xs,rfl,_⟩:=cF.mp i; rfl
 | rl b=>obtain⟨a,xs,rfl,_⟩:=wM.mp i; rfl
theorem wD:gp X (compareOp .Is) (jX X.K Lq):=by
 intro NA s σ H x y v u Q I rx ry h;obtain⟨d,e,S,k,i1,i2,hS,r,n⟩:=h;unfold Lq at r
 split at r
 ·rename_i c b
  have e1:=ce.mp i1;have e2:=ce.mp i2;subst e1; subst e2
  cases rx; cases ry
  exact is_bool ⟨.bl _,H,I,rfl,po n hS r (ce.mpr rfl)⟩
 ·have e2:=du.mp i2;exact Gq NA s σ H _ _ v u Q I rx ry ⟨e2,by rw [wR i1]; exact po n hS r (ce.mpr rfl)⟩
 ·exact r.elim
theorem yT:gp X (compareOp .IsNot) (jX X.K B8):=by
 intro NA s σ H x y v u Q I rx ry h;obtain⟨d,e,S,k,i1,i2,hS,r,n⟩:=h;unfold B8 at r
 split at r
 ·rename_i c b
  have e1:=ce.mp i1;have e2:=ce.mp i2;subst e1; subst e2
  cases rx; cases ry
  exact isnot_bool ⟨.bl _,H,I,rfl,po n hS r (ce.mpr rfl)⟩
 ·have e2:=du.mp i2;exact E5 NA s σ H _ _ v u Q I rx ry ⟨e2,by rw [wR i1]; exact po n hS r (ce.mpr rfl)⟩
 ·exact r.elim
def Li:D1:=λd S k=>match d with
 | .int i=>k (.int (-i)) S
 | _=>False
theorem Bh:Jf X (unaryOp .USub) (Lr X.K Li):=by
 intro NA s σ H x v Q I rx h;obtain⟨d,S,k,i1,hS,r,n⟩:=h;cases d with
 | int i=>
  have e1:=isInt.mp i1;subst e1;exact GR NA s σ H _ v Q I rx ⟨i,rfl,po n hS r (isInt.mpr rfl)⟩
 | _=>exact(show False from r).elim
def ww:D2:=λd e S k=>match d,e with
 | .tup ds,.int i=>(match atI ds i with
  | some c=>k c S
  | none=>False)
 | .rl ds,.int i=>(match atI ds i with
  | some c=>k c S
  | none=>False)
 | .ref a,.int i=>(match S a with
  | some (.lst ds)=>(match atI ds i with
   | some c=>k c S
   | none=>False)
  | _=>False)
 | _,_=>False
theorem IsDs.atI {K:Fg} {H:Hp} {ds:List D} {vs:List V} {i:Int} {d:D} (r:IsDs K H ds vs) (h:atI ds i=some d):∃ v,L2.atI vs i=some v/\cK K H d v:=by
 unfold L2.atI at h ⊢;rw [<- r.length];cases q:AH ds.length i with
 | none=>rw [q] at h; cases h
 | some j=>
  rw [q] at h;exact r.get h
theorem I0:AB X (jX X.K ww):=by
 intro value slice NA s σ H x y v u Q I rx ry h hs;obtain⟨d,e,S,k,i1,i2,hS,r,n⟩:=h;cases e with
 | int i=>
  have e2:=isInt.mp i2;subst e2;cases d with
  | tup ds=>
   obtain⟨a,vs,rfl,t,j⟩:=cF.mp i1;cases q:atI ds i with
   | none=>simp only [ww,q] at r
   | some c=>
    simp only [ww,q] at r;obtain⟨w,e1,e2⟩:=j.atI q;exact FV value slice NA s σ H _ _ v u Q I rx ry ⟨a,vs,i,w,rfl,rfl,t,e1,po n hS r e2⟩ hs
  | rl ds=>
   obtain⟨a,vs,rfl,t,j⟩:=wM.mp i1;cases q:atI ds i with
   | none=>simp only [ww,q] at r
   | some c=>
    simp only [ww,q] at r;obtain⟨w,e1,e2⟩:=j.atI q;exact yX value slice NA s σ H _ _ v u Q I rx ry ⟨a,vs,i,w,rfl,rfl,t.sq,e1,po n hS r e2⟩ hs
  | ref a=>
   have e1:=cf.mp i1;subst e1;cases z:S a with
   | none=>simp only [ww,z] at r
   | some o=>
    cases o with
    | dic=>simp only [ww,z] at r
    | exc _=>simp only [ww,z] at r
    | fn _=>simp only [ww,z] at r
    | tbl _=>simp only [ww,z] at r
    | gen _=>simp only [ww,z] at r
    | lst ds=>
     obtain⟨vs,hl,j⟩:=hS.lst z;cases q:atI ds i with
     | none=>simp only [ww,z,q] at r
     | some c=>
      simp only [ww,z,q] at r;obtain⟨w,e1,e2⟩:=j.atI q;exact yX value slice NA s σ H _ _ v u Q I rx ry ⟨a,vs,i,w,rfl,rfl,jW.of hl,e1,po n hS r e2⟩ hs
  | _=>exact(show False from r).elim
 | _=>
  cases d <;> exact(show False from r).elim
end
abbrev cr:=List D->DH->DK->Prop
def wt (K:Fg) (r:cr):List V->Hp->VK->Prop:=λxs H Q=>∃ ds S k,IsDs K H ds xs/\Hs K H S/\r ds S k/\∀ d' S' v H',k d' S'->Kp H H'->Hs K H' S'->cK K H' d' v->Q v H'
def ls (r:cr) (t:DA):DE:=λL S k=>t L S λds S1=>r ds S1 k
section
variable {X:Cx} {x:Str} {p pos:Pos} {e:No} {es:List No} {t:DA} {id T:Ny} {r:cr}
theorem wX {K:Fg}:∀ σ H Q,up K (ls r t) σ H Q->KB (wt K r) (qR K t) σ H Q:=fun σ H Q ⟨L,S,k,hL,hS,h,n⟩=>
 qR.go hL hS h λds S1 vs H1 h1 k1 hL1 hS1 i1=>⟨ds,S1,k,i1,hS1,h1,λd' S' v H' q k3 z1 z2=>n d' S' v H' q (k1.trans k3) z1 z2⟩
def cY (K:Fg) (F:cr):Sp:=λvs H Q _=>wt K F vs H Q
structure aZ (P:Np) (w:Nr) (K:Fg) (mg:Str->Nm Nk) (base:Nt) (x:Str) (n:Nat) (F:cr):Prop where
 ex:∃ f fd ps,aU P w K mg base cW n f fd ps (cY K F)/\mg x=some (.ref f)/\PySem.W.keepIn K (.ref f)=true/\gM K fd ps []
theorem Go {n:Nat} {F:cr} (c:aZ X.prog X.w X.K X.mg X.base x n F) (hr:bE n X.A) (hg:Gl X x) (ha:PA X (e::es) (qR X.K t)) (hdb:(x == ("__debug__":Str))=false:=by decide)
  (he:starEach (e::es) X.env=(false,eval e X.env)::starEach es X.env:=by exact cq rfl) (hpl:(backTo pos (starEach es X.env)).any (·.1)=false:=by exact fQ rfl):
  PE X (.Call (.Name x p) (e::es) [] pos) (up X.K (ls F t)):=by
 obtain⟨f,fd,ps,F1,h1,h2,h3⟩:=c.ex;refine PE.imp (vH F1 hr hg h1 h2 h3 .nil Bl ha hdb he hpl) fun σ H Q z9=>?_
 obtain⟨L,S,k,hL,hS,h,n⟩:=z9;refine qR.go hL hS h λds S1 vs H1 h1 k1 hL1 hS1 i1=>?_
 show cY X.K F (vs++[]) H1 Q E0
 rw [MJ];exact⟨ds,S1,k,i1,hS1,h1,λd' S' v H' q k3 z1 z2=>n d' S' v H' q (k1.trans k3) z1 z2⟩
def Jy:cr:=λds S k=>match ds with
 | [.int i]=>k (.int (if i < 0 then -i else i)) S
 | _=>False
theorem iH {K:Fg} {H:Hp} {d:D} {xs:List V} (h:IsDs K H [d] xs):∃ x,xs=[x]/\cK K H d x:=by
 obtain⟨v,r,rfl,h1,h2⟩:=dI.mp h;rw [jS.mp h2];exact⟨v,rfl,h1⟩
theorem pb {K:Fg} {H:Hp} {d e:D} {xs:List V} (h:IsDs K H [d,e] xs):∃ x y,xs=[x,y]/\cK K H d x/\cK K H e y:=by
 obtain⟨v,r,rfl,h1,h2⟩:=dI.mp h;obtain⟨y,rfl,h3⟩:=iH h2;exact⟨v,y,rfl,h1,h3⟩
theorem wN:dZ X (.builtin "abs") (wt X.K Jy):=by
 intro NA s σ H xs us Q I rs h;obtain⟨ds,S,k,i,hS,r,n⟩:=h;unfold Jy at r
 split at r
 ·obtain⟨x,rfl,i1⟩:=iH i;have e1:=isInt.mp i1;subst e1;exact C6 NA s σ H _ us Q I rs ⟨_,rfl,po n hS r (isInt.mpr rfl)⟩
 ·exact r.elim
def Hr:cr:=λds S k=>match ds with
 | [.tup xs]=>k (.int xs.length) S
 | [.rl xs]=>k (.int xs.length) S
 | [.ref a]=>(match S a with
  | some (.lst xs)=>k (.int xs.length) S
  | _=>False)
 | _=>False
theorem JI:dZ X (.builtin "len") (wt X.K Hr):=by
 intro NA s σ H xs us Q I rs h;obtain⟨ds,S,k,i,hS,r,n⟩:=h;unfold Hr at r
 split at r
 ·obtain⟨x,rfl,i1⟩:=iH i;obtain⟨a,vs,rfl,t,j⟩:=cF.mp i1;exact kg NA s σ H _ us Q I rs ⟨a,vs,rfl,.inr t,by rw [<- j.length]; exact po n hS r (isInt.mpr rfl)⟩
 ·obtain⟨x,rfl,i1⟩:=iH i;obtain⟨a,vs,rfl,t,j⟩:=wM.mp i1;exact kg NA s σ H _ us Q I rs ⟨a,vs,rfl,.inl t.sq,by rw [<- j.length]; exact po n hS r (isInt.mpr rfl)⟩
 ·obtain⟨x,rfl,i1⟩:=iH i;have e1:=cf.mp i1;subst e1
  split at r
  ·rename_i z
   obtain⟨vs,hl,j⟩:=hS.lst z;exact kg NA s σ H _ us Q I rs ⟨_,vs,rfl,.inl (jW.of hl),by rw [<- j.length]; exact po n hS r (isInt.mpr rfl)⟩
  ·exact r.elim
 ·exact r.elim
def IS:cr:=λds S k=>match ds with
 | [.int i,.int j]=>k (.int (if j > i then j else i)) S
 | _=>False
def ID:cr:=λds S k=>match ds with
 | [.int i,.int j]=>k (.int (if j < i then j else i)) S
 | _=>False
theorem Jd (hc:X.calm=true:=by rfl):dZ X (.builtin "max") (wt X.K IS):=by
 intro NA s σ H xs us Q I rs h;obtain⟨ds,S,k,i,hS,r,n⟩:=h;unfold IS at r
 split at r
 ·obtain⟨x,y,rfl,i1,i2⟩:=pb i;have e1:=isInt.mp i1;have e2:=isInt.mp i2;subst e1; subst e2
  exact zB hc NA s σ H _ us Q I rs ⟨_,_,rfl,po n hS r (isInt.mpr rfl)⟩
 ·exact r.elim
theorem J3 (hc:X.calm=true:=by rfl):dZ X (.builtin "min") (wt X.K ID):=by
 intro NA s σ H xs us Q I rs h;obtain⟨ds,S,k,i,hS,r,n⟩:=h;unfold ID at r
 split at r
 ·obtain⟨x,y,rfl,i1,i2⟩:=pb i;have e1:=isInt.mp i1;have e2:=isInt.mp i2;subst e1; subst e2
  exact zT hc NA s σ H _ us Q I rs ⟨_,_,rfl,po n hS r (isInt.mpr rfl)⟩
 ·exact r.elim
def IT:cr:=λds S k=>match ds with
 | [.int i]=>k (.int i) S
 | [.bl b]=>k (.int (if b then 1 else 0)) S
 | _=>False
theorem Ip:dZ X (.type "int") (wt X.K IT):=by
 intro NA s σ H xs us Q I rs h;obtain⟨ds,S,k,i,hS,r,n⟩:=h;unfold IT at r
 split at r
 ·obtain⟨x,rfl,i1⟩:=iH i;have e1:=isInt.mp i1;subst e1;exact u_ NA s σ H _ us Q I rs (.inl ⟨_,rfl,po n hS r (isInt.mpr rfl)⟩)
 ·obtain⟨x,rfl,i1⟩:=iH i;have e1:=ce.mp i1;subst e1;exact u_ NA s σ H _ us Q I rs (.inr ⟨_,rfl,po n hS r (isInt.mpr rfl)⟩)
 ·exact r.elim
def HY:Nm DO->Nm Ty
 | some (.lst _)=>some .lst
 | some .dic=>some .dic
 | _=>none
def Fc (S:DH):D->Nm Ty
 | .non=>some .non
 | .bl _=>some .bool
 | .int _=>some .int
 | .str _=>some .str
 | .tup _=>some .tup
 | .rl _=>none
 | .ref a=>HY (S a)
 | .ty _=>none
def xt:Ty->Ty->Nw
 | .non,.non=>true | .bool,.bool=>true | .bool,.int=>true | .int,.int=>true | .str,.str=>true | .tup,.tup=>true | .lst,.lst=>true | .dic,.dic=>true | .verr,.verr=>true
 | _,_=>false
theorem Cz {K:Fg} (t c:Ty):PySem.W.kitOne K (.type t.name) (.type c.name)=some (xt t c):=by
 cases t <;> cases c <;> rfl
def Js:D1:=λd S k=>match d with
 | .int i=>k (.int ((Builtin.Int.intBits i:Nat):Int)) S
 | _=>False
def iU (xs:List D) (lo hi:Nm Int):List D:=(xs.drop (HT.dX xs.length 0 lo)).take (HT.dX xs.length xs.length hi - HT.dX xs.length 0 lo)
abbrev Ds:=Lo->DH->(Nm Int->DH->Prop)->Prop
def LH (K:Fg) (g:Ds):TO:=fun σ H Q=>∃ L S k,Lc K H L σ/\Hs K H S/\g L S k/\∀ i S' H',k i S'->Kp H H'->Hs K H' S'->Q i H'
def Jt:Ds:=λ_ S k=>k none S
def Jl (g:DE):Ds:=λL S k=>g L S λd S1=>match d with
 | .int i=>k (some i) S1
 | _=>False
end
section
variable {X:Cx} {st:Nu} {eJ:List Nu} {g h:DS} {e:No} {ge:DE} {pos:Pos}
def B5:DS:=λM L S=>M.nx L S
def oQ (g h:DS):DS:=λM L S=>g {M with nx:=h M} L S
theorem D' {K:Fg}:∀ N σ H,Dq K (oQ g h) N σ H->JB (Dq K g) (Dq K h) N σ H:=λN σ H ⟨L,S,M,hL,hS,q,r⟩=>
 ⟨L,S,{M with nx:=h M},hL,hS,q,⟨λL' S' σ' H' q' k' hL' hS'=>⟨L',S',M,hL',hS',q',r.kp k'⟩,r.rt,r.bk,r.ct⟩⟩
def Ik (ge:DE):DS:=λM L S=>ge L S λ_ S1=>M.nx L S1
def HC (ge:DE):DS:=λM L S=>ge L S M.rt
def Gd (c:DT) (g h:DS):DS:=λM L S=>c L S λb S1=>if b=true then g M L S1 else h M L S1
def GI:DS:=λ_ _ _=>False
def Av (i:Nat) (ge:DE):DS:=λM L S=>ge L S λd S1=>M.nx (L.set i (some d)) S1
def KW (i j:Nat) (ta:DA):DS:=λM L S=>ta L S λds S1=>match ds with
 | [d,e]=>M.nx ((L.set i (some d)).set j (some e)) S1
 | _=>False
abbrev DG:=D->Lo->DH->(Lo->DH->Prop)->Prop
def H9 (K:Fg) (g:DG):TG:=λv σ H Q=>∃ d L S k,cK K H d v/\Lc K H L σ/\Hs K H S/\g d L S k/\∀ L' S' σ' H',k L' S'->Kp H H'->Lc K H' L' σ'->Hs K H' S'->Q σ' H'
theorem PG.imp {e:No} {t t':TG} (h:PG X e t) (i:∀ v σ H Q,t' v σ H Q->t v σ H Q):PG X e t':=λNA s σ H v u Q I rv q=>h NA s σ H v u Q I rv (i v σ H Q q)
def jn (i:Nat):DG:=λd L S k=>k (L.set i (some d)) S
abbrev Do:=List D->Lo->DH->(Lo->DH->Prop)->Prop
def Kr (K:Fg) (g:Do):AO:=λv σ H Q=>∃ d L S k,IsDs K H d v/\Lc K H L σ/\Hs K H S/\g d L S k/\∀ L' S' σ' H',k L' S'->Kp H H'->Lc K H' L' σ'->Hs K H' S'->Q σ' H'
theorem Bu.imp {e:List No} {t t':AO} (h:Bu X e t) (i:∀ v σ H Q,t' v σ H Q->t v σ H Q):Bu X e t':=λNA s σ H v u Q I rv q=>h NA s σ H v u Q I rv (i v σ H Q q)
def AL:Do:=λds L S k=>ds=[]/\k L S
def tj (t:DG) (u:Do):Do:=λds L S k=>match ds with
 | d::r=>t d L S λL1 S1=>u r L1 S1 k
 | []=>False
def Ic (ge:DE) (g:DG):DS:=λM L S=>ge L S λd S1=>g d L S1 M.nx
def GP (c:DT) (b:DS):DS:=λM L S=>∃ W:Nat->Lo->DH->Prop,(∃ m,W m L S)/\∀ m L S,W m L S->
 c L S λt S1=>if t=true then ∃ N:Lo->DH->Prop,(∀ L' S',N L' S'->∃ m',m' < m/\W m' L' S')/\b {M with nx:=N,ct:=N,bk:=M.nx} L S1 else M.nx L S1
def hV (ok:DH->Prop) (g:DG) (b:DS) (M:oY):List D->Lo->DH->Prop
 | [],L,S=>ok S/\M.nx L S
 | d::r,L,S=>ok S/\g d L S λL1 S1=>b {M with nx:=λL2 S2=>hV ok g b M r L2 S2,ct:=λL2 S2=>hV ok g b M r L2 S2,bk:=M.nx} L1 S1
theorem tx {K:Fg} {ok:DH->Prop} {gg:DG} {b:DS} {M:oY} {ds:List D} {L:Lo} {S:DH} {N:sT} {σ:L2.St} {H:Hp} {J:It} (hL:Lc K H L σ) (hS:Hs K H S) (h:hV ok gg b M ds L S) (r:wv K H M N)
  (hgo:∀ i d S1 H1,ds[i]?=some d->Kp H H1->Hs K H1 S1->ok S1->J.go i H1/\∀ x H',J.yld i H1 x H'->H'=H1/\cK K H1 d x)
  (hst:∀ S1 H1,Kp H H1->Hs K H1 S1->ok S1->J.stop ds.length H1):
  ∃ W:Nat->Nat->L2.St->Hp->Prop,(∃ m,W 0 m σ H)/\∀ i m σ H,W i m σ H->
   (J.stop i H/\N.nx σ H)\/(J.go i H/\∃ N':L2.St->Hp->Prop,(∀ σ' H',N' σ' H'->∃ m',m' < m/\W (i+1) m' σ' H')/\∀ x H',J.yld i H x H'->H9 K gg x σ H' fun σ2 H2=>Dq K b {N with nx:=N',ct:=N',bk:=N.nx} σ2 H2):=by
 refine⟨λi m σ1 H1=>m=ds.length - i/\i<=ds.length/\∃ L1 S1,Lc K H1 L1 σ1/\Hs K H1 S1/\Kp H H1/\hV ok gg b M (ds.drop i) L1 S1,⟨ds.length,by simp,M_ _,L,S,hL,hS,Kp.refl H,h⟩,?_⟩
 rintro i m σ1 H1 ⟨rfl,hi,L1,S1,hL1,hS1,k1,w1⟩
 by_cases hlt:i < ds.length
 ·have e:ds.drop i=ds[i]::ds.drop (i+1):=M8 hlt;rw [e] at w1;obtain⟨o1,w1⟩:=w1;obtain⟨g1,y1⟩:=hgo i ds[i] S1 H1 (by simp [hlt]) k1 hS1 o1
  refine .inr ⟨g1,fun σ' H'=>i+1<=ds.length/\∃ L' S',Lc K H' L' σ'/\Hs K H' S'/\Kp H H'/\hV ok gg b M (ds.drop (i+1)) L' S',fun σ' H' z9=>by obtain⟨q1,q2⟩:=z9; exact⟨ds.length - (i+1),by omega,rfl,q1,q2⟩,λx H' y=>?_⟩
  obtain⟨rfl,ix⟩:=y1 x H' y;refine⟨ds[i],L1,S1,_,ix,hL1,hS1,w1,λL2 S2 σ2 H2 q k2 hL2 hS2=>⟨L2,S2,_,hL2,hS2,q,?_⟩⟩
  have r2:=r.kp (k1.trans k2);exact⟨λL3 S3 σ3 H3 q3 k3 hL3 hS3=>⟨hlt,L3,S3,hL3,hS3,(k1.trans k2).trans k3,q3⟩,r2.rt,r2.nx,λL3 S3 σ3 H3 q3 k3 hL3 hS3=>⟨hlt,L3,S3,hL3,hS3,(k1.trans k2).trans k3,q3⟩⟩
 ·have e:i=ds.length:=by omega
  subst e;rw [List.drop_length] at w1;obtain⟨o1,w1⟩:=w1;exact .inl ⟨hst S1 H1 k1 hS1 o1,r.nx L1 S1 σ1 H1 w1 k1 hL1 hS1⟩
def aS (S:DH):D->Nm (List D×Nm Nl)
 | .tup ds=>some (ds,none)
 | .rl ds=>some (ds,none)
 | .ref a=>(match S a with
  | some (.lst ds)=>some (ds,some a)
  | _=>none)
 | _=>none
def dG:List D×Nm Nl->DH->Prop
 | (_,none)=>λ_=>True
 | (ds,some a)=>λS=>S a=some (.lst ds)
def Kz (K:Fg) (t:TE):TI:=fun σ H R=>t σ H λx H1=>∃ a,x=.ref a/\(((∃ xs,jW K H1 a xs)/\R (Im K a) H1)\/((∃ xs,mB K H1 a xs)/\R (IB K a) H1))
theorem xL {tg l:No} {tl:TE} (hl:PE X l tl):PI X tg l (Kz X.K tl):=by
 intro NA s σ H R I h;refine cu (hl NA s σ H _ I h) λv s1 z9=>?_
 obtain⟨x,H1,I1,r1,q1⟩:=z9;obtain⟨a,e,q1⟩:=q1;subst e;cases r1;rcases q1 with ⟨⟨xs,hq⟩,q⟩ | ⟨⟨xs,hq⟩,q⟩
 ·obtain⟨its,rv,p,hz⟩:=I1.list hq;refine wpAny_pyIter_list p.isList ?_;refine⟨s1.heap.objs.size,[s1.heap.objs.size],_,_,H1,rfl,I1.kept (t':=s1.toks) λb o e=>Mk _ e,zV a _,⟨_,Mm _ rfl,rfl,rfl⟩,λb hb=>?_,q⟩
  have e:b=s1.heap.objs.size:=by simpa using hb
  subst e;exact I1.fpOk (Mp _) (I1.hok.fresh (Mp _))
 ·obtain⟨its,rv,p,hz⟩:=I1.tuple hq;refine wpAny_pyIter_tuple (show s1.heap.IsTuple a its.toArray from p) ?_
  refine⟨s1.heap.objs.size,[s1.heap.objs.size],_,_,H1,rfl,I1.kept (t':=s1.toks) λb o e=>Mk _ e,yg a _,⟨_,Mm _ rfl,rfl,rfl⟩,λb hb=>?_,q⟩
  have e:b=s1.heap.objs.size:=by simpa using hb
  subst e;exact I1.fpOk (Mp _) (I1.hok.fresh (Mp _))
def JJ (ta:DA) (g:DG) (b:DS):DS:=λM L S=>ta L S λds S1=>match ds with
 | [.int n]=>(-(2 ^ 62)<=n/\n < 2 ^ 62)/\hV (λ_=>True) g b M ((List.range n.toNat).map λi=>D.int (i:Nat)) L S1
 | _=>False
end
section
variable {P:Np} {w:Nr} {K:Fg} {mg:Str->Nm Nk} {base:Nt}
theorem _root_.L2.rC.okD {x qual:Str} {st:Nu} {f:Nl} {fd:FuncData} {N ps:List Str} {k:Nat} {F:cr} (Fn:rC K x qual st f fd) (Sc:av N ps (am st)) (len:∀ ds S k,F ds S k->ds.length=ps.length)
  (hbody:∀ (cdv:Nk) (A:Nq) (outer:List Env) (s:Nj) (H:Hp) (E:XK),bE k (A.deeper (envOfC qual (am st) s.heap.objs.size f cdv))->
   ∃ g,tI (cQ cW P w K mg base N qual (am st) f cdv A outer s H E).nox (b_ st) (Dq K g)/\
    ∀ ds S k,F ds S k->g {nx:=λ_ S'=>k .non S',rt:=k} (ds.map some++List.replicate (N.length - ps.length) none) S):aU P w K mg base cW (k+1) f fd ps (cY K F):=by
 refine Fn.ok Sc (λvs H Q E h=>?_) (λcdv A outer s H vs Q E hr h=>?_)
 ·obtain⟨ds,S,k,i,_,q,_⟩:=h;rw [<- i.length];exact len ds S k q
 ·obtain⟨g,hg,q⟩:=hbody cdv A outer s H E hr;obtain⟨ds,S,k',i,hS,h,n⟩:=h;refine⟨_,hg,ds.map some++List.replicate (N.length - ps.length) none,S,_,?_,hS,q ds S k' h,?_⟩
  ·unfold L2.start;rw [<- i.length,len ds S k' h];exact Lc.start _ i
  ·exact⟨λL S' σ H' h1 k1 _ hS'=>n _ S' _ H' h1 k1 hS' (du.mpr rfl),λd S' v H' h1 k1 hS' i1=>n d S' v H' h1 k1 hS' i1,λ_ _ _ _ h1=>h1.elim,λ_ _ _ _ h1=>h1.elim⟩
theorem aZ.mk' {x qual:Str} {st:Nu} {f:Nl} {fd:FuncData} {ps:List Str} {n:Nat} {F:cr} (Fn:rC K x qual st f fd) (h:aU P w K mg base cW n f fd ps (cY K F)) (hm:mg x=some (.ref f)) (hb:gM K fd ps []):aZ P w K mg base x n F:=
 ⟨f,fd,ps,h,hm,Fn.kp,hb⟩
end
end DL
namespace DL
open PySem PySem.Spec PyProof.Rows L2 HM
theorem mQ {m n:Nat} {x y:Int} (hx:Bt m x) (hy:Bt n y) (h:m+n<=134217728:=by decide):IntMulOk x y:=IntMulOk.of_le (intBits_le_iff.mpr hx) (intBits_le_iff.mpr hy) h
theorem Mg {m:Nat} {y:Int} (h0:y≠0) (hy:Bt m y) (h:m<=9000:=by decide):BK x y:=⟨h0,(Nat.log2_lt (by omega)).mpr (hy.mono h)⟩
def pr (a b:Int):D:=.tup [.int a,.int b]
def fr (q:Rat):D:=pr q.num (q.den:Int)
end DL
namespace DL
theorem sf {x:D} {r:List D}:L2.atI (x::r) 0=some x:=L2.h_ (j:=0) rfl
theorem FR {x y:D} {r:List D}:L2.atI (x::y::r) 1=some y:=L2.h_ (j:=1) rfl
theorem J2 {n:Nat}:L2.AH (n+1) 0=some 0:=by
 unfold L2.AH;rw [if_pos (by decide),if_pos (by omega)]
 rfl
end DL
namespace DL
open PySem PySem.Spec PyProof.Rows L2
def ER:D->D->Nm Nw
 | .int i,.int j=>some (i == j)
 | .bl i,.bl j=>some (i == j)
 | .str i,.str j=>some (i == j)
 | .non,.non=>some true
 | .non,.int _=>some false
 | .int _,.non=>some false
 | .non,.bl _=>some false
 | .bl _,.non=>some false
 | .bl a,.int j=>some ((if a then 1 else 0) == j)
 | .int i,.bl b=>some (i == (if b then 1 else 0))
 | _,_=>none
def md (f:D->D->Nm Nw):List D->List D->Nm Nw
 | [],[]=>some true
 | [],_::_=>some false
 | _::_,[]=>some false
 | x::xs,y::ys=>match f x y,md f xs ys with
  | some a,some b=>some (a && b)
  | _,_=>none
def qD:Nat->D->D->Nm Nw
 | 0,d,e=>ER d e
 | n+1,.tup xs,.tup ys=>md (qD n) xs ys
 | _+1,d,e=>ER d e
theorem s_ (n:Nat) (d e:D):qD (n+1) d e=(match d,e with | .tup xs,.tup ys=>md (qD n) xs ys | d,e=>ER d e):=by
 cases d <;> cases e <;> rfl
def jF (f:D->D->Nm Nw):List D->List D->Nat->Nw
 | x::_,y::_,0=>(f x y).getD false
 | _::xs,_::ys,j+1=>jF f xs ys j
 | _,_,_=>false
theorem AX (e:Nat->Nw) (m:Nat):(List.range (m+1)).all e=(e 0 && (List.range m).all λj=>e (j+1)):=by
 rw [List.range_succ_eq_map,List.all_cons,List.all_map]
 rfl
theorem oF {f:D->D->Nm Nw}:∀ {xs ys:List D} {b:Nw},md f xs ys=some b->((List.range (min xs.length ys.length)).all (jF f xs ys) && xs.length == ys.length)=b
 | [],[],b,h=>by unfold md at h; cases h; rfl
 | [],_::_,b,h=>by unfold md at h; cases h; simp
 | _::_,[],b,h=>by unfold md at h; cases h; simp
 | x::xs,y::ys,b,h=>by
  unfold md at h
  split at h
  ·rename_i a c e1 e2
   cases h;have ih:=oF e2;rw [MB,MB,Nat.succ_min_succ,AX];have e3:jF f (x::xs) (y::ys) 0=a:=by unfold jF; rw [e1]; rfl
   rw [e3,Bool.and_assoc];have e4:(λj=>jF f (x::xs) (y::ys) (j+1))=jF f xs ys:=by funext j; rfl
   rw [e4];have e5:(xs.length+1 == ys.length+1)=(xs.length == ys.length):=by simp
   rw [e5,ih]
  ·cases h
theorem rA {f:D->D->Nm Nw}:∀ {xs ys:List D} {b:Nw} {j:Nat} {x y:D},md f xs ys=some b->xs[j]?=some x->ys[j]?=some y->f x y=some (jF f xs ys j)
 | [],_,_,_,_,_,_,e,_=>by simp at e
 | _::_,[],_,_,_,_,_,_,e=>by simp at e
 | x::xs,y::ys,b,0,x',y',h,e1,e2=>by
  simp at e1 e2
  subst e1; subst e2
  unfold md at h
  split at h
  ·rename_i a c q1 q2
   unfold jF;rw [q1]
   rfl
  ·cases h
 | x::xs,y::ys,b,j+1,x',y',h,e1,e2=>by
  unfold md at h
  split at h
  ·rename_i a c q1 q2
   unfold jF;exact rA q2 (by simpa using e1) (by simpa using e2)
  ·cases h
section
variable {X:Cx} {NA:List (Nl×Nz)} {σ:L2.St} {H:Hp} {s:Nj}
theorem vM {K:Fg} {ds es:List D} {xs ys:List V} {us ws:List Nk} {j:Nat} (i1:IsDs K H ds xs) (i2:IsDs K H es ys) (r1:bA xs us) (r2:bA ys ws) (h1:j < us.length) (h2:j < ws.length):
  ∃ d e x y,ds[j]?=some d/\es[j]?=some e/\cK K H d x/\cK K H e y/\bz x us[j]/\bz y ws[j]:=by
 have l1:=i1.length;have l2:=i2.length;have l3:=r1.length;have l4:=r2.length;have e1:ds[j]?=some ds[j]:=by simp [show j < ds.length by omega]
 have e2:es[j]?=some es[j]:=by simp [show j < es.length by omega]
 obtain⟨x,q1,d1⟩:=i1.get e1;obtain⟨y,q2,d2⟩:=i2.get e2;obtain⟨u,q3,rx⟩:=r1.get q1;obtain⟨w,q4,ry⟩:=r2.get q2;have f1:us[j]=u:=(MX.mp q3).2;have f2:ws[j]=w:=(MX.mp q4).2;exact⟨_,_,x,y,e1,e2,d1,d2,by rw [f1]; exact rx,by rw [f2]; exact ry⟩
theorem Bb {K:Fg} {A:Nq} {d e:D} {x y:V} {u w:Nk} {b:Nw} (h:ER d e=some b) (i1:cK K H d x) (i2:cK K H e y) (rx:bz x u) (ry:bz y w):SeqAt.EqAt A s u w b/\SeqAt.RcAt A s u w b:=by
 unfold ER at h
 split at h
 ·cases h; rw [isInt.mp i1] at rx; rw [isInt.mp i2] at ry; obtain⟨t,rfl⟩:=rx; obtain⟨t',rfl⟩:=ry; exact⟨(SeqAt.EqAt.int_int _ _ _ _),(SeqAt.RcAt.int_int _ _ _ _)⟩
 ·cases h; rw [ce.mp i1] at rx; rw [ce.mp i2] at ry; cases rx; cases ry; exact⟨(SeqAt.EqAt.bool_bool _ _),(SeqAt.RcAt.bool_bool _ _)⟩
 ·cases h; rw [i7.mp i1] at rx; rw [i7.mp i2] at ry; obtain⟨t,rfl⟩:=rx; obtain⟨t',rfl⟩:=ry; exact⟨(SeqAt.EqAt.str_str _ _ _ _),(SeqAt.RcAt.str_str _ _ _ _)⟩
 ·cases h; rw [du.mp i1] at rx; rw [du.mp i2] at ry; cases rx; cases ry; exact⟨SeqAt.EqAt.same _,SeqAt.RcAt.none_none⟩
 ·cases h; rw [du.mp i1] at rx; rw [isInt.mp i2] at ry; cases rx; obtain⟨t',rfl⟩:=ry; exact⟨(SeqAt.EqAt.none_int _ _),(SeqAt.RcAt.none_int _ _)⟩
 ·cases h; rw [isInt.mp i1] at rx; rw [du.mp i2] at ry; obtain⟨t,rfl⟩:=rx; cases ry; exact⟨(SeqAt.EqAt.int_none _ _),(SeqAt.RcAt.int_none _ _)⟩
 ·cases h; rw [du.mp i1] at rx; rw [ce.mp i2] at ry; cases rx; cases ry; exact⟨(SeqAt.EqAt.none_bool _),(SeqAt.RcAt.none_bool _)⟩
 ·cases h; rw [ce.mp i1] at rx; rw [du.mp i2] at ry; cases rx; cases ry; exact⟨(SeqAt.EqAt.bool_none _),(SeqAt.RcAt.bool_none _)⟩
 ·cases h; rw [ce.mp i1] at rx; rw [isInt.mp i2] at ry; cases rx; obtain⟨t',rfl⟩:=ry; exact⟨(SeqAt.EqAt.bool_int _ _ _),(SeqAt.RcAt.bool_int _ _ _)⟩
 ·cases h; rw [isInt.mp i1] at rx; rw [ce.mp i2] at ry; obtain⟨t,rfl⟩:=rx; cases ry; exact⟨(SeqAt.EqAt.int_bool _ _ _),(SeqAt.RcAt.int_bool _ _ _)⟩
 ·cases h
theorem xj {K:Fg} {d e:D} {x:V} {b:Nw} (h:ER d e=some b) (i1:cK K H d x) (i2:cK K H e x):b=true:=by
 unfold ER at h
 split at h
 ·cases h; have e1:=isInt.mp i1; have e2:=isInt.mp i2; rw [e1] at e2; cases e2; simp
 ·cases h; have e1:=ce.mp i1; have e2:=ce.mp i2; rw [e1] at e2; cases e2; simp
 ·cases h; have e1:=i7.mp i1; have e2:=i7.mp i2; rw [e1] at e2; cases e2; simp
 ·cases h; rfl
 ·have e1:=du.mp i1; have e2:=isInt.mp i2; rw [e1] at e2; cases e2
 ·have e1:=isInt.mp i1; have e2:=du.mp i2; rw [e1] at e2; cases e2
 ·have e1:=du.mp i1; have e2:=ce.mp i2; rw [e1] at e2; cases e2
 ·have e1:=ce.mp i1; have e2:=du.mp i2; rw [e1] at e2; cases e2
 ·have e1:=ce.mp i1; have e2:=isInt.mp i2; rw [e1] at e2; cases e2
 ·have e1:=isInt.mp i1; have e2:=ce.mp i2; rw [e1] at e2; cases e2
 ·cases h
theorem uS {K:Fg} {f:D->D->Nm Nw} (hf:∀ d e x b,f d e=some b->cK K H d x->cK K H e x->b=true):∀ {ds es:List D} {xs:List V} {b:Nw},md f ds es=some b->IsDs K H ds xs->IsDs K H es xs->b=true
 | [],[],_,_,h,_,_=>by unfold md at h; cases h; rfl
 | [],_::_,_,_,_,i1,i2=>by
  have e1:=jS.mp i1;obtain⟨v,r,e2,_⟩:=dI.mp i2;rw [e1] at e2; cases e2
 | _::_,[],_,_,_,i1,i2=>by
  have e1:=jS.mp i2;obtain⟨v,r,e2,_⟩:=dI.mp i1;rw [e1] at e2; cases e2
 | d::ds,e::es,xs,b,h,i1,i2=>by
  obtain⟨v,r,e1,h1,h2⟩:=dI.mp i1;obtain⟨v',r',e2,h3,h4⟩:=dI.mp i2;rw [e1] at e2;cases e2;unfold md at h
  split at h
  ·rename_i a c q1 q2
   cases h;rw [hf _ _ _ _ q1 h1 h3,uS hf q2 h2 h4]
   rfl
  ·cases h
theorem xk (I:aI X NA σ H s):∀ (n:Nat) (d e:D) (x:V) (b:Nw),qD n d e=some b->cK X.K H d x->cK X.K H e x->b=true
 | 0,d,e,x,b,h,i1,i2=>xj (by unfold qD at h; exact h) i1 i2
 | n+1,d,e,x,b,h,i1,i2=>by
  rw [s_] at h
  split at h
  ·rename_i xs ys
   obtain⟨a,vs,e1,t1,j1⟩:=cF.mp i1;obtain⟨a',vs',e2,t2,j2⟩:=cF.mp i2;rw [e1] at e2;cases e2;have q:=I.tuple_inj t1 t2;subst q;exact uS (λd e x b=>xk I n d e x b) h j1 j2
  ·exact xj h i1 i2
theorem tF (I:aI X NA σ H s):∀ (n:Nat) (A:Nq) (d e:D) (x y:V) (u w:Nk) (b:Nw),A.units+n < cLine->qD n d e=some b->cK X.K H d x->cK X.K H e y->bz x u->bz y w->SeqAt.EqAt A s u w b/\SeqAt.RcAt A s u w b
 | 0,A,d,e,x,y,u,w,b,hu,h,i1,i2,rx,ry=>Bb (by unfold qD at h; exact h) i1 i2 rx ry
 | n+1,A,d,e,x,y,u,w,b,hu,h,i1,i2,rx,ry=>by
  have h0:=h;rw [s_] at h
  split at h
  ·rename_i xs ys
   obtain⟨p,vs,rfl,t1,j1⟩:=cF.mp i1;obtain⟨q,vs',rfl,t2,j2⟩:=cF.mp i2;cases rx;cases ry;obtain⟨us,r1,p1,_⟩:=I.tuple t1;obtain⟨ws,r2,p2,_⟩:=I.tuple t2;have l1:=j1.length;have l2:=j2.length;have l3:=r1.length;have l4:=r2.length;have rc:SeqAt.RcAt A s (.ref p) (.ref q) b:=by
    have e:=oF h;have z:=SeqAt.RcAt.tuples (A:=A) (s:=s) (items:=us.toArray) (items2:=ws.toArray) (e:=jF (qD n) xs ys) (show s.heap.IsTuple p us.toArray from p1) (show s.heap.IsTuple q ws.toArray from p2) (by omega) (λj h1 h2=>by
     simp only [Ms] at h1 h2
     obtain⟨d,e,x,y,q1,q2,d1,d2,rx,ry⟩:=vM j1 j2 r1 r2 h1 h2;have:=(tF I n A.in1 d e x y us[j] ws[j] _ (by show A.units+1+n < cLine; omega) (rA h q1 q2) d1 d2 rx ry).1
     simpa using this)
    simp only [Ms] at z;rw [<- l3,<- l4,<- l1,<- l2,e] at z;exact z
   refine⟨?_,rc⟩
   by_cases hpq:p=q
   ·subst hpq;have:=xk I (n+1) _ _ _ _ h0 i1 i2;subst this;exact SeqAt.EqAt.same _
   ·exact SeqAt.EqAt.of_refs hpq rc
  ·exact Bb h i1 i2 rx ry
theorem BX {K:Fg} {A:Nq} {d e:D} {x y:V} {u w:Nk} {b:Nw} (h:ER d e=some b) (i1:cK K H d x) (i2:cK K H e y) (rx:bz x u) (ry:bz y w):SeqAt.RcNeAt A s u w (!b):=by
 unfold ER at h
 split at h
 ·cases h; rw [isInt.mp i1] at rx; rw [isInt.mp i2] at ry; obtain⟨t,rfl⟩:=rx; obtain⟨t',rfl⟩:=ry; exact(SeqAt.RcNeAt.int_int _ _ _ _)
 ·cases h; rw [ce.mp i1] at rx; rw [ce.mp i2] at ry; cases rx; cases ry; exact(SeqAt.RcNeAt.bool_bool _ _)
 ·cases h; rw [i7.mp i1] at rx; rw [i7.mp i2] at ry; obtain⟨t,rfl⟩:=rx; obtain⟨t',rfl⟩:=ry; exact(SeqAt.RcNeAt.str_str _ _ _ _)
 ·cases h; rw [du.mp i1] at rx; rw [du.mp i2] at ry; cases rx; cases ry; exact SeqAt.RcNeAt.none_none
 ·cases h; rw [du.mp i1] at rx; rw [isInt.mp i2] at ry; cases rx; obtain⟨t',rfl⟩:=ry; exact(SeqAt.RcNeAt.none_int _ _)
 ·cases h; rw [isInt.mp i1] at rx; rw [du.mp i2] at ry; obtain⟨t,rfl⟩:=rx; cases ry; exact(SeqAt.RcNeAt.int_none _ _)
 ·cases h; rw [du.mp i1] at rx; rw [ce.mp i2] at ry; cases rx; cases ry; exact(SeqAt.RcNeAt.none_bool _)
 ·cases h; rw [ce.mp i1] at rx; rw [du.mp i2] at ry; cases rx; cases ry; exact(SeqAt.RcNeAt.bool_none _)
 ·cases h; rw [ce.mp i1] at rx; rw [isInt.mp i2] at ry; cases rx; obtain⟨t',rfl⟩:=ry; exact(SeqAt.RcNeAt.bool_int _ _ _)
 ·cases h; rw [isInt.mp i1] at rx; rw [ce.mp i2] at ry; obtain⟨t,rfl⟩:=rx; cases ry; exact(SeqAt.RcNeAt.int_bool _ _ _)
 ·cases h
theorem Bz (I:aI X NA σ H s) (n:Nat) (A:Nq) (d e:D) (x y:V) (u w:Nk) (b:Nw) (hu:A.units+n < cLine) (h:qD n d e=some b) (i1:cK X.K H d x) (i2:cK X.K H e y) (rx:bz x u) (ry:bz y w):SeqAt.RcNeAt A s u w (!b):=by
 cases n with
 | zero=>exact BX (by unfold qD at h; exact h) i1 i2 rx ry
 | succ n=>
  rw [s_] at h
  split at h
  ·rename_i xs ys
   obtain⟨p,vs,rfl,t1,j1⟩:=cF.mp i1;obtain⟨q,vs',rfl,t2,j2⟩:=cF.mp i2;cases rx;cases ry;obtain⟨us,r1,p1,_⟩:=I.tuple t1;obtain⟨ws,r2,p2,_⟩:=I.tuple t2;have l1:=j1.length;have l2:=j2.length;have l3:=r1.length;have l4:=r2.length;have e:=oF h;have z:=SeqAt.RcNeAt.tuples (A:=A) (s:=s) (items:=us.toArray) (items2:=ws.toArray) (e:=jF (qD n) xs ys) (show s.heap.IsTuple p us.toArray from p1) (show s.heap.IsTuple q ws.toArray from p2) (by omega) (λj h1 h2=>by
    simp only [Ms] at h1 h2
    obtain⟨d,e,x,y,q1,q2,d1,d2,rx,ry⟩:=vM j1 j2 r1 r2 h1 h2;have:=(tF I n A.in1 d e x y us[j] ws[j] _ (by show A.units+1+n < cLine; omega) (rA h q1 q2) d1 d2 rx ry).1
    simpa using this)
   simp only [Ms] at z;rw [<- l3,<- l4,<- l1,<- l2,e] at z;exact z
  ·exact BX h i1 i2 rx ry
def F_:D2:=λd e S k=>match qD 8 d e with
 | some b=>k (.bl b) S
 | none=>False
def FW:D2:=λd e S k=>match qD 8 d e with
 | some b=>k (.bl (!b)) S
 | none=>False
theorem Jh {n:Nat} (hr:bE n X.A):gp X (compareOp .Eq) (jX X.K F_):=by
 intro NA s σ H x y v u Q I rx ry h;obtain⟨d,e,S,k,i1,i2,hS,r,m⟩:=h;unfold F_ at r;cases q:qD 8 d e with
 | none=>rw [q] at r; exact r.elim
 | some b=>
  rw [q] at r;have hu:=hr.units;exact(tF I 8 X.A d e x y v u b (by omega) q i1 i2 rx ry).2 X.prog X.w X.xe _ ⟨.bl b,H,I,rfl,po m hS r (ce.mpr rfl)⟩
theorem IR {n:Nat} (hr:bE n X.A):gp X (compareOp .NotEq) (jX X.K FW):=by
 intro NA s σ H x y v u Q I rx ry h;obtain⟨d,e,S,k,i1,i2,hS,r,m⟩:=h;unfold FW at r;cases q:qD 8 d e with
 | none=>rw [q] at r; exact r.elim
 | some b=>
  rw [q] at r;have hu:=hr.units;exact Bz I 8 X.A d e x y v u b (by omega) q i1 i2 rx ry X.prog X.w X.xe _ ⟨.bl (!b),H,I,rfl,po m hS r (ce.mpr rfl)⟩
end
structure EJ (X:Cx) (e:No) (g:DE):Prop where
 h:PE X e (up X.K g)
structure TJ (X:Cx) (e:No) (g:DT):Prop where
 h:PT X e (xY X.K g)
structure WJ (X:Cx) (e:No) (g:DT):Prop where
 h:PW X e (xY X.K g)
structure AJ (X:Cx) (e:List No) (g:DA):Prop where
 h:PA X e (qR X.K g)
structure SJ (X:Cx) (e:Nu) (g:DS):Prop where
 h:PS X e (Dq X.K g)
structure xz (X:Cx) (e:List Nu) (g:DS):Prop where
 h:tI X e (Dq X.K g)
structure GJ (X:Cx) (e:No) (g:DG):Prop where
 h:PG X e (H9 X.K g)
structure Il (X:Cx) (e:List No) (g:Do):Prop where
 h:Bu X e (Kr X.K g)
structure OJ (X:Cx) (e:Nm No) (g:Ds):Prop where
 h:PO X e (LH X.K g)
theorem WJ.pt {X:Cx} {e:No} {g:DT} (h:WJ X e g):TJ X e g:=⟨PW.pt h.h⟩
section
variable {X:Cx} {a b c:No} {ga gb gc:DE} {pos:Pos}
theorem aj (i:Nat) {x:Str} (hN:X.N[i]?=some x:=by rfl) (hv:tU X.env.scope x:=by first | exact Or.inl rfl | exact Or.inr (Or.inl rfl) | exact Or.inr (Or.inr rfl)) (hd:(x == ("__debug__":Str))=false:=by decide) (hcd:(x == ("__classdict__":Str))=false:=by decide):EJ X (.Name x pos) (fG i):=⟨PE.imp (Gm hN hv hd hcd) fun σ H Q ⟨L,S,k,hL,hS,h,n⟩=>by
  unfold fG at h
  split at h
  ·rename_i d e
   obtain⟨v,e1,e2⟩:=hL.get e;exact⟨v,e1,n d S v H h (Kp.refl H) hS e2⟩
  ·exact h.elim⟩
theorem ah {i j pos}:EJ X (.Constant (.int i) j pos) (dC (.int i)):=⟨HV Gj λ_=>isInt.mpr rfl⟩
theorem oy {i j pos}:EJ X (.Constant (.bool i) j pos) (dC (.bl i)):=⟨HV JE λ_=>ce.mpr rfl⟩
theorem cO {j pos}:EJ X (.Constant .none j pos) (dC .non):=⟨HV Hc λ_=>du.mpr rfl⟩
theorem bZ {i j pos}:EJ X (.Constant (.str i) j pos) (dC (.str i)):=⟨HV Gs λ_=>i7.mpr rfl⟩
theorem n_ {x:Str} {n:Ty} (hg:Gl X x) (hm:X.mg x=none) (hv:bootBuiltins x=some (.type n.name)) (hn:x≠"__name__":=by decide) (hd:(x == ("__debug__":Str))=false:=by decide):EJ X (.Name x pos) (dC (.ty n)):=⟨HV (Es (v:=.ty n.name) hg hm hv rfl hn hd) λ_=>C8.mpr rfl⟩
theorem ac:AJ X [] ku:=⟨PA.imp xO fun σ H Q z9=>by obtain⟨L,S,k,hL,hS,h,n⟩:=z9; exact n [] S [] H h (Kp.refl H) hS IsDs.nil⟩
theorem aa {es:List No} {t:DA} (ha:EJ X a ga) (hr:AJ X es t) (hs:starEach (a::es) X.env=(false,eval a X.env)::starEach es X.env:=by exact cq rfl):AJ X (a::es) (cH ga t):=⟨have ha:=ha.h; have hr:=hr.h; PA.imp (vh ha hr hs) fun σ H Q ⟨L,S,k,hL,hS,h,n⟩=>up.go hL hS h λd S1 v H1 h1 k1 hL1 hS1 i1=>qR.go hL1 hS1 h1 λds S2 vs H2 h2 k2 hL2 hS2 i2=>
  n (d::ds) S2 (v::vs) H2 h2 (k1.trans k2) hS2 (IsDs.cons (i1.kp k2) i2)⟩
theorem aB {X:Cx} {x:Str} {pos:Pos} {es:List No} {t:DA} (n:Nat) (hr:AJ X es t) (hN:X.N[n]?=some x:=by rfl) (hv:tU X.env.scope x:=by first | exact Or.inl rfl | exact Or.inr (Or.inl rfl) | exact Or.inr (Or.inr rfl)) (hd:(x == ("__debug__":Str))=false:=by decide) (hcd:(x == ("__classdict__":Str))=false:=by decide) (hs:starEach (.Name x pos::es) X.env=(false,eval (.Name x pos) X.env)::starEach es X.env:=by exact cq rfl):AJ X (.Name x pos::es) (cH (fG n) t):=aa (aj n hN hv hd hcd) hr hs
theorem au {es:List No} {x1} {t:DA} (h:AJ X es t):EJ X (.Tuple es x1 pos) (wn t):=⟨have h:=h.h; PE.imp (F0 h) fun σ H Q ⟨L,S,k,hL,hS,h,n⟩=>qR.go hL hS h λds S1 vs H1 h1 k1 hL1 hS1 i1=>by
  refine⟨by rw [<- i1.length]; exact h1.1,λp hp=>?_⟩
  have k2:Kp H1 (bL H1 p (.tup vs)):=Kp.new hp;exact n (.tup ds) S1 _ _ h1.2 (k1.trans k2) (hS1.new hp) (cF.mpr ⟨p,vs,rfl,mB.of bp,i1.kp k2⟩)⟩
theorem cb {es:List No} {t:DA} (h:AJ X es t):EJ X (.List es pos) (Lg t):=⟨have h:=h.h; PE.imp (HA h) fun σ H Q ⟨L,S,k,hL,hS,h,n⟩=>qR.go hL hS h λds S1 vs H1 h1 k1 hL1 hS1 i1=>by
  refine⟨by rw [<- i1.length]; exact h1.1,λp hp=>?_⟩
  exact n (.ref p) _ _ _ (h1.2 p (hS1.free hp)) (k1.trans (Kp.new hp)) (hS1.newL hp i1) (cf.mpr rfl)⟩
theorem aH {op:Operator} {r:D2} (ho:gp X (binaryOp op) (jX X.K r)) (ha:EJ X a ga) (hb:EJ X b gb):EJ X (.BinOp a op b pos) (t4 r ga gb):=⟨have ha:=ha.h; have hb:=hb.h; PE.imp (JQ ho ha hb) vv⟩
theorem qA {op:CmpOp} {r:D2} (ho:gp X (compareOp op) (jX X.K r)) (ha:EJ X a ga) (hb:EJ X b gb) (hm:behindInMarks op b=false):EJ X (.Compare a [op] [b] pos) (t4 r ga gb):=⟨have ha:=ha.h; have hb:=hb.h; PE.imp (DU ho ha hb hm) vv⟩
theorem bh {r:D2} (hr:AB X (jX X.K r)) (ha:EJ X a ga) (hb:EJ X b gb) (hs:zc b):EJ X (.Subscript a b pos) (t4 r ga gb):=⟨have ha:=ha.h; have hb:=hb.h; PE.imp (Ii hr ha hb hs) vv⟩
theorem Ch {op:UnaryOp} {r:D1} (ho:Jf X (unaryOp op) (Lr X.K r)) (ha:EJ X a ga):EJ X (.UnaryOp op a pos) (LC r ga):=⟨have ha:=ha.h; PE.imp (JG ho ha) fun σ H Q z9=>by obtain⟨L,S,k,hL,hS,h,n⟩:=z9; exact up.go hL hS h λd S1 v H1 h1 k1 hL1 hS1 i1=>⟨d,S1,k,i1,hS1,h1,λd' S' v H' q k3 z1 z2=>n d' S' v H' q (k1.trans k3) z1 z2⟩⟩
theorem aA {op:CmpOp} {r:D2} (ho:gp X (compareOp op) (jX X.K r)) (ha:EJ X a ga) (hb:EJ X b gb) (hm:behindInMarks op b=false):TJ X (.Compare a [op] [b] pos) (tS (t4 r ga gb)):=⟨have ha:=ha.h; have hb:=hb.h; PT.imp (PT.imp (DF ho ha hb hm) fun σ H Q h=>vv σ H _ h) wS⟩
theorem cV {e:No} {g:DE} (h:EJ X e g) (he:∀ whole,isTrue e X.env whole=(do let v <- whole; standAt e.pos; holding [v] (truthy v)):=by intro _; rfl):TJ X e (tS g):=⟨have h:=h.h; PT.imp (Ga h he) wS⟩
end
section
variable {X:Cx} {a b c:No} {ga gb gc:DE} {pos:Pos}
variable {tA tB':DT} {eJ:List No}
theorem xc (ha:TJ X a tA):WJ X (.BoolOp .And [a] pos) tA:=⟨have ha:=ha.h; Ei ha⟩
theorem gI (ha:TJ X a tA):WJ X (.BoolOp .Or [a] pos) tA:=⟨have ha:=ha.h; GB ha⟩
theorem yG (ha:TJ X a tA) (hb:WJ X (.BoolOp .And (b::eJ) pos) tB'):WJ X (.BoolOp .And (a::b::eJ) pos) (JX tA tB'):=⟨have ha:=ha.h; have hb:=hb.h; PW.imp (F3 ha hb) fun σ H Q ⟨L,S,k,hL,hS,h,n⟩=>xY.go hL hS h λc S1 H1 h1 k1 hL1 hS1=>by
  cases c with
  | true=>
   rw [if_pos rfl] at h1 ⊢;exact xY.go hL1 hS1 h1 λc2 S2 H2 h2 k2 _ hS2=>n c2 S2 H2 h2 (k1.trans k2) hS2
  | false=>
   rw [if_neg Mr] at h1 ⊢;exact n false S1 H1 h1 k1 hS1⟩
theorem iC (ha:TJ X a tA) (hb:WJ X (.BoolOp .Or (b::eJ) pos) tB'):WJ X (.BoolOp .Or (a::b::eJ) pos) (IG tA tB'):=⟨have ha:=ha.h; have hb:=hb.h; PW.imp (JT ha hb) fun σ H Q ⟨L,S,k,hL,hS,h,n⟩=>xY.go hL hS h λc S1 H1 h1 k1 hL1 hS1=>by
  cases c with
  | true=>
   rw [if_pos rfl] at h1 ⊢;exact n true S1 H1 h1 k1 hS1
  | false=>
   rw [if_neg Mr] at h1 ⊢;exact xY.go hL1 hS1 h1 λc2 S2 H2 h2 k2 _ hS2=>n c2 S2 H2 h2 (k1.trans k2) hS2⟩
theorem f_ (ha:TJ X a tA):TJ X (.UnaryOp .Not a pos) (IA tA):=⟨have ha:=ha.h; PT.imp (FZ ha) fun σ H Q z9=>by obtain⟨L,S,k,hL,hS,h,n⟩:=z9; exact xY.go hL hS h λc S1 H1 h1 k1 hL1 hS1=>n _ S1 H1 h1 k1 hS1⟩
theorem yy {op} (h:EJ X a ga):EJ X (.BoolOp op [a] pos) ga:=⟨have h:=h.h; Hw h⟩
theorem BV (ha:EJ X a ga) (hb:EJ X (.BoolOp .And (b::eJ) pos) gb):EJ X (.BoolOp .And (a::b::eJ) pos) (Ia ga gb):=⟨have ha:=ha.h; have hb:=hb.h; PE.imp (Gx ha hb) fun σ H Q ⟨L,S,k,hL,hS,h,n⟩=>up.go hL hS h λd S1 v H1 h1 k1 hL1 hS1 i1=>by
  cases d with
  | bl c=>
   have e:=ce.mp i1;subst e;refine⟨c,rfl,?_⟩;have h1:if c=true then _ else _:=h1
   cases c with
   | true=>
    rw [if_pos rfl] at h1 ⊢;exact up.go hL1 hS1 h1 λd2 S2 v2 H2 h2 k2 _ hS2 i2=>n d2 S2 v2 H2 h2 (k1.trans k2) hS2 i2
   | false=>
    rw [if_neg Mr] at h1 ⊢;exact n _ S1 _ H1 h1 k1 hS1 (ce.mpr rfl)
  | _=>exact(show False from h1).elim⟩
theorem JO (ha:EJ X a ga) (hb:EJ X (.BoolOp .Or (b::eJ) pos) gb):EJ X (.BoolOp .Or (a::b::eJ) pos) (Lb ga gb):=⟨have ha:=ha.h; have hb:=hb.h; PE.imp (IY ha hb) fun σ H Q ⟨L,S,k,hL,hS,h,n⟩=>up.go hL hS h λd S1 v H1 h1 k1 hL1 hS1 i1=>by
  cases d with
  | bl c=>
   have e:=ce.mp i1;subst e;refine⟨c,rfl,?_⟩;have h1:if c=true then _ else _:=h1
   cases c with
   | true=>
    rw [if_pos rfl] at h1 ⊢;exact n _ S1 _ H1 h1 k1 hS1 (ce.mpr rfl)
   | false=>
    rw [if_neg Mr] at h1 ⊢;exact up.go hL1 hS1 h1 λd2 S2 v2 H2 h2 k2 _ hS2 i2=>n d2 S2 v2 H2 h2 (k1.trans k2) hS2 i2
  | _=>exact(show False from h1).elim⟩
theorem uA {c:No} (hc:TJ X c tA) (ha:EJ X a ga) (hb:EJ X b gb):EJ X (.IfExp c a b pos) (LM tA ga gb):=⟨have hc:=hc.h; have ha:=ha.h; have hb:=hb.h; PE.imp (AG hc ha hb) fun σ H Q ⟨L,S,k,hL,hS,h,n⟩=>xY.go hL hS h λd S1 H1 h1 k1 hL1 hS1=>by
  cases d with
  | true=>
   rw [if_pos rfl] at h1 ⊢;exact up.go hL1 hS1 h1 λd2 S2 v2 H2 h2 k2 _ hS2 i2=>n d2 S2 v2 H2 h2 (k1.trans k2) hS2 i2
  | false=>
   rw [if_neg Mr] at h1 ⊢;exact up.go hL1 hS1 h1 λd2 S2 v2 H2 h2 k2 _ hS2 i2=>n d2 S2 v2 H2 h2 (k1.trans k2) hS2 i2⟩
end
section
variable {X:Cx} {x:Str} {p pos:Pos} {e:No} {es:List No} {t:DA} {id T:Ny} {r:cr}
theorem aQ (hc:dZ X (.builtin id) (wt X.K r)) (hg:Gl X x) (hm:X.mg x=none) (hv:bootBuiltins x=some (.builtin id)) (ha:AJ X (e::es) t) (hn:x≠"__name__":=by decide) (hdb:(x == ("__debug__":Str))=false:=by decide) (he:starEach (e::es) X.env=(false,eval e X.env)::starEach es X.env:=by exact cq rfl) (hpl:(backTo pos (starEach es X.env)).any (·.1)=false:=by exact fQ rfl):EJ X (.Call (.Name x p) (e::es) [] pos) (ls r t):=⟨have ha:=ha.h; PE.imp (Cu hc hg hm hv ha hn hdb he hpl) wX⟩
theorem oS (hc:dZ X (.type T) (wt X.K r)) (hg:Gl X x) (hm:X.mg x=none) (hv:bootBuiltins x=some (.type T)) (ha:AJ X (e::es) t) (hn:x≠"__name__":=by decide) (hdb:(x == ("__debug__":Str))=false:=by decide) (he:starEach (e::es) X.env=(false,eval e X.env)::starEach es X.env:=by exact cq rfl) (hpl:(backTo pos (starEach es X.env)).any (·.1)=false:=by exact fQ rfl):EJ X (.Call (.Name x p) (e::es) [] pos) (ls r t):=⟨have ha:=ha.h; PE.imp (zL hc hg hm hv ha hn hdb he hpl) wX⟩
theorem y9 {n:Nat} {F:cr} (c:aZ X.prog X.w X.K X.mg X.base x n F) (hr:bE n X.A) (hg:Gl X x) (ha:AJ X (e::es) t) (hdb:(x == ("__debug__":Str))=false:=by decide) (he:starEach (e::es) X.env=(false,eval e X.env)::starEach es X.env:=by exact cq rfl) (hpl:(backTo pos (starEach es X.env)).any (·.1)=false:=by exact fQ rfl):EJ X (.Call (.Name x p) (e::es) [] pos) (ls F t):=⟨Go (c:=c) (hr:=hr) (hg:=hg) (ha:=ha.h) (hdb:=hdb) (he:=he) (hpl:=hpl)⟩
theorem dq {n m:Nat} {F:cr} (c:aZ X.prog X.w X.K X.mg X.base x n F) (hr:bE m X.A) (ha:AJ X (e::es) t) (hg:Gl X x:=by exact rfl) (le:n<=m:=by decide) (hdb:(x == ("__debug__":Str))=false:=by decide) (he:starEach (e::es) X.env=(false,eval e X.env)::starEach es X.env:=by exact cq rfl) (hpl:(backTo pos (starEach es X.env)).any (·.1)=false:=by exact fQ rfl):EJ X (.Call (.Name x p) (e::es) [] pos) (ls F t):=y9 c (hr.mono le) hg ha hdb he hpl
theorem Et {o:No} {g:DE} {apos cpos:Pos} (ho:EJ X o g) (hbase:attributeBase o "bit_length" X.env (eval o X.env)=eval o X.env:=by rfl) (hline:(apos.endLine == cpos.line)=true:=by rfl):EJ X (.Call (.Attribute o "bit_length" apos) [] [] cpos) (LC Js g):=⟨by
 have ho:=ho.h;refine PE.imp (Bv PySem.F.plainAttrs_int PySem.F.slot_int_bit_length PySem.F.type_int_bit_length (r:=λx xs H Q=>∃ i,x=.int i/\xs=[]/\Q (.int ((Builtin.Int.intBits i:Nat):Int)) H) ?_ ho hbase hline) fun σ H Q ⟨L,S,k,hL,hS,h,n⟩=>?_
 ·intro NA s σ H x xs v us Q I rx rs h;obtain⟨i,rfl,rfl,q⟩:=h;obtain⟨t,rfl⟩:=rx;cases rs;exact call_int_bit_length ⟨.int _,H,I.tok _,⟨_,rfl⟩,q⟩
 ·refine up.go hL hS h λd S1 v H1 h1 k1 hL1 hS1 i1=>?_
  cases d with
  | int i=>
   have e1:=isInt.mp i1;subst e1;exact⟨rfl,i,rfl,rfl,n _ S1 _ H1 h1 k1 hS1 (isInt.mpr rfl)⟩
  | _=>exact(show False from h1).elim⟩
theorem jQ:OJ X none Jt:=⟨by
 intro NA s σ H Q I h;obtain⟨L,S,k,hL,hS,h,n⟩:=h;exact D3 NA s σ H Q I (n none S H h (Kp.refl H) hS)⟩
theorem jM {e:No} {g:DE} (he:EJ X e g):OJ X (some e) (Jl g):=⟨by
 have he:=he.h;intro NA s σ H Q I h;obtain⟨L,S,k,hL,hS,h,n⟩:=h;refine EW he NA s σ H Q I (up.go hL hS h λd S1 v H1 h1 k1 hL1 hS1 i1=>?_)
 cases d with
 | int i=>
  have e1:=isInt.mp i1;subst e1;exact⟨i,rfl,n (some i) S1 H1 h1 k1 hS1⟩
 | _=>exact(show False from h1).elim⟩
end
section
variable {X:Cx} {st:Nu} {eJ:List Nu} {g h:DS} {e:No} {ge:DE} {pos:Pos}
theorem aL:xz X [] B5:=⟨tI.imp EF λN σ H z9=>by obtain⟨L,S,M,hL,hS,h,r⟩:=z9; exact r.nx L S σ H h (Kp.refl H) hL hS⟩
theorem ag (h1:SJ X st g) (h2:xz X eJ h):xz X (st::eJ) (oQ g h):=⟨have h1:=h1.h; have h2:=h2.h; tI.imp (Ci h1 h2) D'⟩
theorem ai (h1:SJ X st g):xz X [st] g:=⟨have h1:=h1.h; E7 h1⟩
theorem bf (he:EJ X e ge) (hs:swapsWith e none pos.line X.env=pure false:=by rfl):SJ X (.Expr e pos) (Ik ge):=⟨have he:=he.h; PS.imp (DM he hs) λN σ H z9=>by obtain⟨L,S,M,hL,hS,h,r⟩:=z9; exact up.go hL hS h λd S1 v H1 h1 k1 hL1 hS1 _=>r.nx L S1 σ H1 h1 k1 hL1 hS1⟩
theorem ar (he:EJ X e ge):SJ X (.Return (some e) pos) (HC ge):=⟨have he:=he.h; PS.imp (FS he) λN σ H z9=>by obtain⟨L,S,M,hL,hS,h,r⟩:=z9; exact up.go hL hS h λd S1 v H1 h1 k1 _ hS1 i1=>r.rt d S1 v H1 h1 k1 hS1 i1⟩
theorem aE {c:No} {a b:List Nu} {gc:DT} (hc:TJ X c gc) (ha:xz X a g) (hb:xz X b h):SJ X (.If c a b pos) (Gd gc g h):=⟨have hc:=hc.h; have ha:=ha.h; have hb:=hb.h; PS.imp (II hc ha hb) λN σ H ⟨L,S,M,hL,hS,q,r⟩=>xY.go hL hS q λt S1 H1 h1 k1 hL1 hS1=>by
  cases t with
  | true=>
   rw [if_pos rfl] at h1 ⊢;exact⟨L,S1,M,hL1,hS1,h1,r.kp k1⟩
  | false=>
   rw [if_neg Mr] at h1 ⊢;exact⟨L,S1,M,hL1,hS1,h1,r.kp k1⟩⟩
theorem fB:SJ X st GI:=⟨PS.imp Bc λN σ H z9=>by obtain⟨L,S,M,hL,hS,h,r⟩:=z9; exact h.elim⟩
theorem aq {i:Nat} {x:Str} {pos':Pos} (hN:X.N.Nodup) (he:EJ X e ge) (hi:X.N[i]?=some x:=by rfl) (hx:AI X.env.scope x:=by first | exact Or.inl rfl | exact Or.inr rfl) (hs:swapsWith e (some (.Name x pos')) pos.line X.env=pure false:=by rfl) (hf:X.fn x=true\/X.env.scope.names.lookup x=some .local:=by first | exact .inl rfl | exact .inr rfl | assumption):SJ X (.Assign [.Name x pos'] e pos) (Av i ge):=⟨have he:=he.h; PS.imp (G' hN hi hx he hs hf) λN σ H z9=>by obtain⟨L,S,M,hL,hS,h,r⟩:=z9; exact up.go hL hS h λd S1 v H1 h1 k1 hL1 hS1 i1=>r.nx _ S1 _ H1 h1 k1 (hL1.set i1 i) hS1⟩
theorem oK {i j:Nat} {x y:Str} {a b:No} {ta:DA} {px py pt:Pos} {kt k2 pt2} (hc:X.calm=true) (hN:X.N.Nodup) (hij:i≠j) (ha:AJ X [a,b] ta) (hi:X.N[i]?=some x:=by rfl) (hj:X.N[j]?=some y:=by rfl) (hx:X.env.scope.names.lookup x=some .local:=by rfl) (hy:X.env.scope.names.lookup y=some .local:=by rfl) (hw:swappedStores [.Tuple [.Name x px,.Name y py] kt pt] (.Tuple [a,b] k2 pt2) X.env=pure (some [x,y]):=by rfl) (hs:swapsWithSole [.Tuple [.Name x px,.Name y py] kt pt] (.Tuple [a,b] k2 pt2) pos.line X.env=pure false:=by rfl):SJ X (.Assign [.Tuple [.Name x px,.Name y py] kt pt] (.Tuple [a,b] k2 pt2) pos) (KW i j ta):=⟨have ha:=ha.h; PS.imp (G5 hc hN hi hj hij hx hy ha hw hs) λN σ H ⟨L,S,M,hL,hS,h,r⟩=>qR.go hL hS h λds S1 vs H1 h1 k1 hL1 hS1 i1=>by
  split at h1
  ·obtain⟨v,u,rfl,j1,j2⟩:=pb i1;exact⟨v,u,rfl,r.nx _ S1 _ H1 h1 k1 ((hL1.set j1 i).set j2 j) hS1⟩
  ·exact h1.elim⟩
theorem aJ {i:Nat} {x:Str} (hN:X.N.Nodup) (hi:X.N[i]?=some x:=by rfl) (hx:AI X.env.scope x:=by first | exact Or.inl rfl | exact Or.inr rfl) (hf:X.fn x=true\/X.env.scope.names.lookup x=some .local:=by first | exact .inl rfl | exact .inr rfl | assumption):GJ X (.Name x pos) (jn i):=⟨PG.imp (vR hN hi hx hf) λv σ H Q z9=>by obtain⟨d,L,S,k,i1,hL,hS,h,n⟩:=z9; exact n _ S _ H h (Kp.refl H) (hL.set i1 i) hS⟩
theorem dy:Il X [] AL:=⟨Bu.imp Dx λv σ H Q ⟨d,L,S,k,i1,hL,hS,h,n⟩=>by
 obtain⟨rfl,h⟩:=h;exact⟨jS.mp i1,n L S σ H h (Kp.refl H) hL hS⟩⟩
theorem aY {es:List No} {t:DG} {u:Do} (h1:GJ X e t) (h2:Il X es u) (hs:(assignEach (e::es) X.env).map (·.2)=assign e X.env::(assignEach es X.env).map (·.2):=by rfl):Il X (e::es) (tj t u):=⟨have h1:=h1.h; have h2:=h2.h; Bu.imp (A2 h1 h2 hs) λvs σ H Q ⟨ds,L,S,k,i1,hL,hS,h,n⟩=>by
  cases ds with
  | nil=>exact(show False from h).elim
  | cons d r=>
   obtain⟨v,vr,rfl,j1,j2⟩:=dI.mp i1;exact⟨v,vr,rfl,d,L,S,_,j1,hL,hS,h,λL1 S1 σ1 H1 q k1 hL1 hS1=>⟨r,L1,S1,k,j2.kp k1,hL1,hS1,q,λL' S' σ' H' q' k'=>n L' S' σ' H' q' (k1.trans k')⟩⟩⟩
theorem gL {tg e:No} {g:DG} (he:EJ X e ge) (hg:GJ X tg g) (hs:swapsWithSole [tg] e pos.line X.env=pure false:=by rfl) (hw:swappedStores [tg] e X.env=pure none:=by rfl) (h1:(assignEach [tg] X.env).map (·.2)=[assign tg X.env]:=by rfl):SJ X (.Assign [tg] e pos) (Ic ge g):=⟨have he:=he.h; have hg:=hg.h; PS.imp (G7 he hg hs hw h1) λN σ H z9=>by obtain⟨L,S,M,hL,hS,h,r⟩:=z9; exact up.go hL hS h λd S1 v H1 h1 k1 hL1 hS1 i1=>
  ⟨d,L,S1,M.nx,i1,hL1,hS1,h1,λL' S' σ' H' q k' hL' hS'=>r.nx L' S' σ' H' q (k1.trans k') hL' hS'⟩⟩
theorem kz {c:No} {body:List Nu} {gc:DT} (hp:PassesOwn (model X.prog X.w) X.A X.env X.xe) (hc:TJ X c gc) (hb:xz X body g):SJ X (.While c body [] pos) (GP gc g):=⟨have hc:=hc.h; have hb:=hb.h; PS.imp (Cy hp hc hb) λN σ H ⟨L,S,M,hL,hS,⟨W,⟨m0,w0⟩,turn⟩,r⟩=>by
  refine⟨λm σ H1=>∃ L S,Lc X.K H1 L σ/\Hs X.K H1 S/\W m L S/\Kp H H1,⟨m0,L,S,hL,hS,w0,Kp.refl H⟩,?_⟩
  rintro m σ1 H1 ⟨L1,S1,hL1,hS1,w1,k1⟩;refine xY.go hL1 hS1 (turn m L1 S1 w1) λt S2 H2 h2 k2 hL2 hS2=>?_
  cases t with
  | true=>
   rw [if_pos rfl] at h2 ⊢;obtain⟨N',hN,hb⟩:=h2;refine⟨fun σ' H'=>∃ L' S',Lc X.K H' L' σ'/\Hs X.K H' S'/\N' L' S'/\Kp H H',?_,L1,S2,_,hL2,hS2,hb,?_⟩
   ·rintro σ' H' ⟨L',S',hL',hS',n',k'⟩;obtain⟨m',hm,w'⟩:=hN L' S' n';exact⟨m',hm,L',S',hL',hS',w',k'⟩
   ·have r2:=r.kp (k1.trans k2);exact⟨λL' S' σ' H' n' k' hL' hS'=>⟨L',S',hL',hS',n',(k1.trans k2).trans k'⟩,r2.rt,r2.nx,λL' S' σ' H' n' k' hL' hS'=>⟨L',S',hL',hS',n',(k1.trans k2).trans k'⟩⟩
  | false=>
   rw [if_neg Mr] at h2 ⊢;exact(r.kp (k1.trans k2)).nx L1 S2 σ1 H2 h2 (Kp.refl H2) hL2 hS2⟩
theorem pV {tg a:No} {body:List Nu} {ta:DA} {gg:DG} {p pos':Pos} (hp:PassesOwn (model X.prog X.w) X.A X.env X.xe) (hc:X.calm=true) (hgl:Gl X "range") (hm:X.mg "range"=none) (ha:AJ X [a] ta) (hg:GJ X tg gg) (hb:xz X body g) (hs1:starEach [a] X.env=[(false,eval a X.env)]:=by rfl) (hs:∀ x,foldedSetIterable (.Call (.Name "range" p) [a] [] pos') X.env x=pure x:=by intro _; rfl):SJ X (.For tg (.Call (.Name "range" p) [a] [] pos') body [] pos) (JJ ta gg g):=⟨have ha:=ha.h; have hg:=hg.h; have hb:=hb.h; PS.imp (wl hp hc (mz hgl hm ha hs1) hg hb hs) λN σ H ⟨L,S,M,hL,hS,h,r⟩=>qR.go hL hS h λds S1 vs H1 h1 k1 hL1 hS1 i1=>by
  split at h1
  ·obtain⟨v,rfl,j⟩:=iH i1;have e:=isInt.mp j;subst e;obtain⟨⟨h2,h3⟩,h1⟩:=h1;refine⟨_,rfl,h2,h3,tx hL1 hS1 h1 (r.kp k1) (λi d S2 H2 e k2 hS2 _=>?_) λS2 H2 k2 hS2 _=>?_⟩
   ·rw [MQ] at e;cases q:(List.range (Int.toNat _))[i]? with
    | none=>rw [q] at e; cases e
    | some z=>
     rw [q] at e;cases e;have hz:=MX.mp q;obtain⟨hz1,hz2⟩:=hz;rw [List.length_range] at hz1;rw [List.getElem_range] at hz2;subst hz2;exact⟨hz1,λx H' y=>⟨y.1,by rw [y.2]; exact isInt.mpr (by rw [Int.zero_add])⟩⟩
   ·rw [Mq,List.length_range];exact Mp _
  ·exact h1.elim⟩
end
section
variable {P:Np} {w:Nr} {K:Fg} {mg:Str->Nm Nk} {base:Nt}
theorem _root_.L2.rC.okJ {x qual:Str} {st:Nu} {f:Nl} {fd:FuncData} {N ps:List Str} {k:Nat} {F:cr} (Fn:rC K x qual st f fd) (Sc:av N ps (am st)) (len:∀ ds S k,F ds S k->ds.length=ps.length)
  (hbody:∀ (cdv:Nk) (A:Nq) (outer:List Env) (s:Nj) (H:Hp) (E:XK),bE k (A.deeper (envOfC qual (am st) s.heap.objs.size f cdv))->
   ∃ g,xz (cQ cW P w K mg base N qual (am st) f cdv A outer s H E).nox (b_ st) g/\
    ∀ ds S k,F ds S k->g {nx:=λ_ S'=>k .non S',rt:=k} (ds.map some++List.replicate (N.length - ps.length) none) S):aU P w K mg base cW (k+1) f fd ps (cY K F):=
 Fn.okD Sc len λcdv A outer s H E hr=>let ⟨g,h,q⟩:=hbody cdv A outer s H E hr; ⟨g,h.h,q⟩
end
end DL
namespace L2
open PySem PySem.Spec PyProof.Rows
section
variable {X:Cx} {pos:Pos}
def K2 (K:PySem.W.Frag) (n:Nat) (t:AO):TG:=λv σ H Q=>∃ a xs,v=.ref a/\jW K H a xs/\xs.length=n/\t xs σ H Q
theorem HJ {es:List No} {k:Nat} {t:AO} {n:Nat} (hc:X.calm=true) (h:Bu X es t)
  (hn:(assignEach es X.env).length=n:=by rfl) (hst:(assignEach es X.env).findIdx? (·.1)=none:=by rfl):PG X (.Tuple es k pos) (K2 X.K n t):=by
 intro NA s σ H v u Q I r hw;obtain⟨a,xs,e1,hq,hl,hw⟩:=hw;subst e1;cases r;obtain⟨its,rv,ht,hz⟩:=I.list hq;have e2:(assignEach es X.env).length=its.toArray.size:=by simp [hn,<- hl,rv.length]
 rw [arm_assign_Tuple];refine Mj (wpAny_standAt ?_);unfold unpack;rw [e2,hst];refine Mj (MM (PySem.W.kun_itemsOf (I.ok.hd hc) ht.isList λh' hx=>?_))
 have I1:aI X NA σ H {s with heap:=h'}:=I.kept (t':=s.toks) λb o e=>hx b o (Mu (Mo e)) e
 exact h NA _ σ H xs _ Q I1 (by simpa using rv) hw
theorem PG.or {e:No} {t t':TG} (h:PG X e t) (h':PG X e t'):PG X e (λv σ H Q=>t v σ H Q\/t' v σ H Q):=by
 intro NA s σ H v u Q I r q;rcases q with q | q
 ·exact h NA s σ H v u Q I r q
 ·exact h' NA s σ H v u Q I r q
end
def qE (X:Cx) (scope:Scope):List (Nm Nat)->List Str->Prop
 | some j::r,x::xs=>(X.N[j]?=some x/\(X.env.scope.names.lookup x=some .cell\/X.env.scope.names.lookup x=some .free)/\((relabel scope X.env).names.lookup x=some .cell\/(relabel scope X.env).names.lookup x=some .free))/\qE X scope r xs
 | none::r,_::xs=>qE X scope r xs
 | _,_=>True
theorem qE.get {X:Cx} {scope:Scope}:∀ {cap:List (Nm Nat)} {N:List Str},qE X scope cap N->∀ (i j:Nat) (x:Str),cap[i]?=some (some j)->N[i]?=some x->
  X.N[j]?=some x/\(X.env.scope.names.lookup x=some .cell\/X.env.scope.names.lookup x=some .free)/\((relabel scope X.env).names.lookup x=some .cell\/(relabel scope X.env).names.lookup x=some .free)
 | [],_,_,_,_,_,h,_=>by simp at h
 | _::_,[],_,_,_,_,_,h=>by simp at h
 | some _::_,_::_,h,0,j,x,h1,h2=>by
  simp at h1 h2
  subst h1 h2;exact h.1
 | none::_,_::_,_,0,j,x,h1,_=>by simp at h1
 | some _::_,_::_,h,i+1,j,x,h1,h2=>qE.get h.2 i j x (by simpa using h1) (by simpa using h2)
 | none::r,_::xs,h,i+1,j,x,h1,h2=>qE.get (show qE X scope r xs from h) i j x (by simpa using h1) (by simpa using h2)
def uV (X:Cx):List (Str×Nl)->Prop
 | []=>True
 | p::r=>X.env.cells.lookup p.1=some p.2/\uV X r
theorem uV.mem {X:Cx}:∀ {cl:List (Str×Nl)},uV X cl->∀ p∈cl,X.env.cells.lookup p.1=some p.2
 | [],_,p,hp=>by simp at hp
 | q::r,h,p,hp=>by
  rcases Mt.mp hp with e | e
  ·subst e; exact h.1
  ·exact uV.mem h.2 p e
theorem kM {X:Cx} {scope:Scope} {cl:List (Str×Nl)} {N:List Str} {cap:List (Nm Nat)} (h1:scope.kind=.function) (h2:closureFor scope X.env=pure cl) (h3:(scope.names.all λy=>y.2 != NameKind.cell)=true)
  (h4:(scope.names.all λy=>y.2 != NameKind.local || scope.names.lookup y.1 == some NameKind.local)=true) (h5:uV X cl)
  (h6:((relabel scope X.env).names.all λy=>(y.2 != NameKind.cell && y.2 != NameKind.free) || (cl.lookup y.1).isSome)=true) (h7:cap.length=N.length) (h8:qE X scope cap N):fV X scope cl N cap:=⟨h1,h2,h3,h4,h5.mem,h6,h7,h8.get⟩
end L2
namespace DL
open PySem PySem.Spec PyProof.Rows L2
section
variable {X:Cx} {pos:Pos}
def oB (n:Nat) (t:Do):DG:=λd L S k=>match aS S d with
 | some p=>p.1.length=n/\t p.1 L S k
 | none=>False
theorem Hb {es:List No} {k:Nat} {t:Do} {n:Nat} (hc:X.calm=true) (h:Il X es t) (hn:(assignEach es X.env).length=n:=by rfl) (hst:(assignEach es X.env).findIdx? (·.1)=none:=by rfl):GJ X (.Tuple es k pos) (oB n t):=
 ⟨PG.imp (PG.or (F6 hc h.h hn hst) (HJ hc h.h hn hst)) λv σ H Q ⟨d,L,S,k,i1,hL,hS,h,m⟩=>by
  cases d with
  | tup ds=>
   obtain⟨a,xs,rfl,t1,j⟩:=cF.mp i1;exact .inl ⟨a,xs,rfl,t1,by rw [<- j.length]; exact h.1,ds,L,S,k,j,hL,hS,h.2,m⟩
  | rl ds=>
   obtain⟨a,xs,rfl,t1,j⟩:=wM.mp i1;exact .inr ⟨a,xs,rfl,t1.sq,by rw [<- j.length]; exact h.1,ds,L,S,k,j,hL,hS,h.2,m⟩
  | ref a=>
   have e1:=cf.mp i1;subst e1;cases z:S a with
   | none=>simp only [oB,aS,z] at h
   | some o=>
    cases o with
    | dic=>simp only [oB,aS,z] at h
    | exc _=>simp only [oB,aS,z] at h
    | fn _=>simp only [oB,aS,z] at h
    | tbl _=>simp only [oB,aS,z] at h
    | gen _=>simp only [oB,aS,z] at h
    | lst ds=>
     simp only [oB,aS,z] at h;obtain⟨xs,hl,j⟩:=hS.lst z;exact .inr ⟨a,xs,rfl,jW.of hl,by rw [<- j.length]; exact h.1,ds,L,S,k,j,hL,hS,h.2,m⟩
  | _=>exact(show False from h).elim⟩
end
def tN (cap:List (Nm Nat)) (L:Lo):Lo:=cap.map λo=>match o with
 | some j=>(L[j]?).join
 | none=>none
theorem Lc.cap {K:Fg} {H:Hp} {L:Lo} {σ:L2.St} (hL:Lc K H L σ):∀ cap:List (Nm Nat),Lc K H (tN cap L) (fN cap σ)
 | []=>rfl
 | Option.none::r=>⟨_,_,rfl,Lc.cap hL r⟩
 | Option.some j::r=>by
  show Lc K H ((L[j]?).join::tN r L) ((σ[j]?).join::fN r σ)
  cases e:L[j]? with
  | none=>exact⟨_,_,rfl,Lc.cap hL r⟩
  | some o=>
   cases o with
   | none=>exact⟨_,_,rfl,Lc.cap hL r⟩
   | some d=>
    obtain⟨v,e1,e2⟩:=hL.get e;rw [e1];exact⟨v,_,rfl,e2,Lc.cap hL r⟩
abbrev DB:=Lo->DH->(Nm D->DH->Prop)->Prop
def lU (ge:DE):DB:=λL S k=>ge L S λv S1=>k (some v) S1
def xH (c:DT) (ge:DE):DB:=λL S k=>c L S λb S1=>if b=true then ge L S1 λv S2=>k (some v) S2 else k none S1
def dH (ok:DH->Prop) (p:Nl) (g:DG) (bd:DB) (k:DK):List D->List D->Lo->DH->Prop
 | [],_,_,S=>ok S/\k (.ref p) S
 | d::r,acc,L,S=>ok S/\g d L S λL1 S1=>bd L1 S1 λo S2=>match o with
  | some v=>S2 p=some (.lst acc)/\acc.length < sizeLine/\dH ok p g bd k r (acc++[v]) L1 (put S2 p (.lst (acc++[v])))
  | none=>dH ok p g bd k r acc L1 S2
def yk (cap:List (Nm Nat)) (ta:DA) (g:DG) (bd:DB):DE:=λL S k=>ta L S λds S1=>match ds with
 | [.int n]=>(-(2 ^ 62)<=n/\n < 2 ^ 62)/\∀ p,S1 p=none->dH (λ_=>True) p g bd k ((List.range n.toNat).map λi=>D.int (i:Nat)) [] (tN cap L) (put S1 p (.lst []))
 | _=>False
section
variable {K:Fg} {ok:DH->Prop} {gg:DG} {ge:DE} {gc:DT} {k:DK} {ds:List D} {L:Lo} {S:DH} {σ:L2.St} {H:Hp} {J:It} {Q:VK} {p:Nl}
theorem qi (hL:Lc K H L σ) (hS:Hs K H S) (hp:H p=none) (h:dH ok p gg (lU ge) k ds [] L (put S p (.lst [])))
  (n:∀ d S' v H',k d S'->Kp H H'->Hs K H' S'->cK K H' d v->Q v H')
  (hgo:∀ i d S1 H1,ds[i]?=some d->Kp H H1->Hs K H1 S1->ok S1->J.go i H1/\∀ x H',J.yld i H1 x H'->H'=H1/\cK K H1 d x)
  (hst:∀ S1 H1,Kp H H1->Hs K H1 S1->ok S1->J.stop ds.length H1):
  ∃ W:Nat->Nat->L2.St->Hp->Prop,(∃ m,W 0 m σ (bL H p (.lst [])))/\∀ i m σ' H',W i m σ' H'->
   (J.stop i H'/\Q (.ref p) H')\/(J.go i H'/\∃ N:L2.St->Hp->Prop,(∀ σ2 H2,N σ2 H2->∃ m',m' < m/\W (i+1) m' σ2 H2)/\∀ x H2,J.yld i H' x H2->H9 K gg x σ' H2 fun σ3 H3=>up K ge σ3 H3 λv H4=>∃ ys,H4 p=some (.lst ys)/\ys.length < sizeLine/\N σ3 (bL H4 p (.lst (ys++[v])))):=by
 refine⟨λi m σ1 H1=>m=ds.length - i/\i<=ds.length/\∃ acc L1 S1,Lc K H1 L1 σ1/\Hs K H1 S1/\Kp H H1/\dH ok p gg (lU ge) k (ds.drop i) acc L1 S1,⟨ds.length,by simp,M_ _,[],L,_,hL.kp (Kp.new hp),hS.newL hp IsDs.nil,Kp.new hp,h⟩,?_⟩
 rintro i m σ1 H1 ⟨rfl,hi,acc,L1,S1,hL1,hS1,k1,w1⟩
 by_cases hlt:i < ds.length
 ·have e:ds.drop i=ds[i]::ds.drop (i+1):=M8 hlt;rw [e] at w1;obtain⟨o1,w1⟩:=w1;obtain⟨g1,y1⟩:=hgo i ds[i] S1 H1 (by simp [hlt]) k1 hS1 o1
  refine .inr ⟨g1,fun σ' H'=>i+1<=ds.length/\∃ acc L' S',Lc K H' L' σ'/\Hs K H' S'/\Kp H H'/\dH ok p gg (lU ge) k (ds.drop (i+1)) acc L' S',fun σ' H' z9=>by obtain⟨q1,q2⟩:=z9; exact⟨ds.length - (i+1),by omega,rfl,q1,q2⟩,λx H' y=>?_⟩
  obtain⟨rfl,ix⟩:=y1 x H' y;refine⟨ds[i],L1,S1,_,ix,hL1,hS1,w1,λL2 S2 σ2 H2 q k2 hL2 hS2=>up.go hL2 hS2 q λd S3 v H3 h3 k3 hL3 hS3 i3=>?_⟩
  obtain⟨z1,z2,z3⟩:=h3;obtain⟨xs,hl,j⟩:=hS3.lst z1;have k4:Kp H3 (bL H3 p (.lst (xs++[v]))):=Kp.mut hl (λz=>z)
  exact⟨xs,hl,by rw [<- j.length]; exact z2,hlt,_,L2,_,hL3.kp k4,hS3.setL hl (j.append (IsDs.cons i3 IsDs.nil)),((k1.trans k2).trans k3).trans k4,z3⟩
 ·have e:i=ds.length:=by omega
  subst e;rw [List.drop_length] at w1;obtain⟨o1,w1⟩:=w1;exact .inl ⟨hst S1 H1 k1 hS1 o1,n _ S1 _ H1 w1 k1 hS1 (cf.mpr rfl)⟩
theorem ja (hL:Lc K H L σ) (hS:Hs K H S) (hp:H p=none) (h:dH ok p gg (xH gc ge) k ds [] L (put S p (.lst [])))
  (n:∀ d S' v H',k d S'->Kp H H'->Hs K H' S'->cK K H' d v->Q v H')
  (hgo:∀ i d S1 H1,ds[i]?=some d->Kp H H1->Hs K H1 S1->ok S1->J.go i H1/\∀ x H',J.yld i H1 x H'->H'=H1/\cK K H1 d x)
  (hst:∀ S1 H1,Kp H H1->Hs K H1 S1->ok S1->J.stop ds.length H1):
  ∃ W:Nat->Nat->L2.St->Hp->Prop,(∃ m,W 0 m σ (bL H p (.lst [])))/\∀ i m σ' H',W i m σ' H'->
   (J.stop i H'/\Q (.ref p) H')\/(J.go i H'/\∃ N:L2.St->Hp->Prop,(∀ σ2 H2,N σ2 H2->∃ m',m' < m/\W (i+1) m' σ2 H2)/\∀ x H2,J.yld i H' x H2->H9 K gg x σ' H2 fun σ3 H3=>xY K gc σ3 H3 λb H3'=>if b=true then up K ge σ3 H3' λv H4=>∃ ys,H4 p=some (.lst ys)/\ys.length < sizeLine/\N σ3 (bL H4 p (.lst (ys++[v]))) else N σ3 H3'):=by
 refine⟨λi m σ1 H1=>m=ds.length - i/\i<=ds.length/\∃ acc L1 S1,Lc K H1 L1 σ1/\Hs K H1 S1/\Kp H H1/\dH ok p gg (xH gc ge) k (ds.drop i) acc L1 S1,⟨ds.length,by simp,M_ _,[],L,_,hL.kp (Kp.new hp),hS.newL hp IsDs.nil,Kp.new hp,h⟩,?_⟩
 rintro i m σ1 H1 ⟨rfl,hi,acc,L1,S1,hL1,hS1,k1,w1⟩
 by_cases hlt:i < ds.length
 ·have e:ds.drop i=ds[i]::ds.drop (i+1):=M8 hlt;rw [e] at w1;obtain⟨o1,w1⟩:=w1;obtain⟨g1,y1⟩:=hgo i ds[i] S1 H1 (by simp [hlt]) k1 hS1 o1
  refine .inr ⟨g1,fun σ' H'=>i+1<=ds.length/\∃ acc L' S',Lc K H' L' σ'/\Hs K H' S'/\Kp H H'/\dH ok p gg (xH gc ge) k (ds.drop (i+1)) acc L' S',fun σ' H' z9=>by obtain⟨q1,q2⟩:=z9; exact⟨ds.length - (i+1),by omega,rfl,q1,q2⟩,λx H' y=>?_⟩
  obtain⟨rfl,ix⟩:=y1 x H' y;refine⟨ds[i],L1,S1,_,ix,hL1,hS1,w1,λL2 S2 σ2 H2 q k2 hL2 hS2=>xY.go hL2 hS2 q λb S2' H2' h2 k2' hL2' hS2'=>?_⟩
  cases b with
  | true=>
   rw [if_pos rfl] at h2 ⊢;refine up.go hL2' hS2' h2 λd S3 v H3 h3 k3 hL3 hS3 i3=>?_
   obtain⟨z1,z2,z3⟩:=h3;obtain⟨xs,hl,j⟩:=hS3.lst z1;have k4:Kp H3 (bL H3 p (.lst (xs++[v]))):=Kp.mut hl (λz=>z)
   exact⟨xs,hl,by rw [<- j.length]; exact z2,hlt,_,L2,_,hL3.kp k4,hS3.setL hl (j.append (IsDs.cons i3 IsDs.nil)),(((k1.trans k2).trans k2').trans k3).trans k4,z3⟩
  | false=>
   rw [if_neg Mr] at h2 ⊢;exact⟨hlt,acc,L2,S2',hL2',hS2',(k1.trans k2).trans k2',h2⟩
 ·have e:i=ds.length:=by omega
  subst e;rw [List.drop_length] at w1;obtain⟨o1,w1⟩:=w1;exact .inl ⟨hst S1 H1 k1 hS1 o1,n _ S1 _ H1 w1 k1 hS1 (cf.mpr rfl)⟩
end
theorem sF {K:Fg} {H:Hp} {n:Int}:∀ i d (S1:DH) H1,((List.range n.toNat).map λi=>D.int (i:Nat))[i]?=some d->Kp H H1->Hs K H1 S1->(λ_=>True:DH->Prop) S1->(I_ 0 n.toNat).go i H1/\∀ x H',(I_ 0 n.toNat).yld i H1 x H'->H'=H1/\cK K H1 d x:=by
 intro i d S1 H1 e _ _ _;rw [MQ] at e;cases q:(List.range (Int.toNat _))[i]? with
 | none=>rw [q] at e; cases e
 | some z=>
  rw [q] at e;cases e;obtain⟨hz1,hz2⟩:=MX.mp q;rw [List.length_range] at hz1;rw [List.getElem_range] at hz2;subst hz2;exact⟨hz1,λx H' y=>⟨y.1,by rw [y.2]; exact isInt.mpr (by rw [Int.zero_add])⟩⟩
section
variable {X:Cx} {elt tg iter c a:No} {scope:Scope} {cl:List (Str×Nl)} {N:List Str} {cap:List (Nm Nat)} {pos p pos':Pos} {gg:DG} {ge gi:DE} {gc:DT} {ta:DA}
theorem yu (hc:X.calm=true) (Sc:fV X scope cl N cap) (hgl:Gl X "range") (hm:X.mg "range"=none) (ha:AJ X [a] ta) (hg:∀ s0 H0 ex C,GJ (gQ X scope cl N s0 H0 ex C) tg gg) (hcn:∀ s0 H0 ex C,TJ (gQ X scope cl N s0 H0 ex C) c gc) (he:∀ s0 H0 ex C,EJ (gQ X scope cl N s0 H0 ex C) elt ge)
  (hs1:starEach [a] X.env=[(false,eval a X.env)]:=by exact cq rfl) (hs:∀ x,foldedSetIterable (.Call (.Name "range" p) [a] [] pos') X.env x=pure x:=by intro _; rfl):
  EJ X (.ListComp elt [⟨tg,.Call (.Name "range" p) [a] [] pos',[c],0⟩] scope pos) (yk cap ta gg (xH gc ge)):=
 ⟨PE.imp (uW hc Sc (mz hgl hm ha.h hs1) (λs0 H0 ex C=>(hg s0 H0 ex C).h) (λs0 H0 ex C=>(hcn s0 H0 ex C).h) (λs0 H0 ex C=>(he s0 H0 ex C).h) hs) fun σ H Q ⟨L,S,k,hL,hS,h,n⟩=>qR.go hL hS h λds S1 vs H1 h1 k1 hL1 hS1 i1=>by
  split at h1
  ·obtain⟨v,rfl,j⟩:=iH i1;have e:=isInt.mp j;subst e;obtain⟨⟨h2,h3⟩,h1⟩:=h1;refine⟨_,rfl,h2,h3,λD hD=>ja (hL1.cap cap) hS1 hD (h1 D (hS1.free hD)) (λd S' v H' q k3=>n d S' v H' q (k1.trans k3)) sF λS2 H2 k2 hS2 _=>?_⟩
   rw [Mq,List.length_range];exact Mp _
  ·exact h1.elim⟩
end
def tZ (K:Fg) (mg:Str->Nm Nk) (x:Str) (ns:List Int):Prop:=∃ p o its n,mg x=some (.ref p)/\K.lookup p=some o/\o.cls=.type "tuple"/\o.data=.seq its n/\its.size<=sizeLine/\bA (ns.map V.int) its.toList
theorem u9 {K:Fg} {H:Hp}:∀ ns:List Int,IsDs K H (ns.map D.int) (ns.map V.int)
 | []=>IsDs.nil
 | _::ns=>IsDs.cons (isInt.mpr rfl) (u9 ns)
theorem gS {X:Cx} {x:Str} {ns:List Int} {pos:Pos} (g:tZ X.K X.mg x ns) (hg:Gl X x) (hd:(x == ("__debug__":Str))=false:=by decide):EJ X (.Name x pos) (dC (.tup (ns.map D.int))):=by
 obtain⟨p,o,its,n,hm,h1,h2,h3,h4,h5⟩:=g;exact⟨HV (ET (v:=.ref p) hg hm rfl hd) λH=>cF.mpr ⟨p,_,rfl,.inr ⟨o,its,n,h1,h2,h3,h4,h5⟩,u9 ns⟩⟩
theorem jX.imp {K:Fg} {r r':D2} (i:∀ d e S k,r' d e S k->r d e S k):∀ x y H Q,jX K r' x y H Q->jX K r x y H Q:=λx y H Q z9=>by obtain⟨d,e,S,k,a,b,c,h,n⟩:=z9; exact⟨d,e,S,k,a,b,c,i d e S k h,n⟩
theorem wt.imp {K:Fg} {r r':cr} (i:∀ ds S k,r' ds S k->r ds S k):∀ xs H Q,wt K r' xs H Q->wt K r xs H Q:=λxs H Q z9=>by obtain⟨ds,S,k,a,b,h,n⟩:=z9; exact⟨ds,S,k,a,b,i ds S k h,n⟩
theorem gp.imp {X:Cx} {f:Nk->Nk->Sem Nk} {r r':R2} (h:gp X f r) (i:∀ x y H Q,r' x y H Q->r x y H Q):gp X f r':=λNA s σ H x y v u Q I rx ry q=>h NA s σ H x y v u Q I rx ry (i x y H Q q)
theorem AB.imp {X:Cx} {r r':R2} (h:AB X r) (i:∀ x y H Q,r' x y H Q->r x y H Q):AB X r':=λvalue slice NA s σ H x y v u Q I rx ry q=>h value slice NA s σ H x y v u Q I rx ry (i x y H Q q)
theorem dZ.imp {X:Cx} {f:Nk} {r r':List V->Hp->VK->Prop} (h:dZ X f r) (i:∀ xs H Q,r' xs H Q->r xs H Q):dZ X f r':=λNA s σ H xs us Q I rs q=>h NA s σ H xs us Q I rs (i xs H Q q)
def qX:D2:=λd e S k=>match d,e with
 | .tup ds,.int i=>(match L2.atI ds i with
  | some c=>k c S
  | none=>False)
 | .rl ds,.int i=>∃ c,L2.atI ds i=some c/\k c S
 | .ref a,.int i=>∃ ds c,S a=some (.lst ds)/\L2.atI ds i=some c/\k c S
 | _,_=>False
theorem cj {X:Cx}:AB X (jX X.K qX):=AB.imp I0 (jX.imp λd e S k h=>by
 unfold qX at h
 split at h
 ·exact h
 ·obtain⟨c,h1,h2⟩:=h;simp only [ww,h1];exact h2
 ·obtain⟨ds,c,h0,h1,h2⟩:=h;simp only [ww,h0,h1];exact h2
 ·exact h.elim)
theorem aO {X:Cx} {x:Str} {p1 p2 pos:Pos} {c:Int} {j} (n:Nat) (hN:X.N[n]?=some x:=by rfl) (hv:tU X.env.scope x:=by first | exact Or.inl rfl | exact Or.inr (Or.inl rfl) | exact Or.inr (Or.inr rfl)) (hd:(x == ("__debug__":Str))=false:=by decide) (hcd:(x == ("__classdict__":Str))=false:=by decide):EJ X (.Subscript (.Name x p1) (.Constant (.int c) j p2) pos) (t4 qX (fG n) (dC (.int c))):=bh cj (aj n hN hv hd hcd) ah Zf
def CH:cr:=λds S k=>match ds with
 | [.tup xs]=>k (.int xs.length) S
 | [.rl xs]=>k (.int xs.length) S
 | [.ref a]=>∃ xs,S a=some (.lst xs)/\k (.int xs.length) S
 | _=>False
theorem jp {X:Cx}:dZ X (.builtin "len") (wt X.K CH):=dZ.imp JI (wt.imp λds S k h=>by
 unfold CH at h
 split at h
 ·exact h
 ·exact h
 ·obtain⟨xs,h1,h2⟩:=h;simp only [Hr,h1];exact h2
 ·exact h.elim)
def Ky:D2:=λd e S k=>∃ b,qD 8 d e=some b/\k (.bl b) S
def KP:D2:=λd e S k=>∃ b,qD 8 d e=some b/\k (.bl (!b)) S
theorem E_ {X:Cx} {n:Nat} (hr:bE n X.A):gp X (compareOp .Eq) (jX X.K Ky):=gp.imp (Jh hr) (jX.imp λd e S k ⟨b,h1,h2⟩=>by
 simp only [F_,h1];exact h2)
theorem Bg {X:Cx} {n:Nat} (hr:bE n X.A):gp X (compareOp .NotEq) (jX X.K KP):=gp.imp (IR hr) (jX.imp λd e S k ⟨b,h1,h2⟩=>by
 simp only [FW,h1];exact h2)
def Ie (gi:DE) (g:DG) (b:DS):DS:=λM L S=>gi L S λd S1=>∃ p,aS S1 d=some p/\hV (dG p) g b M p.1 L S1
def GZ (g:DE):Prop:=∀ L S (k k':DK),(∀ d S,k d S->k' d S)->g L S k->g L S k'
def yj (n:Nat) (t:Do):DG:=λd L S k=>∃ p,aS S d=some p/\p.1.length=n/\t p.1 L S k
theorem GJ.imp {X:Cx} {e:No} {g g':DG} (h:GJ X e g) (i:∀ d L S k,g' d L S k->g d L S k):GJ X e g':=⟨PG.imp h.h λv σ H Q z9=>by obtain⟨d,L,S,k,a,hL,hS,q,n⟩:=z9; exact⟨d,L,S,k,a,hL,hS,i d L S k q,n⟩⟩
theorem eQ {X:Cx} {pos:Pos} {es:List No} {k:Nat} {t:Do} {n:Nat} (hc:X.calm=true) (h:Il X es t) (hn:(assignEach es X.env).length=n:=by rfl) (hst:(assignEach es X.env).findIdx? (·.1)=none:=by rfl):GJ X (.Tuple es k pos) (yj n t):=
 GJ.imp (Hb hc h hn hst) λd L S k ⟨p,h1,h2⟩=>by
  simp only [oB,h1];exact h2
section
variable {X:Cx} {pos:Pos}
def GF (go gi:DE):DG:=λd L S k=>go L S λo S1=>gi L S1 λi S2=>match o,i with
 | .ref a,.int j=>∃ ds n,S2 a=some (.lst ds)/\AH ds.length j=some n/\k L (put S2 a (.lst (ds.set n d)))
 | _,_=>False
theorem zf {o i:No} {go gi:DE} (ho:EJ X o go) (hi:EJ X i gi)
  (ha:∀ v,assign (.Subscript o i pos) X.env v=(do
   let ov <- holding [v] (eval o X.env)
   let iv <- holding [v,ov] (eval i X.env)
   standAt pos
   holding [v,ov,iv] (setItem ov iv v)
   release [v,ov,iv] []):=by intro _; rfl):GJ X (.Subscript o i pos) (GF go gi):=
 ⟨PG.imp (Hy ho.h hi.h Co ha) λv σ H Q ⟨d,L,S,k,i1,hL,hS,h,n⟩=>up.go hL hS h λc S1 u H1 h1 k1 hL1 hS1 j1=>up.go hL1 hS1 h1 λc2 S2 u2 H2 h2 k2 hL2 hS2 j2=>by
  cases c with
  | ref a=>
   cases c2 with
   | int z=>
    have e1:=cf.mp j1;have e2:=isInt.mp j2;subst e1;subst e2;obtain⟨ds,m,w,q,h2⟩:=h2;obtain⟨vs,hl,j⟩:=hS2.lst w;refine⟨a,vs,z,m,rfl,rfl,hl,by rw [<- j.length]; exact q,?_⟩
    have k3:Kp H2 (bL H2 a (.lst (vs.set m v))):=Kp.mut hl (λz=>z)
    exact n L _ σ _ h2 (k1.trans (k2.trans k3)) (hL2.kp k3) (hS2.setL hl (j.set m (i1.kp (k1.trans k2))))
   | _=>exact(show False from h2).elim
  | _=>exact(show False from h2).elim⟩
theorem xT {K:Fg} {S1:DH} {H1:Hp} {d:D} {v:V} {p:List D×Nm Nl} (hS1:Hs K H1 S1) (i1:cK K H1 d v) (hp:aS S1 d=some p):∃ a,v=.ref a/\
  (((∃ xs, jW K H1 a xs) ∧ (∀ i c S2 H2, p.1[i]? = some c → Kp H1 H2 → Hs K H2 S2 → dG p S2 → (Im K a).go i H2 ∧ ∀ x H', (Im K a).yld i H2 x H' → H' = H2 ∧ cK K H2 c x) ∧ ∀ S2 H2, Kp H1 H2 → Hs K H2 S2 → dG p S2 → (Im K a).stop p.1.length H2) ∨
   ((∃ xs,mB K H1 a xs)/\(∀ i c S2 H2,p.1[i]?=some c->Kp H1 H2->Hs K H2 S2->dG p S2->(IB K a).go i H2/\∀ x H',(IB K a).yld i H2 x H'->H'=H2/\cK K H2 c x)/\∀ S2 H2,Kp H1 H2->Hs K H2 S2->dG p S2->(IB K a).stop p.1.length H2)):=by
 cases d with
 | tup ds=>
  cases hp;obtain⟨a,xs,rfl,t,j⟩:=cF.mp i1;refine⟨a,rfl,.inr ⟨⟨xs,t⟩,λi d S2 H2 e k2 hS2 _=>?_,λS2 H2 k2 hS2 _=>⟨xs,k2.tup t,by rw [<- j.length]; exact Mp _⟩⟩⟩
  obtain⟨w,e1,e2⟩:=j.get e;refine⟨⟨xs,w,k2.tup t,e1⟩,λx H' y=>⟨y.1,?_⟩⟩
  have z:=y.2 xs (k2.tup t);rw [e1] at z;cases z;exact e2.kp k2
 | rl ds=>
  cases hp;obtain⟨a,xs,rfl,t,j⟩:=wM.mp i1;refine⟨a,rfl,.inl ⟨⟨xs,t.sq⟩,λi d S2 H2 e k2 hS2 _=>?_,λS2 H2 k2 hS2 _=>⟨xs,(k2.fro t).sq,by rw [<- j.length]; exact Mp _⟩⟩⟩
  obtain⟨w,e1,e2⟩:=j.get e;refine⟨⟨xs,w,(k2.fro t).sq,e1⟩,λx H' y=>⟨y.1,?_⟩⟩
  have z:=y.2 xs (k2.fro t).sq;rw [e1] at z;cases z;exact e2.kp k2
 | ref a=>
  have e1:=cf.mp i1;subst e1;cases z:S1 a with
  | none=>simp only [aS,z] at hp; cases hp
  | some o=>
   cases o with
   | dic=>simp only [aS,z] at hp; cases hp
   | exc _=>simp only [aS,z] at hp; cases hp
   | fn _=>simp only [aS,z] at hp; cases hp
   | tbl _=>simp only [aS,z] at hp; cases hp
   | gen _=>simp only [aS,z] at hp; cases hp
   | lst ds=>
    simp only [aS,z] at hp;cases hp;obtain⟨xs,hl,j⟩:=hS1.lst z;refine⟨a,rfl,.inl ⟨⟨xs,jW.of hl⟩,λi d S2 H2 e k2 hS2 o2=>?_,λS2 H2 k2 hS2 o2=>?_⟩⟩
    ·obtain⟨ys,hl2,j2⟩:=hS2.lst o2;obtain⟨w,e1,e2⟩:=j2.get e;refine⟨⟨ys,w,jW.of hl2,e1⟩,λx H' y=>⟨y.1,?_⟩⟩
     have q:=y.2 ys (jW.of hl2);rw [e1] at q;cases q;exact e2
    ·obtain⟨ys,hl2,j2⟩:=hS2.lst o2;exact⟨ys,jW.of hl2,by rw [<- j2.length]; exact Mp _⟩
 | _=>cases hp
theorem gw {tg iter:No} {body:List Nu} {gi:DE} {gg:DG} {g:DS} (hp:PassesOwn (model X.prog X.w) X.A X.env X.xe) (hc:X.calm=true) (hi:EJ X iter gi) (hg:GJ X tg gg) (hb:xz X body g)
  (hs:∀ x,foldedSetIterable iter X.env x=pure x:=by intro _; rfl):SJ X (.For tg iter body [] pos) (Ie gi gg g):=
 ⟨PS.imp (wl hp hc (xL hi.h) hg.h hb.h hs) λN σ H ⟨L,S,M,hL,hS,h,r⟩=>up.go hL hS h λd S1 v H1 h1 k1 hL1 hS1 i1=>by
  obtain⟨p,hp,h1⟩:=h1;obtain⟨a,e,q⟩:=xT hS1 i1 hp;refine⟨a,e,?_⟩;rcases q with ⟨q1,q2,q3⟩ | ⟨q1,q2,q3⟩
  ·exact .inl ⟨q1,tx hL1 hS1 h1 (r.kp k1) q2 q3⟩
  ·exact .inr ⟨q1,tx hL1 hS1 h1 (r.kp k1) q2 q3⟩⟩
def yw (cap:List (Nm Nat)) (gi:DE) (g:DG) (bd:DB):DE:=λL S k=>gi L S λd S1=>∃ q,aS S1 d=some q/\∀ p,S1 p=none->dH (dG q) p g bd k q.1 [] (tN cap L) (put S1 p (.lst []))
end
end DL
namespace L2
open PySem PySem.Spec PyProof.Rows
structure iN (P:Np) (w:Nr) (it l:Nl) (st:Nat->Nt->Prop) (sq:Nv Nk->Nt->Prop):Prop where
 at_:∀ k h h',st k h->(∀ o,h.get? it=some o->h'.get? it=some o)->st k h'
 sqAt:∀ xs h h',sq xs h->(∀ o,h.get? l=some o->h'.get? l=some o)->sq xs h'
 obj:∀ k h,st k h->∃ o,h.get? it=some o/\∀ v,o.data≠.cell v
 item:∀ (A:Nq) (k:Nat) (s:Nj) (xs:Nv Nk) (x:Nk) (Q:Nk->Nj->Prop) (E:Nk->Nj->Prop),st k s.heap->sq xs s.heap->xs[k]?=some x->
  (∀ h',st (k+1) h'->Heap.SameBut it s.heap h'->Q x {s with heap:=h'})->wpAny (model P w) A (Builtin.SmallTypes.nextOf (.ref it)) Q E s
 fin:∀ (A:Nq) (k:Nat) (s:Nj) (xs:Nv Nk) (Q:Nk->Nj->Prop) (E:Nk->Nj->Prop),A.handled=none->st k s.heap->sq xs s.heap->xs[k]?=none->
  (∀ h' e,Heap.ExtBut it s.heap h'->(∃ o,h'.get? e=some o/\o.cls=.type "StopIteration")->E (.ref e) {s with heap:=h'})->wpAny (model P w) A (Builtin.SmallTypes.nextOf (.ref it)) Q E s
theorem iN.list {P:Np} {w:Nr} (it l:Nl):iN P w it l (λk h=>h.IsListIter it l k) (λxs h=>h.IsList l xs) where
 at_:=λ_ _ _ x y=>x.at y
 sqAt:=λ_ _ _ x y=>x.at y
 obj:=λ_ _ z9=>by obtain⟨o,e,_,d⟩:=z9; exact⟨o,e,λv z=>by rw [d] at z; cases z⟩
 item:=λ_ _ _ _ _ _ _ a b c d=>wpAny_nextOf_list_item a b c d
 fin:=λ_ _ _ _ _ _ hh a b c d=>wpAny_nextOf_list_end hh a b c d
section
variable {prog:Np} {w:Nr} {A:Nq} {E:Nk->Nj->Prop} {s:Nj}
theorem o9 {it t:Nl} {i:Nat} {items} {x:Nk} {Q:Nk->Nj->Prop} (hit:s.heap.IsTupleIter it t i) (ht:s.heap.IsTuple t items) (hx:items[i]?=some x)
  (hQ:∀ h',h'.IsTupleIter it t (i+1)->Heap.SameBut it s.heap h'->Q x {s with heap:=h'}):wpAny (model prog w) A (Builtin.SmallTypes.nextOf (.ref it)) Q E s:=by
 obtain⟨o,ho,hc,hd⟩:=id hit;obtain⟨ol,hol,_,nl,hdl⟩:=ht;unfold Builtin.SmallTypes.nextOf;refine Mj (Nd (name:=Str.ofString "__next__") hit.typeIs F.slot_tuple_iterator_next (M6 F.slot_tuple_iterator_next hit.typeIs F.entry_tuple_iterator_next ?_ (F.args_tuple_iterator_next_1 _)))
 refine Mj (m:=field (.ref it) 0) (MZ ho hd (x:=.ref t) rfl ?_)
 show wpAny _ _ (if (Value.ref t == Value.none)=true then _ else _) _ _ s
 rw [if_neg (show ¬ ((Value.ref t == Value.none)=true) from Mr)]
 refine Mj (m:=field (.ref it) 1) (MZ ho hd (x:=.int i 0) rfl ?_);refine Mj (m:=seqItems? (.ref t)) (MU hol hdl ?_);simp only [Int.toNat_natCast,hx];refine Mj (wpAny_setField ho hd (by simp) (Ml ⟨x,rfl,Ml (hQ _ ⟨_,M4 _ ho (Obj.isFreed_of_fields (Obj.data_mapFields hd _)),(Obj.cls_mapFields ..).trans hc,?_⟩ (Heap.SameBut.update ..))⟩))
 rw [Obj.data_mapFields hd];simp [rawInt]
theorem pK {it t:Nl} {i:Nat} {items} {Q:Nk->Nj->Prop} (hh:A.handled=none) (hit:s.heap.IsTupleIter it t i) (ht:s.heap.IsTuple t items) (hx:items[i]?=none)
  (hE:∀ h' e,Heap.ExtBut it s.heap h'->(∃ o,h'.get? e=some o/\o.cls=.type "StopIteration")->E (.ref e) {s with heap:=h'}):wpAny (model prog w) A (Builtin.SmallTypes.nextOf (.ref it)) Q E s:=by
 obtain⟨o,ho,hc,hd⟩:=id hit;obtain⟨ol,hol,_,nl,hdl⟩:=ht;unfold Builtin.SmallTypes.nextOf;refine Mj (Nd (name:=Str.ofString "__next__") hit.typeIs F.slot_tuple_iterator_next (M6 F.slot_tuple_iterator_next hit.typeIs F.entry_tuple_iterator_next ?_ (F.args_tuple_iterator_next_1 _)))
 refine Mj (m:=field (.ref it) 0) (MZ ho hd (x:=.ref t) rfl ?_)
 show wpAny _ _ (if (Value.ref t == Value.none)=true then _ else _) _ _ s
 rw [if_neg (show ¬ ((Value.ref t == Value.none)=true) from Mr)]
 refine Mj (m:=field (.ref it) 1) (MZ ho hd (x:=.int i 0) rfl ?_);refine Mj (m:=seqItems? (.ref t)) (MU hol hdl ?_);simp only [Int.toNat_natCast,hx];refine Mj (wpAny_rule (Mj (wpAny_setField ho hd (by simp) ?_)))
 refine Mj (m:=newExc (.type "StopIteration") []) ?_
 simp only [newExc,newTuple];refine Mj (MO ?_ (by size_fits))
 refine Mj (m:=firstArgMember _ _) (wpAny_of_eq (a:=Value.none) (by first | rfl | (simp only [firstArgMember]; rfl)) ?_)
 refine MO ?_ (by size_fits)
 simp only [raiseNew];refine Mj (wpAny_handled ?_)
 first | rw [show A.in1.handled=none from hh] | rw [hh]
 exact Mj (Ml (wpAny_throw (hE _ _ (((Heap.SameBut.update ..).extBut.push _).push _) ⟨_,Mm _ rfl,rfl⟩)))
end
theorem iN.tuple {P:Np} {w:Nr} (it l:Nl):iN P w it l (λk h=>h.IsTupleIter it l k) (λxs h=>h.IsTuple l xs) where
 at_:=λ_ _ _ x y=>x.at y
 sqAt:=λ_ _ _ x y=>x.at y
 obj:=λ_ _ z9=>by obtain⟨o,e,_,d⟩:=z9; exact⟨o,e,λv z=>by rw [d] at z; cases z⟩
 item:=λ_ _ _ _ _ _ _ a b c d=>o9 a b c d
 fin:=λ_ _ _ _ _ _ hh a b c d=>pK hh a b c d
section
variable {prog:Np} {w:Nr} {A:Nq} {E:Nk->Nj->Prop} {s:Nj} {z TI TO i1 i2 l1 l2:Nl} {st1 st2:Nat->Nt->Prop} {sq1 yE:Nv Nk->Nt->Prop} {k1 k2:Nat} {xs ys:Nv Nk} {x y a b:Nk}
theorem CS {Q:Nk->Nj->Prop} (G1:iN prog w i1 l1 st1 sq1) (G2:iN prog w i2 l2 st2 yE) (D:ZipApart z TI TO i1 i2 l1 l2) (hz:IsZip s.heap z TI TO .none) (hTI:IsPair s.heap TI (.ref i1) (.ref i2)) (hTO:IsPair s.heap TO a b)
  (h1:st1 k1 s.heap) (h2:st2 k2 s.heap) (hl1:sq1 xs s.heap) (hl2:yE ys s.heap) (hx:xs[k1]?=some x) (hy:ys[k2]?=some y)
  (hQ:∀ h',IsZip h' z TI TO (rawInt s.heap.objs.size)->IsPair h' TO x y->st1 (k1+1) h'->st2 (k2+1) h'->IsPair h' s.heap.objs.size x y->h'.objs.size=s.heap.objs.size+1->
   (∀ c o,c≠z->c≠TO->c≠i1->c≠i2->s.heap.get? c=some o->h'.get? c=some o)->Q (.ref s.heap.objs.size) {s with heap:=h'}):
  wpAny (model prog w) A (Builtin.«zip.__next__» ⟨[.ref z],[]⟩) (λfin s'=>∃ v,fin=.done (.ret v)/\Q v s') E s:=by
 refine Mj (m:=field (.ref z) 2) (MZ hz rfl (x:=.bool false) rfl ?_);refine Mj (m:=field (.ref z) 3) (MZ hz rfl (x:=.ref TI) rfl ?_);refine Mj (MU hTI rfl ?_);refine Mj (m:=Builtin.SmallTypes.ownedTupleIsFree (.ref z)) ?_;unfold Builtin.SmallTypes.ownedTupleIsFree;refine Mj (MZ hz rfl (x:=.none) rfl (Ml ?_));simp only [if_true];refine Mj (wpAny_rule ?_);refine Mj (MZ hz rfl (x:=.ref TO) rfl ?_);refine Mj (ML hz (by simp) λg1 z1 e1=>?_)
 replace z1:IsZip g1 z TI TO .ellipsis:=z1;refine Mj ?_;simp only [List.zipIdx_cons,List.zipIdx_nil,List.forIn_cons,List.forIn_nil];refine Mj (Mj (wpAny_onRaise ?_));refine Mj (m:=Builtin.SmallTypes.nextOf (.ref i1)) (G1.item _ _ _ _ _ _ _ (G1.at_ _ _ _ h1 λo q=>e1.extBut _ _ D.i1z q) (G1.sqAt _ _ _ hl1 λo q=>e1.extBut _ _ D.l1z q) hx λg2 t1 e2=>Ml ?_)
 have o2:IsPair g2 TO a b:=e2.extBut _ _ D.TOi1 (e1.extBut _ _ D.TOz hTO);refine Mj (MU o2 rfl ?_);refine Mj (wpAny_updateSeq_pair o2 λg3 o3 e3=>?_)
 replace o3:IsPair g3 TO x b:=o3;refine Mj (wpAny_letGo (Ml ?_));refine Mj (Mj (wpAny_onRaise ?_));refine Mj (m:=Builtin.SmallTypes.nextOf (.ref i2)) (G2.item _ _ _ _ _ _ _ (G2.at_ _ _ _ h2 λo q=>e3.extBut _ _ D.TOi2.symm (e2.extBut _ _ D.i12.symm (e1.extBut _ _ D.i2z q)))
  (G2.sqAt _ _ _ hl2 λo q=>e3.extBut _ _ D.l2TO (e2.extBut _ _ D.l2i1 (e1.extBut _ _ D.l2z q))) hy λg4 t2 e4=>Ml ?_)
 have o4:IsPair g4 TO x b:=e4.extBut _ _ D.TOi2 o3;refine Mj (MU o4 rfl ?_);refine Mj (wpAny_updateSeq_pair o4 λg5 o5 e5=>?_)
 replace o5:IsPair g5 TO x y:=o5;refine Mj (wpAny_letGo (Ml (Ml ?_)));refine Mj (MU o5 rfl ?_);refine Mj (wpAny_newTuple ?_);have hsz:g5.objs.size=s.heap.objs.size:=by rw [e5.1,e4.1,e3.1,e2.1,e1.1]
 have z5:IsZip g5 z TI TO .ellipsis:=e5.extBut _ _ D.TOz.symm (e4.extBut _ _ D.i2z.symm (e3.extBut _ _ D.TOz.symm (e2.extBut _ _ D.i1z.symm z1)));have kk:∀ c o,c≠z->c≠TO->c≠i1->c≠i2->s.heap.get? c=some o->g5.get? c=some o:=λc o c1 c2 c3 c4 e=>
  e5.extBut _ _ c2 (e4.extBut _ _ c4 (e3.extBut _ _ c2 (e2.extBut _ _ c3 (e1.extBut _ _ c1 e))))
 have t15:st1 (k1+1) g5:=G1.at_ _ _ _ t1 λo q=>e5.extBut _ _ D.TOi1.symm (e4.extBut _ _ D.i12 (e3.extBut _ _ D.TOi1.symm q))
 have t25:st2 (k2+1) g5:=G2.at_ _ _ _ t2 λo q=>e5.extBut _ _ D.TOi2.symm q
 have hzlt:z < g5.objs.size:=Mo z5;refine Mj (m:=Builtin.SmallTypes.ownedTupleHandOut (.ref z) (.ref g5.objs.size)) ?_;unfold Builtin.SmallTypes.ownedTupleHandOut;have z6:IsZip (g5.push {cls:=.type "tuple",data:=.seq #[x,y]}) z TI TO .ellipsis:=Mk _ z5
 refine Mj (ML z6 (by simp) λg7 z7 e7=>?_)
 replace z7:IsZip g7 z TI TO (rawInt g5.objs.size):=z7;refine ML z7 (by simp) λg8 z8 e8=>?_
 replace z8:IsZip g8 z TI TO (rawInt g5.objs.size):=z8;have up:∀ c o,c≠z->g5.get? c=some o->g8.get? c=some o:=λc o c1 e=>e8.extBut _ _ c1 (e7.extBut _ _ c1 (Mk _ e))
 have t8:IsPair g8 g5.objs.size x y:=e8.extBut _ _ (Nat.ne_of_gt hzlt) (e7.extBut _ _ (Nat.ne_of_gt hzlt) (Mm _ rfl));have n8:g8.objs.size=g5.objs.size+1:=by rw [e8.1,e7.1,Nb]
 rw [hsz] at z8 t8 n8
 refine Ml ⟨_,rfl,?_⟩
 show Q (.ref g5.objs.size) _
 rw [hsz];exact hQ g8 z8 (up _ _ D.TOz o5) (G1.at_ _ _ _ t15 λo e=>up _ o D.i1z e) (G2.at_ _ _ _ t25 λo e=>up _ o D.i2z e) t8 n8 λc o c1 c2 c3 c4 e=>up c o c1 (kk c o c1 c2 c3 c4 e)
theorem Dz {Q:Fin->Nj->Prop} (G1:iN prog w i1 l1 st1 sq1) (G2:iN prog w i2 l2 st2 yE) (hh:A.handled=none) (D:ZipApart z TI TO i1 i2 l1 l2) (hz:IsZip s.heap z TI TO .none) (hTI:IsPair s.heap TI (.ref i1) (.ref i2)) (hTO:IsPair s.heap TO a b)
  (h1:st1 k1 s.heap) (h2:st2 k2 s.heap) (hl1:sq1 xs s.heap) (hl2:yE ys s.heap) (hend:xs[k1]?=none\/ys[k2]?=none)
  (hE:∀ h' e,(∀ c o,c≠z->c≠TO->c≠i1->c≠i2->s.heap.get? c=some o->h'.get? c=some o)->(∃ o,h'.get? e=some o/\o.cls=.type "StopIteration")->E (.ref e) {s with heap:=h'}):
  wpAny (model prog w) A (Builtin.«zip.__next__» ⟨[.ref z],[]⟩) Q E s:=by
 refine Mj (m:=field (.ref z) 2) (MZ hz rfl (x:=.bool false) rfl ?_);refine Mj (m:=field (.ref z) 3) (MZ hz rfl (x:=.ref TI) rfl ?_);refine Mj (MU hTI rfl ?_);refine Mj (m:=Builtin.SmallTypes.ownedTupleIsFree (.ref z)) ?_;unfold Builtin.SmallTypes.ownedTupleIsFree;refine Mj (MZ hz rfl (x:=.none) rfl (Ml ?_));simp only [if_true];refine Mj (wpAny_rule ?_);refine Mj (MZ hz rfl (x:=.ref TO) rfl ?_);refine Mj (ML hz (by simp) λg1 z1 e1=>?_)
 replace z1:IsZip g1 z TI TO .ellipsis:=z1;refine Mj ?_;simp only [List.zipIdx_cons,List.zipIdx_nil,List.forIn_cons,List.forIn_nil];refine Mj (Mj (wpAny_onRaise ?_));have a1:=G1.at_ _ _ g1 h1 λo q=>e1.extBut _ _ D.i1z q
 have b1:=G1.sqAt _ _ g1 hl1 λo q=>e1.extBut _ _ D.l1z q
 cases hx:xs[k1]? with
 | none=>
  refine Mj (m:=Builtin.SmallTypes.nextOf (.ref i1)) (G1.fin _ _ _ _ _ _ hh a1 b1 hx λg2 e e2 he=>?_)
  obtain⟨oe,hoe,hce⟩:=he;have z2:IsZip g2 z TI TO .ellipsis:=e2 _ _ D.i1z.symm z1;have hez:e≠z:=λx=>by subst x; rw [z2] at hoe; cases hoe; simp at hce
  exact ML z2 (by simp) λg3 _ e3=>hE g3 e (λc o c1 _ c3 _ x=>e3.extBut _ _ c1 (e2 _ _ c3 (e1.extBut _ _ c1 x))) ⟨oe,e3.extBut _ _ hez hoe,hce⟩
 | some x=>
  have hy:ys[k2]?=none:=by rcases hend with h | h; rw [hx] at h; cases h; exact h
  refine Mj (m:=Builtin.SmallTypes.nextOf (.ref i1)) (G1.item _ _ _ _ _ _ _ a1 b1 hx λg2 t1 e2=>Ml ?_)
  have o2:IsPair g2 TO a b:=e2.extBut _ _ D.TOi1 (e1.extBut _ _ D.TOz hTO);refine Mj (MU o2 rfl ?_);refine Mj (wpAny_updateSeq_pair o2 λg3 o3 e3=>?_)
  refine Mj (wpAny_letGo (Ml ?_));refine Mj (Mj (wpAny_onRaise ?_));refine Mj (m:=Builtin.SmallTypes.nextOf (.ref i2)) (G2.fin _ _ _ _ _ _ hh (G2.at_ _ _ _ h2 λo q=>e3.extBut _ _ D.TOi2.symm (e2.extBut _ _ D.i12.symm (e1.extBut _ _ D.i2z q)))
   (G2.sqAt _ _ _ hl2 λo q=>e3.extBut _ _ D.l2TO (e2.extBut _ _ D.l2i1 (e1.extBut _ _ D.l2z q))) hy λg4 e e4 he=>?_)
  obtain⟨oe,hoe,hce⟩:=he;have z4:IsZip g4 z TI TO .ellipsis:=e4 _ _ D.i2z.symm (e3.extBut _ _ D.TOz.symm (e2.extBut _ _ D.i1z.symm z1));have hez:e≠z:=λx=>by subst x; rw [z4] at hoe; cases hoe; simp at hce
  exact ML z4 (by simp) λg5 _ e5=>hE g5 e (λc o c1 c2 c3 c4 x=>e5.extBut _ _ c1 (e4 _ _ c4 (e3.extBut _ _ c2 (e2.extBut _ _ c3 (e1.extBut _ _ c1 x))))) ⟨oe,e5.extBut _ _ hez hoe,hce⟩
theorem re {Q:Nm Nk->Nj->Prop} (G1:iN prog w i1 l1 st1 sq1) (G2:iN prog w i2 l2 st2 yE) (D:ZipApart z TI TO i1 i2 l1 l2) (hz:IsZip s.heap z TI TO .none) (hTI:IsPair s.heap TI (.ref i1) (.ref i2)) (hTO:IsPair s.heap TO a b)
  (h1:st1 k1 s.heap) (h2:st2 k2 s.heap) (hl1:sq1 xs s.heap) (hl2:yE ys s.heap) (hx:xs[k1]?=some x) (hy:ys[k2]?=some y)
  (hQ:∀ h',IsZip h' z TI TO (rawInt s.heap.objs.size)->IsPair h' TO x y->st1 (k1+1) h'->st2 (k2+1) h'->IsPair h' s.heap.objs.size x y->h'.objs.size=s.heap.objs.size+1->
   (∀ c o,c≠z->c≠TO->c≠i1->c≠i2->s.heap.get? c=some o->h'.get? c=some o)->Q (some (.ref s.heap.objs.size)) {s with heap:=h'}):wpAny (model prog w) A (pyNext (.ref z)) Q E s:=by
 have hT:s.TypeIs (.ref z) "zip":=⟨_,hz,rfl⟩
 unfold pyNext;exact Mj (wpAny_attempt (Nd (name:=Str.ofString "__next__") hT F.slot_zip_next
  (M6 F.slot_zip_next hT F.entry_zip_next (CS G1 G2 D hz hTI hTO h1 h2 hl1 hl2 hx hy λh' a1 a2 a3 a4 a5 a6 a7=>Ml (hQ h' a1 a2 a3 a4 a5 a6 a7)) (F.args_zip_next_1 _))))
theorem sP {Q:Nm Nk->Nj->Prop} (G1:iN prog w i1 l1 st1 sq1) (G2:iN prog w i2 l2 st2 yE) (hh:A.handled=none) (D:ZipApart z TI TO i1 i2 l1 l2) (hz:IsZip s.heap z TI TO .none) (hTI:IsPair s.heap TI (.ref i1) (.ref i2)) (hTO:IsPair s.heap TO a b)
  (h1:st1 k1 s.heap) (h2:st2 k2 s.heap) (hl1:sq1 xs s.heap) (hl2:yE ys s.heap) (hend:xs[k1]?=none\/ys[k2]?=none)
  (hQ:∀ h',(∀ c o,c≠z->c≠TO->c≠i1->c≠i2->s.heap.get? c=some o->h'.get? c=some o)->Q none {s with heap:=h'}):wpAny (model prog w) A (pyNext (.ref z)) Q E s:=by
 have hT:s.TypeIs (.ref z) "zip":=⟨_,hz,rfl⟩
 unfold pyNext;refine Mj (wpAny_attempt (Nd (name:=Str.ofString "__next__") hT F.slot_zip_next
  (M6 F.slot_zip_next hT F.entry_zip_next (Dz G1 G2 hh D hz hTI hTO h1 h2 hl1 hl2 hend λh' e hk he=>?_) (F.args_zip_next_1 _))))
 obtain⟨o,ho,hc⟩:=he;exact Mj (wpAny_isInstance (T:="StopIteration") (b:=true) ⟨o,ho,hc⟩ isSubtype_stop (Ml (hQ _ hk)))
end
structure iD (l:Nl) (nm:Ny) (sq:Nv Nk->Nt->Prop):Prop where
 iter:∀ (P:Np) (w:Nr) (A:Nq) (s:Nj) (xs:Nv Nk) (Q:Nk->Nj->Prop) (E:Nk->Nj->Prop),sq xs s.heap->
  Q (.ref s.heap.objs.size) {s with heap:=s.heap.push {cls:=.type nm,data:=.fields #[.ref l,.int 0 0]}}->wpAny (model P w) A (pyIter (.ref l)) Q E s
 sqAt:∀ xs h h',sq xs h->(∀ o,h.get? l=some o->h'.get? l=some o)->sq xs h'
theorem iD.list (l:Nl):iD l "list_iterator" (λxs h=>h.IsList l xs):=⟨λ_ _ _ _ _ _ _ a b=>wpAny_pyIter_list a b,λ_ _ _ x y=>x.at y⟩
theorem iD.tuple (l:Nl):iD l "tuple_iterator" (λxs h=>h.IsTuple l xs):=⟨λ_ _ _ _ _ _ _ a b=>wpAny_pyIter_tuple a b,λ_ _ _ x y=>x.at y⟩
section
variable {l1 l2:Nl} {n1 n2:Ny} {sq1 yE:Nv Nk->Nt->Prop}
abbrev Fb (h:Nt) (n1:Ny) (l1:Nl):Nt:=h.push {cls:=.type n1,data:=.fields #[.ref l1,.int 0 0]}
abbrev Ka (h:Nt) (n1 n2:Ny) (l1 l2:Nl):Nt:=(Fb h n1 l1).push {cls:=.type n2,data:=.fields #[.ref l2,.int 0 0]}
abbrev J5 (h:Nt) (n1 n2:Ny) (l1 l2:Nl):Nt:=(Ka h n1 n2 l1 l2).push {cls:=.type "tuple",data:=.seq #[.ref h.objs.size,.ref (Fb h n1 l1).objs.size]}
abbrev J4 (h:Nt) (n1 n2:Ny) (l1 l2:Nl):Nt:=(J5 h n1 n2 l1 l2).push {cls:=.type "tuple",data:=.seq #[.none,.none]}
abbrev HW (h:Nt) (n1 n2:Ny) (l1 l2:Nl):Nt:=(J4 h n1 n2 l1 l2).push {cls:=.type "zip",data:=.fields #[.none,.bool false,.bool false,.ref (Ka h n1 n2 l1 l2).objs.size,.ref (J5 h n1 n2 l1 l2).objs.size]}
theorem zI (B1:iD l1 n1 sq1) (B2:iD l2 n2 yE) (xs ys:Nv Nk):
  Meets (Builtin.«zip.__new__» ⟨[.type "zip",.ref l1,.ref l2],[]⟩) (λ_ R s=>sq1 xs s.heap/\yE ys s.heap/\
   R (.ok (.ret (.ref (J4 s.heap n1 n2 l1 l2).objs.size))) {s with heap:=HW s.heap n1 n2 l1 l2}):=
 .of_wp λprog w A R s h=>by
  obtain⟨hp,g,d,tk,os⟩:=s;obtain⟨a,b,h⟩:=h;have hsub:=sub_zip;have b':yE ys (Shared.heap ⟨hp.push {cls:=.type n1,data:=.fields #[.ref l1,.int 0 0]},g,d,tk,os⟩):=B2.sqAt _ _ _ b λo q=>Mk _ q
  have a':sq1 xs (Shared.heap ⟨hp,g,d,tk,os⟩):=a
  wp_walk using B1.iter _ _ _ _ _ _ _ a',B2.iter _ _ _ _ _ _ _ b'
  exact⟨_,rfl,h⟩
variable {prog:Np} {w:Nr} {A:Nq} {E:Nk->Nj->Prop} {s:Nj}
theorem CM (B1:iD l1 n1 sq1) (B2:iD l2 n2 yE) {xs ys:Nv Nk} {Q:Nk->Nj->Prop} (hl1:sq1 xs s.heap) (hl2:yE ys s.heap)
  (h:∀ h',IsZip h' (s.heap.objs.size+4) (s.heap.objs.size+2) (s.heap.objs.size+3) .none->IsPair h' (s.heap.objs.size+2) (.ref s.heap.objs.size) (.ref (s.heap.objs.size+1))->
   IsPair h' (s.heap.objs.size+3) .none .none->h'.get? s.heap.objs.size=some {cls:=.type n1,data:=.fields #[.ref l1,.int 0 0]}->h'.get? (s.heap.objs.size+1)=some {cls:=.type n2,data:=.fields #[.ref l2,.int 0 0]}->
   (∀ c o,s.heap.get? c=some o->h'.get? c=some o)->Q (.ref (s.heap.objs.size+4)) {s with heap:=h'}):
  wpAny (model prog w) A (call (.type "zip") [.ref l1,.ref l2]) Q E s:=by
 refine callType_new F.called_zip (by decide) (F.typeCall_zip_2 _ _) (F.newCall_zip_2 _ _) (λobj=>F.args_object_init_3 obj _ _) F.entry_zip_new (zI B1 B2 xs ys) ⟨hl1,hl2,?_⟩
 have z1:(Fb s.heap n1 l1).objs.size=s.heap.objs.size+1:=Nb ..;have z2:(Ka s.heap n1 n2 l1 l2).objs.size=s.heap.objs.size+2:=by rw [Nb,z1]
 have z3:(J5 s.heap n1 n2 l1 l2).objs.size=s.heap.objs.size+3:=by rw [Nb,z2]
 have z4:(J4 s.heap n1 n2 l1 l2).objs.size=s.heap.objs.size+4:=by rw [Nb,z3]
 have g5:(HW s.heap n1 n2 l1 l2).get? (J4 s.heap n1 n2 l1 l2).objs.size=some _:=Mm _ rfl;have g4:(HW s.heap n1 n2 l1 l2).get? (J5 s.heap n1 n2 l1 l2).objs.size=some _:=Mk _ (Mm _ rfl);have g3:(HW s.heap n1 n2 l1 l2).get? (Ka s.heap n1 n2 l1 l2).objs.size=some _:=Mk _ (Mk _ (Mm _ rfl));have g2:(HW s.heap n1 n2 l1 l2).get? (Fb s.heap n1 l1).objs.size=some _:=Mk _ (Mk _ (Mk _ (Mm _ rfl)));have g1:(HW s.heap n1 n2 l1 l2).get? s.heap.objs.size=some _:=Mk _ (Mk _ (Mk _ (Mk _ (Mm _ rfl))))
 show _/\_
 rw [z2,z3,z4] at g5;rw [z1,z2] at g3;rw [z3] at g4;rw [z1] at g2;rw [z4];exact⟨⟨_,g5,rfl⟩,h _ g5 g3 g4 g1 g2 λc o x=>Mk _ (Mk _ (Mk _ (Mk _ (Mk _ x))))⟩
end
section
variable {X:Cx} {NA:List (Nl×Nz)} {σ:St} {H:Hp} {s:Nj} {h':Nt}
theorem aI.turnedL {t':Nat} (ch:List Nl) (I:aI X NA σ H s) (k:∀ b o,b∉ch->s.heap.get? b=some o->h'.get? b=some o) (hf:∀ b∈ch,qQ X NA H b):aI X NA σ H {s with heap:=h',toks:=t'}:=by
 have nit:∀ b u,H b=some u->b∉ch:=λb u e z=>by rw [(hf b z).1] at e; cases e
 refine I.step (g':=s.gens) (d':=s.drawn) (ch:=ch) (λb hb=>⟨(hf b hb).2.2.2.1,(hf b hb).2.1,(hf b hb).2.2.2.2.1,(hf b hb).2.2.2.2.2⟩) (λb o _ _ hc e _=>k b o hc e) (λb o _ _ hc e _=>⟨o.slots,k b o hc e⟩) (λ_ _ _ _ n=>n)
  (λb o hc e=>⟨o,k b o hc e⟩) (λ_ _ e=>e) (λ_ _ _ e=>e) (λb ps e=>⟨#[],by rw [e]; simp⟩) (λm hm=>?_) (λb u e=>?_) I.bare
 ·obtain⟨o,es,ep,ho,r⟩:=hm;exact⟨o,es,ep,k _ o (λz=>(hf _ z).2.1 rfl) ho,r⟩
 ·refine(I.hok b u e).stay (λc v hc q=>k c v ?_ q) (λ_ q=>q) λ_ _ q=>q
  rcases hc with z | z
  ·rw [z]; exact nit b u e
  ·exact nit c _ z
theorem aI.turnedNew {t':Nat} {T:Nl} {xs:List V} (ch:List Nl) (I:aI X NA σ H s) (k:∀ b o,b∉ch->s.heap.get? b=some o->h'.get? b=some o) (hf:∀ b∈ch,qQ X NA H b) (hT:s.heap.objs.size<=T)
  (new:dO X.prog X.w (bL H T (.tup xs)) h' T (.tup xs)):aI X NA σ (bL H T (.tup xs)) {s with heap:=h',toks:=t'}:=by
 have hn:H T=none:=I.hok.fresh hT;have nit:∀ b u,H b=some u->b∉ch:=λb u e z=>by rw [(hf b z).1] at e; cases e
 have neT:∀ b o,s.heap.get? b=some o->b≠T:=λb o e z=>by subst z; exact absurd (Mz (Mo e) hT) (Na _)
 refine I.step (g':=s.gens) (d':=s.drawn) (ch:=ch) (λb hb=>⟨(hf b hb).2.2.2.1,(hf b hb).2.1,(hf b hb).2.2.2.2.1,(hf b hb).2.2.2.2.2⟩) (λb o _ _ hc e _=>k b o hc e) (λb o _ _ hc e _=>⟨o.slots,k b o hc e⟩) (λb o _ e n=>by rw [aF (neT b o e)]; exact n)
  (λb o hc e=>⟨o,k b o hc e⟩) (λb _ e=>by rw [aF (bg e hn)]; exact e) (λb _ _ e=>by rw [aF (bg e hn)]; exact e) (λb ps e=>⟨#[],by rw [aF (bg e hn),e]; simp⟩) (λm hm=>?_) (λb u e=>?_) I.bare
 ·obtain⟨o,es,ep,ho,r⟩:=hm;exact⟨o,es,ep,k _ o (λz=>(hf _ z).2.1 rfl) ho,r⟩
 ·by_cases hb:b=T
  ·subst hb;rw [bp] at e;cases e;exact new
  ·rw [aF hb] at e;refine(I.hok b u e).stay (λc v hc q=>k c v ?_ q) (λc q=>by rw [aF (bg q hn)]; exact q) λc _ q=>by rw [aF (bg q hn)]; exact q
   rcases hc with z | z
   ·rw [z]; exact nit b u e
   ·exact nit c _ z
end
def vd (b:Nw) (K:PySem.W.Frag) (H:Hp) (a:Nl) (xs:List V):Prop:=match b with | true=>jW K H a xs | false=>mB K H a xs
def HF (b:Nw) (it l:Nl) (k:Nat) (h:Nt):Prop:=match b with | true=>h.IsListIter it l k | false=>h.IsTupleIter it l k
def sqB (b:Nw) (l:Nl) (xs:Nv Nk) (h:Nt):Prop:=match b with | true=>h.IsList l xs | false=>h.IsTuple l xs
def Lp (b:Nw):Ny:=match b with | true=>"list_iterator" | false=>"tuple_iterator"
theorem cX {P:Np} {w:Nr} (b:Nw) (it l:Nl):iN P w it l (HF b it l) (sqB b l):=match b with | true=>iN.list it l | false=>iN.tuple it l
theorem y7 (b:Nw) (l:Nl):iD l (Lp b) (sqB b l):=match b with | true=>iD.list l | false=>iD.tuple l
theorem yL {b:Nw} {it l:Nl} {h:Nt} (e:h.get? it=some {cls:=.type (Lp b),data:=.fields #[.ref l,.int 0 0]}):HF b it l 0 h:=match b,e with | true,e=>⟨_,e,rfl,rfl⟩ | false,e=>⟨_,e,rfl,rfl⟩
section
variable {X:Cx} {NA:List (Nl×Nz)} {σ:St} {H:Hp} {s:Nj} {a:Nl} {xs ys:List V} {b:Nw}
theorem aI.sqB (I:aI X NA σ H s) (h:vd b X.K H a xs):∃ its:List Nk,bA xs its/\L2.sqB b a its.toArray s.heap:=by
 cases b with
 | true=>obtain⟨its,r,p,_⟩:=I.list h; exact⟨its,r,p.isList⟩
 | false=>obtain⟨its,r,p,_⟩:=I.tuple h; exact⟨its,r,p⟩
theorem aI.sqB_inj (I:aI X NA σ H s) (h:vd b X.K H a xs) (h':vd b X.K H a ys):xs=ys:=by
 cases b with
 | true=>exact I.list_inj h h'
 | false=>exact I.tuple_inj h h'
theorem wd {its:Nv Nk} {h:Nt} (e:L2.sqB b a its h):a < h.objs.size:=by
 cases b with
 | true=>obtain⟨o,e,_⟩:=e; exact Mo e
 | false=>obtain⟨o,e,_⟩:=e; exact Mo e
end
def JH (K:PySem.W.Frag) (b1 b2:Nw) (a1 a2:Nl):It:=
 ⟨λi H => ∃ xs ys x y, vd b1 K H a1 xs ∧ vd b2 K H a2 ys ∧ xs[i]? = some x ∧ ys[i]? = some y,
  λi H v H'=>∃ T x y,v=.ref T/\H T=none/\H'=bL H T (.tup [x,y])/\∀ xs ys,vd b1 K H a1 xs->vd b2 K H a2 ys->xs[i]?=some x/\ys[i]?=some y,
  λi H=>∃ xs ys,vd b1 K H a1 xs/\vd b2 K H a2 ys/\(xs.length<=i\/ys.length<=i)⟩
def LL (b1 b2:Nw) (z TI TO i1 i2 a1 a2:Nl) (i:Nat) (h:Nt):Prop:=
 IsZip h z TI TO .none/\IsPair h TI (.ref i1) (.ref i2)/\(∃ a b,IsPair h TO a b)/\HF b1 i1 a1 i h/\HF b2 i2 a2 i h
theorem CO {P:Np} {w:Nr} {K:PySem.W.Frag} {es:List No} {k:Nat} {pos:Pos} (b1 b2:Nw) {z TI TO i1 i2 a1 a2:Nl} (D:ZipApart z TI TO i1 i2 a1 a2):
  zM P w K (.Tuple es k pos) (JH K b1 b2 a1 a2) [z,TI,TO,i1,i2] z (LL b1 b2 z TI TO i1 i2 a1 a2) where
 mem:=by simp
 obj:=λi h st b hb=>by
  obtain⟨hz,hTI,⟨x,y,hTO⟩,h1,h2⟩:=st;have hb':b=z\/b=TI\/b=TO\/b=i1\/b=i2:=by simpa using hb
  rcases hb' with rfl | rfl | rfl | rfl | rfl
  ·exact⟨_,hz,λv q=>by cases q⟩
  ·exact⟨_,hTI,λv q=>by cases q⟩
  ·exact⟨_,hTO,λv q=>by cases q⟩
  ·exact(cX (P:=P) (w:=w) b1 b a1).obj _ _ h1
  ·exact(cX (P:=P) (w:=w) b2 b a2).obj _ _ h2
 keep:=λi h h' st q=>by
  obtain⟨hz,hTI,⟨x,y,hTO⟩,h1,h2⟩:=st;exact⟨q z (by simp) _ hz,q TI (by simp) _ hTI,⟨x,y,q TO (by simp) _ hTO⟩,(cX (P:=P) (w:=w) b1 i1 a1).at_ _ _ _ h1 λo e=>q i1 (by simp) o e,(cX (P:=P) (w:=w) b2 i2 a2).at_ _ _ _ h2 λo e=>q i2 (by simp) o e⟩
 item:=by
  intro X hP hw hK hc i NA s σ H E I hf st hg;subst hP hw hK;obtain⟨xs,ys,x,y,q1,q2,hx,hy⟩:=hg;obtain⟨its,rv,p⟩:=I.sqB q1;obtain⟨jts,rw',p'⟩:=I.sqB q2;obtain⟨u,hu,ru⟩:=rv.get hx;obtain⟨u',hu',ru'⟩:=rw'.get hy;obtain⟨hz,hTI,⟨c,d,hTO⟩,h1,h2⟩:=st;have hn:H s.heap.objs.size=none:=I.hok.fresh (Mp _);have old:∀ b∈[z,TI,TO,i1,i2],b≠s.heap.objs.size:=λb hb e=>by
   have:∃ o,s.heap.get? b=some o:=by
    have hb':b=z\/b=TI\/b=TO\/b=i1\/b=i2:=by simpa using hb
    rcases hb' with rfl | rfl | rfl | rfl | rfl
    ·exact⟨_,hz⟩
    ·exact⟨_,hTI⟩
    ·exact⟨_,hTO⟩
    ·obtain⟨o,e,_⟩:=(cX (P:=X.prog) (w:=X.w) b1 b a1).obj _ _ h1; exact⟨o,e⟩
    ·obtain⟨o,e,_⟩:=(cX (P:=X.prog) (w:=X.w) b2 b a2).obj _ _ h2; exact⟨o,e⟩
   obtain⟨o,eo⟩:=this;exact absurd (Mo eo) (by rw [e]; exact Na _)
  refine re (cX b1 i1 a1) (cX b2 i2 a2) D hz hTI hTO h1 h2 p p' (x:=u) (y:=u') (by simpa using hu) (by simpa using hu') λh' c1 c2 c3 c4 c5 c6 c7=>?_
  have I1:aI X NA σ (bL H s.heap.objs.size (.tup [x,y])) {s with heap:=h'}:=I.turnedNew (t':=s.toks) [z,TO,i1,i2] (λb o hb e=>c7 b o (λq=>hb (by simp [q])) (λq=>hb (by simp [q])) (λq=>hb (by simp [q])) (λq=>hb (by simp [q])) e)
   (λb hb=>hf b (by rcases(by simpa using hb:b=z\/b=TO\/b=i1\/b=i2) with rfl | rfl | rfl | rfl <;> simp)) (Mp _) ⟨MF rfl,[u,u'],.cons ru (.cons ru' .nil),⟨_,c5,rfl,_,rfl⟩⟩
  refine⟨_,rfl,wpAny_letOwnedTupleGo_zip (s:={s with heap:=h'}) c1 λh2' g1 g2=>?_⟩
  refine⟨.ref s.heap.objs.size,bL H s.heap.objs.size (.tup [x,y]),?_,rfl,⟨_,x,y,rfl,hn,rfl,λxs' ys' e1 e2=>by rw [I.sqB_inj e1 q1,I.sqB_inj e2 q2]; exact⟨hx,hy⟩⟩,?_,λb hb=>?_⟩
  ·refine I1.turnedL (t':=s.toks) [z] (λb o hb e=>g2.extBut _ _ (λq=>hb (by simp [q])) e) λb hb=>?_
   have e:b=z:=by simpa using hb
   subst e;obtain⟨f0,f1,f2,f3,f4,f5⟩:=hf b (by simp)
   exact⟨by rw [aF (old b (by simp))]; exact f0,f1,f2,f3,f4,f5⟩
  ·exact⟨g1,g2.extBut _ _ D.TIz (c7 _ _ D.TIz D.TITO D.TIi1 D.TIi2 hTI),⟨_,_,g2.extBut _ _ D.TOz c2⟩,(cX (P:=X.prog) (w:=X.w) b1 i1 a1).at_ _ _ _ c3 λo e=>g2.extBut _ _ D.i1z e,(cX (P:=X.prog) (w:=X.w) b2 i2 a2).at_ _ _ _ c4 λo e=>g2.extBut _ _ D.i2z e⟩
  ·rw [aF (old b hb)];exact(hf b hb).1
 done:=by
  intro X hP hw hK hc i NA s σ H E I hf st hg;subst hP hw hK;obtain⟨xs,ys,q1,q2,hx⟩:=hg;obtain⟨its,rv,p⟩:=I.sqB q1;obtain⟨jts,rw',p'⟩:=I.sqB q2;obtain⟨hz,hTI,⟨c,d,hTO⟩,h1,h2⟩:=st;have l1:=rv.length;have l2:=rw'.length;refine sP (cX b1 i1 a1) (cX b2 i2 a2) (I.ok.hd hc) D hz hTI hTO h1 h2 p p' (hx.imp (λhx=>by simp; omega) (λhx=>by simp; omega)) λh' kk=>⟨rfl,I.turnedL (t':=s.toks) [z,TO,i1,i2] (λb o hb e=>kk b o (λq=>hb (by simp [q])) (λq=>hb (by simp [q])) (λq=>hb (by simp [q])) (λq=>hb (by simp [q])) e) λb hb=>hf b ?_⟩
  have hb':b=z\/b=TO\/b=i1\/b=i2:=by simpa using hb
  rcases hb' with rfl | rfl | rfl | rfl <;> simp
 self:=λ_ _ _ _ _ st h=>wpAny_pyIter_zip st.1 h
theorem F9 (n l1 l2:Nat) (h1:l1 < n) (h2:l2 < n):ZipApart (n+4) (n+2) (n+3) n (n+1) l1 l2:=by
 constructor <;> (intro e; simp only [Addr] at e; omega)
def KR (K:PySem.W.Frag) (ta:TA):TI:=fun σ H R=>ta σ H λvs H1=>∃ a1 a2 b1 b2,vs=[.ref a1,.ref a2]/\(∃ xs,vd b1 K H1 a1 xs)/\(∃ ys,vd b2 K H1 a2 ys)/\R (JH K b1 b2 a1 a2) H1
theorem BQ {X:Cx} {a b:No} {ta:TA} {p pos tp:Pos} {es:List No} {k:Nat} (hg:Gl X "zip") (hm:X.mg "zip"=none) (ha:PA X [a,b] ta) (hs:starEach [a,b] X.env=[(false,eval a X.env),(false,eval b X.env)]:=by rfl) (hs2:starEach [b] X.env=[(false,eval b X.env)]:=by rfl):
  PI X (.Tuple es k tp) (.Call (.Name "zip" p) [a,b] [] pos) (KR X.K ta):=by
 intro NA s σ H R I h;refine Call_ (qx I hg hm boot_zip (PyProof.Rows.callWith_type1 (cu (ha pos NA s σ H _ I h) λus s1 ⟨vs,H1,I1,r1,q1⟩=>?_) (by rw [hs,hs2]) (by rw [hs2]; rfl)))
 obtain⟨a1,a2,b1,b2,e,⟨xs,e1⟩,⟨ys,e2⟩,q⟩:=q1;subst e;cases r1 with
 | cons r rr=>
  cases rr with
  | cons r' rr=>
   cases rr;cases r;cases r';obtain⟨its,rv,p1⟩:=I1.sqB e1;obtain⟨jts,rw',p2⟩:=I1.sqB e2;refine CM (y7 b1 a1) (y7 b2 a2) p1 p2 λh' c1 c2 c3 c4 c5 c6=>?_
   refine wpAny_pyIter_zip (s:={s1 with heap:=h'}) c1 ?_
   have fr:∀ j,H1 (s1.heap.objs.size+j)=none:=λj=>I1.hok.fresh (Nat.le_add_right _ _)
   refine⟨_,[s1.heap.objs.size+4,s1.heap.objs.size+2,s1.heap.objs.size+3,s1.heap.objs.size,s1.heap.objs.size+1],_,_,H1,rfl,I1.kept (t':=s1.toks) c6,CO b1 b2 (F9 _ _ _ (wd p1) (wd p2)),⟨c1,c2,⟨_,_,c3⟩,yL c4,yL c5⟩,λb hb=>?_,q⟩
   have hb':b=s1.heap.objs.size+4\/b=s1.heap.objs.size+2\/b=s1.heap.objs.size+3\/b=s1.heap.objs.size\/b=s1.heap.objs.size+1:=by simpa using hb
   rcases hb' with rfl | rfl | rfl | rfl | rfl
   ·exact I1.fpOk (Nat.le_add_right _ _) (fr 4)
   ·exact I1.fpOk (Nat.le_add_right _ _) (fr 2)
   ·exact I1.fpOk (Nat.le_add_right _ _) (fr 3)
   ·exact I1.fpOk (Mp _) (fr 0)
   ·exact I1.fpOk (Nat.le_add_right _ _) (fr 1)
end L2
namespace DL
open PySem PySem.Spec PyProof.Rows L2
section
variable {K:Fg} {ok:DH->Prop} {gg:DG} {ge:DE} {k:DK} {ds:List D} {L:Lo} {S:DH} {σ:L2.St} {H:Hp} {J:It} {p:Nl} {Q:V->Hp->Prop}
theorem x8 (hL:Lc K H L σ) (hS:Hs K H S) (hp:H p=none) (h:dH ok p gg (lU ge) k ds [] L (put S p (.lst [])))
  (n:∀ d S' v H',k d S'->Kp H H'->Hs K H' S'->cK K H' d v->Q v H')
  (hgo:∀ i d S1 H1,ds[i]?=some d->Kp H H1->Hs K H1 S1->ok S1->J.go i H1/\∀ x H',J.yld i H1 x H'->Kp H1 H'/\Hs K H' S1/\cK K H' d x)
  (hst:∀ S1 H1,Kp H H1->Hs K H1 S1->ok S1->J.stop ds.length H1):
  ∃ W:Nat->Nat->L2.St->Hp->Prop,(∃ m,W 0 m σ (bL H p (.lst [])))/\∀ i m σ' H',W i m σ' H'->
   (J.stop i H'/\Q (.ref p) H')\/(J.go i H'/\∃ N:L2.St->Hp->Prop,(∀ σ2 H2,N σ2 H2->∃ m',m' < m/\W (i+1) m' σ2 H2)/\∀ x H2,J.yld i H' x H2->H9 K gg x σ' H2 fun σ3 H3=>up K ge σ3 H3 λv H4=>∃ ys,H4 p=some (.lst ys)/\ys.length < sizeLine/\N σ3 (bL H4 p (.lst (ys++[v])))):=by
 refine⟨λi m σ1 H1=>m=ds.length - i/\i<=ds.length/\∃ acc L1 S1,Lc K H1 L1 σ1/\Hs K H1 S1/\Kp H H1/\dH ok p gg (lU ge) k (ds.drop i) acc L1 S1,⟨ds.length,by simp,M_ _,[],L,_,hL.kp (Kp.new hp),hS.newL hp IsDs.nil,Kp.new hp,h⟩,?_⟩
 rintro i m σ1 H1 ⟨rfl,hi,acc,L1,S1,hL1,hS1,k1,w1⟩
 by_cases hlt:i < ds.length
 ·have e:ds.drop i=ds[i]::ds.drop (i+1):=M8 hlt;rw [e] at w1;obtain⟨o1,w1⟩:=w1;obtain⟨g1,y1⟩:=hgo i ds[i] S1 H1 (by simp [hlt]) k1 hS1 o1
  refine .inr ⟨g1,fun σ' H'=>i+1<=ds.length/\∃ acc L' S',Lc K H' L' σ'/\Hs K H' S'/\Kp H H'/\dH ok p gg (lU ge) k (ds.drop (i+1)) acc L' S',fun σ' H' z9=>by obtain⟨q1,q2⟩:=z9; exact⟨ds.length - (i+1),by omega,rfl,q1,q2⟩,λx H' y=>?_⟩
  obtain⟨k0,hS0,ix⟩:=y1 x H' y;refine⟨ds[i],L1,S1,_,ix,hL1.kp k0,hS0,w1,λL2 S2 σ2 H2 q k2 hL2 hS2=>up.go hL2 hS2 q λd S3 v H3 h3 k3 hL3 hS3 i3=>?_⟩
  obtain⟨z1,z2,z3⟩:=h3;obtain⟨xs,hl,j⟩:=hS3.lst z1;have k4:Kp H3 (bL H3 p (.lst (xs++[v]))):=Kp.mut hl (λz=>z)
  exact⟨xs,hl,by rw [<- j.length]; exact z2,hlt,_,L2,_,hL3.kp k4,hS3.setL hl (j.append (IsDs.cons i3 IsDs.nil)),(((k1.trans k0).trans k2).trans k3).trans k4,z3⟩
 ·have e:i=ds.length:=by omega
  subst e;rw [List.drop_length] at w1;obtain⟨o1,w1⟩:=w1;exact .inl ⟨hst S1 H1 k1 hS1 o1,n _ S1 _ H1 w1 k1 hS1 (cf.mpr rfl)⟩
end
theorem qg {K:Fg} {S1:DH} {H1:Hp} {d:D} {v:V} {p:List D×Nm Nl} (hS1:Hs K H1 S1) (i1:cK K H1 d v) (hp:aS S1 d=some p):∃ a b,v=.ref a/\
  (∃ xs,vd b K H1 a xs)/\∀ S2 H2,Kp H1 H2->Hs K H2 S2->dG p S2->∃ xs,vd b K H2 a xs/\IsDs K H2 p.1 xs:=by
 cases d with
 | tup ds=>
  cases hp;obtain⟨a,xs,rfl,t,j⟩:=cF.mp i1;exact⟨a,false,rfl,⟨xs,t⟩,λS2 H2 k2 _ _=>⟨xs,k2.tup t,j.kp k2⟩⟩
 | rl ds=>
  cases hp;obtain⟨a,xs,rfl,t,j⟩:=wM.mp i1;exact⟨a,true,rfl,⟨xs,t.sq⟩,λS2 H2 k2 _ _=>⟨xs,(k2.fro t).sq,j.kp k2⟩⟩
 | ref a=>
  have e1:=cf.mp i1;subst e1;cases z:S1 a with
  | none=>simp only [aS,z] at hp; cases hp
  | some o=>
   cases o with
   | dic=>simp only [aS,z] at hp; cases hp
   | exc _=>simp only [aS,z] at hp; cases hp
   | fn _=>simp only [aS,z] at hp; cases hp
   | tbl _=>simp only [aS,z] at hp; cases hp
   | gen _=>simp only [aS,z] at hp; cases hp
   | lst ds=>
    simp only [aS,z] at hp;cases hp;obtain⟨xs,hl,j⟩:=hS1.lst z;refine⟨a,true,rfl,⟨xs,jW.of hl⟩,λS2 H2 k2 hS2 o2=>?_⟩
    obtain⟨ys,hl2,j2⟩:=hS2.lst o2;exact⟨ys,jW.of hl2,j2⟩
 | _=>cases hp
def tX (xs ys:List D):List D:=List.zipWith (λa b=>D.tup [a,b]) xs ys
def GU (cap:List (Nm Nat)) (ta:DA) (g:DG) (bd:DB):DE:=λL S k=>ta L S λds S1=>match ds with
 | [d1,d2]=>∃ q1 q2,aS S1 d1=some q1/\aS S1 d2=some q2/\∀ p,S1 p=none->dH (λS=>dG q1 S/\dG q2 S) p g bd k (tX q1.1 q2.1) [] (tN cap L) (put S1 p (.lst []))
 | _=>False
section
variable {X:Cx} {elt a b:No} {es:List No} {kt:Nat} {tp:Pos} {scope:Scope} {cl:List (Str×Nl)} {N:List Str} {cap:List (Nm Nat)} {pos p pos':Pos} {gg:DG} {ge:DE} {ta:DA}
theorem B_ (hc:X.calm=true) (Sc:fV X scope cl N cap) (hgl:Gl X "zip") (hm:X.mg "zip"=none) (ha:AJ X [a,b] ta) (hg:∀ s0 H0 ex C,GJ (gQ X scope cl N s0 H0 ex C) (.Tuple es kt tp) gg) (he:∀ s0 H0 ex C,EJ (gQ X scope cl N s0 H0 ex C) elt ge)
  (hs1:starEach [a,b] X.env=[(false,eval a X.env),(false,eval b X.env)]:=by rfl) (hs2:starEach [b] X.env=[(false,eval b X.env)]:=by rfl) (hs:∀ x,foldedSetIterable (.Call (.Name "zip" p) [a,b] [] pos') X.env x=pure x:=by intro _; rfl):
  EJ X (.ListComp elt [⟨.Tuple es kt tp,.Call (.Name "zip" p) [a,b] [] pos',[],0⟩] scope pos) (GU cap ta gg (lU ge)):=
 ⟨PE.imp (ES hc Sc (BQ hgl hm ha.h hs1 hs2) (λs0 H0 ex C=>(hg s0 H0 ex C).h) (λs0 H0 ex C=>(he s0 H0 ex C).h) hs) fun σ H Q ⟨L,S,k,hL,hS,h,n⟩=>qR.go hL hS h λds S1 vs H1 h1 k1 hL1 hS1 i1=>by
  split at h1
  ·rename_i d1 d2
   obtain⟨v1,v2,rfl,j1,j2⟩:∃ v1 v2,vs=[v1,v2]/\cK X.K H1 d1 v1/\cK X.K H1 d2 v2:=pb i1;obtain⟨q1,q2,e1,e2,h1⟩:=h1;obtain⟨a1,b1,rfl,x1,y1⟩:=qg hS1 j1 e1;obtain⟨a2,b2,rfl,x2,y2⟩:=qg hS1 j2 e2;refine⟨a1,a2,b1,b2,rfl,x1,x2,λpa hD=>x8 (hL1.cap cap) hS1 hD (h1 pa (hS1.free hD)) (λd S' v H' q k3=>n d S' v H' q (k1.trans k3)) (λi c S2 H2 e k2 hS2 o2=>?_) λS2 H2 k2 hS2 o2=>?_⟩
   ·obtain⟨xs,w1,u1⟩:=y1 S2 H2 k2 hS2 o2.1;obtain⟨ys,w2,u2⟩:=y2 S2 H2 k2 hS2 o2.2;obtain⟨c1,c2,f1,f2,rfl⟩:∃ c1 c2,q1.1[i]?=some c1/\q2.1[i]?=some c2/\D.tup [c1,c2]=c:=by
     unfold tX at e;rw [List.getElem?_zipWith] at e;cases z1:q1.1[i]? with
     | none=>rw [z1] at e; cases e
     | some c1=>
      cases z2:q2.1[i]? with
      | none=>rw [z1,z2] at e; cases e
      | some c2=>rw [z1,z2] at e; exact⟨c1,c2,rfl,rfl,MT e⟩
    obtain⟨v1,g1,r1⟩:=u1.get f1;obtain⟨v2,g2,r2⟩:=u2.get f2;refine⟨⟨xs,ys,v1,v2,w1,w2,g1,g2⟩,?_⟩;rintro x H' ⟨T,x',y',rfl,hT,rfl,al⟩;obtain⟨l1,l2⟩:=al xs ys w1 w2;rw [g1] at l1;rw [g2] at l2;cases l1;cases l2;have kn:Kp H2 (bL H2 T (.tup [v1,v2])):=Kp.new hT;exact⟨kn,hS2.new hT,cF.mpr ⟨T,[v1,v2],rfl,mB.of bp,IsDs.cons (r1.kp kn) (IsDs.cons (r2.kp kn) IsDs.nil)⟩⟩
   ·obtain⟨xs,w1,u1⟩:=y1 S2 H2 k2 hS2 o2.1;obtain⟨ys,w2,u2⟩:=y2 S2 H2 k2 hS2 o2.2;refine⟨xs,ys,w1,w2,?_⟩;rw [<- u1.length,<- u2.length];unfold tX;rw [List.length_zipWith];omega
  ·exact h1.elim⟩
end
theorem xf {K:Fg} {H:Hp}:∀ {bs:List Nw} {xs:List V},IsDs K H (bs.map D.bl) xs->xs=bs.map V.bl
 | [],_,h=>jS.mp h
 | b::bs,_,h=>by
  obtain⟨v,r,rfl,h1,h2⟩:=dI.mp h;rw [ce.mp h1,xf h2]
  rfl
theorem wB:∀ {bs:List Nw} {us:List Nk},bA (bs.map V.bl) us->us=bs.map Value.bool
 | [],_,.nil=>rfl
 | b::bs,_,.cons r t=>by
  cases r;rw [wB t]
  rfl
theorem qr:∀ (bs:List Nw),(List.range bs.length).all (λi=>bs.getD i true)=bs.all id
 | []=>rfl
 | b::bs=>by
  rw [MB,List.range_succ_eq_map,List.all_cons,List.all_map,List.all_cons];exact congrArg (b && ·) (qr bs)
theorem wo {S:DH} {d:D} {q:List D×Nm Nl} (h:aS S d=some q):dG q S:=by
 cases d with
 | tup ds=>cases h; trivial
 | rl ds=>cases h; trivial
 | ref a=>
  simp only [aS] at h
  split at h
  ·rename_i z; cases h; exact z
  ·cases h
 | _=>cases h
def FI:cr:=λds S k=>match ds with
 | [d]=>∃ (q:List D×Nm Nl) (bs:List Nw),aS S d=some q/\q.1=bs.map D.bl/\k (.bl (bs.all id)) S
 | _=>False
theorem GE {X:Cx} (hc:X.calm=true:=by rfl):dZ X (.builtin "all") (wt X.K FI):=by
 intro NA s σ H xs us Q I rs h;obtain⟨ds,S,k,i,hS,r,n⟩:=h;unfold FI at r
 split at r
 ·obtain⟨x,rfl,i1⟩:=iH i;obtain⟨q,bs,e1,e2,r⟩:=r;obtain⟨a,b,rfl,_,y⟩:=qg hS i1 e1;obtain⟨vs,w1,w2⟩:=y S H (Kp.refl H) hS (wo e1);rw [e2] at w2;have ev:=xf w2;subst ev;obtain⟨its,rv,p⟩:=I.sqB w1;have ei:=wB rv;subst ei;cases rs with
  | cons r0 rr=>
   cases rr;cases r0;have hh:X.A.in1.handled=none:=I.ok.hd hc;have hlt:=wd p;have fin:∀ (nm:Ny) (h':Nt) (tk:Nat),(∀ c o,c∉[s.heap.objs.size]->(s.heap.push {cls:=.type nm,data:=.fields #[.ref a,.int 0 0]}).get? c=some o->h'.get? c=some o)->
     EP X NA σ Q (.bool (bs.all id)) {s with heap:=h',toks:=tk}:=λnm h' tk kk=>by
    have I1:aI X NA σ H {s with heap:=s.heap.push {cls:=.type nm,data:=.fields #[.ref a,.int 0 0]}}:=I.kept (t':=s.toks) λc o e=>Mk _ e
    refine⟨.bl (bs.all id),H,aI.turnedL (s:={s with heap:=s.heap.push {cls:=.type nm,data:=.fields #[.ref a,.int 0 0]}}) (t':=tk) [s.heap.objs.size] I1 kk (λc hc=>?_),rfl,n _ _ _ _ r (Kp.refl H) hS (ce.mpr rfl)⟩
    have e:c=s.heap.objs.size:=by simpa using hc
    subst e;exact I.fpOk (Mp _) (I.hok.fresh (Mp _))
   have len:(bs.map Value.bool).toArray.size=bs.length:=by simp
   have tr:∀ A',TruthOf X.prog X.w A' (λi v=>(bs.map Value.bool).toArray[i]?=some v) (λi=>bs.getD i true):=λA' i v s' Q' E' hP hQ=>by
    have hP':(bs[i]?).map Value.bool=some v:=by simpa using hP
    cases z:bs[i]? with
    | none=>rw [z] at hP'; cases hP'
    | some c=>
     rw [z] at hP';cases hP';refine wpAny_truthy_bool ?_
     simpa [List.getD,z] using hQ
   refine call_all_walk ?_;cases b with
   | true=>
    refine wpAny_pyIter_list (show s.heap.IsList a _ from p) ?_
    refine⟨s.heap.objs.size,_,_,_,_,_,_,rfl,Walks.list hh s.heap.objs.size a (Mu hlt) (bs.map Value.bool).toArray,⟨⟨_,Mm _ rfl,rfl,rfl⟩,Heap.IsList.at p λo e=>Mk _ e⟩,tr _,λh' tk kk=>?_⟩
    rw [len,qr];exact fin _ h' tk kk
   | false=>
    refine wpAny_pyIter_tuple (show s.heap.IsTuple a _ from p) ?_
    refine⟨s.heap.objs.size,_,_,_,_,_,_,rfl,Walks.tuple hh s.heap.objs.size a (Mu hlt) (bs.map Value.bool).toArray,⟨⟨_,Mm _ rfl,rfl,rfl⟩,Heap.IsTuple.at p λo e=>Mk _ e⟩,tr _,λh' tk kk=>?_⟩
    rw [len,qr];exact fin _ h' tk kk
 ·exact r.elim
theorem CB {X:Cx} {NA:List (Nl×Nz)} {σ:L2.St} {H:Hp} {s:Nj} {S:DH} {d:D} {x:V} {u:Nk} {t:Ty} (I:aI X NA σ H s) (hS:Hs X.K H S) (i:cK X.K H d x) (r:bz x u) (h:Fc S d=some t):
  ∃ Hh:Nt->Prop,PySem.W.KitX X.K u (.type t.name) Hh/\Hh s.heap/\u≠.builtin "__main__.__loader__#opaque":=by
 cases d with
 | non=>cases h; rw [du.mp i] at r; cases (show u=Value.none from r); exact⟨_,PySem.W.kitx_none,True.intro,λz=>nomatch z⟩
 | bl b=>cases h; rw [ce.mp i] at r; cases (show u=Value.bool b from r); exact⟨_,PySem.W.kitx_bool,True.intro,λz=>nomatch z⟩
 | int b=>cases h; rw [isInt.mp i] at r; obtain⟨tk,q⟩:=(show ∃ t,u=Value.int b t from r); cases q; exact⟨_,PySem.W.kitx_int,True.intro,λz=>nomatch z⟩
 | str b=>cases h; rw [i7.mp i] at r; obtain⟨tk,q⟩:=(show ∃ t,u=Value.str b t from r); cases q; exact⟨_,PySem.W.kitx_str,True.intro,λz=>nomatch z⟩
 | tup ds=>
  cases h;obtain⟨a,vs,rfl,q,_⟩:=cF.mp i;cases (show u=Value.ref a from r)
  obtain⟨its,_,⟨o,h1,h2,_⟩,_⟩:=I.tuple q;exact⟨_,PySem.W.kitx_tuple,⟨o,h1,h2⟩,λz=>nomatch z⟩
 | rl ds=>cases h
 | ty n=>cases h
 | ref a=>
  rw [cf.mp i] at r;cases (show u=Value.ref a from r)
  have h:HY (S a)=some t:=h;cases z:S a with
  | none=>rw [z] at h; cases h
  | some o=>
   rw [z] at h;cases o with
   | lst ds=>
    cases h;obtain⟨vs,e,_⟩:=hS.lst z;obtain⟨its,_,⟨o,n,h1,h2,_⟩,_⟩:=I.list (jW.of e);exact⟨_,PySem.W.kitx_list,⟨o,h1,h2⟩,λz=>nomatch z⟩
   | dic=>
    cases h;obtain⟨vs,e⟩:=hS _ _ z;obtain⟨_,_,vs',_,p⟩:=(show dO X.prog X.w H s.heap a (.dK vs) from I.hok a _ e)
    obtain⟨o,es,ep,h1,h2,_⟩:=p;exact⟨_,PySem.W.kitx_dict,⟨o,h1,h2.1⟩,λz=>nomatch z⟩
   | exc _=>cases h
   | fn _=>cases h
   | tbl _=>cases h
   | gen _=>cases h
theorem uX {K:Fg} (t:Ty):∀ cs:List Ty,PySem.W.kitAny K (.type t.name) (cs.map λc=>.type c.name)=some (cs.any (xt t))
 | []=>rfl
 | c::r=>by
  have ih:=uX (K:=K) t r;rw [List.map_cons,PySem.W.kitAny,Cz];cases z:xt t c with
  | true=>simp [z]
  | false=>simp only [List.any_cons,z,Bool.false_or]; exact ih
theorem wC {K:Fg} {H:Hp}:∀ {cs:List Ty} {xs:List V},IsDs K H (cs.map D.ty) xs->xs=cs.map λc=>V.ty c.name
 | [],_,h=>jS.mp h
 | b::bs,_,h=>by
  obtain⟨v,r,rfl,h1,h2⟩:=dI.mp h;rw [C8.mp h1,wC h2]
  rfl
theorem wV:∀ {cs:List Ty} {us:List Nk},bA (cs.map λc=>V.ty c.name) us->us=cs.map λc=>Value.type c.name
 | [],_,.nil=>rfl
 | b::bs,_,.cons r t=>by
  cases r;rw [wV t]
  rfl
def FE:cr:=λds S k=>match ds with
 | [d,.ty c]=>∃ t,Fc S d=some t/\k (.bl (xt t c)) S
 | [d,.tup cs]=>∃ (t:Ty) (ts:List Ty),Fc S d=some t/\cs=ts.map D.ty/\k (.bl (ts.any (xt t))) S
 | _=>False
theorem nE {X:Cx}:dZ X (.builtin "isinstance") (wt X.K FE):=by
 intro NA s σ H xs us Q I rs h;obtain⟨ds,S,k,i,hS,r,n⟩:=h;unfold FE at r
 split at r
 ·rename_i d c
  obtain⟨t,ht,r⟩:=r;obtain⟨x,y,rfl,i1,i2⟩:=pb i;have e2:=C8.mp i2;subst e2;obtain⟨u,w',rfl,r1,r2⟩:=uG rs;cases (show w'=Value.type c.name from r2)
  obtain⟨Hh,kx,p,nb⟩:=CB I hS i1 r1 ht;exact PySem.W.kia_one kx I.kIn p (Cz t c) nb λtk=>⟨.bl (xt t c),H,I.tok tk,rfl,n _ _ _ _ r (Kp.refl H) hS (ce.mpr rfl)⟩
 ·rename_i d cs
  obtain⟨t,ts,ht,rfl,r⟩:=r;obtain⟨x,y,rfl,i1,i2⟩:=pb i;obtain⟨a,vs,rfl,q,j⟩:=cF.mp i2;have ev:=wC j;subst ev;obtain⟨u,w',rfl,r1,r2⟩:=uG rs;cases (show w'=Value.ref a from r2)
  obtain⟨Hh,kx,p,nb⟩:=CB I hS i1 r1 ht;obtain⟨its,rv,⟨o,h1,h2,m,h3⟩,_⟩:=I.tuple q;have ei:=wV rv;subst ei;obtain⟨oc,od,odt,os⟩:=o;cases h2;cases h3;exact PySem.W.kia_tup kx I.kIn p h1 (uX t ts) nb λtk=>⟨.bl (ts.any (xt t)),H,I.tok tk,rfl,n _ _ _ _ r (Kp.refl H) hS (ce.mpr rfl)⟩
 ·exact r.elim
section
variable {X:Cx} {o e a b c:No} {go ge ga gb gc:DE} {apos cpos pos:Pos}
def KH (go ge:DE):DE:=λL S k=>go L S λd S1=>match d with
 | .ref a=>(∃ ds,S1 a=some (.lst ds))/\ge L S1 λe S2=>∃ ds,S2 a=some (.lst ds)/\ds.length < sizeLine/\k .non (put S2 a (.lst (ds++[e])))
 | _=>False
theorem eH (ho:EJ X o go) (he:EJ X e ge) (hbase:attributeBase o "append" X.env (eval o X.env)=eval o X.env:=by rfl)
  (hfew:((backTo cpos (starEach [e] X.env)).all (λx=>!x.1) && (backToKw cpos (keywordEach [] X.env)).all (λx=>x.1.isSome) && decide ([e].length+([]:List Keyword).length+(if ([]:List Keyword).isEmpty then 0 else 1) < 30))=true:=by rfl)
  (hline:(apos.endLine == cpos.line)=true:=by rfl) (hs:starEach [e] X.env=(false,eval e X.env)::starEach [] X.env:=by rfl) (hpl:(backTo cpos (starEach [] X.env)).any (·.1)=false:=by rfl):
  EJ X (.Call (.Attribute o "append" apos) [e] [] cpos) (KH go ge):=
 ⟨PE.imp (Fk PySem.F.plainAttrs_list PySem.F.slot_list_append PySem.F.type_list_append jE ho.h (vh he.h xO hs) hbase hfew hline hs hpl) fun σ H Q ⟨L,S,k,hL,hS,h,n⟩=>up.go hL hS h λd S1 v H1 h1 k1 hL1 hS1 i1=>by
  cases d with
  | ref a=>
   have e1:=cf.mp i1;subst e1;obtain⟨⟨ds1,z1⟩,h1⟩:=h1;obtain⟨xs1,hl1,_⟩:=hS1.lst z1;refine⟨.inl ⟨rfl,xs1,jW.of hl1⟩,up.go hL1 hS1 h1 λd2 S2 v2 H2 h2 k2 hL2 hS2 i2=>?_⟩
   obtain⟨ds,z,hz,w⟩:=h2;obtain⟨xs,hl,j⟩:=hS2.lst z;have k3:Kp H2 (bL H2 a (.lst (xs++[v2]))):=Kp.mut hl (λz=>z)
   exact⟨a,xs,v2,rfl,rfl,hl,by rw [<- j.length]; exact hz,n _ _ _ _ w (k1.trans (k2.trans k3)) (hS2.setL hl (j.append (IsDs.cons i2 IsDs.nil))) (du.mpr rfl)⟩
  | _=>exact(show False from h1).elim⟩
def Lk (go ge:DE):DE:=λL S k=>go L S λd S1=>match d with
 | .ref a=>(∃ ds,S1 a=some (.lst ds))/\ge L S1 λe S2=>match e with
  | .ref b=>∃ ds es,S2 a=some (.lst ds)/\S2 b=some (.lst es)/\ds.length+es.length<=sizeLine/\k .non (put S2 a (.lst (ds++es)))
  | _=>False
 | _=>False
theorem Cw (ho:EJ X o go) (he:EJ X e ge) (hbase:attributeBase o "extend" X.env (eval o X.env)=eval o X.env:=by rfl)
  (hfew:((backTo cpos (starEach [e] X.env)).all (λx=>!x.1) && (backToKw cpos (keywordEach [] X.env)).all (λx=>x.1.isSome) && decide ([e].length+([]:List Keyword).length+(if ([]:List Keyword).isEmpty then 0 else 1) < 30))=true:=by rfl)
  (hline:(apos.endLine == cpos.line)=true:=by rfl) (hs:starEach [e] X.env=(false,eval e X.env)::starEach [] X.env:=by rfl) (hpl:(backTo cpos (starEach [] X.env)).any (·.1)=false:=by rfl):
  EJ X (.Call (.Attribute o "extend" apos) [e] [] cpos) (Lk go ge):=
 ⟨PE.imp (Fk PySem.F.plainAttrs_list PySem.F.slot_list_extend PySem.F.type_list_extend zW ho.h (vh he.h xO hs) hbase hfew hline hs hpl) fun σ H Q ⟨L,S,k,hL,hS,h,n⟩=>up.go hL hS h λd S1 v H1 h1 k1 hL1 hS1 i1=>by
  cases d with
  | ref a=>
   have e1:=cf.mp i1;subst e1;obtain⟨⟨ds1,z1⟩,h1⟩:=h1;obtain⟨xs1,hl1,_⟩:=hS1.lst z1;refine⟨.inl ⟨rfl,xs1,jW.of hl1⟩,up.go hL1 hS1 h1 λd2 S2 v2 H2 h2 k2 hL2 hS2 i2=>?_⟩
   cases d2 with
   | ref b=>
    have e2:=cf.mp i2;subst e2;obtain⟨ds,es,z,y,hz,w⟩:=h2;obtain⟨xs,hl,j⟩:=hS2.lst z;obtain⟨ys,hm,i⟩:=hS2.lst y;have k3:Kp H2 (bL H2 a (.lst (xs++ys))):=Kp.mut hl (λz=>z)
    exact⟨a,b,xs,ys,rfl,rfl,hl,hm,by rw [<- j.length,<- i.length]; exact hz,n _ _ _ _ w (k1.trans (k2.trans k3)) (hS2.setL hl (j.append i)) (du.mpr rfl)⟩
   | _=>exact(show False from h2).elim
  | _=>exact(show False from h1).elim⟩
end
theorem u8 {K:Fg} {ok:DH->Prop} {gg:DG} {b:DS} {M:oY} {ds:List D} {L:Lo} {S:DH} {N:sT} {σ:L2.St} {H:Hp} {J:It} (hL:Lc K H L σ) (hS:Hs K H S) (h:hV ok gg b M ds L S) (r:wv K H M N)
  (hgo:∀ i d S1 H1,ds[i]?=some d->Kp H H1->Hs K H1 S1->ok S1->J.go i H1/\∀ x H',J.yld i H1 x H'->Kp H1 H'/\Hs K H' S1/\cK K H' d x)
  (hst:∀ S1 H1,Kp H H1->Hs K H1 S1->ok S1->J.stop ds.length H1):
  ∃ W:Nat->Nat->L2.St->Hp->Prop,(∃ m,W 0 m σ H)/\∀ i m σ H,W i m σ H->
   (J.stop i H/\N.nx σ H)\/(J.go i H/\∃ N':L2.St->Hp->Prop,(∀ σ' H',N' σ' H'->∃ m',m' < m/\W (i+1) m' σ' H')/\∀ x H',J.yld i H x H'->H9 K gg x σ H' fun σ2 H2=>Dq K b {N with nx:=N',ct:=N',bk:=N.nx} σ2 H2):=by
 refine⟨λi m σ1 H1=>m=ds.length - i/\i<=ds.length/\∃ L1 S1,Lc K H1 L1 σ1/\Hs K H1 S1/\Kp H H1/\hV ok gg b M (ds.drop i) L1 S1,⟨ds.length,by simp,M_ _,L,S,hL,hS,Kp.refl H,h⟩,?_⟩
 rintro i m σ1 H1 ⟨rfl,hi,L1,S1,hL1,hS1,k1,w1⟩
 by_cases hlt:i < ds.length
 ·have e:ds.drop i=ds[i]::ds.drop (i+1):=M8 hlt;rw [e] at w1;obtain⟨o1,w1⟩:=w1;obtain⟨g1,y1⟩:=hgo i ds[i] S1 H1 (by simp [hlt]) k1 hS1 o1
  refine .inr ⟨g1,fun σ' H'=>i+1<=ds.length/\∃ L' S',Lc K H' L' σ'/\Hs K H' S'/\Kp H H'/\hV ok gg b M (ds.drop (i+1)) L' S',fun σ' H' z9=>by obtain⟨q1,q2⟩:=z9; exact⟨ds.length - (i+1),by omega,rfl,q1,q2⟩,λx H' y=>?_⟩
  obtain⟨k0,hS0,ix⟩:=y1 x H' y;have k10:=k1.trans k0;refine⟨ds[i],L1,S1,_,ix,hL1.kp k0,hS0,w1,λL2 S2 σ2 H2 q k2 hL2 hS2=>⟨L2,S2,_,hL2,hS2,q,?_⟩⟩
  have r2:=r.kp (k10.trans k2);exact⟨λL3 S3 σ3 H3 q3 k3 hL3 hS3=>⟨hlt,L3,S3,hL3,hS3,(k10.trans k2).trans k3,q3⟩,r2.rt,r2.nx,λL3 S3 σ3 H3 q3 k3 hL3 hS3=>⟨hlt,L3,S3,hL3,hS3,(k10.trans k2).trans k3,q3⟩⟩
 ·have e:i=ds.length:=by omega
  subst e;rw [List.drop_length] at w1;obtain⟨o1,w1⟩:=w1;exact .inl ⟨hst S1 H1 k1 hS1 o1,r.nx L1 S1 σ1 H1 w1 k1 hL1 hS1⟩
theorem F' {K:Fg} {H1:Hp} {q1 q2:List D×Nm Nl} {a1 a2:Nl} {b1 b2:Nw} (y1:∀ S2 H2,Kp H1 H2->Hs K H2 S2->dG q1 S2->∃ xs,vd b1 K H2 a1 xs/\IsDs K H2 q1.1 xs) (y2:∀ S2 H2,Kp H1 H2->Hs K H2 S2->dG q2 S2->∃ xs,vd b2 K H2 a2 xs/\IsDs K H2 q2.1 xs):
  (∀ i d S2 H2,(tX q1.1 q2.1)[i]?=some d->Kp H1 H2->Hs K H2 S2->(dG q1 S2/\dG q2 S2)->(JH K b1 b2 a1 a2).go i H2/\∀ x H',(JH K b1 b2 a1 a2).yld i H2 x H'->Kp H2 H'/\Hs K H' S2/\cK K H' d x)/\
  ∀ S2 H2,Kp H1 H2->Hs K H2 S2->(dG q1 S2/\dG q2 S2)->(JH K b1 b2 a1 a2).stop (tX q1.1 q2.1).length H2:=by
 refine⟨λi c S2 H2 e k2 hS2 o2=>?_,λS2 H2 k2 hS2 o2=>?_⟩
 ·obtain⟨xs,w1,u1⟩:=y1 S2 H2 k2 hS2 o2.1;obtain⟨ys,w2,u2⟩:=y2 S2 H2 k2 hS2 o2.2;obtain⟨c1,c2,f1,f2,rfl⟩:∃ c1 c2,q1.1[i]?=some c1/\q2.1[i]?=some c2/\D.tup [c1,c2]=c:=by
   unfold tX at e;rw [List.getElem?_zipWith] at e;cases z1:q1.1[i]? with
   | none=>rw [z1] at e; cases e
   | some c1=>
    cases z2:q2.1[i]? with
    | none=>rw [z1,z2] at e; cases e
    | some c2=>rw [z1,z2] at e; exact⟨c1,c2,rfl,rfl,MT e⟩
  obtain⟨v1,g1,r1⟩:=u1.get f1;obtain⟨v2,g2,r2⟩:=u2.get f2;refine⟨⟨xs,ys,v1,v2,w1,w2,g1,g2⟩,?_⟩;rintro x H' ⟨T,x',y',rfl,hT,rfl,al⟩;obtain⟨l1,l2⟩:=al xs ys w1 w2;rw [g1] at l1;rw [g2] at l2;cases l1;cases l2;have kn:Kp H2 (bL H2 T (.tup [v1,v2])):=Kp.new hT;exact⟨kn,hS2.new hT,cF.mpr ⟨T,[v1,v2],rfl,mB.of bp,IsDs.cons (r1.kp kn) (IsDs.cons (r2.kp kn) IsDs.nil)⟩⟩
 ·obtain⟨xs,w1,u1⟩:=y1 S2 H2 k2 hS2 o2.1;obtain⟨ys,w2,u2⟩:=y2 S2 H2 k2 hS2 o2.2;refine⟨xs,ys,w1,w2,?_⟩;rw [<- u1.length,<- u2.length];unfold tX;rw [List.length_zipWith];omega
def IJ (ta:DA) (g:DG) (b:DS):DS:=λM L S=>ta L S λds S1=>match ds with
 | [d1,d2]=>∃ q1 q2,aS S1 d1=some q1/\aS S1 d2=some q2/\hV (λS=>dG q1 S/\dG q2 S) g b M (tX q1.1 q2.1) L S1
 | _=>False
section
variable {X:Cx} {a b:No} {es:List No} {kt:Nat} {tp p pos pos':Pos} {gg:DG} {ta:DA} {g:DS} {body:List Nu} {tg:No}
theorem zX (hp:PassesOwn (model X.prog X.w) X.A X.env X.xe) (hc:X.calm=true) (hgl:Gl X "zip") (hm:X.mg "zip"=none) (ha:AJ X [a,b] ta) (hg:GJ X (.Tuple es kt tp) gg) (hb:xz X body g)
  (hs1:starEach [a,b] X.env=[(false,eval a X.env),(false,eval b X.env)]:=by rfl) (hs2:starEach [b] X.env=[(false,eval b X.env)]:=by rfl) (hs:∀ x,foldedSetIterable (.Call (.Name "zip" p) [a,b] [] pos') X.env x=pure x:=by intro _; rfl):
  SJ X (.For (.Tuple es kt tp) (.Call (.Name "zip" p) [a,b] [] pos') body [] pos) (IJ ta gg g):=
 ⟨PS.imp (wl hp hc (BQ hgl hm ha.h hs1 hs2) hg.h hb.h hs) λN σ H ⟨L,S,M,hL,hS,h,r⟩=>qR.go hL hS h λds S1 vs H1 h1 k1 hL1 hS1 i1=>by
  split at h1
  ·rename_i d1 d2
   obtain⟨v1,v2,rfl,j1,j2⟩:=pb i1;obtain⟨q1,q2,e1,e2,h1⟩:=h1;obtain⟨a1,b1,rfl,x1,y1⟩:=qg hS1 j1 e1;obtain⟨a2,b2,rfl,x2,y2⟩:=qg hS1 j2 e2;obtain⟨z1,z2⟩:=F' y1 y2;exact⟨a1,a2,b1,b2,rfl,x1,x2,u8 hL1 hS1 h1 (r.kp k1) z1 z2⟩
  ·exact h1.elim⟩
end
section
variable {X:Cx} {o e:No} {go ge:DE} {apos cpos pos:Pos}
def Lm (go:DE):DE:=λL S k=>go L S λd S1=>match d with
 | .ref a=>∃ ds,S1 a=some (.lst ds)/\k .non (put S1 a (.lst []))
 | _=>False
theorem F2 (ho:EJ X o go) (hbase:attributeBase o "clear" X.env (eval o X.env)=eval o X.env:=by rfl) (hline:(apos.endLine == cpos.line)=true:=by rfl):EJ X (.Call (.Attribute o "clear" apos) [] [] cpos) (Lm go):=
 ⟨PE.imp (Bv PySem.F.plainAttrs_list PySem.F.slot_list_clear PySem.F.type_list_clear C7 ho.h hbase hline) fun σ H Q ⟨L,S,k,hL,hS,h,n⟩=>up.go hL hS h λd S1 v H1 h1 k1 hL1 hS1 i1=>by
  cases d with
  | ref a=>
   have e1:=cf.mp i1;subst e1;obtain⟨ds,z,w⟩:=h1;obtain⟨xs,hl,j⟩:=hS1.lst z;have k3:Kp H1 (bL H1 a (.lst [])):=Kp.mut hl (λz=>z)
   exact⟨.inl ⟨rfl,xs,jW.of hl⟩,a,xs,rfl,rfl,hl,n _ _ _ _ w (k1.trans k3) (hS1.setL hl IsDs.nil) (du.mpr rfl)⟩
  | _=>exact(show False from h1).elim⟩
end
section
variable {X:Cx} {pos:Pos}
def Ix (g:DE) (tl th:Ds):DE:=λL S k=>g L S λx S1=>tl L S1 λlo S2=>th L S2 λhi S3=>match x with
 | .tup xs=>¬ (HT.dX xs.length 0 lo=0/\HT.dX xs.length xs.length hi=xs.length)/\k (.tup (iU xs lo hi)) S3
 | .rl xs=>∀ p,S3 p=none->k (.ref p) (put S3 p (.lst (iU xs lo hi)))
 | .ref a=>∃ xs,S3 a=some (.lst xs)/\∀ p,S3 p=none->k (.ref p) (put S3 p (.lst (iU xs lo hi)))
 | _=>False
theorem rD {e:No} {g:DE} {lo hi:Nm No} {tl th:Ds} {p2 pos:Pos} (he:EJ X e g) (hl:OJ X lo tl) (hu:OJ X hi th):EJ X (.Subscript e (.Slice lo hi none p2) pos) (Ix g tl th):=
 ⟨PE.imp (tE (Du.or Cf yS) he.h hl.h hu.h) fun σ H Q ⟨L,S,k,hL,hS,h,n⟩=>up.go hL hS h λd S1 v H1 h1 k1 hL1 hS1 i1=>by
  refine⟨L,S1,_,hL1,hS1,h1,λlo' S2 H2 h2 k2 hS2=>⟨L,S2,_,hL1.kp k2,hS2,h2,λhi' S3 H3 h3 k3 hS3=>?_⟩⟩
  cases d with
  | tup xs=>
   obtain⟨a,vs,rfl,t,j⟩:=cF.mp i1;have j3:=j.kp (k2.trans k3);refine .inl ⟨a,vs,rfl,(k2.trans k3).tup t,by rw [<- j.length]; exact h3.1,λp hp=>?_⟩
   have k4:Kp H3 (bL H3 p (.tup (qy vs lo' hi'))):=Kp.new hp;refine n _ S3 _ _ h3.2 (k1.trans (k2.trans (k3.trans k4))) (hS3.new hp) (cF.mpr ⟨p,_,rfl,mB.of bp,?_⟩);unfold iU qy;rw [j.length];exact((j3.drop _).take _).kp k4
  | rl xs=>
   obtain⟨a,vs,rfl,t,j⟩:=wM.mp i1;have j3:=j.kp (k2.trans k3);refine .inr ⟨a,vs,rfl,((k2.trans k3).fro t).sq,λp hp=>?_⟩
   refine n _ _ _ _ (h3 p (hS3.free hp)) (k1.trans (k2.trans (k3.trans (Kp.new hp)))) (hS3.newL hp ?_) (cf.mpr rfl);unfold iU qy;rw [j.length];exact(j3.drop _).take _
  | ref a=>
   have e1:=cf.mp i1;subst e1;obtain⟨xs,z,h3⟩:=h3;obtain⟨vs,hl,j⟩:=hS3.lst z;refine .inr ⟨a,vs,rfl,jW.of hl,λp hp=>?_⟩
   refine n _ _ _ _ (h3 p (hS3.free hp)) (k1.trans (k2.trans (k3.trans (Kp.new hp)))) (hS3.newL hp ?_) (cf.mpr rfl);unfold iU qy;rw [j.length];exact(j.drop _).take _
  | _=>exact(show False from h3).elim⟩
theorem r6 {elt tg iter c:No} {scope:Scope} {cl:List (Str×Nl)} {N:List Str} {cap:List (Nm Nat)} {gg:DG} {ge gi:DE} {gc:DT} (hc:X.calm=true) (Sc:fV X scope cl N cap) (hi:EJ X iter gi) (hg:∀ s0 H0 ex C,GJ (gQ X scope cl N s0 H0 ex C) tg gg) (hcnd:∀ s0 H0 ex C,TJ (gQ X scope cl N s0 H0 ex C) c gc) (he:∀ s0 H0 ex C,EJ (gQ X scope cl N s0 H0 ex C) elt ge)
  (hs:∀ x,foldedSetIterable iter X.env x=pure x:=by intro _; rfl):EJ X (.ListComp elt [⟨tg,iter,[c],0⟩] scope pos) (yw cap gi gg (xH gc ge)):=
 ⟨PE.imp (uW hc Sc (xL hi.h) (λs0 H0 ex C=>(hg s0 H0 ex C).h) (λs0 H0 ex C=>(hcnd s0 H0 ex C).h) (λs0 H0 ex C=>(he s0 H0 ex C).h) hs) fun σ H Q ⟨L,S,k,hL,hS,h,n⟩=>up.go hL hS h λd S1 v H1 h1 k1 hL1 hS1 i1=>by
  obtain⟨p,hp,h1⟩:=h1;obtain⟨a,e,q⟩:=xT hS1 i1 hp;refine⟨a,e,?_⟩;have n':∀ d S' v H',k d S'->Kp H1 H'->Hs X.K H' S'->cK X.K H' d v->Q v H':=λd S' v H' q k3=>n d S' v H' q (k1.trans k3)
  rcases q with ⟨q1,q2,q3⟩ | ⟨q1,q2,q3⟩
  ·exact .inl ⟨q1,λD hD=>ja (hL1.cap cap) hS1 hD (h1 D (hS1.free hD)) n' q2 q3⟩
  ·exact .inr ⟨q1,λD hD=>ja (hL1.cap cap) hS1 hD (h1 D (hS1.free hD)) n' q2 q3⟩⟩
theorem gh {ok:DH->Prop} {g:DG} {b:DS} {M:oY} (Iv:List D->Lo->DH->Prop) (hok:∀ r L S,Iv r L S->ok S)
  (hs:∀ d r L S N,Iv (d::r) L S->(∀ L' S',Iv r L' S'->N L' S')->g d L S λL1 S1=>b {M with nx:=N,ct:=N,bk:=M.nx} L1 S1) (hd:∀ L S,Iv [] L S->M.nx L S):∀ r L S,Iv r L S->hV ok g b M r L S
 | [],L,S,i=>⟨hok [] L S i,hd L S i⟩
 | d::r,L,S,i=>⟨hok _ L S i,hs d r L S _ i λL' S' i'=>gh Iv hok hs hd r L' S' i'⟩
end
end DL
namespace L2
open PySem PySem.Spec PyProof.Rows
section
variable {X:Cx} {elt tg iter c:No} {scope:Scope} {cl:List (Str×Nl)} {N:List Str} {cap:List (Nm Nat)} {pos:Pos} {wi:TI} {g:TG} {te:TE} {tc:TT}
theorem rO (Sc:fV X scope cl N cap) {NA:List (Nl×Nz)} {σ σ3:St} {H2 H3:Hp} {s2 s4:Nj} {fp:List Nl} {h1':Nt} {C:Nl} (I2:aI X NA σ H2 s2) (f2:∀ b∈fp,qQ X NA H2 b) {H1:Hp}
  (un3:Un (fc X.stack) fp H2 H1 s2.heap h1') (I4:aI (gQ X scope cl N {s2 with heap:=h1'} H1 fp C) [] σ3 H3 s4) (hC:s2.heap.objs.size<=C) {x:Str} {pos':Pos} {i:Nat} {D:sT} {a:Nl} (pg:PG X (.Name x pos') (qF i)) (qn:D.nx (σ.set i (some (.ref a))) H3):
  wpAny (model X.prog X.w) X.A (assign (.Name x pos') X.env (.ref a)) (λ_ s''=>∃ m,s''.heap.Ns C m/\∀ h',Heap.SameBut C s''.heap h'->∃ σ' H',aI X NA σ' H' {s'' with heap:=h'}/\D.nx σ' H') X.xe s4:=by
 have J:aI X NA σ H3 s4:=sV Sc I2 f2 un3 I4 (h':=s4.heap) hC ⟨rfl,λ_ _=>rfl⟩
 obtain⟨m,⟨o,es,ep,ho,hd,hr⟩,_⟩:=I4.loc;have ltC:∀ b u,s2.heap.get? b=some u->b≠C:=λb u e=>Mu (Mz (Mo e) hC)
 have hL:C≠X.env.locals:=λz=>by
  have:=I2.lt;rw [<- z] at this;exact absurd (Mz this hC) (Na _)
 have hn:H3 C=none:=I4.free;have J':aI X ((C,o)::NA) σ H3 s4:=⟨J.ok,J.os,J.bare,J.base,J.loc,J.cell,J.free,J.freeC,λp hp=>by
  rcases List.mem_append.mp hp with hp | hp
  ·exact J.pin p (List.mem_append_left _ hp)
  ·rcases Mt.mp hp with rfl | hp
   ·exact⟨ho,hn,hL,I2.nofs hC,λv z=>by rw [hd] at z; cases z⟩
   ·exact J.pin p (MA _ hp),J.hok,J.len⟩
 refine cu (pg _ s4 σ H3 (.ref a) (.ref a) (fun σ' H'=>σ'=σ.set i (some (.ref a))/\H'=H3) J' rfl ⟨rfl,rfl⟩) λ_ s5 h5=>?_
 obtain⟨_,_,I5,rfl,rfl⟩:=h5;have h6:=I5.pin (C,o) (MA _ Mv);refine⟨m,⟨o,es,ep,h6.1,hd,hr⟩,λh' sb=>⟨_,_,?_,qn⟩⟩
 have I6:aI X NA (σ.set i (some (.ref a))) _ s5:=⟨I5.ok,I5.os,I5.bare,I5.base,I5.loc,I5.cell,I5.free,I5.freeC,λp hp=>I5.pin p (by
  rcases List.mem_append.mp hp with hp | hp
  ·exact List.mem_append_left _ hp
  ·exact MA _ (Mw _ hp)),I5.hok,I5.len⟩
 exact I6.turned (t':=s5.toks) (it:=C) (λb u hb e=>(sb.2 b hb).trans e) hn hL (.inr (M1 I2.sz hC)) (λy c e=>by
  obtain⟨v,u,q,_⟩:=I2.cell y c e;exact ltC c u q) (λp hp=>ltC p.1 p.2 (I2.pin p hp).1)
theorem wJ {x:Str} {i:Nat} {pos' spos:Pos} (hN:X.N.Nodup) (hi':X.N[i]?=some x) (hx':X.env.scope.names.lookup x=some .local) (hsw:swapsWith (.ListComp elt [⟨tg,iter,[],0⟩] scope pos) (some (.Name x pos')) spos.line X.env=pure true) (hc:X.calm=true) (Sc:fV X scope cl N cap) (hi:PI X tg iter wi) (hg:∀ s0 H0 ex C,PG (gQ X scope cl N s0 H0 ex C) tg g) (he:∀ s0 H0 ex C,PE (gQ X scope cl N s0 H0 ex C) elt te)
  (hs:∀ x,foldedSetIterable iter X.env x=pure x:=by intro _; rfl):PS X (.Assign [.Name x pos'] (.ListComp elt [⟨tg,iter,[],0⟩] scope pos) spos) (Bq (FF cap wi g te) (qF i)):=by
 intro NA s σ H D I h;have pg:PG X (.Name x pos') (qF i):=vR hN hi' (.inl hx') (.inr hx');rw [exec_Assign_Name_used _ _ _ _ hsw];refine Mj (wpAny_standAt (Mj ?_))
 show wpAny _ _ (evalThenUse _ X.env _) _ _ _
 unfold evalThenUse;have Q:=λv H1=>D.nx (σ.set i (some v)) H1
 refine Mj (MY (Q:=λ_ s'=>∃ σ' H',aI X NA σ' H' s'/\D.nx σ' H') ?_ (λv s' q=>Ml (Ml q)) λ_ _ q=>q)
 have hcell:∀ y∈scope.names,y.2≠.cell:=λy hy=>by simpa using Nc.mp Sc.nocell y hy
 have hnames:∀ y∈scope.names,y.2=.local->scope.names.lookup y.1=some .local:=λy hy e=>by
  have:=Nc.mp Sc.names y hy;rw [e] at this
  simpa using this
 refine wpAny_comprehension_free (use:=some (assign (.Name x pos') X.env)) rfl hs Sc.clos Sc.kind hnames (cu (hi NA s σ H _ I h) λv s1 h1=>cu h1 λitv s2 h2=>?_)
 obtain⟨it,fp,tn,J,H2,e,I2,T,st2,f2,hW⟩:=h2;subst e;refine MO (wpAny_newFunctionEnv hcell (by intro y hy; simp at hy) (λh1 hns hsb=>?_) Sc.kind)
 obtain⟨W,⟨m0,w0⟩,turn⟩:=hW s2.heap.objs.size I2.fresh;dsimp only at hns hsb ⊢
 generalize hD:s2.heap.push {cls:=.type "list",dict:=none,data:=.seq ([]:List Nk).toArray}=h1' at hns hsb ⊢
 obtain⟨I3,un3⟩:=pd (tk:=s2.toks+([]:List (Str×Nk)).length) Sc I2 f2 (λb hb=>let ⟨o,e,_⟩:=T.obj 0 _ st2 b hb; ⟨o,e⟩) hD hns hsb
 have hC:s2.heap.objs.size<=h1'.objs.size:=by rw [<- hD,Nb]; exact Nat.le_succ _
 have k1:∀ b o,s2.heap.get? b=some o->h1.get? b=some o:=λb o e=>by
  have e1:h1'.get? b=some o:=by rw [<- hD]; exact Mk _ e
  exact(hsb.2 b (Mu (Mo e1))).trans (Mk _ e1)
 have st3:tn 0 h1:=T.keep 0 _ _ st2 λb _ o e=>k1 b o e
 have fr3:∀ b∈fp,(bL H2 s2.heap.objs.size (.lst [])) b=none:=λb hb=>by
  obtain⟨o,e,_⟩:=T.obj 0 _ st2 b hb;rw [aF (Mu (Mo e))];exact(f2 b hb).1
 have loop:∀ s3:Nj,s3={s2 with heap:=h1,toks:=s2.toks+([]:List (Str×Nk)).length}->
   codeAny (model X.prog X.w) X.A (.compLoop (.ListComp elt [⟨tg,iter,[],0⟩] scope pos) 0 (.ref it) (.ref s2.heap.objs.size) (compEnvC scope cl h1'.objs.size X.env))
    (compPost (model X.prog X.w) X.A X.xe (some (assign (.Name x pos') X.env)) (λ_ s'=>∃ σ' H',aI X NA σ' H' s'/\D.nx σ' H') (.ref s2.heap.objs.size) h1'.objs.size) s3:=by
  rintro s3 rfl;refine on (λn s'=>∃ i σ' H',aI (gQ X scope cl N {s2 with heap:=h1'} (bL H2 s2.heap.objs.size (.lst [])) fp h1'.objs.size) [] σ' H' s'/\tn i s'.heap/\(∀ b∈fp,H' b=none)/\W i n σ' H') ?_ m0 ⟨0,_,_,I3,st3,fr3,w0⟩
  rintro n s3 ⟨i,σ3,H3,I3,st3,fr3,w3⟩;rcases turn i n σ3 H3 w3 with ⟨stop,qn⟩ | ⟨go,Nn,hN,step⟩
  ·refine cu (T.done (gQ X scope cl N {s2 with heap:=h1'} (bL H2 s2.heap.objs.size (.lst [])) fp h1'.objs.size) rfl rfl rfl hc i [] s3 σ3 H3 mq I3 (fg I3 fr3) st3 stop) λr s4 z9=>?_
   obtain⟨hr,I4⟩:=z9;subst hr;exact rO Sc I2 f2 un3 I4 hC pg qn
  ·refine cu (T.item (gQ X scope cl N {s2 with heap:=h1'} (bL H2 s2.heap.objs.size (.lst [])) fp h1'.objs.size) rfl rfl rfl hc i [] s3 σ3 H3 mq I3 (fg I3 fr3) st3 go) λr s4 z9=>?_
   obtain⟨u,hr,h4⟩:=z9;subst hr;refine cu h4 λ_ s5 z9=>?_
   obtain⟨x,H5,I5,r5,y5,st5,fr5⟩:=z9;have I5':=I5.pinned (fg I5 fr5) (T.obj _ _ st5);refine cu (hg _ _ _ _ _ s5 σ3 H5 x u _ I5' r5 (step x H5 y5)) λ_ s6 z9=>?_
   obtain⟨σ6,H6,I6,q6⟩:=z9;refine cu (he _ _ _ _ _ s6 σ6 H6 _ I6 q6) λuv s7 z9=>?_
   obtain⟨v,H7,I7,r7,ys,hy,hl,q7⟩:=z9;refine cu (jE (X:=gQ X scope cl N {s2 with heap:=h1'} (bL H2 s2.heap.objs.size (.lst [])) fp h1'.objs.size) _ s7 σ6 H7 (.ref s2.heap.objs.size) [v] (.ref s2.heap.objs.size) [uv] (λ_ H8=>Nn σ6 H8) I7 rfl (.cons r7 .nil) ⟨_,ys,v,rfl,rfl,hy,hl,q7⟩) λ_ s8 z9=>?_
   obtain⟨_,H8,I8,_,n8⟩:=z9;obtain⟨m',hm,w8⟩:=hN σ6 H8 n8;refine⟨m',hm,i+1,σ6,H8,I8.unpinned,T.keep _ _ _ st5 λb hb o e=>(I8.pin (b,o) (MA _ (MA _ (dn hb e)))).1,λb hb=>?_,w8⟩
   obtain⟨o,e,d⟩:=T.obj _ _ st5 b hb;exact(I8.pin (b,o) (MA _ (MA _ (dn hb e)))).2.1
 exact codeAny_compStart_list (loop _ rfl) (T.self _ 0 _ _ _ st3 (loop _ rfl))
theorem xE {x:Str} {i:Nat} {pos' spos:Pos} (hN:X.N.Nodup) (hi':X.N[i]?=some x) (hx':X.env.scope.names.lookup x=some .local) (hsw:swapsWith (.ListComp elt [⟨tg,iter,[c],0⟩] scope pos) (some (.Name x pos')) spos.line X.env=pure true) (hc:X.calm=true) (Sc:fV X scope cl N cap) (hi:PI X tg iter wi) (hg:∀ s0 H0 ex C,PG (gQ X scope cl N s0 H0 ex C) tg g) (hcnd:∀ s0 H0 ex C,PT (gQ X scope cl N s0 H0 ex C) c tc) (he:∀ s0 H0 ex C,PE (gQ X scope cl N s0 H0 ex C) elt te)
  (hs:∀ x,foldedSetIterable iter X.env x=pure x:=by intro _; rfl):PS X (.Assign [.Name x pos'] (.ListComp elt [⟨tg,iter,[c],0⟩] scope pos) spos) (Bq (yM cap wi g tc te) (qF i)):=by
 intro NA s σ H D I h;have pg:PG X (.Name x pos') (qF i):=vR hN hi' (.inl hx') (.inr hx');rw [exec_Assign_Name_used _ _ _ _ hsw];refine Mj (wpAny_standAt (Mj ?_))
 show wpAny _ _ (evalThenUse _ X.env _) _ _ _
 unfold evalThenUse;have Q:=λv H1=>D.nx (σ.set i (some v)) H1
 refine Mj (MY (Q:=λ_ s'=>∃ σ' H',aI X NA σ' H' s'/\D.nx σ' H') ?_ (λv s' q=>Ml (Ml q)) λ_ _ q=>q)
 have hcell:∀ y∈scope.names,y.2≠.cell:=λy hy=>by simpa using Nc.mp Sc.nocell y hy
 have hnames:∀ y∈scope.names,y.2=.local->scope.names.lookup y.1=some .local:=λy hy e=>by
  have:=Nc.mp Sc.names y hy;rw [e] at this
  simpa using this
 refine wpAny_comprehension_free (use:=some (assign (.Name x pos') X.env)) rfl hs Sc.clos Sc.kind hnames (cu (hi NA s σ H _ I h) λv s1 h1=>cu h1 λitv s2 h2=>?_)
 obtain⟨it,fp,tn,J,H2,e,I2,T,st2,f2,hW⟩:=h2;subst e;refine MO (wpAny_newFunctionEnv hcell (by intro y hy; simp at hy) (λh1 hns hsb=>?_) Sc.kind)
 obtain⟨W,⟨m0,w0⟩,turn⟩:=hW s2.heap.objs.size I2.fresh;dsimp only at hns hsb ⊢
 generalize hD:s2.heap.push {cls:=.type "list",dict:=none,data:=.seq ([]:List Nk).toArray}=h1' at hns hsb ⊢
 obtain⟨I3,un3⟩:=pd (tk:=s2.toks+([]:List (Str×Nk)).length) Sc I2 f2 (λb hb=>let ⟨o,e,_⟩:=T.obj 0 _ st2 b hb; ⟨o,e⟩) hD hns hsb
 have hC:s2.heap.objs.size<=h1'.objs.size:=by rw [<- hD,Nb]; exact Nat.le_succ _
 have k1:∀ b o,s2.heap.get? b=some o->h1.get? b=some o:=λb o e=>by
  have e1:h1'.get? b=some o:=by rw [<- hD]; exact Mk _ e
  exact(hsb.2 b (Mu (Mo e1))).trans (Mk _ e1)
 have st3:tn 0 h1:=T.keep 0 _ _ st2 λb _ o e=>k1 b o e
 have fr3:∀ b∈fp,(bL H2 s2.heap.objs.size (.lst [])) b=none:=λb hb=>by
  obtain⟨o,e,_⟩:=T.obj 0 _ st2 b hb;rw [aF (Mu (Mo e))];exact(f2 b hb).1
 have loop:∀ s3:Nj,s3={s2 with heap:=h1,toks:=s2.toks+([]:List (Str×Nk)).length}->
   codeAny (model X.prog X.w) X.A (.compLoop (.ListComp elt [⟨tg,iter,[c],0⟩] scope pos) 0 (.ref it) (.ref s2.heap.objs.size) (compEnvC scope cl h1'.objs.size X.env))
    (compPost (model X.prog X.w) X.A X.xe (some (assign (.Name x pos') X.env)) (λ_ s'=>∃ σ' H',aI X NA σ' H' s'/\D.nx σ' H') (.ref s2.heap.objs.size) h1'.objs.size) s3:=by
  rintro s3 rfl;refine n6 (λn s'=>∃ i σ' H',aI (gQ X scope cl N {s2 with heap:=h1'} (bL H2 s2.heap.objs.size (.lst [])) fp h1'.objs.size) [] σ' H' s'/\tn i s'.heap/\(∀ b∈fp,H' b=none)/\W i n σ' H') ?_ m0 ⟨0,_,_,I3,st3,fr3,w0⟩
  rintro n s3 ⟨i,σ3,H3,I3,st3,fr3,w3⟩;rcases turn i n σ3 H3 w3 with ⟨stop,qn⟩ | ⟨go,Nn,hN,step⟩
  ·refine cu (T.done (gQ X scope cl N {s2 with heap:=h1'} (bL H2 s2.heap.objs.size (.lst [])) fp h1'.objs.size) rfl rfl rfl hc i [] s3 σ3 H3 mq I3 (fg I3 fr3) st3 stop) λr s4 z9=>?_
   obtain⟨hr,I4⟩:=z9;subst hr;exact rO Sc I2 f2 un3 I4 hC pg qn
  ·refine cu (T.item (gQ X scope cl N {s2 with heap:=h1'} (bL H2 s2.heap.objs.size (.lst [])) fp h1'.objs.size) rfl rfl rfl hc i [] s3 σ3 H3 mq I3 (fg I3 fr3) st3 go) λr s4 z9=>?_
   obtain⟨u,hr,h4⟩:=z9;subst hr;refine cu h4 λ_ s5 z9=>?_
   obtain⟨x,H5,I5,r5,y5,st5,fr5⟩:=z9;have I5':=I5.pinned (fg I5 fr5) (T.obj _ _ st5);refine cu (hg _ _ _ _ _ s5 σ3 H5 x u _ I5' r5 (step x H5 y5)) λ_ s6 z9=>?_
   obtain⟨σ6,H6,I6,q6⟩:=z9;have again:∀ {s8:Nj} {H8:Hp},aI (gQ X scope cl N {s2 with heap:=h1'} (bL H2 s2.heap.objs.size (.lst [])) fp h1'.objs.size) ([]++qw fp s5.heap) σ6 H8 s8->Nn σ6 H8->
     ∃ m,m < n/\∃ i σ' H',aI (gQ X scope cl N {s2 with heap:=h1'} (bL H2 s2.heap.objs.size (.lst [])) fp h1'.objs.size) [] σ' H' s8/\tn i s8.heap/\(∀ b∈fp,H' b=none)/\W i m σ' H':=λ{s8 H8} I8 n8=>by
    obtain⟨m',hm,w8⟩:=hN σ6 H8 n8;refine⟨m',hm,i+1,σ6,H8,I8.unpinned,T.keep _ _ _ st5 λb hb o e=>(I8.pin (b,o) (MA _ (MA _ (dn hb e)))).1,λb hb=>?_,w8⟩
    obtain⟨o,e,d⟩:=T.obj _ _ st5 b hb;exact(I8.pin (b,o) (MA _ (MA _ (dn hb e)))).2.1
   refine cu (hcnd _ _ _ _ _ s6 σ6 H6 _ I6 q6) λb s6' z9=>?_
   obtain⟨H6',I6',q6'⟩:=z9;cases b with
   | true=>
    rw [if_pos rfl] at q6' ⊢;refine cu (he _ _ _ _ _ s6' σ6 H6' _ I6' q6') λuv s7 z9=>?_
    obtain⟨v,H7,I7,r7,ys,hy,hl,q7⟩:=z9;refine cu (jE (X:=gQ X scope cl N {s2 with heap:=h1'} (bL H2 s2.heap.objs.size (.lst [])) fp h1'.objs.size) _ s7 σ6 H7 (.ref s2.heap.objs.size) [v] (.ref s2.heap.objs.size) [uv] (λ_ H8=>Nn σ6 H8) I7 rfl (.cons r7 .nil) ⟨_,ys,v,rfl,rfl,hy,hl,q7⟩) λ_ s8 z9=>?_
    obtain⟨_,H8,I8,_,n8⟩:=z9;exact again I8 n8
   | false=>
    rw [if_neg Mr] at q6' ⊢;exact again I6' q6'
 exact codeAny_compStart_list (loop _ rfl) (T.self _ 0 _ _ _ st3 (loop _ rfl))
end
end L2
namespace DL
open PySem PySem.Spec PyProof.Rows L2
theorem Ha {K:Fg} {ge:DE} {tc:TE} {i:Nat} (f:∀ σ H Q,up K ge σ H Q->tc σ H Q):∀ N σ H,Dq K (Av i ge) N σ H->Bq tc (qF i) N σ H:=λN σ H ⟨L,S,M,hL,hS,h,r⟩=>
 f σ H _ (up.go hL hS h λd S1 v H1 h1 k1 hL1 hS1 i1=>r.nx _ S1 _ H1 h1 k1 (hL1.set i1 i) hS1)
section
variable {X:Cx} {pos pos' p:Pos} {elt tg a b c:No} {scope:Scope} {cl:List (Str×Nl)} {N:List Str} {cap:List (Nm Nat)} {gg:DG} {ge gi:DE} {gc:DT} {ta:DA}
theorem wZ {xv:Str} {iv:Nat} {pv sv:Pos} (hNv:X.N.Nodup) (hc:X.calm=true) (Sc:fV X scope cl N cap) (hgl:Gl X "range") (hm:X.mg "range"=none) (ha:AJ X [a] ta) (hg:∀ s0 H0 ex C,GJ (gQ X scope cl N s0 H0 ex C) tg gg) (he:∀ s0 H0 ex C,EJ (gQ X scope cl N s0 H0 ex C) elt ge)
  (hs1:starEach [a] X.env=[(false,eval a X.env)]:=by exact cq rfl) (hs:∀ x,foldedSetIterable (.Call (.Name "range" p) [a] [] pos') X.env x=pure x:=by intro _; rfl) (hiv:X.N[iv]?=some xv:=by rfl) (hxv:X.env.scope.names.lookup xv=some .local:=by rfl) (hswv:swapsWith (.ListComp elt [⟨tg,.Call (.Name "range" p) [a] [] pos',[],0⟩] scope pos) (some (.Name xv pv)) sv.line X.env=pure true:=by rfl):SJ X (.Assign [.Name xv pv] (.ListComp elt [⟨tg,.Call (.Name "range" p) [a] [] pos',[],0⟩] scope pos) sv) (Av iv (yk cap ta gg (lU ge))):=
 ⟨PS.imp (wJ hNv hiv hxv hswv hc Sc (mz hgl hm ha.h hs1) (λs0 H0 ex C=>(hg s0 H0 ex C).h) (λs0 H0 ex C=>(he s0 H0 ex C).h) hs) (Ha (fun σ H Q ⟨L,S,k,hL,hS,h,n⟩=>qR.go hL hS h λds S1 vs H1 h1 k1 hL1 hS1 i1=>by
  split at h1
  ·obtain⟨v,rfl,j⟩:=iH i1;have e:=isInt.mp j;subst e;obtain⟨⟨h2,h3⟩,h1⟩:=h1;refine⟨_,rfl,h2,h3,λD hD=>qi (hL1.cap cap) hS1 hD (h1 D (hS1.free hD)) (λd S' v H' q k3=>n d S' v H' q (k1.trans k3)) sF λS2 H2 k2 hS2 _=>?_⟩
   rw [Mq,List.length_range];exact Mp _
  ·exact h1.elim))⟩
theorem ui {xv:Str} {iv:Nat} {pv sv:Pos} (hNv:X.N.Nodup) (hc:X.calm=true) (Sc:fV X scope cl N cap) (hgl:Gl X "range") (hm:X.mg "range"=none) (ha:AJ X [a] ta) (hg:∀ s0 H0 ex C,GJ (gQ X scope cl N s0 H0 ex C) tg gg) (hcn:∀ s0 H0 ex C,TJ (gQ X scope cl N s0 H0 ex C) c gc) (he:∀ s0 H0 ex C,EJ (gQ X scope cl N s0 H0 ex C) elt ge)
  (hs1:starEach [a] X.env=[(false,eval a X.env)]:=by exact cq rfl) (hs:∀ x,foldedSetIterable (.Call (.Name "range" p) [a] [] pos') X.env x=pure x:=by intro _; rfl) (hiv:X.N[iv]?=some xv:=by rfl) (hxv:X.env.scope.names.lookup xv=some .local:=by rfl) (hswv:swapsWith (.ListComp elt [⟨tg,.Call (.Name "range" p) [a] [] pos',[c],0⟩] scope pos) (some (.Name xv pv)) sv.line X.env=pure true:=by rfl):SJ X (.Assign [.Name xv pv] (.ListComp elt [⟨tg,.Call (.Name "range" p) [a] [] pos',[c],0⟩] scope pos) sv) (Av iv (yk cap ta gg (xH gc ge))):=
 ⟨PS.imp (xE hNv hiv hxv hswv hc Sc (mz hgl hm ha.h hs1) (λs0 H0 ex C=>(hg s0 H0 ex C).h) (λs0 H0 ex C=>(hcn s0 H0 ex C).h) (λs0 H0 ex C=>(he s0 H0 ex C).h) hs) (Ha (fun σ H Q ⟨L,S,k,hL,hS,h,n⟩=>qR.go hL hS h λds S1 vs H1 h1 k1 hL1 hS1 i1=>by
  split at h1
  ·obtain⟨v,rfl,j⟩:=iH i1;have e:=isInt.mp j;subst e;obtain⟨⟨h2,h3⟩,h1⟩:=h1;refine⟨_,rfl,h2,h3,λD hD=>ja (hL1.cap cap) hS1 hD (h1 D (hS1.free hD)) (λd S' v H' q k3=>n d S' v H' q (k1.trans k3)) sF λS2 H2 k2 hS2 _=>?_⟩
   rw [Mq,List.length_range];exact Mp _
  ·exact h1.elim))⟩
theorem mm {xv:Str} {iv:Nat} {pv sv:Pos} (hNv:X.N.Nodup) {elt tg iter:No} {scope:Scope} {cl:List (Str×Nl)} {N:List Str} {cap:List (Nm Nat)} {gg:DG} {ge gi:DE} (hc:X.calm=true) (Sc:fV X scope cl N cap) (hi:EJ X iter gi) (hg:∀ s0 H0 ex C,GJ (gQ X scope cl N s0 H0 ex C) tg gg) (he:∀ s0 H0 ex C,EJ (gQ X scope cl N s0 H0 ex C) elt ge)
  (hs:∀ x,foldedSetIterable iter X.env x=pure x:=by intro _; rfl) (hiv:X.N[iv]?=some xv:=by rfl) (hxv:X.env.scope.names.lookup xv=some .local:=by rfl) (hswv:swapsWith (.ListComp elt [⟨tg,iter,[],0⟩] scope pos) (some (.Name xv pv)) sv.line X.env=pure true:=by rfl):SJ X (.Assign [.Name xv pv] (.ListComp elt [⟨tg,iter,[],0⟩] scope pos) sv) (Av iv (yw cap gi gg (lU ge))):=
 ⟨PS.imp (wJ hNv hiv hxv hswv hc Sc (xL hi.h) (λs0 H0 ex C=>(hg s0 H0 ex C).h) (λs0 H0 ex C=>(he s0 H0 ex C).h) hs) (Ha (fun σ H Q ⟨L,S,k,hL,hS,h,n⟩=>up.go hL hS h λd S1 v H1 h1 k1 hL1 hS1 i1=>by
  obtain⟨p,hp,h1⟩:=h1;obtain⟨a,e,q⟩:=xT hS1 i1 hp;refine⟨a,e,?_⟩;have n':∀ d S' v H',k d S'->Kp H1 H'->Hs X.K H' S'->cK X.K H' d v->Q v H':=λd S' v H' q k3=>n d S' v H' q (k1.trans k3)
  rcases q with ⟨q1,q2,q3⟩ | ⟨q1,q2,q3⟩
  ·exact .inl ⟨q1,λD hD=>qi (hL1.cap cap) hS1 hD (h1 D (hS1.free hD)) n' q2 q3⟩
  ·exact .inr ⟨q1,λD hD=>qi (hL1.cap cap) hS1 hD (h1 D (hS1.free hD)) n' q2 q3⟩))⟩
end
end DL
namespace L2
open PySem PySem.Spec PyProof.Rows
inductive jG (B:Nt):Nk->Prop
 | last:jG B .none
 | more {a:Nl} {o:Nz} {vs:Nv Nk} {v:Nk}:B.get? a=some o->o.data=.fields vs->vs[2]?=some v->jG B v->jG B (.ref a)
def By (B h:Nt) (e:Nl) (dd:Nm Nl):Prop:=∃ o vs v,h.get? e=some o/\o.data=.fields vs/\vs[2]?=some v/\jG B v/\o.dict=dd
theorem fP (f:Nv Nk->Nv Nk) (o:Nz):(Obj.mapFields f o).dict=o.dict:=by
 unfold Obj.mapFields
 split <;> rfl
def oH (B:Nt) (l:List Env) (e:Nl) (cls:Nk) (a0:Nk×Nm Nl) (h:Nt):Prop:=Heap.FlyingW B l e cls a0.1 h/\By B h e a0.2
def Ft (B:Nt) (l:List Env) (e:Nl) (cls:Nk) (a0:Nk×Nm Nl) (L:Nl) (h:Nt):Prop:=Heap.HeldW B l e cls a0.1 L h/\By B h e a0.2
section
variable {M:Model} {A:Nq} {E:Nk->Nj->Prop} {s:Nj} {B:Nt} {env:Env} {outer:List Env} {L e:Nl} {Q:Unit->Nj->Prop}
theorem qc {oe:Nz} {vs:Nv Nk} {head a0 v2:Nk} {nx:Nw} (hfr:A.frames=some (env::outer)) (hl:s.heap.FunFrames B (env::outer)) (hf:env.frame=some L) (he:s.heap.get? e=some oe) (hk:B.StaysIn s.heap) (hn:B.get? e=none) (hd:oe.data=.fields vs) (hz:1 < vs.size) (h0:vs[0]?=some a0) (h2:vs[2]?=some v2) (ok2:jG B v2)
  (h:∀ h',Heap.NotedW B (env::outer) e oe.cls a0 (rawInt L) s.heap h'->By B h' e oe.dict->Q () {s with heap:=h'}):
  wpAny M A (do let a <- frameOf env; let pl <- entryPlaceOf L nx; let b <- EntryCells.newEntry head a .none (rawInt L) .none pl; setField (.ref e) 1 b) Q E s:=by
 have ef:e∉(env::outer).filterMap (·.frame):=λm=>by
  obtain⟨_,o,ho,z⟩:=hl.mem m;rw [he] at ho;cases ho;exact z vs hd
 have nr:∀ b o,s.heap.get? b=some o->(∀ vs,o.data≠.fields vs)->b≠e:=λb o hb z y=>by
  rw [y,he] at hb;cases hb;exact z vs hd
 refine Mj (wpAny_frameOf_fun hfr hl hf λh1 hs=>Mj (wpAny_entryPlaceOf λpl hp=>?_))
 have e1:h1.get? e=some oe:=(hs.2.1 e ef).trans he;have k1:B.StaysIn h1:=λb o y=>(hs.2.1 b λm=>by rw [(hl.mem m).1] at y; cases y).trans (hk b o y)
 have te:h1.objs.size≠e:=Nat.ne_of_gt (Mo e1);unfold EntryCells.newEntry newFields;refine Mj (MO ?_ (hp.sizeOk5 _ _ _ _ _));generalize hT:({cls:=.type "traceback",dict:=none,data:=.fields ([head,.ref L,.none,rawInt L,.none]++(if pl.isEmpty then List.replicate 6 Value.none else pl)).toArray}:Nz)=oT
 have e2:=Mk (h:=h1) oT e1;have d3:=Obj.data_mapFields hd (·.setIfInBounds 1 (Value.ref h1.objs.size));have e3:=M4 (Obj.mapFields (·.setIfInBounds 1 (Value.ref h1.objs.size))) e2 (Obj.isFreed_of_fields d3);have t3:=(MS (h1.push oT) (Obj.mapFields (·.setIfInBounds 1 (Value.ref h1.objs.size))) (Ne.symm te)).trans (Mm h1 (by rw [<- hT]; rfl))
 have kp:∀ b o,b≠e->h1.get? b=some o->((h1.push oT).update e (Obj.mapFields (·.setIfInBounds 1 (Value.ref h1.objs.size)))).get? b=some o:=λb o nb hb=>(MS _ _ (Ne.symm nb)).trans (Mk _ hb)
 refine wpAny_setField e2 hd hz (h _ ⟨λb o y=>kp b o (λz=>by rw [z,hn] at y; cases y) (k1 b o y),hl.of_keeps λb o hb z=>?_,?_,λb o hb z=>?_⟩ ⟨_,_,v2,e3,d3,by rw [Array.getElem?_setIfInBounds_ne (by decide)]; exact h2,ok2,fP _ _⟩)
 ·obtain⟨sl,y⟩:=hs.2.2 b o hb;exact⟨_,kp b _ (nr b o hb z) y,rfl⟩
 ·refine⟨_,_,h1.objs.size,oT,_,e3,⟨Obj.cls_mapFields _ _,by rw [Array.getElem?_setIfInBounds_ne (by decide)]; exact h0⟩,d3,by simp [hz],k1.fresh,te,t3,by rw [<- hT],?_⟩
  first | (simp; done) | (rcases hp with rfl | ⟨_,_,_,_,_,_,_,rfl⟩ <;> simp)
 ·obtain⟨sl,y⟩:=hs.2.2 b o hb;exact⟨sl,kp b _ (nr b o hb z) y⟩
theorem jL {l:List Env} {cls:Nk} {a0:Nk×Nm Nl} (hh:Ft B l e cls a0 L s.heap) (hQ:∀ h',oH B l e cls a0 h'->s.heap.UpToSlots h'->Q () {s with heap:=h'}):wpAny M A (setFlight (.ref e) none) Q E s:=by
 obtain⟨⟨f1,f2,f3,oe,vs,T,oT,ts,he,hc,hd,h1,nT,te,hT,dT,h3⟩,oc,vc,w2,gc,dc,c2,ok2,dk⟩:=hh;rw [he] at gc;cases gc;rw [hd] at dc;cases dc;have z3:3 < ts.size:=(Array.getElem?_eq_some_iff.mp h3).1;have ot:∀ b,b≠T->(s.heap.update T (Obj.mapFields (·.setIfInBounds 3 ((none:Nm Nl).elim Value.none λf=>rawInt f)))).get? b=s.heap.get? b:=λb hb=>MS _ _ (Ne.symm hb)
 have nr:∀ b o,s.heap.get? b=some o->(∀ vs,o.data≠.fields vs)->b≠T:=λb o hb z y=>by
  rw [y,hT] at hb;cases hb;exact z ts dT
 unfold setFlight;refine Mj (MZ he hd h1 ?_);rw [if_pos (by simp)]
 have ge:=(ot e (Ne.symm te)).trans he;refine wpAny_setField hT dT z3 (hQ _ ⟨⟨λb o y=>(ot b λz=>by rw [z,nT] at y; cases y).trans (f1 b o y),f2,f3.of_keeps λb o hb z=>⟨o,(ot b (nr b o hb z)).trans hb,rfl⟩,?_⟩,_,_,w2,ge,hd,c2,ok2,dk⟩ λb o hb z=>⟨o.slots,(ot b (nr b o hb z)).trans hb⟩)
 exact⟨oe,vs,T,_,_,ge,hc,hd,h1,nT,te,M4 _ hT (Obj.isFreed_of_fields (Obj.data_mapFields dT _)),Obj.data_mapFields dT _,by simp [z3]⟩
theorem qk {cls:Nk} {a0:Nk×Nm Nl} (hfr:A.frames=some (env::outer)) (hf:env.frame=some L) (hfl:oH B (env::outer) e cls a0 s.heap) (hQ:∀ h',Ft B (env::outer) e cls a0 L h'->s.heap.UpToSlots h'->Q () {s with heap:=h'}):wpAny M A (noteFrame (.ref e) env) Q E s:=by
 obtain⟨⟨f1,f2,f3,oe,vs,T,oT,ts,he,⟨hc,h0⟩,hd,h1,nT,te,hT,dT,h3⟩,oc,vc,w2,gc,dc,c2,ok2,dk⟩:=hfl;rw [he] at gc;cases gc;rw [hd] at dc;cases dc;subst hc;have ot:∀ b,b≠T->(s.heap.update T (Obj.mapFields (·.setIfInBounds 3 Value.none))).get? b=s.heap.get? b:=λb hb=>MS _ _ (Ne.symm hb)
 have nr:∀ b o,s.heap.get? b=some o->(∀ vs,o.data≠.fields vs)->b≠T:=λb o hb z y=>by
  rw [y,hT] at hb;cases hb;exact z ts dT
 unfold noteFrame;simp only [hf];refine Mj (MZ he hd h1 ?_);rw [if_pos (by simp)]
 refine Mj (MZ hT dT h3 ?_);rw [if_neg (by simp [rawInt])]
 refine Mj (wpAny_setField hT dT (Array.getElem?_eq_some_iff.mp h3).1 ?_);refine qc hfr (f3.of_keeps λb o hb z=>⟨o,(ot b (nr b o hb z)).trans hb,rfl⟩) hf ((ot e (Ne.symm te)).trans he) (λb o y=>(ot b λz=>by rw [z,nT] at y; cases y).trans (f1 b o y)) f2 hd (Array.getElem?_eq_some_iff.mp h1).1 h0 c2 ok2 λh' ⟨x1,x2,x3,x4⟩ cx=>?_
 rw [dk] at cx;exact hQ h' ⟨⟨x1,f2,x2,x3⟩,cx⟩ λb o hb z=>x4 b o ((ot b (nr b o hb z)).trans hb) z
theorem ve {cls:Nk} {a0:Nk×Nm Nl} {h:Nt} (x:oH B (env::outer) e cls a0 h):oH B outer e cls a0 h:=⟨⟨x.1.1,x.1.2.1,x.1.2.2.1.2.2,x.1.2.2.2⟩,x.2⟩
theorem tT {cls:Nk} {a0:Nk×Nm Nl} (hfr:A.frames=some (env::outer)) (hf:env.frame=some L) (hfl:oH B (env::outer) e cls a0 s.heap) (hQ:∀ h',oH B outer e cls a0 h'->s.heap.UpToSlots h'->Q () {s with heap:=h'}):wpAny M A (leaving env (.ref e)) Q E s:=by
 unfold leaving;exact Mj (qk hfr hf hfl λh1 x1 u1=>jL x1 λh2 x2 u2=>hQ h2 (ve x2) (u1.trans u2))
theorem uF {oe:Nz} {vs:Nv Nk} {a0 v2:Nk} (hfr:A.frames=some (env::outer)) (hl:s.heap.FunFrames B (env::outer)) (hf:env.frame=some L) (he:s.heap.get? e=some oe) (hk:B.StaysIn s.heap) (hn:B.get? e=none) (hd:oe.data=.fields vs) (h1:vs[1]?=some .none) (h0:vs[0]?=some a0) (h2:vs[2]?=some v2) (ok2:jG B v2)
  (hQ:∀ h',oH B outer e oe.cls (a0,oe.dict) h'->s.heap.UpToSlots h'->Q () {s with heap:=h'}):wpAny M A (leaving env (.ref e)) Q E s:=by
 unfold leaving noteFrame;simp only [hf];refine Mj (Mj (MZ he hd h1 ?_));rw [if_neg (by decide)]
 refine qc hfr hl hf he hk hn hd (Array.getElem?_eq_some_iff.mp h1).1 h0 h2 ok2 λh' ⟨x1,x2,x3,x4⟩ cx=>?_
 exact jL (s:={s with heap:=h'}) (a0:=(a0,oe.dict)) ⟨⟨x1,hn,x2,x3⟩,cx⟩ λh2 y2 u2=>hQ h2 (ve y2) (Heap.UpToSlots.trans x4 u2)
end
def eV (P:Np) (w:Nr):zU:=λouter H s E e s'=>∃ (ea:Nl) (cls:Nk) (a0:Nk×Nm Nl) (H':Hp) (B:Nt),e=.ref ea/\s'.os=s.os/\AllBare s'.gens/\oH B outer ea cls a0 s'.heap/\nj P w H' B/\
 (∀ b o,s.heap.get? b=some o->H b=none->b∉fc outer->B.get? b=some o)/\(∀ b o,s.heap.get? b=some o->b∉fc outer->∃ o',B.get? b=some o')/\Un (fc outer) [] H H' s.heap s'.heap/\E cls a0.2 H'
theorem eV.mono {P:Np} {w:Nr} {outer:List Env} {H:Hp} {s:Nj} {E E':XK} {e:Nk} {s':Nj} (h:eV P w outer H s E e s') (i:∀ c d H',E c d H'->E' c d H'):eV P w outer H s E' e s':=by
 obtain⟨ea,cls,a0,H',B,h1,h2,h3,h4,h5,h6,h7,h8,h9⟩:=h;exact⟨ea,cls,a0,H',B,h1,h2,h3,h4,h5,h6,h7,h8,i _ _ _ h9⟩
section
variable {P:Np} {w:Nr} {K:PySem.W.Frag} {mg:Str->Nm Nk} {base:Nt} {N:List Str} {qual:Str} {scope:Scope} {f:Nl} {cd:Nk} {A:Nq} {outer:List Env} {s0:Nj} {H0:Hp} {E:XK}
theorem yi {NA:List (Nl×Nz)} {σ:St} {H H':Hp} {s:Nj} {sx:Nj} {B h':Nt} {ea:Nl} {cls:Nk} {a0:Nk×Nm Nl} (I:aI (cQ (eV P w) P w K mg base N qual scope f cd A outer s0 H0 E) NA σ H s) (os:sx.os=s.os) (bare:AllBare sx.gens)
  (fl:oH B outer ea cls a0 h') (hok:nj P w H' B) (hB:∀ b o,s.heap.get? b=some o->H b=none->b∉fc (cQ (eV P w) P w K mg base N qual scope f cd A outer s0 H0 E).stack->B.get? b=some o)
  (hB2:∀ b o,s.heap.get? b=some o->b∉fc (cQ (eV P w) P w K mg base N qual scope f cd A outer s0 H0 E).stack->∃ o',B.get? b=some o')
  (hsl:∀ b∈fc outer,∀ o,s.heap.get? b=some o->∃ sl,h'.get? b=some {o with slots:=sl}) (fr:∀ b o,s.heap.get? b=some o->H b=none->H' b=none) (tu:∀ b xs,H b=some (.tup xs)->H' b=some (.tup xs)) (fz:∀ b o u,H b=some (.frz o u)->H' b=some (.frz o u))
  (tb:∀ b ps,H b=some (.tbl ps)->∃ more,H' b=some (.tbl (ps++more))) (q:E cls a0.2 H'):eV P w outer H0 s0 E (.ref ea) {sx with heap:=h'}:=by
 have nst:∀ b o,s0.heap.get? b=some o->b∉fc outer->b∉fc (cQ (eV P w) P w K mg base N qual scope f cd A outer s0 H0 E).stack:=λb o e hb z=>by
  rcases Mt.mp (I.stkSub b z) with z | z
  ·have:=Mo e;have ab:=I.ok.above;rw [z] at this;exact absurd (Mz this ab) (Na _)
  ·exact hb z
 have hkeep:∀ b o,s0.heap.get? b=some o->H0 b=none->b∉fc outer->B.get? b=some o:=λb o e n hb=>
  hB b o (I.base.keep b o e n hb (λz=>nomatch z)) (I.base.free b o e n (λz=>nomatch z)) (nst b o e hb)
 have hthere:∀ b o,s0.heap.get? b=some o->b∉fc outer->∃ o',B.get? b=some o':=λb o e hb=>by
  obtain⟨o',e1⟩:=I.base.there b o e (λz=>nomatch z)
  exact hB2 b o' e1 (nst b o e hb)
 refine⟨ea,cls,a0,H',B,rfl,os.trans I.os,bare,fl,hok,hkeep,hthere,⟨λb o e n hb _=>fl.1.1 _ _ (hkeep b o e n hb),λb o e n hb _=>?_,λb o e n _=>?_,λb o e _=>?_,λb xs e=>tu _ _ (I.base.tups b xs e),λb o u e=>fz _ _ _ (I.base.frzs b o u e),λb ps e=>?_⟩,q⟩
 ·obtain⟨sl,e1⟩:=I.base.slot b o e n hb (λz=>nomatch z)
  obtain⟨sl',e2⟩:=hsl b hb _ e1;exact⟨sl',e2⟩
 ·obtain⟨o',e1⟩:=I.base.there b o e (λz=>nomatch z)
  exact fr b o' e1 (I.base.free b o e n (λz=>nomatch z))
 ·by_cases hb:b∈fc outer
  ·obtain⟨o',e1⟩:=I.base.there b o e (λz=>nomatch z)
   obtain⟨sl',e2⟩:=hsl b hb _ e1;exact⟨_,e2⟩
  ·obtain⟨o',e1⟩:=hthere b o e hb;exact⟨o',fl.1.1 _ _ e1⟩
 ·obtain⟨m1,e1⟩:=I.base.tbls b ps e;obtain⟨m2,e2⟩:=tb b _ e1;exact⟨m1++m2,by rw [e2,Array.append_assoc]⟩
theorem DV:sG (eV P w) (cQ (eV P w) P w K mg base N qual scope f cd A outer s0 H0 E) E:=by
 intro NA σ H s e s' I h;obtain⟨ea,cls,a0,H',B,rfl,os,bare,fl,hok,hB,hB2,un,q⟩:=h
 show wpAny _ _ (leaving _ (.ref ea)) _ _ s'
 refine tT I.ok.frames rfl fl λh' fl' up=>?_
 refine yi (sx:=s') I os bare fl' hok hB hB2 (λb hb o e=>?_) (λb o e n=>un.free b o e n (λz=>nomatch z)) un.tups un.frzs un.tbls q
 have hb':b∈fc (cQ (eV P w) P w K mg base N qual scope f cd A outer s0 H0 E).stack:=Mw _ hb;have hn:=I.stkFree b hb';obtain⟨sl,e1⟩:=un.slot b o e hn hb' (λz=>nomatch z)
 obtain⟨_,o2,e2,d2⟩:=fl.1.2.2.1.mem hb';rw [e1] at e2;cases e2;obtain⟨sl',e3⟩:=up b _ e1 d2;exact⟨sl',e3⟩
end
theorem Dw {K:PySem.W.Frag} {C:Nl} {bmB:List Nk} {newId:Ny} {h:Nt} {x:Str} {mg:Str->Nm Nk} (X:K.In h) (q:PySem.W.excIn K C bmB newId=true) (hm:mg x=some (.ref C)):OwnCls x C bmB newId mg h:=by
 refine⟨hm,?_⟩;unfold PySem.W.excIn at q
 split at q
 ·rename_i d1 c1 sl hlk
  split at q
  ·rename_i C1 bm a0 a1 a2 a3 nn a5 hmro hsl
   simp only [M2,beq_iff_eq,Bool.not_eq_true'] at q;obtain⟨⟨⟨⟨⟨q1,q2⟩,q3⟩,q4⟩,q5⟩,q6⟩:=q;subst q1 q2;obtain⟨v1,v2,v3,v4,v5,v6,v7,v8,v9,v10,v11⟩:=c1;dsimp only at hmro q3 q5 q6
   subst hmro q3;obtain⟨l⟩:=sl;simp only at hsl;subst hsl;exact⟨bm,v4,v1,v5,v2,v6,v7,v8,v9,v10,d1,a0,a1,a2,a3,a5,_,X _ _ hlk,.of_isNs (PySem.W.isNs_of_in X q5),PySem.W.nsMap_none_of_in X q5 q6,PySem.W.tail_of_in X q4⟩
  ·cases q
 ·cases q
section
variable {P:Np} {w:Nr} {K:PySem.W.Frag} {mg:Str->Nm Nk} {base:Nt} {N:List Str} {qual:Str} {scope:Scope} {f:Nl} {cd:Nk} {A:Nq} {outer:List Env} {s0:Nj} {H0:Hp} {E:XK}
theorem AN {x t:Str} {C:Nl} {bmB:List Nk} {Bn newId initId:Ny} {j:Nat} {p np cpos pos:Pos} (FB:ExcBaseFacts Bn newId initId bmB) (q:PySem.W.excIn K C bmB newId=true) (hm:mg x=some (.ref C))
  (hg:Gl (cQ (eV P w) P w K mg base N qual scope f cd A outer s0 H0 E) x) (hd:(x == ("__debug__":Str))=false:=by decide):
  PS (cQ (eV P w) P w K mg base N qual scope f cd A outer s0 H0 E) (.Raise (some (.Call (.Name x np) [.Constant (.str t) j p] [] cpos)) none pos) (λ_ _ H=>E (.ref C) none H):=by
 intro NA s σ H D I h;obtain⟨tl,Nn,nm,qn,bs,hdct,sn,sub,ab,col,dd,k0,k1,k2,k3,k5,mN,hC,hN,hni,T⟩:=(Dw (x:=x) I.kIn q hm).obj;refine wpAny_Raise_call_subT (C:=C) (nm:=nm) (q:=qn) (N:=Nn) (bs:=bs) (bm:=tl) (hdct:=hdct) (sn:=sn) (sub:=sub) (ab:=ab) (col:=col) (dd:=dd) (k0:=k0) (k1:=k1) (k2:=k2) (k3:=k3) (k5:=k5)
  FB (mN:=mN) (T.hasType FB.hasBase) (I.ok.hd rfl) rfl hni (fh I hg hm ⟨rfl,?_⟩ hd)
 refine Calls.evalArgs_plain (Calls.spliced_cons (Calls.Constant_str (k:=j) (pos:=p) (Calls.spliced_nil ⟨rfl,MF rfl,hC,hN,T,λh' e hx=>?_⟩)))
 show wpAny _ _ (leaving _ (.ref e)) _ _ _
 have I1:=I.tok (s.toks+1);have hin:∀ env∈(cQ (eV P w) P w K mg base N qual scope f cd A outer s0 H0 E).stack,∀ b,env.frame=some b->b∈fc (cQ (eV P w) P w K mg base N qual scope f cd A outer s0 H0 E).stack:=λenv he b hb=>List.mem_filterMap.mpr ⟨env,he,hb⟩
 obtain⟨t2,he2,_,_⟩:=hx.there;refine uF (B:=PySem.W.hideAll s.heap (fc (cQ (eV P w) P w K mg base N qual scope f cd A outer s0 H0 E).stack)) (a0:=.ref t2) I.ok.frames ((PySem.W.funFrames_hide I.stack hin).of_keeps λb o hb _=>⟨o,hx.keeps b o hb,rfl⟩) rfl he2 (λb o z=>hx.keeps b o (PySem.W.of_hideAll _ z)) (by
  cases y:(PySem.W.hideAll s.heap (fc (cQ (eV P w) P w K mg base N qual scope f cd A outer s0 H0 E).stack)).get? e with
  | none=>rfl
  | some o=>
   have z:=PySem.W.of_hideAll _ y;rw [show s.heap.get? e=none from hx.new] at z
   cases z) rfl rfl rfl rfl .last λh2 fl up=>?_
 refine yi (sx:={s with heap:=h',toks:=s.toks+1}) I rfl I.bare fl (λb ob z=>?_) (λb o z _ hb=>PySem.W.hideAll_get _ z hb) (λb o z hb=>⟨o,PySem.W.hideAll_get _ z hb⟩) (λb hb o z=>?_) (λ_ _ _ n=>n) (λ_ _ z=>z) (λ_ _ _ z=>z) (λb ps z=>⟨#[],by rw [z]; simp⟩) h
 ·refine(I.hok b ob z).stay (λc v hc y=>PySem.W.hideAll_get _ y λhf=>?_) (λ_ y=>y) λ_ _ y=>y
  have hn:=I.stkFree c hf;rcases hc with rfl | hc
  ·rw [hn] at z; cases z
  ·rw [hn] at hc; cases hc
 ·obtain⟨_,o2,e2,d2⟩:=I.stack.mem (Mw _ hb);rw [z] at e2;cases e2;exact up b o (hx.keeps _ _ z) d2
end
section
variable {X:Cx} {NA:List (Nl×Nz)} {σ:St} {H H':Hp} {s s':Nj} {E:XK}
theorem aI.landed {B h5:Nt} {ea:Nl} {cls a0:Nk} (I:aI X NA σ H s) (os:s'.os=s.os) (bare:AllBare s'.gens) (fl:Heap.FlyingW B X.stack ea cls a0 s'.heap) (fl5:Heap.FlyingW B X.stack ea cls a0 h5) (up:s'.heap.UpToSlots h5) (hok:nj X.prog X.w H' B)
  (hB:∀ b o,s.heap.get? b=some o->H b=none->b∉fc X.stack->B.get? b=some o) (hB2:∀ b o,s.heap.get? b=some o->b∉fc X.stack->∃ o',B.get? b=some o') (un:Un (fc X.stack) [] H H' s.heap s'.heap):
  aI X NA σ H' {s' with heap:=h5}:=by
 have fsl:∀ b∈fc X.stack,∀ o,s.heap.get? b=some o->∃ sl,h5.get? b=some {o with slots:=sl}:=λb hb o e=>by
  obtain⟨sl,e1⟩:=un.slot b o e (I.stkFree b hb) hb (λz=>nomatch z)
  obtain⟨_,o2,e2,d2⟩:=fl.2.2.1.mem hb;rw [e1] at e2;cases e2;obtain⟨sl',e3⟩:=up b _ e1 d2;exact⟨sl',e3⟩
 refine I.call' (s':={s' with heap:=h5}) (ch:=[]) os ⟨λb o e n hb _=>fl5.1 _ _ (hB b o e n hb),λb o e n hb _=>fsl b hb o e,un.free,λb o e _=>?_,un.tups,un.frzs,un.tbls⟩ (hok.kept fl5.1) bare λb z=>nomatch z
 by_cases hb:b∈fc X.stack
 ·obtain⟨sl,e1⟩:=fsl b hb o e;exact⟨_,e1⟩
 ·obtain⟨o',e1⟩:=hB2 b o e hb;exact⟨o',fl5.1 _ _ e1⟩
theorem aI.freeze {a:Nl} {o:Nz} (I:aI X NA σ H s) (e:s.heap.get? a=some o) (hn:H a=none) (h0:X.s₀.heap.get? a=none) (hL:a≠X.env.locals) (hc:∀ x c,X.env.cells.lookup x=some c->c≠a) (hp:∀ p∈X.pn++NA,p.1≠a):
  aI X NA σ (bL H a (.frz o (.ext λ_=>True))) s:=by
 have ne:∀ b u,X.s₀.heap.get? b=some u->b≠a:=λb u z y=>by rw [y,h0] at z; cases z
 refine⟨I.ok,I.os,I.bare,⟨I.base.keep,I.base.slot,λb u z n x=>?_,I.base.there,λb xs z=>?_,λb u v z=>?_,λb ps z=>?_⟩,I.loc,I.cell,?_,λx c z=>?_,λp z=>?_,λb u z=>?_,I.len⟩
 ·rw [aF (ne b u z)]; exact I.base.free b u z n x
 ·have q:=I.base.tups b xs z;rw [aF (bg q hn)]; exact q
 ·have q:=I.base.frzs b u v z;rw [aF (bg q hn)]; exact q
 ·obtain⟨m,q⟩:=I.base.tbls b ps z;exact⟨m,by rw [aF (bg q hn)]; exact q⟩
 ·rw [aF (Ne.symm hL)]; exact I.free
 ·rw [aF (hc x c z)]; exact I.freeC x c z
 ·obtain⟨q1,q2,q3⟩:=I.pin p z;exact⟨q1,by rw [aF (hp p z)]; exact q2,q3⟩
 ·by_cases hb:b=a
  ·subst hb;rw [bp] at z;cases z;exact⟨e,trivial,⟨o,e⟩,λ_ _ _ _=>trivial⟩
  ·rw [aF hb] at z;exact(I.hok b u z).stay (λ_ _ _ q=>q) (λc q=>by rw [aF (bg q hn)]; exact q) λc xs q=>by rw [aF (bg q hn)]; exact q
abbrev Cx.marked (X:Cx) (v:Nk) (W:Nk->Nj->Prop):Cx:={X with A:=X.A.mark (some v),calm:=false,xe:=W}
theorem aI.marked (I:aI X NA σ H s) (v:Nk) (W:Nk->Nj->Prop):aI (X.marked v W) NA σ H s:=
 ⟨⟨I.ok.mod,I.ok.kind,I.ok.glob,I.ok.blt,I.ok.above,I.ok.inj,I.ok.has,I.ok.cab,λz=>(by cases z),I.ok.frames,I.ok.stk,I.ok.exf,I.ok.bs,I.ok.bsz,I.ok.noex,I.ok.exfs,I.ok.funs,I.ok.frf⟩,I.os,I.bare,I.base,I.loc,I.cell,I.free,I.freeC,I.pin,I.hok,I.len⟩
theorem aI.unmarked {v:Nk} {W:Nk->Nj->Prop} (I:aI (X.marked v W) NA σ H s) (hd:X.calm=true->X.A.handled=none):aI X NA σ H s:=
 ⟨⟨I.ok.mod,I.ok.kind,I.ok.glob,I.ok.blt,I.ok.above,I.ok.inj,I.ok.has,I.ok.cab,hd,I.ok.frames,I.ok.stk,I.ok.exf,I.ok.bs,I.ok.bsz,I.ok.noex,I.ok.exfs,I.ok.funs,I.ok.frf⟩,I.os,I.bare,I.base,I.loc,I.cell,I.free,I.freeC,I.pin,I.hok,I.len⟩
theorem uP {M:Model} {A:Nq} {W:Nk->Nj->Prop} {i:Nat} {n:Str} {pos:Pos} {Q:Unit->Nj->Prop} (I:aI X NA σ H s) (hN:X.N.Nodup) (hi:X.N[i]?=some n) (hl:X.env.kindOf n=some .local)
  (h:∀ s',aI X NA (σ.set i none) H s'->Q () s'):wpAny M A (do bindName X.env n .none; unbindBehindTheSuite X.env n pos) Q W s:=by
 have hcls:(X.env.scope.kind == .class || (X.env.scope.kind == .module && X.env.locals != X.env.globals))=false:=by rw [I.ok.kind]; rfl
 refine Mj (wpAny_bindName (fY (v:=.non) I hN hi (.inl hl) rfl (λs1 I1=>?_) (.inr hl)))
 unfold unbindBehindTheSuite;refine wpAny_onRaise ?_;obtain⟨m,hn,hlk⟩:=id I1.loc;have hiσ:i < σ.length:=by rw [I.len]; exact(MX.mp hi).1
 obtain⟨u,ru,look⟩:=hlk i n .non hi (by rw [List.getElem?_set_self hiσ]) (.inl hl)
 have hv:m n=some u:=by
  rcases look with ⟨_,z⟩ | ⟨z,_⟩
  ·exact z
  ·rcases z with z | z <;> (rw [hl] at z; cases z)
 refine wpAny_unbindName_local hl hn hv hcls λh2 v hn2 sb=>h _ ?_
 have ne:∀ b o,X.s₀.heap.get? b=some o->b≠X.env.locals:=λb o e=>Mu (Mz (Mo e) I.ok.above)
 refine⟨I1.ok,I1.os,I1.bare,⟨λb o e n1 hb hx=>(sb.2 b (ne b o e)).trans (I1.base.keep b o e n1 hb hx),λb o e n1 hb hx=>?_,I1.base.free,λb o e hx=>?_,I1.base.tups,I1.base.frzs,I1.base.tbls⟩,⟨_,hn2,λj y v' e1 e2 e3=>?_⟩,λy c e=>?_,I1.free,I1.freeC,λp hp=>?_,λb ob e=>?_,by simpa using I.len⟩
 ·obtain⟨sl,z⟩:=I1.base.slot b o e n1 hb hx;exact⟨sl,(sb.2 b (ne b o e)).trans z⟩
 ·obtain⟨o',z⟩:=I1.base.there b o e hx;exact⟨o',(sb.2 b (ne b o e)).trans z⟩
 ·have hj:j≠i:=λz=>by
   subst z;rw [List.getElem?_set_self hiσ] at e2;cases e2
  rw [List.getElem?_set_ne (Ne.symm hj)] at e2;obtain⟨u',r',q⟩:=hlk j y v' e1 (by rw [List.getElem?_set_ne (Ne.symm hj)]; exact e2) e3
  refine⟨u',r',?_⟩;rcases q with ⟨k,e⟩ | ⟨k,c,e,z⟩
  ·refine .inl ⟨k,?_⟩;have:y≠n:=λz=>hj (r8 hN e1 (z▸hi))
   simp [this,e]
  ·exact .inr ⟨k,c,e,z.sameBut sb (I1.cne y c e)⟩
 ·obtain⟨w',z⟩:=I1.cell y c e;exact⟨w',z.sameBut sb (I1.cne y c e)⟩
 ·obtain⟨e,n1,ne1,nf,d⟩:=I1.pin p hp;exact⟨(sb.2 p.1 ne1).trans e,n1,ne1,nf,d⟩
 ·refine(I1.hok b ob e).stay (λc v1 hc q=>(sb.2 c ?_).trans q) (λ_ q=>q) λ_ _ q=>q
  rintro rfl;have hf:=I1.free;rcases hc with rfl | hc
  ·rw [hf] at e; cases e
  ·rw [hf] at hc; cases hc
end
theorem dO.there {P:Np} {w:Nr} {H:Hp} {h:Nt} {a:Nl} {o:HO} (x:dO P w H h a o):∃ ob,h.get? a=some ob:=by
 cases o with
 | lst xs=>obtain⟨_,_,_,_,e⟩:=x; exact⟨_,e⟩
 | tup xs=>obtain⟨_,_,_,ob,e,_⟩:=x; exact⟨_,e⟩
 | dK kvs=>obtain⟨_,_,_,_,o,_,_,e,_⟩:=x; exact⟨_,e⟩
 | dT kvs=>obtain⟨_,_,_,_,o,_,_,e,_⟩:=x; exact⟨_,e⟩
 | set S n=>obtain⟨o,_,_,_,e,_⟩:=x; exact⟨_,e⟩
 | ins C dx fs=>obtain⟨_,_,_,e,_⟩:=x; exact⟨_,e⟩
 | own y=>obtain⟨_,e⟩:=x; exact⟨_,e⟩
 | xd fs=>obtain⟨_,⟨_,_,_,e,_⟩,_⟩:=x; exact⟨_,e⟩
 | rng lo hi=>obtain⟨_,_,_,e⟩:=x; exact⟨_,e⟩
 | frz ob u=>obtain⟨e,_⟩:=x; exact⟨_,e⟩
 | tbl ps=>exact⟨_,(show h.get? a=some _ from x)⟩
 | met f y=>exact⟨_,(show h.get? a=some _ from x)⟩
 | ext φ=>obtain⟨_,e,_⟩:=x; exact e
section
variable {X:Cx} {NA:List (Nl×Nz)} {σ:St} {H:Hp} {s s':Nj} {E:XK}
theorem HH {e:Nk} (hex:X.ex=[]) (hst:X.stack=X.env::X.outer) (hf:X.env.frame=some X.env.locals) (I:aI X NA σ H s) (h:eV X.prog X.w X.stack H s E e s') {Cn n:Str} {cv:Nk} {p1 hp:Pos} {b0:Nu} {suite:List Nu} {i:Nat} {Q:Flow->Nj->Prop}
  (hg:Gl X Cn) (hm:X.mg Cn=some cv) (hdb:(Cn == ("__debug__":Str))=false) (hx:∀ c d0 H',E c d0 H'->PySem.W.exmOne X.K c cv=some true) (hN:X.N.Nodup) (hi:X.N[i]?=some n) (hl:X.env.kindOf n=some .local)
  (k:∀ ea c d0 H' o s6,E c d0 H'->H' ea=none->o.cls=c->aI X NA (σ.set i (some (.ref ea))) (bL H' ea (.frz o (.ext λ_=>True))) s6->
   wpAny (model X.prog X.w) (X.A.mark (some (.ref ea))) (execs (b0::suite) X.env) (λf s7=>∃ σ7 H7,aI X NA σ7 H7 s7/\∀ s8,aI X NA (σ7.set i none) H7 s8->Q f s8) mq s6):
  wpAny (model X.prog X.w) X.A (noteFrame e X.env) (λ_ s2=>wpAny (model X.prog X.w) X.A (setFlight e none) (λ_ s3=>wpAny (model X.prog X.w) X.A (handleBy e X.env [.ExceptHandler (some (.Name Cn p1)) (some n) (b0::suite) hp]) Q X.xe s3) X.xe s2) X.xe s':=by
 obtain⟨ea,cls,a0,H',B,rfl,os,bare,fl,hok,hB,hB2,un,q⟩:=h;have flc:=fl.2;have fl:=fl.1;have fr0:X.A.frames=some (X.env::X.outer):=by rw [<- hst]; exact I.ok.frames
 have fl0:Heap.FlyingW B (X.env::X.outer) ea cls a0.1 s'.heap:=by rw [<- hst]; exact fl
 refine wpAny_looks_onW fr0 hf fl0 λh4 held4 up4=>?_
 refine wpAny_landsW held4 λh5 fl5 up5=>?_
 have up45:=up4.trans up5;have I5:=I.landed os bare fl (by rw [hst]; exact fl5) up45 hok hB hB2 un
 obtain⟨ob,hob,hobc⟩:=fl5.there;refine wpAny_handleBy_cons (codeAny_handlers_test (fh (X:=X.marked (.ref ea) mq) (I5.marked (.ref ea) _) hg hm ?_ hdb)) (by intro z; cases z)
 have LT:PySem.W.Looks (model X.prog X.w) h5 (typeOf (.ref ea)) cls:=by
  subst hobc;exact(PySem.W.Looks.ld hob).andThen .now
 refine PySem.W.exm_one I5.kIn LT (hx cls a0.2 H' q) _ _ _ _ (λ_ _ z=>z) ?_
 refine codeAny_handlers_suite_as ?_;refine lands_againW fl5 λh6 fl6 up6=>?_
 have I6:=I.landed os bare fl (by rw [hst]; exact fl6) (up45.trans up6) hok hB hB2 un
 obtain⟨o6,ho6,hc6⟩:=fl6.there;have nfr:ea∉fc X.stack:=λz=>by
  obtain⟨_,o2,e2,d2⟩:=fl.2.2.1.mem z;obtain⟨oe,vs,T,oT,ts,w1,w2,w3,w4⟩:=fl.2.2.2;rw [w1] at e2;cases e2;exact d2 _ w3
 have nB:B.get? ea=none:=fl.2.1;have nw:∀ b o,s.heap.get? b=some o->b≠ea:=λb o z y=>by
  subst y;obtain⟨o',z'⟩:=hB2 b o z nfr;rw [nB] at z';cases z'
 have hn:H' ea=none:=by
  cases y:H' ea with
  | none=>rfl
  | some u=>
   obtain⟨o',z'⟩:=(hok ea u y).there;rw [nB] at z';cases z'
 have h0:X.s₀.heap.get? ea=none:=by
  cases y:X.s₀.heap.get? ea with
  | none=>rfl
  | some u=>
   obtain⟨o',z'⟩:=I.base.there ea u y (by rw [hex]; simp)
   exact absurd rfl (nw ea o' z')
 have I7:=I6.freeze ho6 hn h0 (λz=>nfr (by rw [hst,z]; unfold fc; rw [List.filterMap_cons,hf]; exact Mv)) (λx c z=>by
  obtain⟨v,o,z2,_⟩:=I.cell x c z;exact nw c o z2) (λp z=>nw p.1 p.2 (I.pin p z).1)
 refine fY (v:=.ref ea) I7 hN hi (.inl hl) rfl (λs7 I8=>?_) (.inr hl)
 exact MY (k ea cls a0.2 H' o6 s7 q hn hc6 I8) (λf s8 ⟨σ7,H7,I9,kk⟩=>uP I9 hN hi hl kk) λ_ _ z=>z.elim
end
def hU (cells:List (Nl×Nz)) (outer:List Env) (H:Hp) (h:Nt):Prop:=∀ p∈cells,h.get? p.1=some p.2/\H p.1=none/\p.1∉fc outer
theorem aI.cells {X:Cx} {NA:List (Nl×Nz)} {σ:St} {H:Hp} {s:Nj} {cells:List (Nl×Nz)} (I:aI X NA σ H s) (hex:X.ex=[]) (h:hU cells X.outer X.H₀ X.s₀.heap):hU cells X.stack H s.heap:=λp hp=>by
 obtain⟨e,n,f⟩:=h p hp;have nx:p.1∉X.ex:=by rw [hex]; simp
 refine⟨I.base.keep _ _ e n f nx,I.base.free _ _ e n nx,λz=>?_⟩
 rcases Mt.mp (I.stkSub p.1 z) with z | z
 ·have:=Mo e;rw [z] at this;exact absurd (Mz this I.ok.above) (Na _)
 ·exact f z
structure Fu (cells:List (Nl×Nz)) (P:Np) (w:Nr) (K:PySem.W.Frag) (mg:Str->Nm Nk) (base:Nt) (n:Nat) (g:Nl) (H:Hp) (E:XK):Prop where
 fn:∃ (o:Nz) (u:HO) (fd:FuncData),H g=some (.frz o u)/\o.data=.func fd
 run:∀ (A:Nq) (outer:List Env) (s:Nj),bE n A->oJ P w K mg base A outer s H->hU cells outer H s.heap->codeAny (model P w) A (.call (.ref g) ⟨[],[]⟩) (CR (eV P w) outer P w H s (λ_ _=>False) E) s
section
variable {X:Cx} {NA:List (Nl×Nz)} {σ:St} {H:Hp} {s:Nj} {E:XK}
theorem yl {E:Nk->Nj->Prop} {i:Nat} {x:Str} {v:V} {pos:Pos} {Q:Nk->Nj->Prop} (I:aI X NA σ H s) (hN:X.N[i]?=some x) (hv:tU X.env.scope x) (e:σ[i]?=some (some v)) (h:∀ u,bz v u->Q u s)
  (hd:(x == ("__debug__":Str))=false:=by decide) (hcd:(x == ("__classdict__":Str))=false:=by decide):wpAny (model X.prog X.w) X.A (eval (.Name x pos) X.env) Q E s:=by
 obtain⟨m,hn,hl⟩:=I.loc;obtain⟨u,r,l⟩:=hl i x v hN e hv;rcases l with ⟨hk,hm⟩ | ⟨hk,c,hc,hcell⟩
 ·exact wpAny_Name (wpAny_loadName_local I.ok.kind hk hn hm (h u r)) hd
 ·rcases hk with hk | hk
  ·exact wpAny_Name (wpAny_loadName_cell I.ok.kind hk hc hcell (h u r)) hd
  ·exact wpAny_Name (wpAny_loadName_free I.ok.kind hk hc hcell (h u r) hcd) hd
theorem rF {M:Model} {A:Nq} {E:Nk->Nj->Prop} {s:Nj} {env:Env} {pos:Pos} {g:Nl} {o:Nz} {fd:FuncData} {Q:Nk->Nj->Prop} (e:s.heap.get? g=some o) (d:o.data=.func fd)
  (h:wpAny M A (call (.ref g) []) Q E s):wpAny M A (callWith pos (.ref g) [] (backTo pos (starEach [] env)) []) Q E s:=
 PySem.W.callWith_of (P:=λh'=>h'.get? g=some o) rfl (λh' q=>⟨.frame,.inl rfl,(PySem.W.Looks.ld (part:=none) q).andThen (by rw [d]; exact .now)⟩) (evalArgs_nil3 ⟨e,h⟩)
def K6 (cells:List (Nl×Nz)) (P:Np) (w:Nr) (K:PySem.W.Frag) (mg:Str->Nm Nk) (base:Nt) (m:Nat) (cv:Nk) (j i:Nat) (t:TS):TS:=λD σ H=>∃ g E,σ[j]?=some (some (.ref g))/\Fu cells P w K mg base m g H E/\(∀ c d0 H',E c d0 H'->PySem.W.exmOne K c cv=some true)/\
 ∀ ea c d0 H' o,E c d0 H'->H' ea=none->o.cls=c->t ⟨fun σ7 H7=>D.nx (σ7.set i none) H7,D.rt,fun σ7 H7=>D.bk (σ7.set i none) H7,fun σ7 H7=>D.ct (σ7.set i none) H7⟩ (σ.set i (some (.ref ea))) (bL H' ea (.frz o (.ext λ_=>True)))
theorem GN {x Cn n:Str} {cv:Nk} {xp cp ep p1 hp pos:Pos} {b0:Nu} {suite:List Nu} {j i m:Nat} {t:TS} {cells:List (Nl×Nz)} (hce:hU cells X.outer X.H₀ X.s₀.heap) (hr:bE m X.A) (hd:X.calm=true->X.A.handled=none) (hex:X.ex=[]) (hst:X.stack=X.env::X.outer) (hf:X.env.frame=some X.env.locals) (hx:X.N[j]?=some x) (hv:tU X.env.scope x)
  (hg:Gl X Cn) (hm:X.mg Cn=some cv) (hN:X.N.Nodup) (hi:X.N[i]?=some n) (hl:X.env.kindOf n=some .local) (hs:∀ v,tI (X.marked v mq) (b0::suite) t)
  (hdb:(Cn == ("__debug__":Str))=false:=by decide) (hdx:(x == ("__debug__":Str))=false:=by decide) (hcx:(x == ("__classdict__":Str))=false:=by decide) (hsw:swapsWith (.Call (.Name x xp) [] [] cp) none ep.line X.env=pure false:=by rfl):
  PS X (.Try [.Expr (.Call (.Name x xp) [] [] cp) ep] [.ExceptHandler (some (.Name Cn p1)) (some n) (b0::suite) hp] [] [] pos) (K6 cells X.prog X.w X.K X.mg X.base m cv j i t):=by
 intro NA s σ H D I h;obtain⟨g,E,e,F,hE,k⟩:=h;refine wpAny_Try_except (wpAny_execs_cons (wpAny_Expr_any ?_ I.quiet hsw));refine wpAny_Call_Name_kw (yl I hx hv e (λu r=>?_) hdx hcx)
 cases r;obtain⟨o,u,fd,e1,e2⟩:=F.fn;obtain⟨q,_⟩:=(show dO X.prog X.w H s.heap g (.frz o u) from I.hok g _ e1)
 refine rF q e2 (wpAny_call (codeAny_mono (F.run X.A X.stack s hr I.env0 (I.cells hex hce)) λr s' z=>?_))
 cases r with
 | ok fl=>
  cases fl with
  | ret u=>obtain⟨_,_,_,_,_,_,_,q⟩:=z; exact q.elim
  | next=>exact z.elim
  | brk=>exact z.elim
  | cont=>exact z.elim
 | error e=>
  refine HH hex hst hf I z hg hm hdb hE hN hi hl λea c d0 H' o s6 y1 y2 y3 I6=>?_
  refine cu (hs (.ref ea) NA s6 _ _ _ (I6.marked (.ref ea) mq) (k ea c d0 H' o y1 y2 y3)) λf s7 y=>?_
  cases f with
  | next=>
   obtain⟨σ7,H7,I7,q⟩:=y;exact⟨σ7,H7,I7.unmarked hd,λs8 I8=>⟨_,_,I8,q⟩⟩
  | brk=>
   obtain⟨σ7,H7,I7,q⟩:=y;exact⟨σ7,H7,I7.unmarked hd,λs8 I8=>⟨_,_,I8,q⟩⟩
  | cont=>
   obtain⟨σ7,H7,I7,q⟩:=y;exact⟨σ7,H7,I7.unmarked hd,λs8 I8=>⟨_,_,I8,q⟩⟩
  | ret v=>
   obtain⟨v,σ7,H7,I7,r,q⟩:=y;exact⟨σ7,H7,I7.unmarked hd,λs8 I8=>⟨v,_,H7,I8,r,q⟩⟩
end
structure ji (K:PySem.W.Frag) (C:Nl):Prop where
 ga:PySem.W.findIn K (.ref C) "__getattribute__"=some (some (.builtin "BaseException.__getattribute__"))
 gt:PySem.W.findIn K (.ref C) "__getattr__"=some none
 cl:PySem.W.findIn K (.ref C) "__class__"=some (some (.builtin "object.__class__"))
 sb:PySem.W.subIn K (.ref C) (.type "BaseException")=some true
 so:PySem.W.subIn K (.ref C) (.type "object")=some true
 is:(PySem.W.clsIn K C).isSome=true
section
variable {prog:Np} {w:Nr} {A:Nq} {E:Nk->Nj->Prop} {h:Nt} {g:Nv GenState} {d:Drawn} {t:Nat} {os:OsState} {a C:Nl} {o:Nz} {K:PySem.W.Frag}
theorem Ek {R:Result->Nj->Prop} (X:K.In h) (c:ji K C) (hx:h.get? a=some o) (hc:o.cls=.ref C) (hq:R (.ok (.ret (.ref C))) ⟨h,g,d,t,os⟩):
  codeAny (model prog w) A (.call (.builtin "getset_descriptor.__get__") ⟨[.builtin "object.__class__",.ref a,.ref C],[]⟩) R ⟨h,g,d,t,os⟩:=by
 have hT5:(⟨h,g,d,t,os⟩:Nj).TypeIs (.builtin "object.__class__") "getset_descriptor":=F.typeOf_object_class
 have L:=PySem.W.looks_subIn (M:=model prog w) X c.so;have e:".".intercalate ("object.__class__".cutAt '.').dropLast="object":=F.owner_object_class
 refine codeAny_call_builtin F.slot_gs_get.plain F.entry_gs_get (F.slot_gs_get.check _ _ _ _ _ _ _ _ hT5 (F.args_gs_get _ _ _) ?_);rw [<- e] at L
 repeat (any_goals (first | assumption | (with_reducible refine wpAny_loadPart_at hx ?_; rw [hc]) | with_reducible refine L.at ?_ | wp_step))
 refine⟨Code.quiet_builtin _ (by decide +kernel),codeAny_builtin F.entry_object_class ?_⟩
 repeat (any_goals (first | assumption | (with_reducible refine wpAny_loadPart_at hx ?_; rw [hc]) | wp_step))
theorem Ap {tk:Tok} {Q:Fin->Nj->Prop} (X:K.In h) (c:ji K C) (hx:h.get? a=some o) (hc:o.cls=.ref C) (hq:Q (.done (.ret (.ref C))) ⟨h,g,d,t,os⟩):
  wpAny (model prog w) A (Builtin.«object.__getattribute__» ⟨[.ref a,.str "__class__" tk],[]⟩) Q E ⟨h,g,d,t,os⟩:=by
 have hT5:(⟨h,g,d,t,os⟩:Nj).TypeIs (.builtin "object.__class__") "getset_descriptor":=F.typeOf_object_class
 have f5:=F.typeOf_object_class;have f6:=F.slot_gs_get.lookup;have f7:=F.slot_gs_set.lookup;have L:=PySem.W.looks_findIn (M:=model prog w) X c.cl
 repeat (any_goals (first | assumption | (with_reducible refine wpAny_loadPart_at hx ?_; rw [hc]) | with_reducible refine L.at ?_ | wp_step))
 refine Ek X c hx hc ?_
 repeat (any_goals (first | assumption | wp_step))
theorem Am {M:Model} {nameV:Nk} {Q:Unit->Nj->Prop} (X:K.In h) (c:ji K C) (hx:h.get? a=some o) (hc:o.cls=.ref C) (hq:Q () ⟨h,g,d,t,os⟩):
  wpAny M A (checkBuiltinCall "BaseException.__getattribute__" ⟨[.ref a,nameV],[]⟩) Q E ⟨h,g,d,t,os⟩:=by
 have hk:builtinKind "BaseException.__getattribute__"=some .slot:=by decide +kernel
 have hsplit:splitId "BaseException.__getattribute__"=some ("BaseException","__getattribute__"):=by decide +kernel
 have L:=PySem.W.looks_subIn (M:=M) X c.sb;have ha:=F.args_bexc_ga (.ref a) nameV;simp only [checkBuiltinCall,hk,hsplit];refine Mj ?_;unfold isInstance
 repeat (first | (with_reducible refine wpAny_loadPart_at hx ?_; rw [hc]) | with_reducible refine L.at ?_ | wp_step)
 exact hq
theorem GM {tk:Tok} {Q:Nk->Nj->Prop} (X:K.In h) (c:ji K C) (hx:h.get? a=some o) (hc:o.cls=.ref C) (hq:Q (.ref C) ⟨h,g,d,t,os⟩):
  wpAny (model prog w) A (getAttrBy (.ref a) (.str "__class__" tk) false) Q E ⟨h,g,d,t,os⟩:=by
 have f3:=F.excAttr_ValueError.ga.bind (.ref a);have hx2:(Value.builtin "BaseException.__getattribute__" == Value.builtin "object.__getattribute__")=false:=by decide +kernel
 have hx1:(onTheHeap (Value.ref C) && Value.builtin "BaseException.__getattribute__" == Value.builtin "object.__getattribute__")=false:=by rw [hx2]; rfl
 have L1:=PySem.W.looks_findIn (M:=model prog w) X c.ga;have L2:=PySem.W.looks_findIn (M:=model prog w) X c.gt
 repeat (any_goals (first | assumption | (with_reducible refine wpAny_loadPart_at hx ?_; rw [hc]) | with_reducible refine L1.at ?_ | with_reducible refine L2.at ?_ | wp_step))
 refine codeAny_call_builtin F.excAttr_ValueError.ga.plain F.entry_bexc_ga (Am X c hx hc (Ap X c hx hc ?_))
 repeat (any_goals (first | assumption | wp_step))
theorem BY {Q:Nm Nk->Nj->Prop} (X:K.In h) (c:ji K C) (hx:h.get? a=some o) (hc:o.cls=.ref C) (hq:Q (some (.ref C)) ⟨h,g,d,t+1,os⟩):
  wpAny (model prog w) A (getAttr? (.ref a) "__class__") Q E ⟨h,g,d,t,os⟩:=by
 unfold getAttr? getAttrBy?
 repeat (any_goals (first | assumption | with_reducible apply GM X c hx hc | wp_step))
end
theorem Bi {K:PySem.W.Frag} {a C:Nl} (c:ji K C):PySem.W.KitX K (.ref a) (.ref C) (λh=>∃ o,h.get? a=some o/\o.cls=.ref C) where
 ty:=λM h _ z9=>by obtain⟨o,e,q⟩:=z9; rw [<- q]; exact(PySem.W.Looks.ld e).andThen .now
 it:=λ_ _ X _=>by
  have hc:=c.is;unfold PySem.W.clsIn at hc
  split at hc
  ·rename_i c' d' cd' sl' ho
   intro A' Q' E' s' k q;unfold isType loadHead;exact Mj (wpAny_loadPart (k _ _ (X _ _ ho)) (Ml q))
  ·cases hc
 ne:=λh tp dd its n sl X htp=>by
  have hc:=c.is;refine Bool.eq_false_iff.mpr λq=>?_
  have e:C=tp:=Value.ref.inj (beq_iff_eq.mp q);subst e;unfold PySem.W.clsIn at hc
  split at hc
  ·rename_i c' d' cd' sl' ho
   have z:=(X _ _ ho).symm.trans htp;cases z
  ·cases hc
 ca:=λ{_ _ _ _ _ s} X ⟨o,e,q⟩ k=>by
  obtain⟨h,g,d,t,os⟩:=s;exact BY X c e q k
theorem rZ {X:Cx} {NA:List (Nl×Nz)} {σ:St} {H:Hp} {s:Nj} {A:Nq} {E:Nk->Nj->Prop} {Q:Nk->Nj->Prop} {cv:Nk} {b:Nw} {a C:Nl} {o:Nz} {u:HO} (I:aI X NA σ H s) (c:ji X.K C) (e:H a=some (.frz o u)) (q:o.cls=.ref C)
  (k:PySem.W.kitOne X.K (.ref C) cv=some b) (h:∀ tk,Q (.bool b) {s with toks:=tk}):wpAny (model X.prog X.w) A (call (.builtin "isinstance") [.ref a,cv]) Q E s:=by
 obtain⟨e1,_⟩:=(show dO X.prog X.w H s.heap a (.frz o u) from I.hok a _ e)
 exact PySem.W.kia_one (Bi c) I.kIn ⟨o,e1,q⟩ k (λz=>nomatch z) h
end L2
namespace DL
open PySem PySem.Spec PyProof.Rows L2
def qY (S S':DH):Prop:=∀ b o,S b=some o->S' b=some o
def xI (cells:List (Nl×Nz)) (P:Np) (w:Nr) (K:Fg) (mg:Str->Nm Nk) (base:Nt) (m:Nat) (g C:Nl) (H:Hp):Prop:=
 ∀ S,Hs K H S->Fu cells P w K mg base m g H λc _ H'=>c=.ref C/\Kp H H'/\∃ S',Hs K H' S'/\qY S S'
theorem Lc.unset {K:Fg} {H:Hp}:∀ {L:Lo} {σ:L2.St} (i:Nat),Lc K H L σ->Lc K H (L.set i .none) (σ.set i .none)
 | [],σ,i,h=>by have h:σ=[]:=h; subst h; exact rfl
 | .none::L,σ,0,h=>by obtain⟨x,r,rfl,h⟩:=h; exact⟨_,r,rfl,h⟩
 | .none::L,σ,i+1,h=>by obtain⟨x,r,rfl,h⟩:=h; exact⟨x,_,rfl,Lc.unset i h⟩
 | .some d::L,σ,0,h=>by obtain⟨x,r,rfl,_,h⟩:=h; exact⟨_,r,rfl,h⟩
 | .some d::L,σ,i+1,h=>by obtain⟨x,r,rfl,hd,h⟩:=h; exact⟨x,_,rfl,hd,Lc.unset i h⟩
theorem Hs.newX {K:Fg} {H:Hp} {S:DH} {p C:Nl} {o:Nz} {u:HO} (h:Hs K H S) (e:H p=none) (c:o.cls=.ref C):Hs K (bL H p (.frz o u)) (put S p (.exc C)):=λa q z=>by
 by_cases y:a=p
 ·subst y;rw [ak] at z;cases z;exact⟨o,u,bp,c⟩
 ·rw [bw y] at z;exact(h.new e) a q z
section
variable {X:Cx} {pos:Pos}
theorem j_ {x:Str} {C:Nl} (hm:X.mg x=some (.ref C)) (hg:Gl X x) (hd:(x == ("__debug__":Str))=false:=by decide):EJ X (.Name x pos) (dC (.ref C)):=
 ⟨λNA s σ H Q I z9=>by obtain⟨L,S,k,hL,hS,h,n⟩:=z9; exact fh I hg hm ⟨.ref C,H,I,rfl,n _ _ _ _ h (Kp.refl H) hS (cf.mpr rfl)⟩ hd⟩
def Fy (K:Fg):cr:=λds S k=>match ds with
 | [.ref a,.ref c]=>∃ C b,S a=some (.exc C)/\ji K C/\PySem.W.kitOne K (.ref C) (.ref c)=some b/\k (.bl b) S
 | [.ref a,.ty c]=>∃ C b,S a=some (.exc C)/\ji K C/\PySem.W.kitOne K (.ref C) (.type c.name)=some b/\k (.bl b) S
 | _=>False
theorem jA:dZ X (.builtin "isinstance") (wt X.K (Fy X.K)):=by
 intro NA s σ H xs us Q I rs h;obtain⟨ds,S,k,i,hS,r,n⟩:=h;unfold Fy at r
 split at r
 ·obtain⟨x,y,rfl,i1,i2⟩:=pb i;have e1:=cf.mp i1;have e2:=cf.mp i2;subst e1;subst e2;obtain⟨C,b,z,c,kk,w⟩:=r;obtain⟨u,w',rfl,r1,r2⟩:=uG rs;cases r1;cases r2;obtain⟨o,u,e,q⟩:=hS _ _ z;exact rZ I c e q kk λtk=>⟨.bl b,H,I.tok tk,rfl,n _ _ _ _ w (Kp.refl H) hS (ce.mpr rfl)⟩
 ·rename_i a c
  obtain⟨x,y,rfl,i1,i2⟩:=pb i;have e1:=cf.mp i1;have e2:=C8.mp i2;subst e1;subst e2;obtain⟨C,b,z,cc,kk,w⟩:=r;obtain⟨u,w',rfl,r1,r2⟩:=uG rs;cases r1;cases (show w'=Value.type c.name from r2)
  obtain⟨o,u,e,q⟩:=hS _ _ z;exact rZ I cc e q kk λtk=>⟨.bl b,H,I.tok tk,rfl,n _ _ _ _ w (Kp.refl H) hS (ce.mpr rfl)⟩
 ·exact r.elim
def KA (cells:List (Nl×Nz)) (P:Np) (w:Nr) (K:Fg) (mg:Str->Nm Nk) (base:Nt) (m:Nat) (cv:Nk) (j i:Nat) (t:DS):DS:=λM L S=>∃ g C φ,L[j]?=some (some (.ref g))/\S g=some (.fn φ)/\(∀ H,φ H->xI cells P w K mg base m g C H)/\
 PySem.W.exmOne K (.ref C) cv=some true/\∀ ea S',qY S S'->S' ea=none->t {nx:=λL S=>M.nx (L.set i none) S,rt:=M.rt,bk:=λL S=>M.bk (L.set i none) S,ct:=λL S=>M.ct (L.set i none) S} (L.set i (some (.ref ea))) (put S' ea (.exc C))
theorem BL {x Cn n:Str} {cv:Nk} {xp cp ep p1 hp:Pos} {b0:Nu} {suite:List Nu} {j i m:Nat} {t:DS} {cells:List (Nl×Nz)} (hce:hU cells X.outer X.H₀ X.s₀.heap) (hr:bE m X.A) (hd:X.calm=true->X.A.handled=none) (hex:X.ex=[]) (hst:X.stack=X.env::X.outer) (hf:X.env.frame=some X.env.locals) (hx:X.N[j]?=some x) (hv:tU X.env.scope x)
  (hg:Gl X Cn) (hm:X.mg Cn=some cv) (hN:X.N.Nodup) (hi:X.N[i]?=some n) (hl:X.env.kindOf n=some .local) (hs:∀ v,xz (X.marked v mq) (b0::suite) t)
  (hdb:(Cn == ("__debug__":Str))=false:=by decide) (hdx:(x == ("__debug__":Str))=false:=by decide) (hcx:(x == ("__classdict__":Str))=false:=by decide) (hsw:swapsWith (.Call (.Name x xp) [] [] cp) none ep.line X.env=pure false:=by rfl):
  SJ X (.Try [.Expr (.Call (.Name x xp) [] [] cp) ep] [.ExceptHandler (some (.Name Cn p1)) (some n) (b0::suite) hp] [] [] pos) (KA cells X.prog X.w X.K X.mg X.base m cv j i t):=
 ⟨PS.imp (GN (t:=Dq X.K t) hce hr hd hex hst hf hx hv hg hm hN hi hl (λv=>(hs v).h) hdb hdx hcx hsw) λN σ H ⟨L,S,M,hL,hS,h,r⟩=>by
  obtain⟨g,C,φ,e,z,hφ,hc,k⟩:=h;obtain⟨v,e1,e2⟩:=hL.get e;have e3:=cf.mp e2;subst e3;obtain⟨_,af⟩:=hS _ _ z;refine⟨g,_,e1,hφ H (af H (Kp.refl H)) S hS,?_,?_⟩
  ·rintro c d0 H' ⟨rfl,_⟩;exact hc
  ·rintro ea c d0 H' o ⟨rfl,kp,S',hS',ex⟩ hn ho;have k2:Kp H (bL H' ea (.frz o (.ext λ_=>True))):=kp.trans (Kp.new hn)
   have r2:=r.kp k2;refine⟨_,_,_,(hL.kp k2).set (cf.mpr rfl) i,hS'.newX hn ho,k ea S' ex (hS'.free hn),?_⟩;exact⟨λL3 S3 σ3 H3 q3 k3 hL3 hS3=>r2.nx _ _ _ _ q3 k3 (hL3.unset i) hS3,r2.rt,λL3 S3 σ3 H3 q3 k3 hL3 hS3=>r2.bk _ _ _ _ q3 k3 (hL3.unset i) hS3,λL3 S3 σ3 H3 q3 k3 hL3 hS3=>r2.ct _ _ _ _ q3 k3 (hL3.unset i) hS3⟩⟩
end
abbrev Er:=Nl×Nm Int
instance:Coe Nl Er:=⟨λa=>(a,none)⟩
def jz (n:Nm Int) (d0:Nm Nl) (H:Hp):Prop:=∀ i,n=some i->∃ dx,d0=some dx/\H dx=some (.xd [("step",.int i)])
theorem jz.no {d0:Nm Nl} {H:Hp}:jz none d0 H:=λ_ e=>by cases e
abbrev mH:=List D->DH->DK->(Er->DH->Prop)->Prop
def AC (K:Fg) (F:mH):Sp:=λvs H Q E=>∃ ds S k x,IsDs K H ds vs/\Hs K H S/\F ds S k x/\(∀ d' S' v H',k d' S'->Kp H H'->Hs K H' S'->cK K H' d' v->Q v H')/\∀ r d0 S' H',x r S'->Hs K H' S'->jz r.2 d0 H'->E (.ref r.1) d0 H'
structure nO (P:Np) (w:Nr) (K:Fg) (mg:Str->Nm Nk) (base:Nt) (x:Str) (n:Nat) (F:mH):Prop where
 ex:∃ f fd ps,aU P w K mg base (eV P w) n f fd ps (AC K F)/\mg x=some (.ref f)/\PySem.W.keepIn K (.ref f)=true/\gM K fd ps []
section
variable {P:Np} {w:Nr} {K:Fg} {mg:Str->Nm Nk} {base:Nt} {N:List Str} {qual:Str} {scope:Scope} {f:Nl} {cd:Nk} {A:Nq} {outer:List Env} {s0:Nj} {H0:Hp} {E:XK} {ex:Er->DH->Prop}
theorem nL {x t:Str} {C:Nl} {bmB:List Nk} {Bn newId initId:Ny} {j:Nat} {p np cpos pos:Pos} (hE:∀ r d0 S' H',ex r S'->Hs K H' S'->jz r.2 d0 H'->E (.ref r.1) d0 H') (FB:ExcBaseFacts Bn newId initId bmB) (q:PySem.W.excIn K C bmB newId=true) (hm:mg x=some (.ref C))
  (hg:Gl (cQ (eV P w) P w K mg base N qual scope f cd A outer s0 H0 E) x) (hd:(x == ("__debug__":Str))=false:=by decide):
  SJ (cQ (eV P w) P w K mg base N qual scope f cd A outer s0 H0 E) (.Raise (some (.Call (.Name x np) [.Constant (.str t) j p] [] cpos)) none pos) (λ_ _ S=>ex (C,none) S):=
 ⟨PS.imp (AN FB q hm hg hd) λ_ _ H ⟨_,S,_,_,hS,h,_⟩=>hE (C,none) none S H h hS jz.no⟩
def yr (F:mH) (ex:Er->DH->Prop) (t:DA):DE:=λL S k=>t L S λds S1=>F ds S1 k ex
theorem oO {x:Str} {n:Nat} {F:mH} {e:No} {es:List No} {t:DA} {p pos:Pos} (hE:∀ r d0 S' H',ex r S'->Hs K H' S'->jz r.2 d0 H'->E (.ref r.1) d0 H') (c:nO P w K mg base x n F) (hr:bE n (cQ (eV P w) P w K mg base N qual scope f cd A outer s0 H0 E).A)
  (hg:Gl (cQ (eV P w) P w K mg base N qual scope f cd A outer s0 H0 E) x) (ha:AJ (cQ (eV P w) P w K mg base N qual scope f cd A outer s0 H0 E) (e::es) t) (hdb:(x == ("__debug__":Str))=false:=by decide)
  (he:starEach (e::es) (cQ (eV P w) P w K mg base N qual scope f cd A outer s0 H0 E).env=(false,eval e (cQ (eV P w) P w K mg base N qual scope f cd A outer s0 H0 E).env)::starEach es (cQ (eV P w) P w K mg base N qual scope f cd A outer s0 H0 E).env:=by exact cq rfl)
  (hpl:(backTo pos (starEach es (cQ (eV P w) P w K mg base N qual scope f cd A outer s0 H0 E).env)).any (·.1)=false:=by exact fQ rfl):
  EJ (cQ (eV P w) P w K mg base N qual scope f cd A outer s0 H0 E) (.Call (.Name x p) (e::es) [] pos) (yr F ex t):=by
 obtain⟨g,fd,ps,F1,h1,h2,h3⟩:=c.ex;refine⟨PE.imp (vH F1 hr hg h1 h2 h3 .nil DV ha.h hdb he hpl) fun σ H Q ⟨L,S,k,hL,hS,h,n⟩=>?_⟩
 refine qR.go hL hS h λds S1 vs H1 h1 k1 hL1 hS1 i1=>?_
 show AC K F (vs++[]) H1 Q E
 rw [MJ];exact⟨ds,S1,k,ex,i1,hS1,h1,λd' S' v H' q k3 z1 z2=>n d' S' v H' q (k1.trans k3) z1 z2,hE⟩
theorem _root_.L2.rC.okX {x qual:Str} {st:Nu} {f:Nl} {fd:FuncData} {N ps:List Str} {k:Nat} {F:mH} (Fn:rC K x qual st f fd) (Sc:av N ps (am st)) (len:∀ ds S k x,F ds S k x->ds.length=ps.length)
  (hbody:∀ (cdv:Nk) (A:Nq) (outer:List Env) (s:Nj) (H:Hp) (E:XK) (ex:Er->DH->Prop),bE k (A.deeper (envOfC qual (am st) s.heap.objs.size f cdv))->(∀ r d0 S' H',ex r S'->Hs K H' S'->jz r.2 d0 H'->E (.ref r.1) d0 H')->
   ∃ g,xz (cQ (eV P w) P w K mg base N qual (am st) f cdv A outer s H E) (b_ st) g/\
    ∀ ds S k,F ds S k ex->g {nx:=λ_ S'=>k .non S',rt:=k} (ds.map some++List.replicate (N.length - ps.length) none) S):aU P w K mg base (eV P w) (k+1) f fd ps (AC K F):=by
 obtain⟨oc,od,kV,doc,pm,an,cdv,ct,osl,rfl,lk,hcd⟩:=Fn.ex;refine BM lk hcd Sc (λvs H Q E h=>?_) λA outer s H vs Q E hr h=>?_
 ·obtain⟨ds,S,k,x,i,_,q,_⟩:=h;rw [<- i.length];exact len ds S k x q
 ·obtain⟨ds,S,k',x,i,hS,h,n,hE⟩:=h;obtain⟨g,hg,q⟩:=hbody cdv A outer s H E x hr hE;refine⟨_,hg.h,ds.map some++List.replicate (N.length - ps.length) none,S,_,?_,hS,q ds S k' h,?_⟩
  ·unfold L2.start;rw [<- i.length,len ds S k' x h];exact Lc.start _ i
  ·exact⟨λL S' σ H' h1 k1 _ hS'=>n _ S' _ H' h1 k1 hS' (du.mpr rfl),λd S' v H' h1 k1 hS' i1=>n d S' v H' h1 k1 hS' i1,λ_ _ _ _ h1=>h1.elim,λ_ _ _ _ h1=>h1.elim⟩
end
end DL
namespace L2
open PySem PySem.Spec PyProof.Rows
def sQ (H:Hp) (qual:Str) (cv:Nk):Prop:=∃ (c':Nl) (oc:Nz) (uc:HO) (vs:Nv Nk) (t:Tok),cv=.ref c'/\H c'=some (.frz oc uc)/\oc.data=.fields vs/\vs[1]?=some (.str qual t)
theorem sQ.kp {H H':Hp} {qual:Str} {cv:Nk} (h:sQ H qual cv) (k:∀ b o u,H b=some (.frz o u)->H' b=some (.frz o u)):sQ H' qual cv:=by
 obtain⟨c',oc,uc,vs,t,e,h1,h2,h3⟩:=h;exact⟨c',oc,uc,vs,t,e,k _ _ _ h1,h2,h3⟩
structure qJ (H:Hp) (qual:Str) (ps:Nv Nk):Prop where
 tri:TriplesOk ps.toList
 ok:∀ pos cv,codeAmong pos ps.toList=some cv->sQ H qual cv
theorem qJ.kp {H H':Hp} {qual:Str} {ps:Nv Nk} (h:qJ H qual ps) (k:∀ b o u,H b=some (.frz o u)->H' b=some (.frz o u)):qJ H' qual ps:=⟨h.tri,λpos cv e=>(h.ok pos cv e).kp k⟩
theorem tP {pos p:Pos} {c cv:Nk} (l:List Nk) (h:TriplesOk l) (e:codeAmong pos (l++[rawInt p.line,rawInt p.col,c])=some cv):codeAmong pos l=some cv\/cv=c:=by
 fun_induction TriplesOk l with
 | case1=>
  simp only [List.nil_append,codeAmong,rawInt] at e
  split at e
  ·cases e; exact .inr rfl
  ·cases e
 | case2 a t b u x eJ ih=>
  simp only [List.cons_append,codeAmong] at e ⊢
  split at e
  ·rename_i hc; rw [if_pos hc]; exact .inl e
  ·rename_i hc; rw [if_neg hc]; exact ih h e
 | case3=>exact h.elim
theorem vQ {p:Pos} {c:Nk} (l:List Nk) (h:TriplesOk l):TriplesOk (l++[rawInt p.line,rawInt p.col,c]):=by
 fun_induction TriplesOk l with
 | case1=>exact trivial
 | case2 a t b u x eJ ih=>exact ih h
 | case3=>exact h.elim
def i_ (qual:Str) (params:Arguments) (body:No) (scope:Scope) (clos:List (Str×Nl)) (g:Nl) (H:Hp):Prop:=
 ∃ (o:Nz) (u:HO) (cv pm ctv:Nk),H g=some (.frz o u)/\o.data=.func (PySem.W.kla_fn "<lambda>" qual params body scope clos pm cv ctv)/\sQ H qual cv
theorem i_.kp {H H':Hp} {qual:Str} {params:Arguments} {body:No} {scope:Scope} {clos:List (Str×Nl)} {g:Nl} (h:i_ qual params body scope clos g H) (k:∀ b o u,H b=some (.frz o u)->H' b=some (.frz o u)):i_ qual params body scope clos g H':=by
 obtain⟨o,u,cv,pm,ctv,h1,h2,h3⟩:=h;exact⟨o,u,cv,pm,ctv,k _ _ _ h1,h2,h3.kp k⟩
def lC (mg:Str->Nm Nk) (base:Nt):Prop:=(∃ bm ob,mg "__builtins__"=some (.ref bm)/\bm≠builtinsNs/\base.get? bm=some ob/\ob.cls=.type "module"/\ob.dict=some builtinsNs/\ob.data=.plain)/\base.NoSeer
def KF (P:Nl) (qual:Str) (params:Arguments) (body:No) (scope:Scope) (clos:List (Str×Nl)):TE:=fun σ H Q=>∃ ps,H P=some (.tbl ps)/\qJ H qual ps/\
 ∀ g H',H g=none->(∀ b o,b≠P->H b=some o->H' b=some o)->(∃ ps',H' P=some (.tbl ps')/\qJ H' qual ps')->i_ qual params body scope clos g H'->Q (.ref g) H'
section
variable {X:Cx} {params:Arguments} {body:No} {scope:Scope} {clos:List (Str×Nl)} {c P:Nl} {pos:Pos}
theorem Ab (hC:PySem.W.CodeHd X.base c P) (hb:lC X.mg X.base) (hcode:X.env.code=.ref c) (hdef:defaultsOf params X.env=([],[])) (hcl:closureFor scope X.env=pure clos):
  PE X (.Lambda params body scope pos) (KF P (X.env.qual++"<lambda>") params body scope clos):=by
 intro NA s σ H Q I h;obtain⟨ps,hP,T,k⟩:=h;have eP:s.heap.get? P=some (PySem.W.tabObj ps):=I.hok P _ hP;have hg:s.heap.Ns mainGlobals X.mg:=I.mod.glob.keeps I.bk;obtain⟨bm,ob,b1,b2,b3,b4,b5,b6⟩:=hb.1;have b3':=I.bk _ _ b3;have hgP:mainGlobals≠P:=λq=>by
  obtain⟨o,es,ep,e,hd,_⟩:=id hg;rw [q,eP] at e; cases e; cases hd
 have hbP:bm≠P:=λq=>by rw [q,eP] at b3'; cases b3'; cases b4
 have hbG:bm≠mainGlobals:=λq=>by
  obtain⟨o,es,ep,e,hd,_⟩:=id hg;rw [q,e] at b3'; cases b3'; rw [hd] at b6; cases b6
 have C:=hC.keeps I.bk;refine PySem.W.kla_eval hdef ?_;cases hf:codeAmong pos ps.toList with
 | some cv=>
  refine PySem.W.kla_makeFunctionHit (mg:=X.mg) hcl I.ok.glob hg hcode C eP T.tri hf ⟨bm,ob,b1,b2,hbG,hbP,b3',b4,b5,b6⟩ λctv h' tk hk hsz=>?_
  have kk:∀ (x:Nz) b o,s.heap.get? b=some o->(h'.push x).get? b=some o:=λx b o e=>Mk _ (hk b o e)
  have hn:=I.hok.fresh hsz;have st:∀ b o,H b=some o->∀ x,bL H h'.objs.size x b=some o:=λb o e x=>by rw [aF (bg e hn)]; exact e
  refine⟨.ref h'.objs.size,bL H h'.objs.size (.frz _ (.ext λ_=>True)),I.laid (kk _) hsz ⟨Mm _ rfl,trivial,⟨_,Mm _ rfl⟩,λ_ _ _ _=>trivial⟩,rfl,k _ _ hn (λb o _ e=>st b o e _) ⟨ps,st P _ hP _,T.kp λb o u e=>st b _ e _⟩ ?_⟩
  exact⟨_,_,cv,_,ctv,bp,rfl,(T.ok pos cv hf).kp λb o u e=>st b _ e _⟩
 | none=>
  refine PySem.W.kla_makeFunction (mg:=X.mg) hcl I.ok.glob hg hcode C eP T.tri hf hgP ⟨bm,ob,b1,b2,hbG,hbP,b3',b4,b5,b6⟩ λc' ctv h' tk hx hge hlt hrec htb=>?_
  obtain⟨c₂,oc,vs,t,e2,hoc,hd,hv⟩:=hrec;cases e2;have hsz:s.heap.objs.size<=h'.objs.size:=M1 hge (Nat.le_of_lt hlt);have hn:=I.hok.fresh hsz;have hnc:=I.hok.fresh hge;have nP:∀ b,H b=none->b≠P:=λb e z=>by rw [z,hP] at e; cases e
  have cP:=nP _ hnc;have gP:=nP _ hn;have gc:h'.objs.size≠c':=Nat.ne_of_gt hlt;generalize hob:PySem.W.kla_obj "<lambda>" (X.env.qual++"<lambda>") params body scope clos ((X.mg "__name__").getD .none) c' ctv=fo
  have hfo:fo.isFreed=false:=by rw [<- hob]; rfl
  have kk:∀ b o,b≠P->s.heap.get? b=some o->(h'.push fo).get? b=some o:=λb o n e=>Mk _ (hx b o n e)
  let H':Hp:=bL (bL (bL H P (.tbl (ps++#[rawInt pos.line,rawInt pos.col,.ref c']))) c' (.frz oc (.ext λ_=>True))) h'.objs.size (.frz fo (.ext λ_=>True))
  have st:∀ b o,b≠P->H b=some o->H' b=some o:=λb o n e=>by
   show bL _ _ _ b=_
   rw [aF (bg e hn),aF (bg e hnc),aF n]; exact e
  have nfz:∀ b o u,H b=some (.frz o u)->b≠P:=λb o u e z=>by rw [z,hP] at e; cases e
  have ntp:∀ b xs,H b=some (.tup xs)->b≠P:=λb xs e z=>by rw [z,hP] at e; cases e
  have nown:∀ b y,H b=some (.own y)->b≠P:=λb y e z=>by rw [z,hP] at e; cases e
  have hPP:H' P=some (.tbl (ps++#[rawInt pos.line,rawInt pos.col,.ref c'])):=by
   show bL _ _ _ P=_
   rw [aF (Ne.symm gP),aF (Ne.symm cP),bp]
  have hcc:H' c'=some (.frz oc (.ext λ_=>True)):=by
   show bL _ _ _ c'=_
   rw [aF (Ne.symm gc),bp]
  have un:Un X.fs [] H H' s.heap (h'.push fo):=by
   refine⟨λb o e n _ _=>kk b o (nP b n) e,λb o e n _ _=>⟨o.slots,kk b o (nP b n) e⟩,λb o e n _=>?_,λb o e _=>?_,λb xs e=>st b _ (ntp b xs e) e,λb o u e=>st b _ (nfz b o u e) e,λb qs e=>?_⟩
   ·have lb:=Mo e
    show bL _ _ _ b=none
    rw [aF (Mu (Mz lb hsz)),aF (Mu (Mz lb hge)),aF (nP b n)]; exact n
   ·by_cases z:b=P
    ·subst z; exact⟨_,Mk _ htb⟩
    ·exact⟨o,kk b o z e⟩
   ·by_cases z:b=P
    ·subst z;rw [hP] at e;cases e;exact⟨_,hPP⟩
    ·exact⟨#[],by rw [st b _ z e]; simp⟩
  have hok:nj X.prog X.w H' (h'.push fo):=λb o e=>by
   by_cases z1:b=h'.objs.size
   ·subst z1;have e:bL _ h'.objs.size _ h'.objs.size=some o:=e;rw [bp] at e;cases e;exact⟨Mm _ hfo,trivial,⟨_,Mm _ hfo⟩,λ_ _ _ _=>trivial⟩
   ·by_cases z2:b=c'
    ·subst z2;rw [hcc] at e;cases e;exact⟨Mk _ hoc,trivial,⟨_,Mk _ hoc⟩,λ_ _ _ _=>trivial⟩
    ·by_cases z3:b=P
     ·subst z3;rw [hPP] at e;cases e;exact(Mk _ htb:_)
     ·have e1:bL (bL (bL H P _) c' _) h'.objs.size _ b=some o:=e;rw [aF z1,aF z2,aF z3] at e1;refine(I.hok b o e1).stay (λd v hd q=>kk d v ?_ q) (λd q=>st d _ (nown d b q) q) λd xs q=>st d _ (ntp d xs q) q
      rcases hd with rfl | hd
      ·exact z3
      ·exact nown d b hd
  refine⟨.ref h'.objs.size,H',I.un (t':=tk) un hok,rfl,k _ _ hn st ⟨_,hPP,⟨?_,λp cv e=>?_⟩⟩ ?_⟩
  ·rw [Array.toList_append]; exact vQ _ T.tri
  ·rw [Array.toList_append] at e;rcases tP _ T.tri e with e | rfl
   ·exact(T.ok p cv e).kp λb o u q=>st b _ (nfz b o u q) q
   ·exact⟨c',oc,_,vs,t,rfl,hcc,hd,hv⟩
  ·subst hob;exact⟨_,_,.ref c',_,ctv,bp,rfl,⟨c',oc,_,vs,t,rfl,hcc,hd,hv⟩⟩
end
section
variable {X:Cx} {NA:List (Nl×Nz)} {σ:St} {H H':Hp} {s sx:Nj} {E:XK}
theorem EL {B h':Nt} {ea:Nl} {cls:Nk} {a0:Nk×Nm Nl} (hex:X.ex=[]) (I:aI X NA σ H s) (os:sx.os=s.os) (bare:AllBare sx.gens)
  (fl:oH B X.outer ea cls a0 h') (hok:nj X.prog X.w H' B) (hB:∀ b o,s.heap.get? b=some o->H b=none->b∉fc X.stack->B.get? b=some o)
  (hB2:∀ b o,s.heap.get? b=some o->b∉fc X.stack->∃ o',B.get? b=some o')
  (hsl:∀ b∈fc X.outer,∀ o,s.heap.get? b=some o->∃ sl,h'.get? b=some {o with slots:=sl}) (fr:∀ b o,s.heap.get? b=some o->H b=none->H' b=none) (tu:∀ b xs,H b=some (.tup xs)->H' b=some (.tup xs)) (fz:∀ b o u,H b=some (.frz o u)->H' b=some (.frz o u))
  (tb:∀ b ps,H b=some (.tbl ps)->∃ more,H' b=some (.tbl (ps++more))) (q:E cls a0.2 H'):eV X.prog X.w X.outer X.H₀ X.s₀ E (.ref ea) {sx with heap:=h'}:=by
 have nx:∀ b:Nl,b∉X.ex:=λb=>by rw [hex]; simp
 have nst:∀ b o,X.s₀.heap.get? b=some o->b∉fc X.outer->b∉fc X.stack:=λb o e hb z=>by
  rcases Mt.mp (I.stkSub b z) with z | z
  ·have:=Mo e;have ab:=I.ok.above;rw [z] at this;exact absurd (Mz this ab) (Na _)
  ·exact hb z
 have hkeep:∀ b o,X.s₀.heap.get? b=some o->X.H₀ b=none->b∉fc X.outer->B.get? b=some o:=λb o e n hb=>
  hB b o (I.base.keep b o e n hb (nx b)) (I.base.free b o e n (nx b)) (nst b o e hb)
 have hthere:∀ b o,X.s₀.heap.get? b=some o->b∉fc X.outer->∃ o',B.get? b=some o':=λb o e hb=>by
  obtain⟨o',e1⟩:=I.base.there b o e (nx b);exact hB2 b o' e1 (nst b o e hb)
 refine⟨ea,cls,a0,H',B,rfl,os.trans I.os,bare,fl,hok,hkeep,hthere,⟨λb o e n hb _=>fl.1.1 _ _ (hkeep b o e n hb),λb o e n hb _=>?_,λb o e n _=>?_,λb o e _=>?_,λb xs e=>tu _ _ (I.base.tups b xs e),λb o u e=>fz _ _ _ (I.base.frzs b o u e),λb ps e=>?_⟩,q⟩
 ·obtain⟨sl,e1⟩:=I.base.slot b o e n hb (nx b);obtain⟨sl',e2⟩:=hsl b hb _ e1;exact⟨sl',e2⟩
 ·obtain⟨o',e1⟩:=I.base.there b o e (nx b);exact fr b o' e1 (I.base.free b o e n (nx b))
 ·by_cases hb:b∈fc X.outer
  ·obtain⟨o',e1⟩:=I.base.there b o e (nx b);obtain⟨sl',e2⟩:=hsl b hb _ e1;exact⟨_,e2⟩
  ·obtain⟨o',e1⟩:=hthere b o e hb;exact⟨o',fl.1.1 _ _ e1⟩
 ·obtain⟨m1,e1⟩:=I.base.tbls b ps e;obtain⟨m2,e2⟩:=tb b _ e1;exact⟨m1++m2,by rw [e2,Array.append_assoc]⟩
theorem DZ (hex:X.ex=[]) (hst:X.stack=X.env::X.outer) (hf:X.env.frame=some X.env.locals)
  (hxe:∀ e s',wpAny (model X.prog X.w) X.A (leaving X.env e) (λ_ s''=>eV X.prog X.w X.outer X.H₀ X.s₀ E e s'') (λe' s''=>eV X.prog X.w X.outer X.H₀ X.s₀ E e' s'') s'->X.xe e s'):sG (eV X.prog X.w) X E:=by
 intro NA σ H s e s' I h;obtain⟨ea,cls,a0,H',B,rfl,os,bare,fl,hok,hB,hB2,un,q⟩:=h;refine hxe _ _ ?_;have fr0:X.A.frames=some (X.env::X.outer):=by rw [<- hst]; exact I.ok.frames
 refine tT fr0 hf (by rw [<- hst]; exact fl) λh' fl' up=>?_
 refine EL (sx:=s') hex I os bare fl' hok hB hB2 (λb hb o e=>?_) (λb o e n=>un.free b o e n (by simp)) un.tups un.frzs un.tbls q
 have hb':b∈fc X.stack:=by
  rw [hst];unfold fc;rw [List.filterMap_cons,hf];exact Mw _ hb
 have hn:=I.stkFree b hb';obtain⟨sl,e1⟩:=un.slot b o e hn hb' (by simp)
 obtain⟨_,o2,e2,d2⟩:=fl.1.2.2.1.mem hb';rw [e1] at e2;cases e2;obtain⟨sl',e3⟩:=up b _ e1 d2;exact⟨sl',e3⟩
end
structure rQ (cells:List (Nl×Nz)) (P:Np) (w:Nr) (K:PySem.W.Frag) (mg:Str->Nm Nk) (base:Nt) (CX:zU) (k:Nat) (f:Nl) (fd:FuncData) (ps:List Str) (sp:Sp):Prop where
 len:∀ vs H Q E,sp vs H Q E->vs.length=ps.length
 run:∀ (A:Nq) (outer:List Env) (s:Nj) (H:Hp) (args:Args) (us:List Nk) (vs:List V) (Q:VK) (E:XK),bE k A->oJ P w K mg base A outer s H->hU cells outer H s.heap->BindsTo s fd args (ps.zip us)->bA vs us->sp vs H Q E->
  codeAny (model P w) A (.call (.ref f) args) (CR CX outer P w H s Q E) s
theorem GT {cells:List (Nl×Nz)} {CX:zU} {P:Np} {w:Nr} {K:PySem.W.Frag} {mg:Str->Nm Nk} {base:Nt} {k:Nat} {f:Nl} {name qual:Str} {params:Arguments} {body:List Nu} {scope:Scope} {dV kV doc pm cdv ct oc:Nk} {an od:Nm Nl}
  {osl:Nv (Nm Nk)} {N ps:List Str} {sp:Sp} (lk:K.lookup f=some ⟨oc,od,.func (PySem.W.fnOf name qual params body scope dV kV doc pm an cdv ct),osl⟩) (hcd:PySem.W.codeIn K cdv qual=true) (S:av N ps scope)
  (len:∀ vs H Q E,sp vs H Q E->vs.length=ps.length)
  (hbody:∀ (A:Nq) (outer:List Env) (s:Nj) (H:Hp) (vs:List V) (Q:VK) (E:XK),bE k (A.deeper (envOfC qual scope s.heap.objs.size f cdv))->hU cells outer H s.heap->sp vs H Q E->
   ∃ t,tI (cQ CX P w K mg base N qual scope f cdv A outer s H E) body t/\t {nx:=λ_ H'=>Q .non H',rt:=Q} (start N vs) H):
  rQ cells P w K mg base CX (k+1) f (PySem.W.fnOf name qual params body scope dV kV doc pm an cdv ct) ps sp:=by
 refine⟨len,λA outer s H args us vs Q E hr e0 hce hb r hsp=>?_⟩
 have hl:=len _ _ _ _ hsp;have KX:K.In s.heap:=e0.mod.kin.keeps λb o e=>(e0.bs b o e).1
 have lim:s.heap.NoLimit:=e0.mod.nolimit.keeps λb o e=>(e0.bs b o e).1
 have hkind:∀ y∈ps.zip us,scope.names.lookup y.1=some .local\/(scope.names.lookup y.1=some .cell/\((cellsFrom (s.heap.objs.size+1) scope.names []).lookup y.1).isSome=true):=λ⟨n,v⟩ hy=>by
  rcases S.par n (List.of_mem_zip hy).1 with q | q
  ·exact .inl q
  ·exact .inr ⟨q,PySem.W.cellsFrom_some _ _ _ (.inl q)⟩
 refine codeAny_call_function hr.depth (KX _ _ lk) rfl S.co S.gen rfl (PySem.W.codeRec_of KX hcd) (hb _ _ _ _ ?_);refine wpAny_newFunctionEnv_cells S.kind hkind λenv he s1 x=>?_
 subst he;refine⟨lim.keeps x.toInCall.keep,codeAny_func ?_⟩;obtain⟨t,ht,hq⟩:=hbody A outer s H vs Q E (hr.deeper _) hce hsp;have I:aI (cQ CX P w K mg base N qual scope f cdv A outer s H E) [] (start N vs) H s1:=qh S hr.hd e0 hl r x;refine MY (ht [] s1 (start N vs) H _ I hq) (λfl s' hs=>?_) λe s' hs=>hs
 have fin:∀ {σ':St} {H':Hp} {v:V} {u:Nk},aI (cQ CX P w K mg base N qual scope f cdv A outer s H E) [] σ' H' s'->bz v u->Q v H'->CE outer P w H s Q u s':=
  λ{σ' H' v u} J rv q=>⟨v,H',J.os,J.bare,J.base,J.hok,rv,q⟩
 cases fl with
 | ret u=>
  obtain⟨v,σ',H',J,rv,q⟩:=hs;exact fin J rv q
 | next=>
  obtain⟨σ',H',J,q⟩:=hs;exact fin (v:=V.non) (u:=Value.none) J rfl q
 | brk=>
  obtain⟨_,_,_,q⟩:=hs;exact False.elim q
 | cont=>
  obtain⟨_,_,_,q⟩:=hs;exact False.elim q
def wu (P:Np) (w:Nr) (K:PySem.W.Frag) (mg:Str->Nm Nk) (base:Nt) (N:List Str) (qual:Str) (scope:Scope) (clos:List (Str×Nl)) (f:Nl) (cd:Nk) (A:Nq) (outer:List Env) (s:Nj) (H:Hp) (E:XK):Cx where
 prog:=P
 w:=w
 K:=K
 mg:=mg
 base:=base
 A:=A.deeper (PySem.W.envX qual scope s.heap.objs.size f cd clos)
 N:=N
 s₀:=s
 H₀:=H
 env:=PySem.W.envX qual scope s.heap.objs.size f cd clos
 outer:=outer
 stack:=PySem.W.envX qual scope s.heap.objs.size f cd clos::outer
 ex:=[]
 calm:=true
 fn:=λ_=>false
 pn:=[]
 xe:=λe s'=>wpAny (model P w) (A.deeper (PySem.W.envX qual scope s.heap.objs.size f cd clos)) (leaving (PySem.W.envX qual scope s.heap.objs.size f cd clos) e) (λ_ s''=>eV P w outer H s E e s'') (λe' s''=>eV P w outer H s E e' s'') s'
structure uU (scope:Scope) (clos:List (Str×Nl)) (N:List Str):Prop where
 kind:scope.kind=.function
 co:scope.isCoroutine=false
 gen:scope.isGenerator=false
 nocell:∀ y∈scope.names,y.2≠.cell
 has:∀ x,scope.names.lookup x=some .free->∃ c,clos.lookup x=some c
 inj:∀ x y c,clos.lookup x=some c->clos.lookup y=some c->x=y
 free:∀ x∈N,scope.names.lookup x=some .free
section
variable {P:Np} {w:Nr} {K:PySem.W.Frag} {mg:Str->Nm Nk} {base:Nt} {N:List Str} {qual:Str} {scope:Scope} {clos:List (Str×Nl)} {g:Nl} {cd:Nk} {A:Nq} {outer:List Env} {s:Nj} {H:Hp} {E:XK} {cells:List (Nl×Nz)} {σ0:St}
theorem zg {h1:Nt} {m:Str->Nm Nk} {tk:Nat} {ob:Nz} (S:uU scope clos N) (hd:A.handled=none) (e0:oJ P w K mg base A outer s H) (hc:hU cells outer H s.heap) (hcl:∀ p∈clos,∃ o v,(p.2,o)∈cells/\o.data=.cell v)
  (hcap:∀ (i:Nat) (x:Str) (v:V),N[i]?=some x->σ0[i]?=some (some v)->∃ c o u,clos.lookup x=some c/\(c,o)∈cells/\o.data=.cell (some u)/\bz v u) (hlen:σ0.length=N.length)
  (hns:h1.Ns s.heap.objs.size m) (hsb:Heap.SameBut s.heap.objs.size (s.heap.push ob) h1):aI (wu P w K mg base N qual scope clos g cd A outer s H E) [] σ0 H {s with heap:=h1,toks:=tk}:=by
 have hk:∀ b o,s.heap.get? b=some o->h1.get? b=some o:=λb o e=>(hsb.2 b (Mu (Mo e))).trans (Mk _ e)
 have nx:∀ b:Nl,b∉(wu P w K mg base N qual scope clos g cd A outer s H E).ex:=λb z=>nomatch z
 have cel:∀ x c,clos.lookup x=some c->∃ o v,s.heap.get? c=some o/\o.data=.cell v/\H c=none:=λx c e=>by
  obtain⟨o,v,h1,h2⟩:=hcl _ (M3 e);exact⟨o,v,(hc _ h1).1,h2,(hc _ h1).2.1⟩
 refine⟨⟨e0.mod,S.kind,rfl,rfl,Mp _,S.inj,λy hy=>?_,λy c z=>(by cases z),λ_=>hd,Around.frames_deeper e0.frames,.inr ⟨rfl,rfl⟩,λb z=>absurd z (nx b),e0.bs,e0.bsz,λb _ _=>nx b,λb z=>absurd z (nx b),e0.funs,e0.frf⟩,
  rfl,e0.bare,Un.kept hk,⟨m,hns,λi y v h1 h2 h3=>?_⟩,λy c h=>?_,e0.hok.fresh (Mp _),λy c h=>?_,λp hp=>(nomatch hp),e0.hok.kept hk,hlen⟩
 ·have hy:scope.names.lookup y=some .cell\/scope.names.lookup y=some .free:=hy;rcases hy with hy | hy
  ·exact absurd rfl (S.nocell _ (M3 hy))
  ·exact S.has y hy
 ·obtain⟨c,o,u,q1,q2,q3,q4⟩:=hcap i y v h1 h2;exact⟨u,q4,.inr ⟨.inr (S.free y (List.mem_of_getElem? h1)),c,q1,o,hk _ _ (hc _ q2).1,q3⟩⟩
 ·obtain⟨o,v,q1,q2,_⟩:=cel y c h;exact⟨v,o,hk _ _ q1,q2⟩
 ·obtain⟨_,_,_,_,q⟩:=cel y c h;exact q
theorem Ew {params:Arguments} {body:No} {n:Nat} {t:TE} (hl:i_ qual params body scope clos g H) (S:uU scope clos N) (hbind:∀ pm cv ctv,bindArgs (PySem.W.kla_fn "<lambda>" qual params body scope clos pm cv ctv) ⟨[],[]⟩=pure [])
  (hr:bE (n+1) A) (e0:oJ P w K mg base A outer s H) (hc:hU cells outer H s.heap) (hcl:∀ p∈clos,∃ o v,(p.2,o)∈cells/\o.data=.cell v)
  (hcap:∀ (i:Nat) (x:Str) (v:V),N[i]?=some x->σ0[i]?=some (some v)->∃ c o u,clos.lookup x=some c/\(c,o)∈cells/\o.data=.cell (some u)/\bz v u) (hlen:σ0.length=N.length)
  (ht:∀ cv,PE (wu P w K mg base N qual scope clos g cv A outer s H E) body t) (hq:t σ0 H λ_ _=>False):
  codeAny (model P w) A (.call (.ref g) ⟨[],[]⟩) (CR (eV P w) outer P w H s (λ_ _=>False) E) s:=by
 obtain⟨o,u,cv,pm,ctv,h1,h2,c',oc,uc,vs,tt,rfl,h4,h5,h6⟩:=hl;have lim:s.heap.NoLimit:=e0.mod.nolimit.keeps λb o e=>(e0.bs b o e).1
 refine PySem.W.kla_callFunE hr.depth (e0.hok g _ h1).1 h2 S.co S.gen rfl ⟨c',oc,vs,tt,rfl,(e0.hok c' _ h4).1,h5,h6⟩ ?_;rw [hbind];refine Ml (wpAny_newFunctionEnv S.nocell (λx hx=>nomatch hx) (λh1 hns hsb=>⟨?_,?_⟩) S.kind)
 ·exact lim.keeps λb o e=>(hsb.2 b (Mu (Mo e))).trans (Mk _ e)
 ·show codeAny _ _ (.expr body (PySem.W.envX qual scope s.heap.objs.size g (.ref c') clos)) _ _
  have I:=zg (qual:=qual) (g:=g) (cd:=.ref c') (E:=E) (tk:=s.toks+([]:List (Str×Nk)).length) S hr.hd e0 hc hcl hcap hlen hns hsb;refine PySem.W.kla_codeExpr (MY (ht (.ref c') [] _ σ0 H _ I hq) (λv s' hs=>?_) λe s' h=>h)
  obtain⟨_,_,_,_,z⟩:=hs;exact z.elim
end
end L2
namespace DL
open PySem PySem.Spec PyProof.Rows L2
theorem yo {P:Np} {w:Nr} {outer:List Env} {H:Hp} {s:Nj} {E:XK} {e:Nk} {s':Nj} (h:eV P w outer H s E e s'):eV P w outer H s (λc t H'=>E c t H'/\Kp H H') e s':=by
 obtain⟨ea,cls,a0,H',B,h1,h2,h3,h4,h5,h6,h7,h8,h9⟩:=h;refine⟨ea,cls,a0,H',B,h1,h2,h3,h4,h5,h6,h7,h8,h9,λa o z i=>?_⟩
 cases o with
 | tup xs=>exact h8.tups a xs z
 | frz ob u=>exact h8.frzs a ob u z
 | _=>exact i.elim
def D6 (P:Nl) (qual:Str) (params:Arguments) (body:No) (scope:Scope) (clos:List (Str×Nl)):DE:=λ_ S k=>S P=some (.tbl λH ps=>qJ H qual ps)/\∀ g,S g=none->k (.ref g) (put S g (.fn (i_ qual params body scope clos g)))
section
variable {X:Cx} {params:Arguments} {body:No} {scope:Scope} {clos:List (Str×Nl)} {c P:Nl} {pos:Pos}
theorem Bp (hC:PySem.W.CodeHd X.base c P) (hb:lC X.mg X.base) (hcode:X.env.code=.ref c) (hdef:defaultsOf params X.env=([],[])) (hcl:closureFor scope X.env=pure clos):
  EJ X (.Lambda params body scope pos) (D6 P (X.env.qual++"<lambda>") params body scope clos):=
 ⟨PE.imp (Ab hC hb hcode hdef hcl) fun σ H Q ⟨L,S,k,hL,hS,h,n⟩=>by
  obtain⟨z,h⟩:=h;obtain⟨ps,hp,hψ⟩:=hS _ _ z;refine⟨ps,hp,hψ H (Kp.refl H),λg H' hn st hT hl=>?_⟩
  obtain⟨ps',hp',T'⟩:=hT;have kp:Kp H H':=λa o e i=>st a o (λq=>by subst q; rw [hp] at e; cases e; exact i) e
  refine n _ _ _ _ (h g (hS.free hn)) kp (λa o e=>?_) (cf.mpr rfl)
  by_cases y:a=g
  ·subst y;rw [ak] at e;cases e;obtain⟨ob,u,cv,pm,ctv,q1,q2,q3⟩:=id hl;exact⟨⟨_,_,q1⟩,λH2 k2=>hl.kp λb o u e=>k2 _ _ e trivial⟩
  ·rw [bw y] at e
   by_cases y2:a=P
   ·subst y2;rw [z] at e;cases e;exact⟨ps',hp',λH2 k2=>T'.kp λb o u e=>k2 _ _ e trivial⟩
   ·have w:=hS a o e;have st':∀ u,H a=some u->H' a=some u:=λu q=>st a u y2 q
    cases o with
    | lst ds=>obtain⟨xs,q,r⟩:=w; exact⟨xs,st' _ q,r.kp kp⟩
    | dic=>obtain⟨xs,q⟩:=w; exact⟨xs,st' _ q⟩
    | exc C=>obtain⟨x,y,q,r⟩:=w; exact⟨x,y,st' _ q,r⟩
    | fn φ=>obtain⟨⟨x,y,q⟩,r⟩:=w; exact⟨⟨x,y,st' _ q⟩,λH2 k2=>r H2 (kp.trans k2)⟩
    | tbl ψ=>obtain⟨qs,q,r⟩:=w; exact⟨qs,st' _ q,λH2 k2=>r H2 (kp.trans k2)⟩
    | gen g=>obtain⟨u,q,_⟩:=sN.there w; exact sN.step w kp ((st' u q).trans q.symm)⟩
end
def vJ (K:Fg) (ex:Er->DH->Prop):XK:=λcls d0 H'=>∃ r S',cls=.ref r.1/\ex r S'/\Hs K H' S'/\jz r.2 d0 H'
section
variable {P:Np} {w:Nr} {K:Fg} {mg:Str->Nm Nk} {base:Nt} {N:List Str} {qual:Str} {scope:Scope} {clos:List (Str×Nl)} {g:Nl} {cd:Nk} {A:Nq} {outer:List Env} {s:Nj} {H:Hp} {ex:Er->DH->Prop}
theorem wz {x:Str} {n:Nat} {F:mH} {e:No} {es:List No} {t:DA} {p pos:Pos} (c:nO P w K mg base x n F) (hr:bE n (wu P w K mg base N qual scope clos g cd A outer s H (vJ K ex)).A)
  (hg:Gl (wu P w K mg base N qual scope clos g cd A outer s H (vJ K ex)) x) (ha:AJ (wu P w K mg base N qual scope clos g cd A outer s H (vJ K ex)) (e::es) t) (hdb:(x == ("__debug__":Str))=false:=by decide)
  (he:starEach (e::es) (wu P w K mg base N qual scope clos g cd A outer s H (vJ K ex)).env=(false,eval e (wu P w K mg base N qual scope clos g cd A outer s H (vJ K ex)).env)::starEach es (wu P w K mg base N qual scope clos g cd A outer s H (vJ K ex)).env:=by exact cq rfl)
  (hpl:(backTo pos (starEach es (wu P w K mg base N qual scope clos g cd A outer s H (vJ K ex)).env)).any (·.1)=false:=by exact fQ rfl):
  EJ (wu P w K mg base N qual scope clos g cd A outer s H (vJ K ex)) (.Call (.Name x p) (e::es) [] pos) (yr F ex t):=by
 obtain⟨f,fd,ps,F1,h1,h2,h3⟩:=c.ex;refine⟨PE.imp (vH F1 hr hg h1 h2 h3 .nil (DZ rfl rfl rfl λ_ _ h=>h) ha.h hdb he hpl) fun σ H1 Q ⟨L,S,k,hL,hS,h,n⟩=>?_⟩
 refine qR.go hL hS h λds S1 vs H1 h1 k1 hL1 hS1 i1=>?_
 show AC K F (vs++[]) H1 Q _
 rw [MJ];exact⟨ds,S1,k,ex,i1,hS1,h1,λd' S' v H' q k3 z1 z2=>n d' S' v H' q (k1.trans k3) z1 z2,λr' d0 S' H' q hs st=>⟨r',S',rfl,q,hs,st⟩⟩
theorem KE {cells:List (Nl×Nz)} {params:Arguments} {body:No} {n:Nat} {C:Nl} {σ0:L2.St} {L0:Lo} {gb:(Er->DH->Prop)->DE} (hl:i_ qual params body scope clos g H) (Sc:uU scope clos N) (hbind:∀ pm cv ctv,bindArgs (PySem.W.kla_fn "<lambda>" qual params body scope clos pm cv ctv) ⟨[],[]⟩=pure [])
  (hcl:∀ p∈clos,∃ o v,(p.2,o)∈cells/\o.data=.cell v) (hcap:∀ (i:Nat) (x:Str) (v:V),N[i]?=some x->σ0[i]?=some (some v)->∃ c o u,clos.lookup x=some c/\(c,o)∈cells/\o.data=.cell (some u)/\bz v u) (hlen:σ0.length=N.length) (hL:Lc K H L0 σ0)
  (hb:∀ (ex:Er->DH->Prop) (A:Nq) (outer:List Env) (s:Nj) (cv:Nk),bE n (A.deeper (PySem.W.envX qual scope s.heap.objs.size g cv clos))->EJ (wu P w K mg base N qual scope clos g cv A outer s H (vJ K ex)) body (gb ex))
  (hra:∀ S,gb (λr' S'=>r'.1=C/\qY S S') L0 S λ_ _=>False):xI cells P w K mg base (n+1) g C H:=by
 intro S hS;obtain⟨o,u,cv,pm,ctv,q1,q2,q3⟩:=id hl;refine⟨⟨o,u,_,q1,q2⟩,λA outer s hr e0 hc=>?_⟩
 refine codeAny_mono (Ew (E:=vJ K λr' S'=>r'.1=C/\qY S S') (t:=up K (gb λr' S'=>r'.1=C/\qY S S')) (n:=n) hl Sc hbind hr e0 hc hcl hcap hlen (λcv=>(hb _ A outer s cv (hr.deeper _)).h) ⟨L0,S,_,hL,hS,hra S,λ_ _ _ _ z=>z.elim⟩) λr s' z=>?_
 cases r with
 | ok fl=>
  cases fl with
  | ret u=>obtain⟨_,_,_,_,_,_,_,q⟩:=z; exact q.elim
  | next=>exact z.elim
  | brk=>exact z.elim
  | cont=>exact z.elim
 | error e=>
  show eV P w outer H s (λc _ H'=>c=.ref C/\Kp H H'/\∃ S',Hs K H' S'/\qY S S') e s'
  refine eV.mono (yo (show eV P w outer H s (vJ K λr' S'=>r'.1=C/\qY S S') e s' from z)) λc d0 H' q=>?_
  obtain⟨⟨r',S',e1,⟨e2,e3⟩,hs,_⟩,kp⟩:=q;rw [e2] at e1;exact⟨e1,kp,S',hs,e3⟩
theorem _root_.L2.rC.okP {cells:List (Nl×Nz)} {x qual:Str} {st:Nu} {f:Nl} {fd:FuncData} {N ps:List Str} {k:Nat} {F:cr} (Fn:rC K x qual st f fd) (Sc:av N ps (am st)) (len:∀ ds S k,F ds S k->ds.length=ps.length)
  (hbody:∀ (cdv:Nk) (A:Nq) (outer:List Env) (s:Nj) (H:Hp) (E:XK),bE k (A.deeper (envOfC qual (am st) s.heap.objs.size f cdv))->hU cells outer H s.heap->
   ∃ g,xz (cQ cW P w K mg base N qual (am st) f cdv A outer s H E).nox (b_ st) g/\
    ∀ ds S k,F ds S k->g {nx:=λ_ S'=>k .non S',rt:=k} (ds.map some++List.replicate (N.length - ps.length) none) S):rQ cells P w K mg base cW (k+1) f fd ps (cY K F):=by
 obtain⟨oc,od,kV,doc,pm,an,cdv,ct,osl,rfl,lk,hcd⟩:=Fn.ex;refine GT lk hcd Sc (λvs H Q E h=>?_) λA outer s H vs Q E hr hce h=>?_
 ·obtain⟨ds,S,k,i,_,q,_⟩:=h;rw [<- i.length];exact len ds S k q
 ·obtain⟨g,hg,q⟩:=hbody cdv A outer s H E hr hce;obtain⟨ds,S,k',i,hS,h,n⟩:=h;refine⟨_,hg.h.nox,ds.map some++List.replicate (N.length - ps.length) none,S,_,?_,hS,q ds S k' h,?_⟩
  ·unfold L2.start;rw [<- i.length,len ds S k' h];exact Lc.start _ i
  ·exact⟨λL S' σ H' h1 k1 _ hS'=>n _ S' _ H' h1 k1 hS' (du.mpr rfl),λd S' v H' h1 k1 hS' i1=>n d S' v H' h1 k1 hS' i1,λ_ _ _ _ h1=>h1.elim,λ_ _ _ _ h1=>h1.elim⟩
end
def Aw (cls:List (Nat×Nl)) (m:Nat) (P:Np) (w:Nr) (K:Fg) (mg:Str->Nm Nk) (base:Nt) (cells:List (Nl×Nz)):cr:=λds S k=>
 ∃ g φ j C,ds=[.ref g]/\S g=some (.fn φ)/\(∀ H,φ H->xI cells P w K mg base m g C H)/\(j,C)∈cls/\∀ p S',qY S S'->S' p=none->k (.ref p) (put S' p (.lst [.int (j:Nat)]))
theorem _root_.L2.rC.okC {P:Np} {w:Nr} {K:Fg} {mg:Str->Nm Nk} {base:Nt} {x qual:Str} {st:Nu} {f:Nl} {fd:FuncData} {N ps:List Str} {k:Nat} {F:cr} {cd0:Nk} (Fn:rC K x qual st f fd) (hc:fd.code=cd0) (Sc:av N ps (am st)) (len:∀ ds S k,F ds S k->ds.length=ps.length)
  (hbody:∀ (A:Nq) (outer:List Env) (s:Nj) (H:Hp) (E:XK),bE k (A.deeper (envOfC qual (am st) s.heap.objs.size f cd0))->
   ∃ g,xz (cQ cW P w K mg base N qual (am st) f cd0 A outer s H E).nox (b_ st) g/\
    ∀ ds S k,F ds S k->g {nx:=λ_ S'=>k .non S',rt:=k} (ds.map some++List.replicate (N.length - ps.length) none) S):aU P w K mg base cW (k+1) f fd ps (cY K F):=by
 obtain⟨oc,od,kV,doc,pm,an,cdv,ct,osl,rfl,lk,hcd⟩:=Fn.ex;cases hc;refine BM lk hcd Sc (λvs H Q E h=>?_) λA outer s H vs Q E hr h=>?_
 ·obtain⟨ds,S,k,i,_,q,_⟩:=h;rw [<- i.length];exact len ds S k q
 ·obtain⟨g,hg,q⟩:=hbody A outer s H E hr;obtain⟨ds,S,k',i,hS,h,n⟩:=h;refine⟨_,hg.h.nox,ds.map some++List.replicate (N.length - ps.length) none,S,_,?_,hS,q ds S k' h,?_⟩
  ·unfold L2.start;rw [<- i.length,len ds S k' h];exact Lc.start _ i
  ·exact⟨λL S' σ H' h1 k1 _ hS'=>n _ S' _ H' h1 k1 hS' (du.mpr rfl),λd S' v H' h1 k1 hS' i1=>n d S' v H' h1 k1 hS' i1,λ_ _ _ _ h1=>h1.elim,λ_ _ _ _ h1=>h1.elim⟩
structure uj (P:Np) (w:Nr) (K:Fg) (mg:Str->Nm Nk) (base:Nt) (x:Str) (n:Nat) (F:List (Nl×Nz)->cr):Prop where
 ex:∃ f fd ps,(∀ cells,rQ cells P w K mg base cW n f fd ps (cY K (F cells)))/\mg x=some (.ref f)/\PySem.W.keepIn K (.ref f)=true/\gM K fd ps []
structure rX (X:Cx) (scope:Scope) (clos:List (Str×Nl)) (N:List Str) (cap:List (Nm Nat)):Prop where
 sc:(∀ x y c,clos.lookup x=some c->clos.lookup y=some c->x=y)->uU scope clos N
 sub:∀ p∈clos,X.env.cells.lookup p.1=some p.2
 fn:∀ p∈clos,X.fn p.1=true
 len:cap.length=N.length
 caps:∀ (i j:Nat) (x:Str),cap[i]?=some (some j)->N[i]?=some x->X.N[j]?=some x/\(X.env.scope.names.lookup x=some .cell\/X.env.scope.names.lookup x=some .free)
def lT (X:Cx):List (Nm Nat)->List Str->Prop
 | some j::r,x::xs=>(X.N[j]?=some x/\(X.env.scope.names.lookup x=some .cell\/X.env.scope.names.lookup x=some .free))/\lT X r xs
 | none::r,_::xs=>lT X r xs
 | _,_=>True
theorem lT.get {X:Cx}:∀ {cap:List (Nm Nat)} {N:List Str},lT X cap N->∀ (i j:Nat) (x:Str),cap[i]?=some (some j)->N[i]?=some x->
  X.N[j]?=some x/\(X.env.scope.names.lookup x=some .cell\/X.env.scope.names.lookup x=some .free)
 | [],_,_,_,_,_,h,_=>by simp at h
 | _::_,[],_,_,_,_,_,h=>by simp at h
 | some _::_,_::_,h,0,j,x,h1,h2=>by
  simp at h1 h2
  subst h1 h2;exact h.1
 | none::_,_::_,_,0,j,x,h1,_=>by simp at h1
 | some _::_,_::_,h,i+1,j,x,h1,h2=>lT.get h.2 i j x (by simpa using h1) (by simpa using h2)
 | none::r,_::xs,h,i+1,j,x,h1,h2=>lT.get (show lT X r xs from h) i j x (by simpa using h1) (by simpa using h2)
theorem Bm {X:Cx} {scope:Scope} {clos:List (Str×Nl)} {N:List Str} {cap:List (Nm Nat)} (h1:scope.kind=.function) (h2:scope.isCoroutine=false) (h3:scope.isGenerator=false) (h4:(scope.names.all λy=>y.2 != NameKind.cell)=true)
  (h5:(scope.names.all λy=>y.2 != NameKind.free || (clos.lookup y.1).isSome)=true) (h6:(N.all λx=>scope.names.lookup x == some .free)=true) (h7:uV X clos) (h8:∀ x,X.fn x=true) (h9:cap.length=N.length) (h10:lT X cap N):rX X scope clos N cap:=
 ⟨λinj=>⟨h1,h2,h3,λy hy=>by simpa using Nc.mp h4 y hy,λx e=>by
  have:=Nc.mp h5 _ (M3 e);exact Ng.mp (by simpa using this),inj,λx hx=>by simpa using Nc.mp h6 x hx⟩,h7.mem,λp _=>h8 p.1,h9,h10.get⟩
def F5 (cls:List (Nat×Nl)) (qual:Str) (params:Arguments) (body:No) (scope:Scope) (clos:List (Str×Nl)) (cap:List (Nm Nat)) (gb:(Er->DH->Prop)->DE) (L:Lo) (k:DK) (d:D) (S1:DH):Prop:=∃ (g:Nl) (j:Nat) (C:Nl),d=.ref g/\S1 g=some (.fn (i_ qual params body scope clos g))/\
 (j,C)∈cls/\(∀ S,gb (λr' S'=>r'.1=C/\qY S S') (tN cap L) S λ_ _=>False)/\∀ p S',qY S1 S'->S' p=none->k (.ref p) (put S' p (.lst [.int (j:Nat)]))
def Jw (cls:List (Nat×Nl)) (qual:Str) (params:Arguments) (body:No) (scope:Scope) (clos:List (Str×Nl)) (cap:List (Nm Nat)) (gb:(Er->DH->Prop)->DE) (ge:DE):DE:=λL S k=>ge L S λd S1=>F5 cls qual params body scope clos cap gb L k d S1
section
variable {X:Cx} {qual:Str} {params:Arguments} {body:No} {scope:Scope} {clos:List (Str×Nl)} {p pos:Pos}
theorem Hz {x:Str} {n m:Nat} {e:No} {ge:DE} {cls:List (Nat×Nl)} {N:List Str} {cap:List (Nm Nat)} {gb:(Er->DH->Prop)->DE} (c:uj X.prog X.w X.K X.mg X.base x n (Aw cls (m+1) X.prog X.w X.K X.mg X.base)) (hr:bE n X.A) (hg:Gl X x)
  (Lc0:rX X scope clos N cap) (hbind:∀ pm cv ctv,bindArgs (PySem.W.kla_fn "<lambda>" qual params body scope clos pm cv ctv) ⟨[],[]⟩=pure [])
  (hb:∀ (g:Nl) (H:Hp) (ex:Er->DH->Prop) (A:Nq) (outer:List Env) (s:Nj) (cv:Nk),bE m (A.deeper (PySem.W.envX qual scope s.heap.objs.size g cv clos))->EJ (wu X.prog X.w X.K X.mg X.base N qual scope clos g cv A outer s H (vJ X.K ex)) body (gb ex))
  (he:EJ X e ge) (hmono:GZ ge) (hdb:(x == ("__debug__":Str))=false:=by decide) (hst:starEach [e] X.env=[(false,eval e X.env)]:=by rfl) (hpl:(backTo pos (starEach [] X.env)).any (·.1)=false:=by rfl):
  EJ X (.Call (.Name x p) [e] [] pos) (Jw cls qual params body scope clos cap gb ge):=by
 obtain⟨f,fd,ps,F1,hm,hk,hbd⟩:=c.ex;refine⟨λNA s σ H Q I h=>?_⟩
 obtain⟨L,S,k,hL,hS,h,nn⟩:=h;have ha:PA X [e] (qR X.K (cH ge ku)):=(aa he ac hst).h;have h2:qR X.K (cH ge ku) σ H λvs H1=>∃ d S1,IsDs X.K H1 [d] vs/\Kp H H1/\Lc X.K H1 L σ/\Hs X.K H1 S1/\F5 cls qual params body scope clos cap gb L k d S1:=by
  refine⟨L,S,λds S1=>∃ d,ds=[d]/\F5 cls qual params body scope clos cap gb L k d S1,hL,hS,?_,?_⟩
  ·exact hmono L S _ _ (λd S1 q=>⟨d,rfl,q⟩) h
  ·rintro ds S1 vs H1 ⟨d,rfl,q⟩ k1 hS1 i1;exact⟨d,S1,i1,k1,hL.kp k1,hS1,q⟩
 refine wpAny_Call_Name_kw (fh I hg hm ?_ hdb);refine PySem.W.callWith_K (h₀:=X.base) I.ok.mod.kin hk (cu (ha pos NA s σ H _ I h2) λus s1 ⟨vs,H1,I1,r,q⟩=>⟨I1.kIn,?_⟩) hst hpl
 obtain⟨d,S1,i1,k1,hL1,hS1,g,j,C,rfl,hg1,hj,hra,kk⟩:=q;obtain⟨⟨og,ug,hog⟩,hφ⟩:=hS1 _ _ hg1;have LS:=Lc0.sc λx y c e1 e2=>I1.ok.inj x y c (Lc0.sub _ (M3 e1)) (Lc0.sub _ (M3 e2))
 have cel:∀ p∈clos,∃ o v,s1.heap.get? p.2=some o/\o.data=.cell v:=λp hp=>by
  obtain⟨v,o,q1,q2⟩:=I1.cell p.1 p.2 (Lc0.sub p hp);exact⟨o,v,q1,q2⟩
 let cells:List (Nl×Nz):=clos.filterMap λp=>(s1.heap.get? p.2).map λo=>(p.2,o)
 have inC:∀ p∈clos,∀ o,s1.heap.get? p.2=some o->(p.2,o)∈cells:=λp hp o e=>List.mem_filterMap.mpr ⟨p,hp,by rw [e]; rfl⟩
 have hce:hU cells X.stack H1 s1.heap:=λq hq=>by
  obtain⟨p,hp,e⟩:=List.mem_filterMap.mp hq;obtain⟨o,v,e1,e2⟩:=cel p hp;rw [e1] at e;cases e;refine⟨e1,I1.freeC p.1 p.2 (Lc0.sub p hp),λz=>?_⟩
  rcases Mt.mp (I1.stkSub p.2 z) with z | z
  ·exact I1.cne p.1 p.2 (Lc0.sub p hp) z
  ·obtain⟨_,o2,e3,_⟩:=I1.ok.funs.mem z;exact absurd (Mz (Mo e3) (I1.ok.cab p.1 p.2 (Lc0.fn p hp) (Lc0.sub p hp))) (Na _)
 have hcl:∀ p∈clos,∃ o v,(p.2,o)∈cells/\o.data=.cell v:=λp hp=>by
  obtain⟨o,v,e1,e2⟩:=cel p hp;exact⟨o,v,inC p hp o e1,e2⟩
 have hcap:∀ (i:Nat) (x:Str) (v:V),N[i]?=some x->(fN cap σ)[i]?=some (some v)->∃ c o u,clos.lookup x=some c/\(c,o)∈cells/\o.data=.cell (some u)/\bz v u:=λi x v e1 e2=>by
  obtain⟨j,c1,c2⟩:=qb e2;obtain⟨d1,d2⟩:=Lc0.caps i j x c1 e1;obtain⟨m0,_,l0⟩:=I1.loc;obtain⟨u,ru,lk⟩:=l0 j x v d1 c2 (d2.elim (λz=>.inr (.inl z)) λz=>.inr (.inr z))
  rcases lk with ⟨z,_⟩ | ⟨_,c,z1,o,z2,z3⟩
  ·have z:X.env.scope.names.lookup x=some .local:=z;rcases d2 with q | q <;> (rw [q] at z; cases z)
  ·obtain⟨c',q⟩:=LS.has x (LS.free x (List.mem_of_getElem? e1));have q2:=Lc0.sub _ (M3 q);have q2:X.env.cells.lookup x=some c':=q2;rw [z1] at q2;cases q2;exact⟨c,o,u,q,inC (x,c) (M3 q) o z2,z3,ru⟩
 have hlen:(fN cap σ).length=N.length:=by unfold fN; rw [Mq]; exact Lc0.len
 have hL0:Lc X.K H1 (tN cap L) (fN cap σ):=hL1.cap cap
 let φ':Hp->Prop:=λH'=>i_ qual params body scope clos g H'/\Lc X.K H' (tN cap L) (fN cap σ)
 have kf:∀ {H2 H3:Hp},Kp H2 H3->∀ b o u,H2 b=some (.frz o u)->H3 b=some (.frz o u):=λk2 b o u e=>k2 _ _ e trivial
 have hS2:Hs X.K H1 (put S1 g (.fn φ')):=λa o e=>by
  by_cases y:a=g
  ·subst y;rw [ak] at e;cases e;exact⟨⟨og,ug,hog⟩,λH2 k2=>⟨(hφ H2 k2),hL0.kp k2⟩⟩
  ·rw [bw y] at e;exact hS1 a o e
 have hsp:cY X.K (Aw cls (m+1) X.prog X.w X.K X.mg X.base cells) vs H1 Q E0:=by
  refine⟨[.ref g],put S1 g (.fn φ'),λd' S'=>∃ p S0,d'=.ref p/\S'=put S0 p (.lst [.int (j:Nat)])/\qY (put S1 g (.fn φ')) S0/\S0 p=none,i1,hS2,⟨g,φ',j,C,rfl,ak,λH2 z=>?_,hj,λp S' e1 e2=>⟨p,S',rfl,rfl,e1,e2⟩⟩,?_⟩
  ·exact KE z.1 LS hbind hcl hcap hlen z.2 (λex A outer s cv hr=>hb g H2 ex A outer s cv hr) hra
  ·rintro d' S' v H' ⟨p,S0,rfl,rfl,e1,e2⟩ k2 hs' i';have eg:S0 g=some (.fn φ'):=e1 g _ ak;have pg:p≠g:=λz=>by rw [z,eg] at e2; cases e2
   have k3:=k1.trans k2;refine nn _ _ _ _ (kk p (put S0 g (.fn (i_ qual params body scope clos g))) (λb o e=>?_) (by rw [bw pg]; exact e2)) k3 (λa o e=>?_) i'
   ·by_cases y:b=g
    ·subst y; rw [hg1] at e; cases e; exact ak
    ·rw [bw y]; exact e1 b o (by rw [bw y]; exact e)
   ·by_cases y:a=p
    ·subst y;rw [ak] at e;cases e;exact hs' a _ ak
    ·rw [bw y] at e
     by_cases y2:a=g
     ·subst y2;rw [ak] at e;cases e;exact⟨⟨og,ug,kf k2 _ _ _ hog⟩,λH2 k4=>hφ H2 (k2.trans k4)⟩
     ·rw [bw y2] at e;exact hs' a o (by rw [bw y]; exact e)
 have hl:us.length=ps.length:=by rw [<- r.length]; exact(F1 cells).len _ _ _ _ hsp
 have hbs:=hbd s1 us I1.kIn (by rw [MJ]; exact hl)
 rw [MJ] at hbs;refine wpAny_call (codeAny_mono ((F1 cells).run X.A X.stack s1 H1 ⟨us,[]⟩ us vs Q E0 hr I1.env0 hce hbs r hsp) λr s' hq=>?_)
 cases r with
 | error e=>exact(Bl NA σ H1 s1 e s' I1 hq)
 | ok fl=>
  cases fl with
  | ret u=>exact I1.after hq
  | next=>exact False.elim hq
  | brk=>exact False.elim hq
  | cont=>exact False.elim hq
end
end DL
namespace L2
open PySem PySem.Spec PyProof.Rows
structure y8 (tabs:List (Nl×Nl)) (H:Hp):Prop where
 only:∀ b,H b=none\/(∃ o xs,H b=some (.frz o (.lst xs)))\/(b∈tabs.map (·.2)/\H b=some (.tbl #[]))
 all:∀ q∈tabs,H q.2=some (.tbl #[])
theorem zA {P:Np} {w:Nr} {K:PySem.W.Frag} {mg mb:Str->Nm Nk} {CX:zU} {k:Nat} {fa a:Nl} {fd:FuncData} {x:Str} {sp:Sp} {s₁:Nj} {vs:List Nk} {ns:List Int} {tabs:List (Nl×Nl)}
  (hT:PySem.W.TabsAt tabs s₁.heap) (hnK:PySem.W.noTabs K=true) (hbm:lC mg s₁.heap)
  (KX:K.In s₁.heap) (hns:s₁.heap.Ns mainGlobals mg) (hb:s₁.heap.Ns builtinsNs mb) (hbb:∀ x:Str,x≠"__name__"->mb x=bootBuiltins x) (hlim:s₁.heap.NoLimit) (hg:s₁.gens=#[])
  (ha:s₁.heap.get? a=some {cls:=.type "list",data:=.seq vs.toArray}) (hi:IntsAre vs ns) (hl:ns.length<=sizeLine) (hr:bE k callerA)
  (F:∀ base:Nt,K.In base->base.Ns mainGlobals mg->lC mg base->PySem.W.CodeAll tabs base->aU P w K mg base CX k fa fd [x] sp) (hbind:∀ (s:Nj) (u:Nk),BindsTo s fd ⟨[u],[]⟩ [(x,u)])
  (hsp:∀ H:Hp,y8 tabs H->jW K H a (ns.map V.int)->sp [.ref a] H (λv _=>v=.bl true) λ_ _ _=>False)
  (hCX:∀ H e s',CX [] H s₁ (λ_ _ _=>False) e s'->False):
  codeAny (model P w) callerA (.call (.ref fa) ⟨[.ref a],[]⟩) (λr s'=>r=.ok (.ret (.bool true))/\OldK s₁.heap s'.heap/\s'.os=s₁.os/\AllBare s'.gens) s₁:=by
 have rv:=uJ hi;have lenV:=hi.length;have tabO:∀ b∈tabs.map (·.2),s₁.heap.get? b=some (PySem.W.tabObj #[]):=λb hb=>by
  obtain⟨q,hq,rfl⟩:=List.mem_map.mp hb;exact(hT q hq).2
 have naT:a∉tabs.map (·.2):=λz=>by
  have e:=tabO a z;rw [ha] at e;cases e
 have nKT:∀ b o,K.lookup b=some o->b∉tabs.map (·.2):=λb o e z=>by
  have e1:=KX b o e;rw [tabO b z] at e1;cases e1;have h2:=Nc.mp hnK (b,_) (PySem.W.mem_of_lookupK e);exact absurd (show false=true from h2) Mr
 have core:∀ H:Hp,y8 tabs H->jW K H a (ns.map V.int)->nj P w H s₁.heap->(∀ b,H b≠none->b=a\/b∈tabs.map (·.2))->(H a≠none->K.lookup a=none)->
   codeAny (model P w) callerA (.call (.ref fa) ⟨[.ref a],[]⟩) (λr s'=>r=.ok (.ret (.bool true))/\OldK s₁.heap s'.heap/\s'.os=s₁.os/\AllBare s'.gens) s₁:=by
  intro H hO hS hok hA hK;have base_of:∀ {b:Nl} {o:Nz},s₁.heap.get? b=some o->H b=none->(tD s₁.heap H).get? b=some o:=λe n=>Cg e n
  have noC:∀ {b:Nl} {o:Nz},s₁.heap.get? b=some o->o.cls≠.type "list"->o.cls≠.none->H b=none:=λ{b o} e d1 d2=>by
   cases q:H b with
   | none=>rfl
   | some u=>
    rcases hA b (by rw [q]; simp) with e' | e'
    ·subst e';rw [ha] at e; cases e
     exact absurd rfl d1
    ·rw [tabO b e'] at e; cases e
     exact absurd rfl d2
  have noA:∀ {b:Nl} {o:Nz} {es:Nv DictEntry} {ep:Nat},s₁.heap.get? b=some o->o.data=.dict es ep->H b=none:=λ{b o es ep} e d=>by
   cases q:H b with
   | none=>rfl
   | some u=>
    rcases hA b (by rw [q]; simp) with e' | e'
    ·subst e';rw [ha] at e; cases e
     have d':Data.seq vs.toArray _=Data.dict es ep:=d;cases d'
    ·rw [tabO b e'] at e; cases e
     cases d
  have nsK:∀ {b:Nl} {m:Str->Nm Nk},s₁.heap.Ns b m->(tD s₁.heap H).Ns b m:=λ{b m} ⟨o,es,ep,e,d,r⟩=>⟨o,es,ep,base_of e (noA e d),d,r⟩
  have hKb:K.In (tD s₁.heap H):=λb o e=>base_of (KX b o e) (by
   cases q:H b with
   | none=>rfl
   | some u=>
    rcases hA b (by rw [q]; simp) with e' | e'
    ·subst e';rw [hK (by rw [q]; simp)] at e; cases e
    ·exact absurd e' (nKT b o e))
  have hBb:lC mg (tD s₁.heap H):=by
   obtain⟨⟨bm,ob,b1,b2,b3,b4,b5⟩,ns⟩:=hbm;refine⟨⟨bm,ob,b1,b2,base_of b3 (noC b3 (by rw [b4]; decide) (by rw [b4]; nofun)),b4,b5⟩,?_,?_,?_,?_⟩
   ·obtain⟨mc,h1,h2⟩:=ns.statics;exact⟨mc,nsK h1,h2⟩
   ·obtain⟨mc,h1,h2⟩:=ns.mods;exact⟨mc,nsK h1,h2⟩
   ·obtain⟨mc,h1,h2⟩:=ns.imp;exact⟨mc,nsK h1,h2⟩
   ·obtain⟨mg',bm',ob',h1,h2,h3,h4,h5⟩:=ns.main;exact⟨mg',bm',ob',nsK h1,h2,base_of h3 (noC h3 (by rw [h4]; decide) (by rw [h4]; nofun)),h4,h5⟩
  have hCb:PySem.W.CodeAll tabs (tD s₁.heap H):=.of λq hq=>by
   obtain⟨o,vs,file,tf,flags,tg,inF,text,tt,e1,r1,r2⟩:=(hT q hq).1;exact⟨o,vs,file,tf,flags,tg,inF,text,tt,base_of e1 (noC e1 (by rw [r1]; decide) (by rw [r1]; nofun)),r1,r2⟩
  have hM:Mod K mg (tD s₁.heap H):=⟨hKb,nsK hns,⟨mb,nsK hb,hbb⟩,let ⟨mc,h1,h2⟩:=hlim; ⟨mc,nsK h1,h2⟩⟩
  have e0:oJ P w K mg (tD s₁.heap H) callerA [] s₁ H:=⟨rfl,hM,λb o e=>E3 e,Nat.le_of_eq (zN _ _),trivial,λb hb=>absurd (show b∈([]:List Nl) from hb) (by simp),hok,.of_eq hg⟩
  refine codeAny_mono ((F _ hKb (nsK hns) hBb hCb).run callerA [] s₁ H ⟨[.ref a],[]⟩ [.ref a] [.ref a] _ _ hr e0 (hbind s₁ (.ref a)) (.cons rfl .nil) (hsp H hO hS)) λr s' h=>?_
  cases r with
  | error e=>exact(hCX H e s' h).elim
  | ok fl=>
   cases fl with
   | next=>exact False.elim h
   | brk=>exact False.elim h
   | cont=>exact False.elim h
   | ret u=>
    obtain⟨v,H',os,bare,un,hok',r',q⟩:=h;have q':v=.bl true:=q;subst q';obtain rfl:u=Value.bool true:=r';refine⟨rfl,⟨λb o e=>?_,λb o e=>un.there b o e (by simp)⟩,os,bare⟩
    rcases hO.only b with z | ⟨ob,xs,z⟩ | ⟨hm,z⟩
    ·exact .inl (un.keep b o e z (by intro z; exact absurd (show b∈([]:List Nl) from z) (by simp)) (by simp))
    ·have z2:=un.frzs b ob _ z;obtain⟨e1,_⟩:=hok b _ z;obtain⟨e2,_⟩:=hok' b _ z2;rw [e] at e1; cases e1
     exact .inl e2
    ·obtain⟨more,z2⟩:=un.tbls b _ z;have e2:s'.heap.get? b=some (PySem.W.tabObj (#[]++more)):=hok' b _ z2;have e3:=tabO b hm;obtain⟨q,hq,rfl⟩:=List.mem_map.mp hm;rw [e] at e3;cases e3;exact .inr (.inl ⟨((hT q hq).1.tab (hT q hq).2).isCodeTable,rfl,#[],more,rfl,e2⟩)
 have tb:∀ b,b∈tabs.map (·.2)->nj P w (λ_=>none) s₁.heap->dO P w (λ_=>none) s₁.heap b (.tbl #[]):=λb hb _=>tabO b hb
 cases hk:K.lookup a with
 | some o=>
  have e:=KX a o hk;rw [ha] at e;cases e;refine core (λb=>if b∈tabs.map (·.2) then some (.tbl #[]) else none) ⟨λb=>?_,λq hq=>if_pos (List.mem_map_of_mem hq)⟩ (.inr ⟨_,vs.toArray,_,hk,rfl,rfl,rfl,by rw [Ms,lenV]; exact hl,by simpa using rv⟩) (λb u z=>?_) (λb z=>?_) λz=>?_
  ·by_cases hm:b∈tabs.map (·.2)
   ·exact .inr (.inr ⟨hm,if_pos hm⟩)
   ·exact .inl (if_neg hm)
  ·by_cases hm:b∈tabs.map (·.2)
   ·have z':=(if_pos hm).symm.trans z;cases z';exact tabO b hm
   ·have z':=(if_neg hm).symm.trans z;cases z'
  ·by_cases hm:b∈tabs.map (·.2)
   ·exact .inr hm
   ·exact absurd (if_neg hm) z
  ·exact absurd (if_neg naT) z
 | none=>
  refine core (λb=>if b=a then some (.frz {cls:=.type "list",data:=.seq vs.toArray} (.lst (ns.map V.int))) else if b∈tabs.map (·.2) then some (.tbl #[]) else none) ⟨λb=>?_,λq hq=>?_⟩ (.inl (.inr ⟨{cls:=.type "list",data:=.seq vs.toArray},if_pos rfl⟩)) (λb u z=>?_) (λb z=>?_) λ_=>hk
  ·by_cases hb:b=a
   ·exact .inr (.inl ⟨_,_,if_pos hb⟩)
   ·by_cases hm:b∈tabs.map (·.2)
    ·exact .inr (.inr ⟨hm,(if_neg hb).trans (if_pos hm)⟩)
    ·exact .inl ((if_neg hb).trans (if_neg hm))
  ·have hm:q.2∈tabs.map (·.2):=List.mem_map_of_mem hq;have hb:q.2≠a:=λz=>naT (z▸hm)
   exact(if_neg hb).trans (if_pos hm)
  ·by_cases hb:b=a
   ·have z':=(if_pos hb).symm.trans z;cases z';subst hb;exact⟨ha,by rw [Mq]; exact hl,vs,_,rv,ha⟩
   ·by_cases hm:b∈tabs.map (·.2)
    ·have z':=((if_neg hb).trans (if_pos hm)).symm.trans z;cases z';exact tabO b hm
    ·have z':=((if_neg hb).trans (if_neg hm)).symm.trans z;cases z'
  ·by_cases hb:b=a
   ·exact .inl hb
   ·by_cases hm:b∈tabs.map (·.2)
    ·exact .inr hm
    ·exact absurd ((if_neg hb).trans (if_neg hm)) z
theorem BU {l:PySem.W.OpenLaw} {n k:Nat} {q:Np} {loose:List Str} {XP:(Str->Nm Nk)->Nt->Prop} {YP:Nr->Nt->Prop} {d:DefRec} {K:Params->PySem.W.Frag} {CX:Nr->zU} {sp:Nr->Sp} {x:Str} {tabs:List (Nl×Nl)}
  (himp:importsNone q=true) (hn:l.most=some n) (hn2:n<=sizeLine) (hdf:d.params.defaults=[]) (hr:bE k callerA)
  (hY:∀ (w:Nr) (h:Nt),YP w h->(K w.params).In h) (hnK:∀ w:Nr,PySem.W.noTabs (K w.params)=true) (hT:∀ (w:Nr) (h:Nt),YP w h->PySem.W.TabsAt tabs h)
  (F:∀ (w:Nr) (mg:Str->Nm Nk) (fa:Nl) (h:Nt),(K w.params).In h->h.Ns mainGlobals mg->mg d.name=some (.ref fa)->
   ∃ fd:FuncData,(∀ (s:Nj) (u:Nk),BindsTo s fd ⟨[u],[]⟩ [(x,u)])/\
    ∀ base:Nt,(K w.params).In base->base.Ns mainGlobals mg->lC mg base->PySem.W.CodeAll tabs base->aU l.prog w (K w.params) mg base (CX w) k fa fd [x] (sp w))
  (hsp:∀ (w:Nr) (H:Hp) (a:Nl) (ns:List Int),ns.length<=n->y8 tabs H->jW (K w.params) H a (ns.map V.int)->sp w [.ref a] H (λv _=>v=.bl true) λ_ _ _=>False)
  (hCX:∀ (w:Nr) (H:Hp) (s:Nj) (e:Nk) (s':Nj),CX w [] H s (λ_ _ _=>False) e s'->False):
  PySem.W.WalkO q loose XP YP l.row.toRowW d [] (λf vs=>PySem.call f vs):=by
 refine Att.attach_call hn hdf λw s₀ s₁ mg mb fa o pm cd doc a vs ns G Y ho hd hcd hmg hobj hints hlen hg=>?_
 have KX:=hY w _ Y;obtain⟨fd,hb,hF⟩:=F w mg fa _ KX G.T.g hmg;have hbm:lC mg s₁.heap:=by
  obtain⟨bm,ob,b1,b2,b3,b4,b5,b6⟩:=G.T.bmain;exact⟨⟨bm,ob,b1,b2,b3,b4,b5,b6⟩,G.T.seer himp⟩
 exact zA (hT w _ Y) (hnK w) hbm KX G.T.g G.T.b G.T.builtins G.T.nolimit hg hobj hints (M1 hlen hn2) hr hF hb (λH hO hS=>hsp w H a ns hlen hO hS) λH e s'=>hCX w H s₁ e s'
end L2
namespace DL
open PySem PySem.Spec PyProof.Rows L2
theorem Bk {β:Type}:∀ {l:List (Nl×β)} {a:Nl} {b:β},l.lookup a=some b->(a,b)∈l
 | [],_,_,e=>by cases e
 | (c,x)::r,a,b,e=>by
  rw [List.lookup_cons] at e;cases hb:a == c with
  | true=>rw [hb] at e; cases e; rw [eq_of_beq hb]; exact .head _
  | false=>rw [hb] at e; exact .tail _ (Bk e)
def C9 (tq:List (Nl×Str)):DH:=λb=>(tq.lookup b).map λq=>DO.tbl λH ps=>qJ H q ps
theorem Eg {K:Fg} {H:Hp} {a:Nl} {ns:List Int} {F:cr} {E:XK} {tabs:List (Nl×Nl)} {tq:List (Nl×Str)} (ho:y8 tabs H) (hS:jW K H a (ns.map V.int)) (ht:∀ p∈tq,p.1∈tabs.map (·.2)) (h:F [.rl (ns.map D.int)] (C9 tq) (λd _=>d=.bl true)):cY K F [.ref a] H (λv _=>v=.bl true) E:=by
 refine⟨[.rl (ns.map D.int)],C9 tq,λd _=>d=.bl true,IsDs.cons (wM.mpr ⟨a,ns.map V.int,rfl,?_,?_⟩) IsDs.nil,λb o e=>?_,h,λd' S' v H' e _ _ i=>?_⟩
 ·rcases hS with (h1 | h1) | h1
  ·rcases ho.only a with z | ⟨o,xs,z⟩ | ⟨_,z⟩
   ·rw [z] at h1; cases h1
   ·rw [z] at h1; cases h1
   ·rw [z] at h1; cases h1
  ·exact .inl h1
  ·exact .inr h1
 ·clear h hS
  induction ns with
  | nil=>exact IsDs.nil
  | cons n ns ih=>exact IsDs.cons (isInt.mpr rfl) ih
 ·unfold C9 at e;cases q:tq.lookup b with
  | none=>rw [q] at e; cases e
  | some x=>
   rw [q] at e;cases e;obtain⟨t,ht',e2⟩:=List.mem_map.mp (ht _ (Bk q));have z:=ho.all t ht';rw [e2] at z;exact⟨#[],z,λH2 _=>⟨trivial,λpos cv z2=>by cases z2⟩⟩
 ·subst e;exact ce.mp i
end DL
namespace L2
open PySem PySem.Spec PyProof.Rows
theorem DP {X:Cx} {n:Nat} (hr:bE n X.A) (hn:33<=n) (hB:lC X.mg X.base) (hT:X.prog.given.tree=none) (hst:X.stack=X.env::X.outer) (hg:X.env.scope.isGenerator=false) (hc:X.env.scope.isCoroutine=false):
  gp X (binaryOp .FloorDiv) (rI (λ_ j=>j≠0) λi j=>.int (i.fdiv j)):=by
 intro NA s σ H x y v u Q I rx ry h;obtain⟨i,j,rfl,rfl,hj,q⟩:=h;obtain⟨t,rfl⟩:=rx;obtain⟨t',rfl⟩:=ry;have hd:=hr.dp;have hN:s.heap.NoSeer:=hB.2.keeps I.bk;exact floordiv_int hj ⟨.int (i.fdiv j),H,I.tok _,⟨_,rfl⟩,q⟩ (.inr (PylongRoom.of I.nolimit (by show X.A.depth+100 < recursionLimit; omega) (SeerAt.of hN hT (hst▸I.ok.frames) hg hc I.ok.blt I.ok.glob)))
end L2
namespace DL
open PySem PySem.Spec PyProof.Rows L2
abbrev IE:D2:=Gy (λ_ j=>j≠0) λi j=>.int (i.fdiv j)
theorem kc {X:Cx} {n:Nat} (hr:bE n X.A) (hB:lC X.mg X.base) (hT:X.prog.given.tree=none) (hst:X.stack=X.env::X.outer) (hg:X.env.scope.isGenerator=false) (hc:X.env.scope.isCoroutine=false) (hn:33<=n):
  gp X (binaryOp .FloorDiv) (jX X.K IE):=zy (C:=λ_ j=>j≠0) (gV:=λi j=>.int (i.fdiv j)) (DP hr hn hB hT hst hg hc) λ_ _ _=>isInt.mpr rfl
section
variable {X:Cx} {NA:List (Nl×Nz)} {σ:L2.St} {H:Hp} {s:Nj}
theorem CU (I:aI X NA σ H s) {S:DH} {a c:Nl} {ds es:List D} {b:Nw} (hS:Hs X.K H S) (h1:S a=some (.lst ds)) (h2:S c=some (.lst es)) (hl:ds.length=es.length) (A:Nq) (hu:A.units+8 < cLine) (h:md (qD 7) ds es=some b):
  SeqAt.RcAt A s (.ref a) (.ref c) b/\SeqAt.RcNeAt A s (.ref a) (.ref c) (!b):=by
 obtain⟨xs,q1,j1⟩:=hS.lst h1;obtain⟨ys,q2,j2⟩:=hS.lst h2;obtain⟨us,r1,p1,_⟩:=I.list (jW.of q1);obtain⟨ws,r2,p2,_⟩:=I.list (jW.of q2);have l1:=j1.length;have l2:=j2.length;have l3:=r1.length;have l4:=r2.length;have hsz:us.toArray.size=ws.toArray.size:=by simp only [Ms]; omega
 have he:∀ j (h1:j < us.toArray.size) (h2:j < ws.toArray.size),SeqAt.EqAt A.in1 s us.toArray[j] ws.toArray[j] (jF (qD 7) ds es j):=λj h1 h2=>by
  simp only [Ms] at h1 h2
  obtain⟨d,e,x,y,q1,q2,d1,d2,rx,ry⟩:=vM j1 j2 r1 r2 h1 h2;have:=(tF I 7 A.in1 d e x y us[j] ws[j] _ (by show A.units+1+7 < cLine; omega) (rA h q1 q2) d1 d2 rx ry).1
  simpa using this
 have e:=oF h;rw [hl,Nat.min_self] at e;have e:(List.range us.toArray.size).all (jF (qD 7) ds es)=b:=by
  simp only [Ms];rw [<- l3,<- l1,hl]
  simpa using e
 refine⟨?_,?_⟩
 ·have z:=SeqAt.RcAt.lists p1.isList p2.isList hsz (by omega) he
  rw [e] at z;exact z
 ·have z:=SeqAt.RcNeAt.lists p1.isList p2.isList hsz (by omega) he
  rw [e] at z;exact z
end
def JA:D2:=λd e S k=>match d,e with
 | .ref a,.ref c=>∃ xs ys b,S a=some (.lst xs)/\S c=some (.lst ys)/\xs.length=ys.length/\md (qD 7) xs ys=some b/\k (.bl b) S
 | d,e=>∃ b,qD 8 d e=some b/\k (.bl b) S
def IQ:D2:=λd e S k=>match d,e with
 | .ref a,.ref c=>∃ xs ys b,S a=some (.lst xs)/\S c=some (.lst ys)/\xs.length=ys.length/\md (qD 7) xs ys=some b/\k (.bl (!b)) S
 | d,e=>∃ b,qD 8 d e=some b/\k (.bl (!b)) S
theorem BC {X:Cx} {n:Nat} (hr:bE n X.A):gp X (compareOp .Eq) (jX X.K JA):=by
 intro NA s σ H x y v u Q I rx ry h;obtain⟨d,e,S,k,i1,i2,hS,r,m⟩:=h;have hu:=hr.units;unfold JA at r
 split at r
 ·obtain⟨xs,ys,b,h1,h2,h3,h4,w⟩:=r;have e1:=cf.mp i1;have e2:=cf.mp i2;subst e1 e2;cases rx;cases ry;exact(CU I hS h1 h2 h3 X.A (by omega) h4).1 X.prog X.w X.xe _ ⟨.bl b,H,I,rfl,po m hS w (ce.mpr rfl)⟩
 ·obtain⟨b,h1,w⟩:=r;exact(tF I 8 X.A d e x y v u b (by omega) h1 i1 i2 rx ry).2 X.prog X.w X.xe _ ⟨.bl b,H,I,rfl,po m hS w (ce.mpr rfl)⟩
theorem Ir {X:Cx} {n:Nat} (hr:bE n X.A):gp X (compareOp .NotEq) (jX X.K IQ):=by
 intro NA s σ H x y v u Q I rx ry h;obtain⟨d,e,S,k,i1,i2,hS,r,m⟩:=h;have hu:=hr.units;unfold IQ at r
 split at r
 ·obtain⟨xs,ys,b,h1,h2,h3,h4,w⟩:=r;have e1:=cf.mp i1;have e2:=cf.mp i2;subst e1 e2;cases rx;cases ry;exact(CU I hS h1 h2 h3 X.A (by omega) h4).2 X.prog X.w X.xe _ ⟨.bl (!b),H,I,rfl,po m hS w (ce.mpr rfl)⟩
 ·obtain⟨b,h1,w⟩:=r;exact Bz I 8 X.A d e x y v u b (by omega) h1 i1 i2 rx ry X.prog X.w X.xe _ ⟨.bl (!b),H,I,rfl,po m hS w (ce.mpr rfl)⟩
structure Jo (K:Fg) (rod:Nk) (nine:List Nl) (j:Nat) (C:Nl):Prop where
 exc:ji K C
 kit:∀ (i:Nat) (c:Nl),nine[i]?=some c->PySem.W.kitOne K (.ref C) (.ref c)=some (decide (i=j))
 val:PySem.W.kitOne K (.ref C) (.type "ValueError")=some true
 rod:PySem.W.exmOne K (.ref C) rod=some true
 lt:j < 9
theorem G8:List.range (9:Int).toNat=List.range' 0 9:=by decide
theorem sR {S:DH} {p pk:Nl} {j:Nat} {k:DK} {bs:List D} (hp:S p=none) (hk:S pk=some (.lst bs)) (hb:∀ i:Nat,i < 9->bs[i]?=some (.bl (decide (i=j)))) (hj:j < 9)
  (fin:∀ S',qY S S'->S' p=none->k (.ref p) (put S' p (.lst [.int (j:Nat)]))):∀ (n i:Nat) (l0:Nm D),i+n=9->
   dH (λ_=>True) p (jn 0) (xH (tS (t4 qX (fG 1) (fG 0))) (fG 0)) k ((List.range' i n).map λi=>D.int (i:Nat)) (if j < i then [D.int (j:Nat)] else []) [l0,some (.ref pk)] (put S p (.lst (if j < i then [D.int (j:Nat)] else [])))
 | 0,i,l0,h=>by
  have:j < i:=by omega
  rw [if_pos this];exact⟨trivial,fin S (λ_ _ e=>e) hp⟩
 | n+1,i,l0,h=>by
  have np:pk≠p:=λz=>by rw [z,hp] at hk; cases hk
  have e:(List.range' i (n+1)).map (λi=>D.int (i:Nat))=D.int (i:Nat)::(List.range' (i+1) n).map λi=>D.int (i:Nat):=rfl
  rw [e];refine⟨trivial,bs,.bl (decide (i=j)),by rw [bw np]; exact hk,L2.h_ (hb i (by omega)),?_⟩
  by_cases q:i=j
  ·subst q;have e1:¬ i < i:=by omega
   rw [if_neg e1];have e2:decide (i=i)=true:=by simp
   show if decide (i=i)=true then _ else _
   rw [if_pos e2];refine⟨ak,Mz (by decide:0 < 1) (MF rfl),?_⟩
   have z:=sR (k:=k) hp hk hb hj fin n (i+1) (some (.int (i:Nat))) (by omega)
   rw [if_pos (by omega:i < i+1)] at z
   rw [yY];exact z
  ·have e2:¬ decide (i=j)=true:=by simp [q]
   show if decide (i=j)=true then _ else _
   rw [if_neg e2];have z:=sR (k:=k) hp hk hb hj fin n (i+1) (some (.int (i:Nat))) (by omega)
   by_cases q2:j < i
   ·rw [if_pos q2];rw [if_pos (by omega:j < i+1)] at z
    exact z
   ·rw [if_neg q2];rw [if_neg (by omega:¬ j < i+1)] at z
    exact z
theorem wA {P:Nl} {qual:Str} {params:Arguments} {body:No} {scope:Scope} {clos:List (Str×Nl)}:GZ (D6 P qual params body scope clos):=λL S k k' h q=>⟨q.1,λg hg=>h _ _ (q.2 g hg)⟩
theorem Iy {K:Fg} {C:Nl} {j:Nat} {c0 c1 c2 c3 c4 c5 c6 c7 c8:Nl} (h0:PySem.W.kitOne K (.ref C) (.ref c0)=some (decide (0=j))) (h1:PySem.W.kitOne K (.ref C) (.ref c1)=some (decide (1=j))) (h2:PySem.W.kitOne K (.ref C) (.ref c2)=some (decide (2=j))) (h3:PySem.W.kitOne K (.ref C) (.ref c3)=some (decide (3=j))) (h4:PySem.W.kitOne K (.ref C) (.ref c4)=some (decide (4=j)))
  (h5:PySem.W.kitOne K (.ref C) (.ref c5)=some (decide (5=j))) (h6:PySem.W.kitOne K (.ref C) (.ref c6)=some (decide (6=j))) (h7:PySem.W.kitOne K (.ref C) (.ref c7)=some (decide (7=j))) (h8:PySem.W.kitOne K (.ref C) (.ref c8)=some (decide (8=j))):
  ∀ (i:Nat) (c:Nl),[c0,c1,c2,c3,c4,c5,c6,c7,c8][i]?=some c->PySem.W.kitOne K (.ref C) (.ref c)=some (decide (i=j)):=by
 intro i c h
 match i,h with
 | 0,h=>cases h; exact h0
 | 1,h=>cases h; exact h1
 | 2,h=>cases h; exact h2
 | 3,h=>cases h; exact h3
 | 4,h=>cases h; exact h4
 | 5,h=>cases h; exact h5
 | 6,h=>cases h; exact h6
 | 7,h=>cases h; exact h7
 | 8,h=>cases h; exact h8
 | n+9,h=>cases h
theorem uj.mk' {P:Np} {w:Nr} {K:Fg} {mg:Str->Nm Nk} {base:Nt} {x qual:Str} {st:Nu} {f:Nl} {fd:FuncData} {ps:List Str} {n:Nat} {F:List (Nl×Nz)->cr} (Fn:rC K x qual st f fd) (h:∀ cells,rQ cells P w K mg base cW n f fd ps (cY K (F cells))) (hm:mg x=some (.ref f)) (hb:gM K fd ps []):uj P w K mg base x n F:=
 ⟨f,fd,ps,h,hm,Fn.kp,hb⟩
theorem nO.mk' {P:Np} {w:Nr} {K:Fg} {mg:Str->Nm Nk} {base:Nt} {x qual:Str} {st:Nu} {f:Nl} {fd:FuncData} {ps:List Str} {n:Nat} {F:mH} (Fn:rC K x qual st f fd) (h:aU P w K mg base (eV P w) n f fd ps (AC K F)) (hm:mg x=some (.ref f)) (hb:gM K fd ps []):nO P w K mg base x n F:=
 ⟨f,fd,ps,h,hm,Fn.kp,hb⟩
theorem Ez {X:Cx} {params:Arguments} {body:No} {scope:Scope} {clos:List (Str×Nl)} {p pos lpos:Pos} {x:Str} {n m:Nat} {cls:List (Nat×Nl)} {N:List Str} {cap:List (Nm Nat)} {gb:(Er->DH->Prop)->DE} {c P:Nl} (hcl:closureFor scope X.env=pure clos) (hdef:defaultsOf params X.env=([],[]))
  (c0:uj X.prog X.w X.K X.mg X.base x n (Aw cls (m+1) X.prog X.w X.K X.mg X.base)) (hr:bE n X.A) (hg:Gl X x) (hC:PySem.W.CodeHd X.base c P) (hbl:lC X.mg X.base) (hcode:X.env.code=.ref c)
  (Lc0:rX X scope clos N cap) (hbind:∀ pm cv ctv,bindArgs (PySem.W.kla_fn "<lambda>" (X.env.qual++"<lambda>") params body scope clos pm cv ctv) ⟨[],[]⟩=pure [])
  (hb:∀ (g:Nl) (H:Hp) (ex:Er->DH->Prop) (A:Nq) (outer:List Env) (s:Nj) (cv:Nk),bE m (A.deeper (PySem.W.envX (X.env.qual++"<lambda>") scope s.heap.objs.size g cv clos))->EJ (wu X.prog X.w X.K X.mg X.base N (X.env.qual++"<lambda>") scope clos g cv A outer s H (vJ X.K ex)) body (gb ex))
  (hdb:(x == ("__debug__":Str))=false:=by decide) (hst:starEach [.Lambda params body scope lpos] X.env=[(false,eval (.Lambda params body scope lpos) X.env)]:=by rfl) (hpl:(backTo pos (starEach [] X.env)).any (·.1)=false:=by rfl):
  EJ X (.Call (.Name x p) [.Lambda params body scope lpos] [] pos) (Jw cls (X.env.qual++"<lambda>") params body scope clos cap gb (D6 P (X.env.qual++"<lambda>") params body scope clos)):=
 Hz c0 hr hg Lc0 hbind hb (Bp hC hbl hcode hdef hcl) wA hdb hst hpl
def BE:cr:=λds S k=>match ds with
 | [.tup xs]=>k (.tup xs) S
 | [.ref a]=>∃ xs,S a=some (.lst xs)/\k (.tup xs) S
 | _=>False
theorem wm {X:Cx}:dZ X (.type "tuple") (wt X.K BE):=by
 intro NA s σ H xs us Q I rs h;obtain⟨ds,S,k,i,hS,r,n⟩:=h;unfold BE at r
 split at r
 ·obtain⟨x,rfl,i1⟩:=iH i;obtain⟨a,vs,rfl,t,j⟩:=cF.mp i1;exact mS NA s σ H _ us Q I rs ⟨a,vs,rfl,.inr ⟨t,n _ S _ H r (Kp.refl H) hS i1⟩⟩
 ·obtain⟨x,rfl,i1⟩:=iH i;have e1:=cf.mp i1;subst e1;obtain⟨xs,z,r⟩:=r;obtain⟨vs,hl,j⟩:=hS.lst z;refine mS NA s σ H _ us Q I rs ⟨_,vs,rfl,.inl ⟨jW.of hl,λp hp=>?_⟩⟩
  have kp:Kp H (bL H p (.tup vs)):=Kp.new hp;exact n _ S _ _ r kp (hS.new hp) (cF.mpr ⟨p,vs,rfl,mB.of bp,j.kp kp⟩)
 ·exact r.elim
end DL
namespace L2
open PySem PySem.Spec PyProof.Rows
theorem zE:bootBuiltins "enumerate"=some (.type "enumerate"):=by decide +kernel
theorem A9 {P:Np} {w:Nr} {A:Nq} (b:Nw) (it l:Nl) (xs:Nv Nk) (hh:A.handled=none) (hne:it≠l):Draws P w A it [it,l] xs.size (λi x=>xs[i]?=some x) (λi h=>HF b it l i h/\sqB b l xs h) where
 live:=λi h st=>by obtain⟨o,e,_⟩:=(cX (P:=P) (w:=w) b it l).obj _ _ st.1; exact⟨o,e⟩
 frame:=λi h h' st q=>⟨(cX (P:=P) (w:=w) b it l).at_ _ _ _ st.1 λo e=>q it (by simp) o e,(cX (P:=P) (w:=w) b it l).sqAt _ _ _ st.2 λo e=>q l (by simp) o e⟩
 item:=λi s Q E hi st hQ=>(cX (P:=P) (w:=w) b it l).item A i s xs xs[i] Q E st.1 st.2 (by simp [hi]) λh' a1 a2=>hQ _ h' s.toks (by simp [hi]) ⟨a1,(cX (P:=P) (w:=w) b it l).sqAt _ _ _ st.2 λo e=>a2.extBut _ _ (Ne.symm hne) e⟩ a2
 done:=λs Q E st hE=>(cX (P:=P) (w:=w) b it l).fin _ _ _ _ _ _ hh st.1 st.2 (by simp) hE
def IH (K:PySem.W.Frag) (b:Nw) (a:Nl):It:=
 ⟨λi H => ∃ xs x, vd b K H a xs ∧ xs[i]? = some x,
  λi H v H'=>∃ T x,v=.ref T/\H T=none/\H'=bL H T (.tup [.int (i:Nat),x])/\∀ xs,vd b K H a xs->xs[i]?=some x,
  λi H=>∃ xs,vd b K H a xs/\xs.length=i⟩
def LR (b:Nw) (e it a:Nl) (i:Nat) (h:Nt):Prop:=(∃ old,IsEnum h e it (i:Nat) old)/\HF b it a i h
theorem Az {P:Np} {w:Nr} {K:PySem.W.Frag} {es:List No} {k:Nat} {pos:Pos} (b:Nw) {e it a:Nl} (h1:e≠it) (h2:e≠a) (h3:it≠a):
  zM P w K (.Tuple es k pos) (IH K b a) [e,it] e (LR b e it a) where
 mem:=by simp
 obj:=λi h st c hc=>by
  obtain⟨⟨old,he⟩,hi⟩:=st;have hc':c=e\/c=it:=by simpa using hc
  rcases hc' with rfl | rfl
  ·exact⟨_,he,λv q=>by cases q⟩
  ·exact(cX (P:=P) (w:=w) b c a).obj _ _ hi
 keep:=λi h h' st q=>by
  obtain⟨⟨old,he⟩,hi⟩:=st;exact⟨⟨old,q e (by simp) _ he⟩,(cX (P:=P) (w:=w) b it a).at_ _ _ _ hi λo x=>q it (by simp) o x⟩
 item:=by
  intro X hP hw hK hc i NA s σ H E I hf st hg;subst hP hw hK;obtain⟨xs,x,q1,hx⟩:=hg;obtain⟨its,rv,p⟩:=I.sqB q1;obtain⟨u,hu,ru⟩:=rv.get hx;obtain⟨⟨old,he⟩,hi⟩:=st;have hn:H s.heap.objs.size=none:=I.hok.fresh (Mp _);have helt:e < s.heap.objs.size:=Mo he;have hilt:it < s.heap.objs.size:=by obtain⟨o,z,_⟩:=(cX (P:=X.prog) (w:=X.w) b it a).obj _ _ hi; exact Mo z
  have hlt:i < its.toArray.size:=by
   have:=MX.mp hu;obtain⟨z,_⟩:=this
   simpa using z
  refine wpAny_pyNext_enum_itemD (A9 b it a its.toArray (show X.A.in1.handled=none from I.ok.hd hc) h3) he ⟨hi,p⟩ hlt h1 (by simp [h1,h2]) λx' h' tk hx' ho hst hT hsz hk=>?_
  have ex:x'=u:=by
   have z:its[i]?=some x':=by simpa using hx'
   rw [hu] at z;exact(MT z).symm
  subst ex;have I1:aI X NA σ (bL H s.heap.objs.size (.tup [.int (i:Nat),x])) {s with heap:=h',toks:=tk+1}:=
   I.turnedNew (t':=tk+1) [e,it] (λc o hb y=>hk c o (λq=>hb (by simp [q])) (λq=>hb (by simp [q])) y) hf (Mp _) ⟨MF rfl,[.int (i:Nat) tk,x'],.cons ⟨tk,rfl⟩ (.cons ru .nil),⟨_,hT,rfl,_,rfl⟩⟩
  refine⟨_,rfl,wpAny_letOwnedTupleGo_enum (s:={s with heap:=h',toks:=tk+1}) ho λh2' g1 g2=>?_⟩
  refine⟨.ref s.heap.objs.size,bL H s.heap.objs.size (.tup [.int (i:Nat),x]),?_,rfl,⟨_,x,rfl,hn,rfl,λxs' e1=>by rw [I.sqB_inj e1 q1]; exact hx⟩,⟨⟨x',by simpa using g1⟩,?_⟩,λc hb=>?_⟩
  ·refine I1.turnedL (t':=tk+1) [e] (λc o hb y=>g2.extBut _ _ (λq=>hb (by simp [q])) y) λc hb=>?_
   have z:c=e:=by simpa using hb
   subst z;obtain⟨f0,f1,f2,f3,f4,f5⟩:=hf c (by simp)
   exact⟨by rw [aF (Mu helt)]; exact f0,f1,f2,f3,f4,f5⟩
  ·exact(cX (P:=X.prog) (w:=X.w) b it a).at_ _ _ _ hst.1 λo z=>g2.extBut _ _ (Ne.symm h1) z
  ·have hc':c=e\/c=it:=by simpa using hb
   rw [aF (by rcases hc' with rfl | rfl; exact Mu helt; exact Mu hilt)]
   exact(hf c hb).1
 done:=by
  intro X hP hw hK hc i NA s σ H E I hf st hg;subst hP hw hK;obtain⟨xs,q1,hx⟩:=hg;obtain⟨its,rv,p⟩:=I.sqB q1;obtain⟨⟨old,he⟩,hi⟩:=st;have l1:=rv.length;have ez:i=its.toArray.size:=by simp; omega
  refine wpAny_pyNext_enum_endD (A9 b it a its.toArray (show X.A.in1.handled=none from I.ok.hd hc) h3) he ⟨by rw [<- ez]; exact hi,p⟩ λh' kk=>⟨rfl,I.turnedL (t':=s.toks) [it] (λc o hb y=>kk c o (λq=>hb (by simp [q])) y) λc hb=>hf c ?_⟩
  have z:c=it:=by simpa using hb
  subst z;simp
 self:=λ_ _ _ _ _ st h=>by
  obtain⟨⟨old,he⟩,_⟩:=st;exact wpAny_pyIter_enum he h
theorem wY (l:Nl) (xs:Nv Nk) (n:Nat) (dct:Nm Nl) (sl:Nv (Nm Nk)):
  Meets (Builtin.«enumerate.__new__» ⟨[.type "enumerate",.ref l],[]⟩) (λ_ R s=>s.heap.get? l=some ⟨.type "tuple",dct,.seq xs n,sl⟩/\
   R (.ok (.ret (.ref (Fb s.heap "tuple_iterator" l).objs.size))) {s with heap:=(Fb s.heap "tuple_iterator" l).push {cls:=.type "enumerate",data:=.fields #[.none,.bool false,.ref s.heap.objs.size,rawInt 0,.none,.none]}}):=
 .of_wp λprog w A R s h=>by
  obtain⟨hp,g,d,tk,os⟩:=s;obtain⟨hl,h⟩:=h;have hsub:=sub_enumerate;have hT:Heap.IsTuple (Shared.heap ⟨hp,g,d,tk,os⟩) l xs:=⟨_,hl,rfl,n,rfl⟩
  wp_walk using AutoSeq1.wpAny_loadPart' hl
  refine wpAny_stack_any λ_=>Ml ?_
  split
  ·rename_i c _ _ _ _ _
   cases (c == Value.type "enumerate") <;> (wp_walk using AutoSeq1.wpAny_loadPart' hl,wpAny_pyIter_tuple hT; exact⟨_,rfl,h⟩)
  ·wp_walk using AutoSeq1.wpAny_loadPart' hl,wpAny_pyIter_tuple hT
   exact⟨_,rfl,h⟩
section
variable {prog:Np} {w:Nr} {A:Nq} {E:Nk->Nj->Prop} {s:Nj}
theorem xA {l:Nl} {xs:Nv Nk} {Q:Nk->Nj->Prop} (hL:s.heap.IsTuple l xs)
  (h:∀ h',IsEnum h' (s.heap.objs.size+1) s.heap.objs.size 0 .none->h'.get? s.heap.objs.size=some {cls:=.type "tuple_iterator",data:=.fields #[.ref l,.int 0 0]}->(∀ c o,s.heap.get? c=some o->h'.get? c=some o)->Q (.ref (s.heap.objs.size+1)) {s with heap:=h'}):
  wpAny (model prog w) A (call (.type "enumerate") [.ref l]) Q E s:=by
 obtain⟨⟨c,dct,dt,sl⟩,hl,hc,n,hd⟩:=hL;obtain rfl:c=.type "tuple":=hc
 obtain rfl:dt=.seq xs n:=hd;refine callType_new F.called_enumerate (by decide) (F.typeCall_enumerate_1 _) (F.newCall_enumerate_1 _) (λobj=>F.args_object_init_2 obj _) F.entry_enumerate_new (wY l xs n dct sl) ⟨hl,?_⟩
 have z1:(Fb s.heap "tuple_iterator" l).objs.size=s.heap.objs.size+1:=Nb ..
 have g5:=Mm (Fb s.heap "tuple_iterator" l) (o:={cls:=.type "enumerate",data:=.fields #[.none,.bool false,.ref s.heap.objs.size,rawInt 0,.none,.none]}) rfl
 show _/\_
 rw [z1] at g5 ⊢;exact⟨⟨_,g5,rfl⟩,h _ g5 (Mk _ (Mm _ rfl)) λc o x=>Mk _ (Mk _ x)⟩
theorem xV {b:Nw} {l:Nl} {xs:Nv Nk} {Q:Nk->Nj->Prop} (hL:sqB b l xs s.heap)
  (h:∀ h',IsEnum h' (s.heap.objs.size+1) s.heap.objs.size 0 .none->HF b s.heap.objs.size l 0 h'->(∀ c o,s.heap.get? c=some o->h'.get? c=some o)->Q (.ref (s.heap.objs.size+1)) {s with heap:=h'}):
  wpAny (model prog w) A (call (.type "enumerate") [.ref l]) Q E s:=by
 cases b with
 | true=>exact call_enumerate_list hL λh' a1 a2 _ a4=>h h' a1 a2 a4
 | false=>exact xA hL λh' a1 a2 a4=>h h' a1 ⟨_,a2,rfl,rfl⟩ a4
end
def IN (K:PySem.W.Frag) (ta:TA):TI:=fun σ H R=>ta σ H λvs H1=>∃ a b,vs=[.ref a]/\(∃ xs,vd b K H1 a xs)/\R (IH K b a) H1
theorem EQ {X:Cx} {a:No} {ta:TA} {p pos tp:Pos} {es:List No} {k:Nat} (hg:Gl X "enumerate") (hm:X.mg "enumerate"=none) (ha:PA X [a] ta) (hs:starEach [a] X.env=[(false,eval a X.env)]:=by rfl):
  PI X (.Tuple es k tp) (.Call (.Name "enumerate" p) [a] [] pos) (IN X.K ta):=by
 intro NA s σ H R I h;refine Call_ (qx I hg hm zE (PyProof.Rows.callWith_type1 (cu (ha pos NA s σ H _ I h) λus s1 ⟨vs,H1,I1,r1,q1⟩=>?_) (by rw [hs]; rfl) rfl))
 obtain⟨a1,b,rfl,⟨xs,e1⟩,q⟩:=q1;cases r1 with
 | cons r rr=>
  cases rr;cases r;obtain⟨its,rv,p1⟩:=I1.sqB e1;have al:=wd p1;refine xV p1 λh' c1 c2 c3=>?_
  refine wpAny_pyIter_enum (s:={s1 with heap:=h'}) c1 ?_
  have fr:∀ j,H1 (s1.heap.objs.size+j)=none:=λj=>I1.hok.fresh (Nat.le_add_right _ _)
  refine⟨_,[s1.heap.objs.size+1,s1.heap.objs.size],_,_,H1,rfl,I1.kept (t':=s1.toks) c3,Az b (Nat.succ_ne_self _) (Nat.ne_of_gt (Nat.lt_succ_of_lt al)) (Nat.ne_of_gt al),⟨⟨_,c1⟩,c2⟩,λc hb=>?_,q⟩
  have hb':c=s1.heap.objs.size+1\/c=s1.heap.objs.size:=by simpa using hb
  rcases hb' with rfl | rfl
  ·exact I1.fpOk (Nat.le_add_right _ _) (fr 1)
  ·exact I1.fpOk (Mp _) (fr 0)
end L2
namespace DL
open PySem PySem.Spec PyProof.Rows L2
def mK:Nat->List D->List D
 | _,[]=>[]
 | j,d::r=>.tup [.int (j:Nat),d]::mK (j+1) r
theorem u7:∀ {ds:List D} {j i:Nat} {c:D},(mK j ds)[i]?=some c->∃ d,ds[i]?=some d/\c=.tup [.int ((j+i:Nat):Int),d]
 | [],_,_,_,h=>by cases h
 | d::r,j,0,c,h=>⟨d,rfl,(MT h).symm⟩
 | d::r,j,i+1,c,h=>by
  obtain⟨e,h1,h2⟩:=u7 (ds:=r) (j:=j+1) (i:=i) h;exact⟨e,h1,by rw [h2,show j+1+i=j+(i+1) by omega]⟩
theorem u6:∀ {ds:List D} {j:Nat},(mK j ds).length=ds.length
 | [],_=>rfl
 | _::r,j=>congrArg (·+1) (u6 (ds:=r) (j:=j+1))
theorem Ej {K:Fg} {H1:Hp} {q:List D×Nm Nl} {a:Nl} {b:Nw} (y:∀ S2 H2,Kp H1 H2->Hs K H2 S2->dG q S2->∃ xs,vd b K H2 a xs/\IsDs K H2 q.1 xs):
  (∀ i d S2 H2,(mK 0 q.1)[i]?=some d->Kp H1 H2->Hs K H2 S2->dG q S2->(IH K b a).go i H2/\∀ x H',(IH K b a).yld i H2 x H'->Kp H2 H'/\Hs K H' S2/\cK K H' d x)/\
  ∀ S2 H2,Kp H1 H2->Hs K H2 S2->dG q S2->(IH K b a).stop (mK 0 q.1).length H2:=by
 refine⟨λi c S2 H2 e k2 hS2 o2=>?_,λS2 H2 k2 hS2 o2=>?_⟩
 ·obtain⟨xs,w1,u1⟩:=y S2 H2 k2 hS2 o2;obtain⟨d,f1,rfl⟩:=u7 e;obtain⟨v1,g1,r1⟩:=u1.get f1;refine⟨⟨xs,v1,w1,g1⟩,?_⟩;rintro x H' ⟨T,x',rfl,hT,rfl,al⟩;have l1:=al xs w1;rw [g1] at l1;cases l1;have kn:Kp H2 (bL H2 T (.tup [.int (i:Nat),v1])):=Kp.new hT;exact⟨kn,hS2.new hT,cF.mpr ⟨T,[.int (i:Nat),v1],rfl,mB.of bp,IsDs.cons (isInt.mpr (by rw [Nat.zero_add])) (IsDs.cons (r1.kp kn) IsDs.nil)⟩⟩
 ·obtain⟨xs,w1,u1⟩:=y S2 H2 k2 hS2 o2;refine⟨xs,w1,?_⟩;rw [<- u1.length,u6]
def HK (ta:DA) (g:DG) (b:DS):DS:=λM L S=>ta L S λds S1=>match ds with
 | [d]=>∃ q,aS S1 d=some q/\hV (dG q) g b M (mK 0 q.1) L S1
 | _=>False
section
variable {X:Cx} {a:No} {es:List No} {kt:Nat} {tp p pos pos':Pos} {gg:DG} {ta:DA} {g:DS} {body:List Nu}
theorem nD (hp:PassesOwn (model X.prog X.w) X.A X.env X.xe) (hc:X.calm=true) (hgl:Gl X "enumerate") (hm:X.mg "enumerate"=none) (ha:AJ X [a] ta) (hg:GJ X (.Tuple es kt tp) gg) (hb:xz X body g)
  (hs1:starEach [a] X.env=[(false,eval a X.env)]:=by rfl) (hs:∀ x,foldedSetIterable (.Call (.Name "enumerate" p) [a] [] pos') X.env x=pure x:=by intro _; rfl):
  SJ X (.For (.Tuple es kt tp) (.Call (.Name "enumerate" p) [a] [] pos') body [] pos) (HK ta gg g):=
 ⟨PS.imp (wl hp hc (EQ hgl hm ha.h hs1) hg.h hb.h hs) λN σ H ⟨L,S,M,hL,hS,h,r⟩=>qR.go hL hS h λds S1 vs H1 h1 k1 hL1 hS1 i1=>by
  split at h1
  ·rename_i d1
   obtain⟨v1,rfl,j1⟩:=iH i1;obtain⟨q1,e1,h1⟩:=h1;obtain⟨a1,b1,rfl,x1,y1⟩:=qg hS1 j1 e1;obtain⟨z1,z2⟩:=Ej y1;exact⟨a1,b1,rfl,x1,u8 hL1 hS1 h1 (r.kp k1) z1 z2⟩
  ·exact h1.elim⟩
end
def HD:D2:=λd e S k=>match d,e with
 | .tup ds,.int i=>∃ c,L2.atI ds i=some c/\k c S
 | .rl ds,.int i=>∃ c,L2.atI ds i=some c/\k c S
 | .ref a,.int i=>∃ ds c,S a=some (.lst ds)/\L2.atI ds i=some c/\k c S
 | _,_=>False
theorem gN {X:Cx}:AB X (jX X.K HD):=AB.imp I0 (jX.imp λd e S k h=>by
 unfold HD at h
 split at h
 ·obtain⟨c,h1,h2⟩:=h;simp only [ww,h1];exact h2
 ·obtain⟨c,h1,h2⟩:=h;simp only [ww,h1];exact h2
 ·obtain⟨ds,c,h0,h1,h2⟩:=h;simp only [ww,h0,h1];exact h2
 ·exact h.elim)
theorem mO {X:Cx} {x:Str} {p1 p2 pos:Pos} {c:Int} {j} (n:Nat) (hN:X.N[n]?=some x:=by rfl) (hv:tU X.env.scope x:=by first | exact Or.inl rfl | exact Or.inr (Or.inl rfl) | exact Or.inr (Or.inr rfl)) (hd:(x == ("__debug__":Str))=false:=by decide) (hcd:(x == ("__classdict__":Str))=false:=by decide):EJ X (.Subscript (.Name x p1) (.Constant (.int c) j p2) pos) (t4 HD (fG n) (dC (.int c))):=bh gN (aj n hN hv hd hcd) ah Zf
theorem EJ.or {X:Cx} {e:No} {g h:DE} (a:EJ X e g) (b:EJ X e h):EJ X e (λL S k=>g L S k\/h L S k):=
 ⟨λNA s σ H Q I z9=>by obtain⟨L,S,k,hL,hS,q,n⟩:=z9; exact q.elim (λq=>a.h NA s σ H Q I ⟨L,S,k,hL,hS,q,n⟩) λq=>b.h NA s σ H Q I ⟨L,S,k,hL,hS,q,n⟩⟩
end DL
namespace HT
open PySem PyProof.Rows
theorem Dn {prog:Np} {w:Nr} {A:Nq} {E:Nk->Nj->Prop} {s:Nj} {t b:Nl} {ws:List Nk} {Q:Nk->Nj->Prop} (ht:IsTup s.heap t ([]:List Nk).toArray) (hb:IsTup s.heap b ws.toArray)
  (h0:Q (.ref b) s):wpAny (model prog w) A (binaryOp .Add (.ref t) (.ref b)) Q E s:=by
 obtain⟨⟨cls,dd,data,sl⟩,ho,hc,n,hd⟩:=id ht;obtain⟨⟨cls2,dd2,data2,sl2⟩,ho2,hc2,n2,hd2⟩:=id hb;simp only at hc hd hc2 hd2
 subst hc hd hc2 hd2;exact concat_meets ⟨_,ho,rfl⟩ ⟨_,ho2,rfl⟩ noFill_tuple_add seq_tuple_add PySem.F.slot_tuple_add PySem.F.entry_tuple_add (PySem.F.args_tuple_add_2 _ _)
   (tuple_addW0 t b ([]:List Nk).toArray ws.toArray n n2 dd dd2 sl sl2 (by simp)) ⟨ho,ho2,h0⟩
end HT
namespace L2
open PySem PySem.Spec PyProof.Rows
section
variable {X:Cx}
theorem Ck:gp X (binaryOp .Add) (λx y H Q=>∃ a b ys,x=.ref a/\y=.ref b/\mB X.K H a []/\mB X.K H b ys/\Q (.ref b) H):=by
 intro NA s σ H x y v u Q I rx ry h;obtain⟨a,b,ys,rfl,rfl,ha,hb,q⟩:=h;cases rx;cases ry;obtain⟨its,r1,p1,_⟩:=I.tuple ha;obtain⟨its2,r2,p2,_⟩:=I.tuple hb;have e:its=[]:=r1.nil_iff.mpr rfl;subst e;exact HT.Dn p1 p2 ⟨.ref b,H,I,rfl,q⟩
end
end L2
namespace DL
open PySem PySem.Spec PyProof.Rows L2
def FH:D2:=λd e S k=>match d,e with
 | .tup xs,.tup ys=>xs.length+ys.length<=sizeLine/\k (.tup (xs++ys)) S
 | d,e=>Ho d e S k
theorem AV {X:Cx}:gp X (binaryOp .Add) (jX X.K FH):=by
 intro NA s σ H x y v u Q I rx ry h;obtain⟨d,e,S,k,i1,i2,hS,r,n⟩:=h;unfold FH at r
 split at r
 ·rename_i xs ys
  obtain⟨hl,r⟩:=r
  by_cases h1:xs=[]
  ·subst h1;obtain⟨a,vs,rfl,t1,j1⟩:=cF.mp i1;obtain⟨b,us,rfl,t2,j2⟩:=cF.mp i2;have e:vs=[]:=by
    have:=j1.length;exact Ni.mp this.symm
   subst e;exact Ck NA s σ H _ _ v u Q I rx ry ⟨a,b,us,rfl,rfl,t1,t2,n _ S _ H r (Kp.refl H) hS i2⟩
  ·by_cases h2:ys=[]
   ·subst h2;obtain⟨a,vs,rfl,t1,j1⟩:=cF.mp i1;obtain⟨b,us,rfl,t2,j2⟩:=cF.mp i2;have e:us=[]:=by
     have:=j2.length;exact Ni.mp this.symm
    subst e;rw [MJ] at r;exact zj NA s σ H _ _ v u Q I rx ry ⟨a,b,vs,[],rfl,rfl,t1,t2,pA j1 h1,by rw [<- j1.length]; exact hl,λ_=>n _ S _ H r (Kp.refl H) hS i1,λz=>absurd rfl z⟩
   ·exact dF NA s σ H x y v u Q I rx ry ⟨_,_,S,k,i1,i2,hS,⟨h1,h2,hl,r⟩,n⟩
 ·exact dF NA s σ H x y v u Q I rx ry ⟨_,_,S,k,i1,i2,hS,r,n⟩
end DL
namespace HT
open PySem PyProof.Rows
section
variable {prog:Np} {w:Nr} {A:Nq} {E:Nk->Nj->Prop} {s:Nj}
theorem mF {t sl:Nl} {items:Nv Nk} {vl vu:Nk} {lo hi:Nm Int} {Q:Nk->Nj->Prop} (ht:IsTup s.heap t items) (hs:s.heap.IsSliceOf sl vl vu .none) (pl:IsPart vl lo) (pu:IsPart vu hi)
  (hw:dX items.size 0 lo=0/\dX items.size items.size hi=items.size) (h:Q (.ref t) s):wpAny (model prog w) A (getItem (.ref t) (.ref sl)) Q E s:=by
 obtain⟨os,hos,hcs,hds⟩:=id hs;have hTs:s.TypeIs (.ref sl) "slice":=⟨os,hos,hcs⟩
 unfold getItem
 try with_reducible refine MM ?_
 first | refine Mj (Ml ?_) | skip
 refine Mj (wpAny_sequenceKey ht.typeIs (by decide) ?_)
 refine Mj (Nd (name:=Str.ofString "__getitem__") ht.typeIs PyProof.Rows.slot_tuple_getitem
  (M6 PyProof.Rows.slot_tuple_getitem ht.typeIs entry_tuple_getitem ?_ (args_tuple_getitem _ _)))
 show wpAny _ _ (Builtin.Tuple.tupleItemsOf (.ref t) >>= _) _ _ s
 refine Mj (tupleItemsOf_ ht (Mj (wpAny_typeOf hTs ?_)));rw [if_pos (by decide)]
 refine Mj (jN hs pl pu ?_);rw [hw.1,hw.2]
 show wpAny _ _ (if ((((0:Nat):Int) == 0) && (1:Int) == 1 && (items.size - 0) == items.size)=true then _ else _) _ _ s
 rw [if_pos (by simp)]
 refine Mj (m:=Builtin.Tuple.tupleIsExact (.ref t)) (Mj (wpAny_typeOf ht.typeIs (Ml ?_)));rw [if_pos (by decide)]
 first
  | exact Ml ⟨_,rfl,Ml h⟩
  | exact Mj (Ml (Ml ⟨_,rfl,Ml h⟩))
  | (wp_walk; exact⟨_,rfl,Ml h⟩)
end
end HT
namespace L2
open PySem PySem.Spec PyProof.Rows
section
variable {X:Cx}
theorem Eu:Du X (λx lo hi H Q=>∃ a xs,x=.ref a/\mB X.K H a xs/\(HT.dX xs.length 0 lo=0/\HT.dX xs.length xs.length hi=xs.length)/\Q (.ref a) H):=by
 intro NA s σ H x v vl vu lo hi sl Q I rx hs pl pu h;obtain⟨a,xs,rfl,hx,hw,q⟩:=h;cases rx;obtain⟨its,r,ht,hz⟩:=I.tuple hx;have hlen:its.toArray.size=xs.length:=by rw [Ms]; exact r.length.symm
 refine⟨"tuple",_,PyProof.Rows.slot_tuple_getitem.lookup,ht.typeIs,?_⟩
 exact HT.mF ht hs pl pu (by rw [hlen]; exact hw) ⟨.ref a,H,I,rfl,q⟩
end
end L2
namespace DL
open PySem PySem.Spec PyProof.Rows L2
def Ju (g:DE) (tl th:Ds):DE:=λL S k=>g L S λx S1=>tl L S1 λlo S2=>th L S2 λhi S3=>match x with
 | .tup xs=>k (.tup (iU xs lo hi)) S3
 | _=>False
theorem zK {xs:List D} {lo hi:Nm Int} (h:HT.dX xs.length 0 lo=0/\HT.dX xs.length xs.length hi=xs.length):iU xs lo hi=xs:=by
 unfold iU;rw [h.1,h.2];simp
theorem EA {X:Cx} {e:No} {g:DE} {lo hi:Nm No} {tl th:Ds} {p2 pos:Pos} (he:EJ X e g) (hl:OJ X lo tl) (hu:OJ X hi th):EJ X (.Subscript e (.Slice lo hi none p2) pos) (Ju g tl th):=
 ⟨PE.imp (tE (Du.or Cf Eu) he.h hl.h hu.h) fun σ H Q ⟨L,S,k,hL,hS,h,n⟩=>up.go hL hS h λd S1 v H1 h1 k1 hL1 hS1 i1=>by
  refine⟨L,S1,_,hL1,hS1,h1,λlo' S2 H2 h2 k2 hS2=>⟨L,S2,_,hL1.kp k2,hS2,h2,λhi' S3 H3 h3 k3 hS3=>?_⟩⟩
  cases d with
  | tup xs=>
   obtain⟨a,vs,rfl,t,j⟩:=cF.mp i1;have j3:=j.kp (k2.trans k3)
   by_cases hw:HT.dX xs.length 0 lo'=0/\HT.dX xs.length xs.length hi'=xs.length
   ·refine .inr ⟨a,vs,rfl,(k2.trans k3).tup t,by rw [<- j.length]; exact hw,?_⟩
    have h3:k (.tup (iU xs lo' hi')) S3:=h3;rw [zK hw] at h3;exact n _ S3 _ _ h3 (k1.trans (k2.trans k3)) hS3 (cF.mpr ⟨a,vs,rfl,(k2.trans k3).tup t,j3⟩)
   ·refine .inl ⟨a,vs,rfl,(k2.trans k3).tup t,by rw [<- j.length]; exact hw,λp hp=>?_⟩
    have k4:Kp H3 (bL H3 p (.tup (qy vs lo' hi'))):=Kp.new hp;refine n _ S3 _ _ h3 (k1.trans (k2.trans (k3.trans k4))) (hS3.new hp) (cF.mpr ⟨p,_,rfl,mB.of bp,?_⟩);unfold iU qy;rw [j.length];exact((j3.drop _).take _).kp k4
  | _=>exact(show False from h3).elim⟩
end DL
set_option linter.all false
namespace DT
abbrev Mx:=Nat->Nat->Rat
def sm:Nat->(Nat->Rat)->Rat
 | 0,_=>0
 | n+1,f=>sm n f+f n
def sk (i r:Nat):Nat:=if r < i then r else r+1
def sg (n:Nat):Rat:=if n % 2=0 then 1 else -1
def cl (M:Mx) (a:Nat) (u:Nat->Rat):Mx:=λr c=>if c=a then u r else M r c
end DT
namespace PySem
open Sem (wp)
open Builtin DL
section
variable {prog:Np} {w:Nr}
section
variable {A:Nq} {E:Nk->Nj->Prop} {s:Nj} {it d v:Nl} {es:Nv DictEntry} {i ep:Nat} {e:DictEntry} {ok ov:Nk}
inductive J7 where
 | k | v
def J7.nm:J7->Ny
 | .k=>"dict_keyiterator"
 | .v=>"dict_valueiterator"
def J7.of (e:DictEntry):J7->Nk
 | .k=>e.key
 | .v=>e.val
end
end
end PySem
namespace DL
open PySem PySem.Spec PyProof.Rows L2
abbrev LY:=Lo->DH->(List D->(DH->Prop)->DH->Prop)->Prop
end DL
namespace PySem
open Builtin DL
abbrev Sx:=Nat×Tok
end PySem
namespace ST
open PySem PySem.SetTable
def LW (mask:Nat) (p:Probe):Probe:=
 if p.more > 0 then {p with j:=p.j+1,more:=p.more - 1} else {p with j:=(leap mask p.i p.perturb).1,more:=runEnd mask (leap mask p.i p.perturb).1 - (leap mask p.i p.perturb).1,i:=(leap mask p.i p.perturb).1,perturb:=(leap mask p.i p.perturb).2}
def LZ (mask i pt:Nat):Probe:={j:=i,more:=runEnd mask i - i,i:=i,perturb:=pt,dummy:=none}
def sq (mask:Nat) (h:Int):Nat->Probe
 | 0=>LZ mask (bits h % (mask+1)) (bits h)
 | n+1=>LW mask (sq mask h n)
def lp (mask:Nat) (h:Int):Nat->Nat×Nat
 | 0=>(bits h % (mask+1),bits h)
 | n+1=>leap mask (lp mask h n).1 (lp mask h n).2
def L9 (mask:Nat):Prop:=mask=7\/mask=31\/mask=127
def Me (xs:Nv Nat):Prop:=∀ i j:Nat,i < j->∀ a b:Nat,xs[i]?=some a->xs[j]?=some b->a < b
def On (t:SetTable) (j:Nat):Prop:=∃ i:Nat,t.place[i]?=some j
def L6 (t:SetTable) (h:Int) (j:Nat):Prop:=∃ n,(sq t.mask h n).j=j/\∀ m,m < n->On t (sq t.mask h m).j
structure TI (t:SetTable) (hs:List Int):Prop where
 dm:t.dummies=#[]
 ris:Me t.place
 sz:t.place.size=hs.length
 le:∀ j,On t j->j < t.mask+1
 msk:L9 t.mask
 way:∀ q∈t.place.toList.zip hs,L6 t q.2 q.1
def LN (t:SetTable):Prop:=t.place.size*5 < t.mask*3
end ST
namespace ST
open PySem PySem.SetTable PySem.Spec
section
variable {prog:Np} {w:Nr} {K:Type} [DecidableEq K] {knd:KeyKind prog w K} {A:Nq} {E:Nk->Nj->Prop} {s:Nj}
def ent (knd:KeyKind prog w K) (x:List K×Nl):Int×Nk:=(tupleKeyHash knd x.1,.ref x.2)
structure KS (knd:KeyKind prog w K) (h:Nt) (a:Nl) (o:Nz) (es:Nv (Int×Nk)) (ep:Nat) (t:SetTable) (xs:List (List K×Nl)):Prop where
 get:h.get? a=some o
 ex:o.ExactSet
 data:o.data=.set es ep t
 ent:es.toList=xs.map (ent knd)
 is:∀ x∈xs,IsTupleKey knd h x.1 x.2
 ti:TI t (xs.map λx=>tupleKeyHash knd x.1)
 lax:LN t
end
end ST
namespace ST
open PySem PySem.SetTable PySem.Spec PyProof.Rows
def Ji {α:Type} [DecidableEq α] (a:List α) (k:α):List α:=if k∈a then a else a++[k]
def dd {α:Type} [DecidableEq α] (l:List α):List α:=l.foldl Ji []
section
variable {prog:Np} {w:Nr} {K:Type} [DecidableEq K] {knd:KeyKind prog w K} {A:Nq} {R:Result->Nj->Prop} {I:Nl} {fp wr:List Nl} {G:Nv GenState->Nv GenState->Prop} {n:Nat} {P:Nat->Nk->Prop} {St:Nat->Nj->Prop}
def Holds (knd:KeyKind prog w K) (h:Nt) (S:Nl) (V:Nl->Prop) (l:List (List K)):Prop:=∃ o es ep t xs,KS knd h S o es ep t xs/\xs.length=(dd l).length/\(∀ k,k∈xs.map (·.1)↔k∈dd l)/\∀ x∈xs,V x.2
end
end ST
namespace DL
open PySem PySem.Spec PyProof.Rows L2
theorem CF:bootBuiltins "range"=some (.type "range"):=by decide +kernel
end DL
namespace L2
open PySem PySem.Spec PyProof.Rows
abbrev Cx.still (X:Cx):Cx:={X with xe:=mq}
theorem aI.still {X:Cx} {NA:List (Nl×Nz)} {σ:St} {H:Hp} {s:Nj} (I:aI X NA σ H s):aI X.still NA σ H s:=
 ⟨⟨I.ok.mod,I.ok.kind,I.ok.glob,I.ok.blt,I.ok.above,I.ok.inj,I.ok.has,I.ok.cab,I.ok.hd,I.ok.frames,I.ok.stk,I.ok.exf,I.ok.bs,I.ok.bsz,I.ok.noex,I.ok.exfs,I.ok.funs,I.ok.frf⟩,I.os,I.bare,I.base,I.loc,I.cell,I.free,I.freeC,I.pin,I.hok,I.len⟩
theorem aI.unstill {X:Cx} {NA:List (Nl×Nz)} {σ:St} {H:Hp} {s:Nj} (I:aI X.still NA σ H s):aI X NA σ H s:=
 ⟨⟨I.ok.mod,I.ok.kind,I.ok.glob,I.ok.blt,I.ok.above,I.ok.inj,I.ok.has,I.ok.cab,I.ok.hd,I.ok.frames,I.ok.stk,I.ok.exf,I.ok.bs,I.ok.bsz,I.ok.noex,I.ok.exfs,I.ok.funs,I.ok.frf⟩,I.os,I.bare,I.base,I.loc,I.cell,I.free,I.freeC,I.pin,I.hok,I.len⟩
def XW (X:Cx) (NA:List (Nl×Nz)) (σ:St) (R:Hp->Prop) (E:XK) (e:Nk) (s':Nj):Prop:=∃ H1 s1,aI X NA σ H1 s1/\R H1/\eV X.prog X.w X.stack H1 s1 E e s'
abbrev TX:=St->Hp->VK->(Hp->Prop)->Prop
def HU (X:Cx) (E:XK) (e:No) (t:TX):Prop:=∀ (NA:List (Nl×Nz)) (s:Nj) (σ:St) (H:Hp) (Q:VK) (R:Hp->Prop),aI X NA σ H s->t σ H Q R->wpAny (model X.prog X.w) X.A (eval e X.env) (EP X NA σ Q) (XW X NA σ R E) s
section
variable {X:Cx} {E:XK}
theorem HU.imp {e:No} {t t':TX} (h:HU X E e t) (i:∀ σ H Q R,t' σ H Q R->t σ H Q R):HU X E e t':=λNA s σ H Q R I q=>h NA s σ H Q R I (i σ H Q R q)
theorem Ed {fn:Str} {f:Nl} {fd:FuncData} {ps:List Str} {sp:Sp} {k:Nat} {e:No} {es:List No} {ta:TA} {fp cp:Pos}
  (F:aU X.prog X.w X.K X.mg X.base (eV X.prog X.w) k f fd ps sp) (hr:bE k X.A) (hgf:Gl X fn) (hmf:X.mg fn=some (.ref f)) (hkf:PySem.W.keepIn X.K (.ref f)=true) (hb:gM X.K fd ps []) (ha:PA X.still (e::es) ta)
  (hdf:(fn == ("__debug__":Str))=false:=by decide) (he:starEach (e::es) X.env=(false,eval e X.env)::starEach es X.env:=by rfl) (hpl:(backTo cp (starEach es X.env)).any (·.1)=false:=by rfl):
  HU X E (.Call (.Name fn fp) (e::es) [] cp) (fun σ H Q R=>ta σ H λvs H1=>R H1/\sp vs H1 Q E):=by
 intro NA s σ H Q R I h;refine wpAny_Call_Name_kw (fh I hgf hmf ?_ hdf);refine PySem.W.callWith_K (h₀:=X.base) I.ok.mod.kin hkf (MY (ha cp NA s σ H _ I.still h) (λus s1 ⟨vs,H1,I1,r,hR,q⟩=>?_) λ_ _ z=>z.elim) he hpl
 have I1:aI X NA σ H1 s1:=I1.unstill;refine⟨I1.kIn,?_⟩;have r2:bA (vs++[]) (us++[]):=by rw [MJ,MJ]; exact r
 have q2:sp (vs++[]) H1 Q E:=by rw [MJ]; exact q
 have hl:(us++[]).length=ps.length:=by rw [<- r2.length]; exact F.len _ _ _ _ q2
 refine wpAny_call (codeAny_mono (F.run X.A X.stack s1 H1 ⟨us,[]⟩ (us++[]) (vs++[]) _ E hr I1.env0 (hb s1 us I1.kIn hl) r2 q2) λr s' hq=>?_)
 cases r with
 | ok fl=>
  cases fl with
  | ret u=>exact I1.after hq
  | next=>exact False.elim hq
  | brk=>exact False.elim hq
  | cont=>exact False.elim hq
 | error e=>exact⟨H1,s1,I1,hR,hq⟩
def Ib (K:PySem.W.Frag) (E:XK) (cv:Nk) (te:TX) (k:sT->St->VK) (t:TS):TS:=λD σ H=>(∀ c d0 H',E c d0 H'->PySem.W.exmOne K c cv=some true)/\
 ∃ R:Hp->Prop,te σ H (k D σ) R/\∀ H1 ea c d0 H' o,R H1->E c d0 H'->DL.Kp H1 H'->H' ea=none->o.cls=c->t D σ (bL H' ea (.frz o (.ext λ_=>True)))
end
end L2
namespace DL
open PySem PySem.Spec PyProof.Rows L2
def LJ (K:Fg) (g:DE):TX:=fun σ H Q R=>∃ L S k,Lc K H L σ/\Hs K H S/\g L S k/\(∀ d S' v H',k d S'->Kp H H'->Hs K H' S'->cK K H' d v->Q v H')/\∀ H1,Kp H H1->R H1
structure Lz (X:Cx) (ex:Er->DH->Prop) (e:No) (g:DE):Prop where
 h:HU X (vJ X.K ex) e (LJ X.K g)
section
variable {X:Cx} {ex:Er->DH->Prop}
theorem AM {fn:Str} {n:Nat} {F:mH} {e:No} {es:List No} {ta:DA} {fp cp:Pos} (c:nO X.prog X.w X.K X.mg X.base fn n F) (hr:bE n X.A) (hgf:Gl X fn) (ha:AJ X.still (e::es) ta)
  (hdf:(fn == ("__debug__":Str))=false:=by decide) (he:starEach (e::es) X.env=(false,eval e X.env)::starEach es X.env:=by exact cq rfl) (hpl:(backTo cp (starEach es X.env)).any (·.1)=false:=by exact fQ rfl):
  Lz X ex (.Call (.Name fn fp) (e::es) [] cp) (yr F ex ta):=by
 obtain⟨g,fd,ps,F1,h1,h2,h3⟩:=c.ex;refine⟨HU.imp (Ed F1 hr hgf h1 h2 h3 ha.h hdf he hpl) fun σ H Q R ⟨L,S,k,hL,hS,h,n,hR⟩=>?_⟩
 refine qR.go hL hS h λds S1 vs H1 h1 k1 hL1 hS1 i1=>?_
 exact⟨hR H1 k1,ds,S1,k,ex,i1,hS1,h1,λd' S' v H' q k3 z1 z2=>n d' S' v H' q (k1.trans k3) z1 z2,λr' d0 S' H' z zs st=>⟨r',S',rfl,z,zs,st⟩⟩
def Jj (K:Fg) (cv:Nk) (g:(Er->DH->Prop)->DE) (i:Nat) (t:DS):DS:=λM L S=>g (λC S2=>PySem.W.exmOne K (.ref C.1) cv=some true/\t M L S2) L S λd S2=>M.nx (L.set i (some d)) S2
end
inductive Jk (K:Fg) (n:Str) (st:Nu) (f:Nl) (cd:Nk):Prop where
 | mk {oc kV doc pm ct:Nk} {od an:Nm Nl} {osl:Nv (Nm Nk)} (l:K.lookup f=some ⟨oc,od,.func (PySem.W.fnOf n n (d_ st) (b_ st) (am st) .none kV doc pm an cd ct),osl⟩):Jk K n st f cd
structure DI (K:Fg) (n:Str) (st:Nu) (f:Nl) (cd:Nk):Prop where
 a:PySem.W.nsIn K mainGlobals n=some (some (.ref f))
 x:Jk K n st f cd
 e:PySem.W.codeIn K cd n=true
 k:PySem.W.keepIn K (.ref f)=true
def Bd (n:Str) (st:Nu) (ps:List Str):Prop:=∀ (kV doc pm:Nk) (an:Nm Nl) (cdv ct:Nk) (us:List Nk),us.length=ps.length->bindArgs (PySem.W.fnOf n n (d_ st) (b_ st) (am st) .none kV doc pm an cdv ct) ⟨us,[]⟩=pure (ps.zip us)
theorem lc {us:List Nk} {n:Nat} (h:us.length=n+1):∃ u r,us=u::r/\r.length=n:=by
 cases us with
 | nil=>cases h
 | cons u r=>exact⟨u,r,rfl,Nat.succ.inj h⟩
theorem Ks {n a1:Str} {st:Nu} (h:∀ (kV doc pm:Nk) (an:Nm Nl) (cdv ct u1:Nk),bindArgs (PySem.W.fnOf n n (d_ st) (b_ st) (am st) .none kV doc pm an cdv ct) ⟨[u1],[]⟩=pure (List.zip [a1] [u1])):Bd n st [a1]:=λ_ _ _ _ _ _ us hl=>by obtain⟨u1,us,rfl,h1⟩:=lc hl; cases Ni.mp h1; exact h _ _ _ _ _ _ u1
theorem LF {n a1 a2:Str} {st:Nu} (h:∀ (kV doc pm:Nk) (an:Nm Nl) (cdv ct u1 u2:Nk),bindArgs (PySem.W.fnOf n n (d_ st) (b_ st) (am st) .none kV doc pm an cdv ct) ⟨[u1,u2],[]⟩=pure (List.zip [a1,a2] [u1,u2])):Bd n st [a1,a2]:=λ_ _ _ _ _ _ us hl=>by obtain⟨u1,us,rfl,h1⟩:=lc hl; obtain⟨u2,us,rfl,h2⟩:=lc h1; cases Ni.mp h2; exact h _ _ _ _ _ _ u1 u2
theorem Lw {n a1 a2 a3:Str} {st:Nu} (h:∀ (kV doc pm:Nk) (an:Nm Nl) (cdv ct u1 u2 u3:Nk),bindArgs (PySem.W.fnOf n n (d_ st) (b_ st) (am st) .none kV doc pm an cdv ct) ⟨[u1,u2,u3],[]⟩=pure (List.zip [a1,a2,a3] [u1,u2,u3])):Bd n st [a1,a2,a3]:=λ_ _ _ _ _ _ us hl=>by obtain⟨u1,us,rfl,h1⟩:=lc hl; obtain⟨u2,us,rfl,h2⟩:=lc h1; obtain⟨u3,us,rfl,h3⟩:=lc h2; cases Ni.mp h3; exact h _ _ _ _ _ _ u1 u2 u3
theorem Lu {n a1 a2 a3 a4:Str} {st:Nu} (h:∀ (kV doc pm:Nk) (an:Nm Nl) (cdv ct u1 u2 u3 u4:Nk),bindArgs (PySem.W.fnOf n n (d_ st) (b_ st) (am st) .none kV doc pm an cdv ct) ⟨[u1,u2,u3,u4],[]⟩=pure (List.zip [a1,a2,a3,a4] [u1,u2,u3,u4])):Bd n st [a1,a2,a3,a4]:=λ_ _ _ _ _ _ us hl=>by obtain⟨u1,us,rfl,h1⟩:=lc hl; obtain⟨u2,us,rfl,h2⟩:=lc h1; obtain⟨u3,us,rfl,h3⟩:=lc h2; obtain⟨u4,us,rfl,h4⟩:=lc h3; cases Ni.mp h4; exact h _ _ _ _ _ _ u1 u2 u3 u4
theorem LG {n a1 a2 a3 a4 a5:Str} {st:Nu} (h:∀ (kV doc pm:Nk) (an:Nm Nl) (cdv ct u1 u2 u3 u4 u5:Nk),bindArgs (PySem.W.fnOf n n (d_ st) (b_ st) (am st) .none kV doc pm an cdv ct) ⟨[u1,u2,u3,u4,u5],[]⟩=pure (List.zip [a1,a2,a3,a4,a5] [u1,u2,u3,u4,u5])):Bd n st [a1,a2,a3,a4,a5]:=λ_ _ _ _ _ _ us hl=>by obtain⟨u1,us,rfl,h1⟩:=lc hl; obtain⟨u2,us,rfl,h2⟩:=lc h1; obtain⟨u3,us,rfl,h3⟩:=lc h2; obtain⟨u4,us,rfl,h4⟩:=lc h3; obtain⟨u5,us,rfl,h5⟩:=lc h4; cases Ni.mp h5; exact h _ _ _ _ _ _ u1 u2 u3 u4 u5
inductive Bs (P:Np) (w:Nr) (base:Nt):Prop where
 | mk:Bs P w base
section
variable {P:Np} {w:Nr} {K:Fg} {mg:Str->Nm Nk} {base h:Nt} {n:Str} {st:Nu} {f:Nl} {cd:Nk} {ps:List Str} {k:Nat}
theorem DI.own {F:cr} (d:DI K n st f cd) (_:Bs P w base) (X:K.In h) (G:h.Ns mainGlobals mg) (ok:∀ fd,rC K n n st f fd->fd.code=cd->aU P w K mg base cW k f fd ps (cY K F))
  (hb:Bd n st ps:=by first | exact Ks λ_ _ _ _ _ _ _=>rfl | exact LF λ_ _ _ _ _ _ _ _=>rfl | exact Lw λ_ _ _ _ _ _ _ _ _=>rfl | exact Lu λ_ _ _ _ _ _ _ _ _ _=>rfl | exact LG λ_ _ _ _ _ _ _ _ _ _ _=>rfl | exact bd6 λ_ _ _ _ _ _ _ _ _ _ _ _=>rfl | exact bd7 λ_ _ _ _ _ _ _ _ _ _ _ _ _=>rfl):aZ P w K mg base n k F:=by
 obtain⟨lk⟩:=d.x;have Fn:=sK lk d.e d.k;exact aZ.mk' Fn (ok _ Fn rfl) (PySem.W.mg_of X G d.a) (Fn.binds hb)
theorem DI.fn (d:DI K n st f cd) (hb:∀ (kV doc pm:Nk) (an:Nm Nl) (ct v:Nk),bindArgs (PySem.W.fnOf n n (d_ st) (b_ st) (am st) .none kV doc pm an cd ct) ⟨[v],[]⟩=pure [(("script":Str),v)]:=by exact λ_ _ _ _ _ _=>rfl):∃ fd:FuncData,rC K n n st f fd/\fd.code=cd/\∀ (s:Nj) (v:Nk),BindsTo s fd ⟨[v],[]⟩ [("script",v)]:=by
 obtain⟨lk⟩:=d.x;exact⟨_,sK lk d.e d.k,rfl,λs v=>.of_eq (hb _ _ _ _ _ v)⟩
theorem DI.ownX {F:mH} (d:DI K n st f cd) (_:Bs P w base) (X:K.In h) (G:h.Ns mainGlobals mg) (ok:∀ fd,rC K n n st f fd->aU P w K mg base (eV P w) k f fd ps (AC K F))
  (hb:Bd n st ps:=by first | exact Ks λ_ _ _ _ _ _ _=>rfl | exact LF λ_ _ _ _ _ _ _ _=>rfl | exact Lw λ_ _ _ _ _ _ _ _ _=>rfl | exact Lu λ_ _ _ _ _ _ _ _ _ _=>rfl | exact LG λ_ _ _ _ _ _ _ _ _ _ _=>rfl | exact bd6 λ_ _ _ _ _ _ _ _ _ _ _ _=>rfl | exact bd7 λ_ _ _ _ _ _ _ _ _ _ _ _ _=>rfl):nO P w K mg base n k F:=by
 obtain⟨lk⟩:=d.x;have Fn:=sK lk d.e d.k;exact nO.mk' Fn (ok _ Fn) (PySem.W.mg_of X G d.a) (Fn.binds hb)
theorem DI.ownR {F:List (Nl×Nz)->cr} (d:DI K n st f cd) (_:Bs P w base) (X:K.In h) (G:h.Ns mainGlobals mg) (ok:∀ fd,rC K n n st f fd->∀ cells,rQ cells P w K mg base cW k f fd ps (cY K (F cells)))
  (hb:Bd n st ps:=by exact Ks λ_ _ _ _ _ _ _=>rfl):uj P w K mg base n k F:=by
 obtain⟨lk⟩:=d.x;have Fn:=sK lk d.e d.k;exact uj.mk' Fn (ok _ Fn) (PySem.W.mg_of X G d.a) (Fn.binds hb)
end
end DL
namespace L2
open PySem PySem.Spec PyProof.Rows
abbrev ya (h:Nt) (C:Nl) (vs:List Nk):Nt:=(h.push {cls:=.type "tuple",data:=.seq vs.toArray}).push {cls:=.ref C,data:=.fields #[.ref h.objs.size,.none,.none,.none,.bool false,.none]}
inductive i4 (h:Nt) (bmB:List Nk) (n:Str):List Nk->Prop
 | base:i4 h bmB n bmB
 | own {a:Nl} {c0:Nk} {dd:Nm Nl} {cd:ClassData} {sl:Nv (Nm Nk)} {m:Str->Nm Nk} {tl:List Nk}:h.get? a=some ⟨c0,dd,.cls cd,sl⟩->h.Ns cd.ns m->m n=none->i4 h bmB n tl->i4 h bmB n (.ref a::tl)
section
variable {prog:Np} {w:Nr} {A:Nq} {E:Nk->Nj->Prop} {h:Nt} {g:Nv GenState} {d:Drawn} {t:Nat} {os:OsState}
variable {nm q:Str} {C N:Nl} {bs bm bmB:List Nk} {hdct:Nw} {sn:List Str} {sub:List Nk} {ab:Nw} {col:Nm Nw} {dd:Nm Nl} {k0 k1 k2 k3 k5:Nm Nk} {B newId initId:Ny} {mN:Str->Nm Nk}
theorem yq {M:Model} {n:Str} {tl:List Nk} {y:Nm Nk} {Q:Nm Nk->Nj->Prop} (T:i4 h bmB n tl) (hr:lookupAlong bmB n=pure y) (hq:Q y ⟨h,g,d,t,os⟩):wpAny M A (lookupAlong tl n) Q E ⟨h,g,d,t,os⟩:=by
 induction T with
 | base=>rw [hr]; exact Ml hq
 | own a b c _ ih=>
  rw [lookupAlong_cons];refine Mj (wpAny_classOwn_cls a b ?_);rw [c];exact ih
theorem sS {M:Model} {n:Str} {y:Nm Nk} {Q:Nm Nk->Nj->Prop} (hC:h.get? C=some (excClassObj nm q C N bs bm hdct sn sub ab col dd k0 k1 k2 k3 k5 newId)) (hn:h.Ns N mN) (T:i4 h bmB n bm) (hm:mroOf (.type B)=pure bmB) (hB:typeLookup (.type B) n=pure y) (h0:mN n=none)
  (hq:Q y ⟨h,g,d,t,os⟩):wpAny M A (typeLookup (.ref C) n) Q E ⟨h,g,d,t,os⟩:=by
 rw [typeLookup_eq,hm] at hB;rw [typeLookup_eq];refine Mj (wpAny_mroOf_exc hC ?_);rw [lookupAlong_cons];refine Mj (wpAny_classOwn_exc hC hn ?_);rw [h0];exact yq T hB hq
theorem Bj (F:ExcBaseFacts B newId initId bmB) (T:OwnTail h bmB bm) {vs:List Nk} {fI:Nl} {oI:Nz} {Q:Fin->Nj->Prop} (hC:h.get? C=some (excClassObj nm q C N bs bm hdct sn sub ab col dd k0 k1 k2 k3 k5 newId)) (hn:h.Ns N mN) (hi:mN "__init__"=some (.ref fI)) (hf:h.get? fI=some oI) (hc:oI.cls=.type "function")
  (hq:wpAny (model prog w) A (call (.ref fI) (.ref (h.objs.size+1)::vs)) (λr s'=>r=.none/\Q (.done (.ret (.ref (h.objs.size+1)))) s') E ⟨ya h C vs,g,d,t,os⟩) (hv:vs.length<=sizeLine):wpAny (model prog w) A (Builtin.«type.__call__» ⟨.ref C::vs,[]⟩) Q E ⟨h,g,d,t,os⟩:=by
 have kp:∀ b o,h.get? b=some o->(ya h C vs).get? b=some o:=λb o e=>Mk _ (Mk _ e)
 have C1:=kp _ _ hC;have f1:=kp _ _ hf;have n1:=hn.keeps kp;have T1:=T.keeps kp;have g1:(ya h C vs).get? (h.objs.size+1)=some {cls:=.ref C,data:=.fields #[.ref h.objs.size,.none,.none,.none,.bool false,.none]}:=by heap_get
 have cC:(Value.ref C::bm).contains (.ref C)=true:=by simp
 repeat (first | with_reducible refine wpAny_loadPart_at hC ?_ | with_reducible refine wpAny_madeBy_exc hC ?_ | wp_step)
 refine codeAny_call_builtin_code (Code.quiet_builtin _ F.quiet) (wpAny_check_new_subT F T hC (codeAny_exc_new_subT F T hC ?_ hv))
 show wpAny _ _ _ _ _ _
 unfold isInstance
 repeat (first | with_reducible refine wpAny_loadPart_at g1 ?_ | (with_reducible refine wpAny_isSubtype_exc C1 ?_; rw [cC]) | wp_step)
 show wpAny _ _ (typeLookup (.ref C) _) _ _ _
 refine wpAny_typeLookup_tail C1 n1 T1 F.mroIs F.init.lookup ?_;rw [hi];refine MM (Mj ?_);unfold bindSpecial;refine Mj (wpAny_typeOf (T:="function") ⟨_,f1,hc⟩ ?_)
 rw [if_pos (by decide)]
 refine Ml (Mj (MY hq (λr s' hr=>?_) λ_ _ z=>z))
 obtain⟨rfl,hQ⟩:=hr
 wp_walk
 exact hQ
theorem C_ (F:ExcBaseFacts B newId initId bmB) (T:OwnTail h bmB bm) {vs:List Nk} {fI:Nl} {oI:Nz} {Q:Nk->Nj->Prop} (hC:h.get? C=some (excClassObj nm q C N bs bm hdct sn sub ab col dd k0 k1 k2 k3 k5 newId)) (hn:h.Ns N mN) (hi:mN "__init__"=some (.ref fI)) (hf:h.get? fI=some oI) (hc:oI.cls=.type "function")
  (hq:wpAny (model prog w) (A.under (.builtin "type.__call__" ⟨.ref C::vs,[]⟩)) (call (.ref fI) (.ref (h.objs.size+1)::vs)) (λr s'=>r=.none/\Q (.ref (h.objs.size+1)) s') E ⟨ya h C vs,g,d,t,os⟩) (hv:vs.length<=sizeLine):wpAny (model prog w) A (call (.ref C) vs) Q E ⟨h,g,d,t,os⟩:=by
 have f1:=tc_lookup;have f2:=tc_bind (.ref C);have hT:(⟨h,g,d,t,os⟩:Nj).TypeIs (.ref C) "type":=⟨_,hC,rfl⟩
 refine wpAny_call (codeAny_of_tree ?_)
 show wpAny _ _ (callAny (.ref C) _) _ _ _
 repeat (any_goals (first | assumption | with_reducible refine wpAny_loadPart_at hC ?_ | wp_step))
 exact⟨rfl,codeAny_call_builtin_at (Code.quiet_builtin _ (by decide +kernel)) entry_typeCall (wpAny_check_type_call_sub hC (Bj F T hC hn hi hf hc hq hv))⟩
end
end L2
namespace L2
open PySem PySem.Spec PyProof.Rows Builtin Builtin.ObjectAttr
section
variable {prog:Np} {w:Nr} {A:Nq} {E:Nk->Nj->Prop} {h:Nt} {g:Nv GenState} {d:Drawn} {t:Nat} {os:OsState}
variable {nm q:Str} {C N x:Nl} {bs bm bmB:List Nk} {sn:List Str} {sub:List Nk} {ab:Nw} {col:Nm Nw} {dd:Nm Nl} {k0 k1 k2 k3 k5:Nm Nk} {B newId sa owner:Ny} {mN:Str->Nm Nk} {name:Str} {v:Nk}
def wP (h:Nt) (e C:Nl) (vs:Nv Nk) (dd:Nm Nl):Prop:=∃ o,h.get? e=some o/\o.cls=.ref C/\o.data=.fields vs/\o.dict=dd
theorem vf {n what:Str} {self:Nk} {tl:List Nk} (T:i4 h bmB n tl):refuseLoop self what tl=refuseLoop self what bmB:=by
 induction T with
 | base=>rfl
 | own _ _ _ _ ih=>rw [refuseLoop_ref,ih]
theorem zZ {n:Str} {tl:List Nk} {X:Ny} {b:Nw} (T:i4 h bmB n tl) (hb:bmB.contains (.type X)=b):tl.contains (.type X)=b:=by
 induction T with
 | base=>exact hb
 | own _ _ _ _ ih=>rw [List.contains_cons,ih]; rfl
theorem At {M:Model} {o:Nz} {nv:Nk} {n:Str} {Q:Unit->Nj->Prop} (SF:StoreFacts B bmB sa owner) (T:i4 h bmB n bm) (hC:h.get? C=some (excClassObj nm q C N bs bm true sn sub ab col dd k0 k1 k2 k3 k5 newId)) (hx:h.get? x=some o) (hc:o.cls=.ref C) (hq:Q () ⟨h,g,d,t,os⟩):
  wpAny M A (checkBuiltinCall sa ⟨[.ref x,nv,v],[]⟩) Q E ⟨h,g,d,t,os⟩:=by
 have cB:(Value.ref C::bm).contains (.type owner)=true:=by rw [List.contains_cons,zZ T SF.hasOwner,Bool.or_true]
 have ao:=SF.args (.ref x) nv v;simp only [checkBuiltinCall,SF.kind,SF.split];refine Mj ?_;unfold isInstance
 repeat (first | (with_reducible refine wpAny_loadPart_at hx ?_; rw [hc]) | (with_reducible refine wpAny_isSubtype_exc hC ?_; rw [cB]) | wp_step)
 cases sg:Manifest.signature? sa with
 | none=>exact Ml hq
 | some z=>
  simp only [argsOk,sg] at ao
  show wpAny M A (Bind.checkArgs sa z ⟨[.ref x,nv,v],[]⟩) Q E _
  rw [show Bind.checkArgs sa z ⟨[.ref x,nv,v],[]⟩=pure () from ao]
  exact Ml hq
theorem zR {tk:Tok} {vs:Nv Nk} {o:Nz} {Q:Fin->Nj->Prop} (SF:StoreFacts B bmB sa owner) (hC:h.get? C=some (excClassObj nm q C N bs bm true sn sub ab col dd k0 k1 k2 k3 k5 newId)) (hn:h.Ns N mN) (T:i4 h bmB name bm) (ha:mN name=none) (hB:typeLookup (.type B) name=pure none)
  (hx:h.get? x=some o) (hc:o.cls=.ref C) (hd:o.data=.fields vs) (h0:o.dict=none) (hq:∀ h' tk',wP h' x C vs (some h.objs.size)->h'.Ns1 h.objs.size (λy=>if y=name then some v else none)->(∀ b o,b≠x->h.get? b=some o->h'.get? b=some o)->Q (.done (.ret .none)) ⟨h',g,d,tk',os⟩):
  wpAny (model prog w) A (Builtin.«object.__setattr__» ⟨[.ref x,.str name tk,v],[]⟩) Q E ⟨h,g,d,t,os⟩:=by
 have pz:=(vf (self:=.ref x) (what:="__setattr__") T).trans (SF.passes (.ref x))
 have xs:x≠h.objs.size:=Mu (Mo hx);have x1:(h.push {cls:=.type "dict",data:=.dict #[]}).get? x=some o:=Mk _ hx
 unfold Builtin.«object.__setattr__»
 repeat (first | rw [refuse_eq] | (rw [refuseLoop_ref,pz]) | (with_reducible refine wpAny_loadPart_at hx ?_; rw [hc]) | with_reducible refine wpAny_mroOf_exc hC ?_ | with_reducible refine sS hC hn T SF.mro hB ha ?_ | wp_step)
 rw [h0,if_neg (by simp [typeHasDict])]
 split
 ·rename_i z
  cases z
 split
 ·rename_i c z
  rw [hd] at z;cases z
 refine Mj (wpAny_alloc' (Mj (wpAny_update' x1 (Ml ?_))));generalize hh:((h.push {cls:=.type "dict",data:=.dict #[]}).update x λo=>{cls:=o.cls,dict:=some h.objs.size,data:=o.data,slots:=o.slots})=hu
 have gd:hu.get? h.objs.size=some {cls:=.type "dict",data:=.dict #[]}:=by rw [<- hh]; exact(Heap.get?_update_ne _ _ _ _ xs.symm).trans (Heap.get?_push_at rfl rfl)
 have gx:hu.get? x=some {cls:=o.cls,dict:=some h.objs.size,data:=o.data,slots:=o.slots}:=by
  rw [<- hh];refine M4 _ x1 ?_;rw [hd]
  rfl
 have nd:hu.Ns h.objs.size (λ_=>none):=⟨_,#[],_,gd,rfl,λe he=>absurd he (by simp),λ_=>rfl⟩
 show wpAny _ _ (storeInDict h.objs.size (.str name tk) name v) _ _ _
 unfold storeInDict newKeyGuard;refine Mj (Ml (Mj (wpAny_nsSet1 (Heap.Ns1.of_empty nd) λh' n' hs=>?_)))
 obtain⟨oD,eD,pD,gD,dD,cD⟩:=n'.count (Within.cons name v Within.nil);refine Mj (wpAny_lookBehind gD (by rw [dD]; exact pastItsLine_dict (M1 cD (by rw [MB,List.length_nil,sizeLine_eq]; omega))) ?_)
 wp_walk
 refine hq h' _ ⟨_,(hs.2 x xs).trans gx,hc,hd,rfl⟩ n' λb ob nb e=>(hs.2 b (Mu (Mo e))).trans ?_
 rw [<- hh];exact(Heap.get?_update_ne _ _ _ _ nb).trans (Mk _ e)
theorem Cv {vs:Nv Nk} {o:Nz} {Q:Unit->Nj->Prop} (SF:StoreFacts B bmB sa owner) (hC:h.get? C=some (excClassObj nm q C N bs bm true sn sub ab col dd k0 k1 k2 k3 k5 newId)) (hn:h.Ns N mN) (T0:i4 h bmB "__setattr__" bm) (T:i4 h bmB name bm) (hs:mN "__setattr__"=none) (ha:mN name=none) (hB:typeLookup (.type B) name=pure none)
  (hx:h.get? x=some o) (hc:o.cls=.ref C) (hd:o.data=.fields vs) (h0:o.dict=none) (hq:∀ h' tk',wP h' x C vs (some h.objs.size)->h'.Ns1 h.objs.size (λy=>if y=name then some v else none)->(∀ b o,b≠x->h.get? b=some o->h'.get? b=some o)->Q () ⟨h',g,d,tk',os⟩):
  wpAny (model prog w) A (setAttr (.ref x) name v) Q E ⟨h,g,d,t,os⟩:=by
 have f3:=SF.slot.bind (.ref x);unfold setAttr callSpecial? specialOf
 repeat (any_goals (first | assumption | (with_reducible refine wpAny_loadPart_at hx ?_; rw [hc]) | with_reducible refine sS hC hn T0 SF.mro SF.slot.lookup hs ?_ | wp_step))
 refine codeAny_call_builtin SF.slot.plain SF.entry (At SF T hC hx hc (zR SF hC hn T ha hB hx hc hd h0 λh' tk' e1 e0 e2=>?_))
 repeat (any_goals (first | assumption | wp_step))
 exact hq h' tk' e1 e0 e2
end
end L2
namespace L2
open PySem PySem.Spec PyProof.Rows
def ou (K:PySem.W.Frag) (bmB:List Nk) (n:Str):List Nk->Nw
 | []=>bmB == []
 | v::r=>((v::r) == bmB) || (match v with
  | .ref a=>(match K.lookup a with
   | some ⟨_,_,.cls cd,_⟩=>(PySem.W.nsOkIn K cd.ns && (PySem.W.nsIn K cd.ns n == some none)) && ou K bmB n r
   | _=>false)
  | _=>false)
theorem tG {K:PySem.W.Frag} {h:Nt} {bmB:List Nk} {n:Str} (X:K.In h):∀ {l:List Nk},ou K bmB n l=true->i4 h bmB n l
 | [],e=>by
  have e:(bmB == [])=true:=e;rw [<- beq_iff_eq.mp e];exact .base
 | v::r,e=>by
  unfold ou at e;rcases Bool.or_eq_true_iff.mp e with z | z
  ·rw [beq_iff_eq.mp z];exact .base
  ·split at z
   ·split at z
    ·rename_i y
     simp only [M2,beq_iff_eq] at z;exact .own (X _ _ y) (.of_isNs (PySem.W.isNs_of_in X z.1.1)) (PySem.W.nsMap_none_of_in X z.1.1 z.1.2) (tG X z.2)
    ·cases z
   ·cases z
theorem Gh {K:PySem.W.Frag} {h:Nt} {N:Nl} {m:Str->Nm Nk} {n:Str} {v:Nk} (X:K.In h) (G:h.Ns N m) (e:PySem.W.nsIn K N n=some (some v)):m n=some v:=by
 obtain⟨o,es,ep,ho,hd,_,hf⟩:=G;unfold PySem.W.nsIn at e
 split at e
 ·rename_i z
  have y:=X _ _ z;rw [ho] at y;cases y;cases hd;rw [<- hf];unfold nsFind findBy;rw [<- Array.find?_toList]
  split at e
  ·rename_i u
   cases e;rw [u]
   rfl
  ·split at e <;> cases e
 ·cases e
def Gb (K:PySem.W.Frag) (f:Nl):Nw:=match K.lookup f with
 | some o=>o.cls == .type "function"
 | none=>false
theorem Ja {K:PySem.W.Frag} {f:Nl} (h:Gb K f=true):∃ o,K.lookup f=some o/\o.cls=.type "function":=by
 unfold Gb at h
 split at h
 ·rename_i o e
  exact⟨o,e,beq_iff_eq.mp h⟩
 ·cases h
def zl (K:PySem.W.Frag) (C:Nl) (bmB:List Nk) (newId:Ny) (fI:Nl) (n:Str):Nw:=match K.lookup C with
 | some ⟨.type "type",_,.cls cd,sl⟩=>(match cd.mro,sl.toList with
  | .ref C'::bm,[_,_,_,_,some (.builtin m),_]=>(C' == C) && ((m == newId) && ((!cd.hasDel) && (cd.hasDict && (PySem.W.tailIn K bmB bm && (ou K bmB "__setattr__" bm && (ou K bmB n bm && (PySem.W.nsOkIn K cd.ns && ((PySem.W.nsIn K cd.ns "__init__" == some (some (.ref fI))) && ((PySem.W.nsIn K cd.ns "__setattr__" == some none) && ((PySem.W.nsIn K cd.ns n == some none) && (Gb K fI && (PySem.W.keepIn K (.ref C)))))))))))))
  | _,_=>false)
 | _=>false
structure Kk (K:PySem.W.Frag) (C:Nl) (bmB:List Nk) (newId:Ny) (fI:Nl) (n:Str):Prop where
 obj:∃ (tl:List Nk) (N:Nl) (nm q:Str) (bs:List Nk) (sn:List Str) (sub:List Nk) (ab:Nw) (col:Nm Nw) (dd:Nm Nl) (k0 k1 k2 k3 k5:Nm Nk),
  K.lookup C=some (excClassObj nm q C N bs tl true sn sub ab col dd k0 k1 k2 k3 k5 newId)/\(∃ oI,K.lookup fI=some oI/\oI.cls=.type "function")/\PySem.W.keepIn K (.ref C)=true/\∀ h:Nt,K.In h->∃ mN,h.Ns N mN/\mN "__init__"=some (.ref fI)/\mN "__setattr__"=none/\mN n=none/\OwnTail h bmB tl/\i4 h bmB "__setattr__" tl/\i4 h bmB n tl
theorem vk {K:PySem.W.Frag} {C:Nl} {bmB:List Nk} {newId:Ny} {fI:Nl} {n:Str} (q:zl K C bmB newId fI n=true):Kk K C bmB newId fI n:=by
 refine⟨?_⟩;unfold zl at q
 split at q
 ·rename_i d1 c1 sl hlk
  split at q
  ·rename_i C1 bm a0 a1 a2 a3 nn a5 hmro hsl
   simp only [M2,beq_iff_eq,Bool.not_eq_true'] at q;obtain⟨q1,q2,q3,q4,q5,q6,q7,q8,q9,q10,q11,q12,q13⟩:=q;subst q1 q2;obtain⟨v1,v2,v3,v4,v5,v6,v7,v8,v9,v10,v11⟩:=c1;dsimp only at hmro q3 q4 q8 q9 q10 q11
   subst hmro q3 q4;obtain⟨l⟩:=sl;simp only at hsl;subst hsl;exact⟨bm,v4,v1,v5,v2,v7,v8,v9,v10,d1,a0,a1,a2,a3,a5,hlk,Ja q12,q13,λh X=>⟨_,.of_isNs (PySem.W.isNs_of_in X q8),Gh X (.of_isNs (PySem.W.isNs_of_in X q8)) q9,PySem.W.nsMap_none_of_in X q8 q10,PySem.W.nsMap_none_of_in X q8 q11,PySem.W.tail_of_in X q5,tG X q6,tG X q7⟩⟩
  ·cases q
 ·cases q
section
variable {M:Model} {A:Nq} {E:Nk->Nj->Prop} {env:Env}
variable {nm q:Str} {C N:Nl} {bs bm:List Nk} {hdct:Nw} {sn:List Str} {sub:List Nk} {ab:Nw} {col:Nm Nw} {dd:Nm Nl} {k0 k1 k2 k3 k5:Nm Nk} {newId:Ny}
theorem zH {s:Nj} {x:Sem Nk} {Q:Flow->Nj->Prop} (hbase:bm.contains (.type "BaseException")=true) (hh:A.handled=none)
  (h:wpAny M A x (λv s1=>∃ e o vs,v=.ref e/\s1.heap.get? C=some (excClassObj nm q C N bs bm hdct sn sub ab col dd k0 k1 k2 k3 k5 newId)/\s1.heap.get? e=some o/\o.cls=.ref C/\o.data=.fields vs/\vs[1]?=some .none/\E (.ref e) s1) E s):wpAny M A (raiseStmt env (some x) none) Q E s:=by
 have cB:(Value.ref C::bm).contains (.type "BaseException")=true:=by rw [List.contains_cons,hbase,Bool.or_true]
 unfold raiseStmt;refine Mj (MY h (λv s1 h1=>?_) λ_ _ z=>z)
 obtain⟨e,o,vs,rfl,hC,he,hc,hd,hv,hE⟩:=h1;obtain⟨hp,g,d,tk,os⟩:=s1
 repeat (first | (with_reducible refine wpAny_loadPart_at he ?_; rw [hc]) | with_reducible refine wpAny_loadPart_at hC ?_ | (with_reducible refine wpAny_isSubtype_exc hC ?_; rw [cB]) | with_reducible refine MZ he hd hv ?_ | wp_step)
 exact wpAny_raiseNew_none hh hE
end
section
variable {P:Np} {w:Nr} {K:PySem.W.Frag} {mg:Str->Nm Nk} {base:Nt} {N:List Str} {qual:Str} {scope:Scope} {f:Nl} {cd:Nk} {A:Nq} {outer:List Env} {s0:Nj} {H0:Hp} {E:XK}
abbrev ph (P:Np) (w:Nr) (K:PySem.W.Frag) (mg:Str->Nm Nk) (base:Nt) (N:List Str) (qual:Str) (scope:Scope) (f:Nl) (cd:Nk) (A:Nq) (outer:List Env) (s0:Nj) (H0:Hp) (E:XK):Cx:=cQ (eV P w) P w K mg base N qual scope f cd A outer s0 H0 E
end
inductive wv (h:Nt):Nl->Nl->Prop
 | one {a b:Nl} {o:Nz} {vs:Nv Nk}:h.get? a=some o->o.data=.fields vs->vs[2]?=some (.ref b)->wv h a b
 | step {a b c:Nl} {o:Nz} {vs:Nv Nk}:h.get? a=some o->o.data=.fields vs->vs[2]?=some (.ref b)->wv h b c->wv h a c
theorem wv.snoc {h:Nt} {a b c:Nl} {o:Nz} {vs:Nv Nk} (x:wv h a b) (g:h.get? b=some o) (d:o.data=.fields vs) (v:vs[2]?=some (.ref c)):wv h a c:=by
 induction x with
 | one p q r=>exact .step p q r (.one g d v)
 | step p q r _ ih=>exact .step p q r (ih g)
theorem wv.next {h:Nt} {a c:Nl} (x:wv h a c):∃ b o vs,h.get? a=some o/\o.data=.fields vs/\vs[2]?=some (.ref b)/\(b=c\/wv h b c):=by
 cases x with
 | one p q r=>exact⟨_,_,_,p,q,r,.inl rfl⟩
 | step p q r y=>exact⟨_,_,_,p,q,r,.inr y⟩
theorem mL:entryFor table "proto.unchain"=some Builtin.«proto.unchain»:=entryFor_of_tree (by kernel_rfl)
section
variable {prog:Np} {w:Nr} {A:Nq} {R:Result->Nj->Prop} {h B:Nt} {g:Nv GenState} {d:Drawn} {t:Nat} {os:OsState} {e:Nl}
theorem unchain (hB:B.StaysIn h) (ne:∀ a o,B.get? a=some o->a≠e) (hR:R (.ok (.ret .none)) ⟨h,g,d,t,os⟩) {v:Nk} (c:jG B v):∀ {cur sl:Nl} {tg:Nw} {o:Nz} {vs:Nv Nk},h.get? cur=some o->o.data=.fields vs->vs[2]?=some v->(tg=false->sl=cur\/wv h sl cur)->(tg=true->wv h sl cur)->
  codeAny (model prog w) A (.builtin "proto.unchain" ⟨[.ref e,.ref cur,.ref sl,.bool tg],[]⟩) R ⟨h,g,d,t,os⟩:=by
 induction c with
 | last=>
  intro cur sl tg o vs hc hd hv _ _;refine codeAny_builtin mL ?_;unfold Builtin.«proto.unchain»;refine Mj (MZ hc hd hv ?_)
  wp_walk
  exact hR
 | more ga gd gv cc ih=>
  rename_i a oa va v'
  intro cur sl tg o vs hc hd hv h1 h2;have ae:=ne _ _ ga;have ha:=hB _ _ ga;refine codeAny_builtin mL ?_;unfold Builtin.«proto.unchain»;refine Mj (MZ hc hd hv ?_);have z1:(Value.ref a == Value.none)=false:=rfl;have z2:(Value.ref a == Value.ref e)=false:=by simp [ae]
  simp only [z1,z2,Bool.false_eq_true,if_false]
  by_cases as:a=sl
  ·subst as;simp only [beq_self_eq_true,if_true]
   wp_walk
   exact hR
  ·have z3:(Value.ref a == Value.ref sl)=false:=by simp [as]
   simp only [z3,Bool.false_eq_true,if_false];cases tg with
   | false=>
    simp only [Bool.false_eq_true,if_false];refine Mj (Ml ?_);refine Ml ⟨Code.quiet_builtin _ (by decide +kernel),ih ha gd gv (λz=>by cases z) λ_=>?_⟩
    rcases h1 rfl with rfl | y
    ·exact .one hc hd hv
    ·exact y.snoc hc hd hv
   | true=>
    obtain⟨b,ob,vb,x1,x2,x3,x4⟩:=(h2 rfl).next;simp only [if_true];refine Mj (MZ x1 x2 x3 ?_);refine Ml ⟨Code.quiet_builtin _ (by decide +kernel),ih ha gd gv (λ_=>?_) λz=>by cases z⟩
    rcases x4 with rfl | y
    ·exact .inr (.one hc hd hv)
    ·exact .inr (y.snoc hc hd hv)
end
theorem yc {X:Cx} {A':Nq} {NA:List (Nl×Nz)} {s:Nj} {σ:St} {H:Hp} {E:Nk->Nj->Prop} {Q:Nk->Nj->Prop} {i:Nat} {x:Str} {pos:Pos} {v:V} (I:aI X NA σ H s) (hN:X.N[i]?=some x) (hv:tU X.env.scope x) (hd:(x == ("__debug__":Str))=false) (hcd:(x == ("__classdict__":Str))=false) (e:σ[i]?=some (some v))
  (fin:∀ u,bz v u->Q u s):wpAny (model X.prog X.w) A' (eval (.Name x pos) X.env) Q E s:=by
 obtain⟨m,hn,hl⟩:=I.loc;obtain⟨u,r,l⟩:=hl i x v hN e hv;rcases l with ⟨hk,hm⟩ | ⟨hk,c,hc,hcell⟩
 ·exact wpAny_Name (wpAny_loadName_local I.ok.kind hk hn hm (fin u r)) hd
 ·rcases hk with hk | hk
  ·exact wpAny_Name (wpAny_loadName_cell I.ok.kind hk hc hcell (fin u r)) hd
  ·exact wpAny_Name (wpAny_loadName_free I.ok.kind hk hc hcell (fin u r) hcd) hd
structure CQ (K:PySem.W.Frag) (C fI:Nl) (bmB:List Nk) (newId:Ny) (n y nmI qual:Str) (st:Nu) (fd:FuncData):Prop where
 fn:rC K nmI qual st fI fd
 sc:av ["self",y] ["self",y] (am st)
 body:∃ p1 p2 p3 pos,b_ st=[.Assign [.Attribute (.Name "self" p1) n p2] (.Name y p3) pos]
 v1:tU (am st) "self"
 v2:tU (am st) y
 d2:(y == ("__debug__":Str))=false
 c2:(y == ("__classdict__":Str))=false
 ini:zl K C bmB newId fI n=true
theorem yB {P:Np} {w:Nr} {K:PySem.W.Frag} {mg:Str->Nm Nk} {base:Nt} {C fI:Nl} {bmB:List Nk} {B newId sa owner:Ny} {n y nmI qual:Str} {st:Nu} {fd:FuncData} (F:CQ K C fI bmB newId n y nmI qual st fd)
  (SF:StoreFacts B bmB sa owner) (hB:typeLookup (.type B) n=pure none) {A A':Nq} {outer:List Env} {h:Nt} {g:Nv GenState} {d:Drawn} {t:Nat} {os:OsState} {H:Hp} {e:Nl} {us:Nv Nk} {o:Nz} {v:V} {u:Nk} {R:Result->Nj->Prop} (hr:bE 1 A) (hA:A'.depth < recursionLimit) (e0:oJ P w K mg base A outer ⟨h,g,d,t,os⟩ H)
  (bi:BindsTo ⟨h,g,d,t,os⟩ fd ⟨[.ref e,u],[]⟩ (([("self":Str),y]:List Str).zip [.ref e,u])) (r:bz v u) (he:h.get? e=some o) (hc:o.cls=.ref C) (hd:o.data=.fields us) (h0:o.dict=none)
  (q:∀ h' tk' dx u',wP h' e C us (some dx)->e < dx->h'.Ns1 dx (λy=>if y=n then some u' else none)->bz v u'->(∀ b o,b≠e->h.get? b=some o->h'.get? b=some o)->R (.ok (.ret .none)) ⟨h',g,d,tk',os⟩):codeAny (model P w) A' (.call (.ref fI) ⟨[.ref e,u],[]⟩) R ⟨h,g,d,t,os⟩:=by
 obtain⟨Ff,S,⟨p1,p2,p3,pos,hb⟩,v1,v2,d2,c2,hK⟩:=F;obtain⟨oc,od,kV,doc,pm,an,cdv,ct,osl,rfl,lk,hcd⟩:=Ff.ex;have KX:K.In h:=e0.mod.kin.keeps λb o e=>(e0.bs b o e).1
 have li:h.NoLimit:=e0.mod.nolimit.keeps λb o e=>(e0.bs b o e).1
 have hkind:∀ x∈([("self":Str),y]:List Str).zip [Value.ref e,u],(am st).names.lookup x.1=some .local\/((am st).names.lookup x.1=some .cell/\((cellsFrom (h.objs.size+1) (am st).names []).lookup x.1).isSome=true):=λ⟨m,a⟩ hy=>by
  rcases S.par m (List.of_mem_zip hy).1 with k | k
  ·exact .inl k
  ·exact .inr ⟨k,PySem.W.cellsFrom_some _ _ _ (.inl k)⟩
 refine codeAny_call_function hA (KX _ _ lk) rfl S.co S.gen rfl (PySem.W.codeRec_of KX hcd) (bi _ _ _ _ ?_);refine wpAny_newFunctionEnv_cells S.kind hkind λenv he' s1 x=>?_
 subst he';refine⟨li.keeps x.toInCall.keep,codeAny_func ?_⟩;have rr:bA [V.ref e,v] [Value.ref e,u]:=.cons rfl (.cons r .nil);have I:aI (cQ cW P w K mg base ["self",y] qual (am st) fI cdv A outer ⟨h,g,d,t,os⟩ H E0) [] (start ["self",y] [V.ref e,v]) H s1:=qh S hr.hd e0 rfl rr x
 obtain⟨tl,N,nm,qn,bs,sn,sub,ab,col,dd,k0,k1,k2,k3,k5,lk,_,_,al⟩:=(vk hK).obj;have hC:=I.kIn _ _ lk;obtain⟨mN,hn,hi,hse,hna,T,T0,T1⟩:=al _ I.kIn;obtain⟨h1,tk,rfl,hk⟩:=x.done;have he1:=hk _ _ he
 show wpAny (model P w) _ (execs (b_ st) _) _ _ _
 rw [hb];refine wpAny_execs_cons (plainObj_wpAny_Assign_Attribute (yc I (i:=1) rfl v2 d2 c2 rfl λu2 r2=>?_) rfl)
 refine yc I (i:=0) rfl v1 rfl rfl rfl λu1 r1=>?_
 cases (show u1=Value.ref e from r1)
 refine Cv SF hC hn T0 T1 hse hna hB he1 hc hd h0 λh' tk' er en kp=>?_
 exact wpAny_execs_nil (q h' tk' _ _ er (Mo he1) en r2 λb o nb gg=>kp b o nb (hk b o gg))
section
variable {prog:Np} {w:Nr} {A:Nq} {E:Nk->Nj->Prop} {env:Env}
variable {nm q:Str} {C N:Nl} {bs bm:List Nk} {hdct:Nw} {sn:List Str} {sub:List Nk} {ab:Nw} {col:Nm Nw} {dd:Nm Nl} {k0 k1 k2 k3 k5:Nm Nk} {newId:Ny}
theorem xQ {s:Nj} {x c:Sem Nk} {Q:Flow->Nj->Prop} {ea:Nl} (hbase:bm.contains (.type "BaseException")=true) (hh:A.handled=some (.ref ea)) (hc:∀ {Q:Nk->Nj->Prop} {s:Nj},Q .none s->wpAny (model prog w) A c Q E s)
  (h:wpAny (model prog w) A x (λv s1=>∃ e o vs,v=.ref e/\s1.heap.get? C=some (excClassObj nm q C N bs bm hdct sn sub ab col dd k0 k1 k2 k3 k5 newId)/\C≠e/\s1.heap.get? e=some o/\o.cls=.ref C/\o.data=.fields vs/\vs.size=6/\vs[1]?=some .none/\ea≠e/\
   (∃ (B:Nt) (oa:Nz) (va:Nv Nk) (w2:Nk),B.StaysIn s1.heap/\(∀ a o,B.get? a=some o->a≠e)/\s1.heap.get? ea=some oa/\oa.data=.fields va/\va[2]?=some w2/\jG B w2)/\
   ∀ h',wP h' e C (((vs.setIfInBounds 3 .none).setIfInBounds 4 (.bool true)).setIfInBounds 2 (.ref ea)) o.dict->(∀ b o,b≠e->s1.heap.get? b=some o->h'.get? b=some o)->E (.ref e) {s1 with heap:=h'}) E s):wpAny (model prog w) A (raiseStmt env (some x) (some c)) Q E s:=by
 have cB:(Value.ref C::bm).contains (.type "BaseException")=true:=by rw [List.contains_cons,hbase,Bool.or_true]
 unfold raiseStmt;refine Mj (MY h (λv s1 h1=>?_) λ_ _ z=>z)
 obtain⟨e,o,vs,rfl,hC,Ce,he,hcl,hd,hz,hv,ae,⟨B,oa,va,w2,hB,hn,ga,da,a2,cx⟩,hE⟩:=h1;obtain⟨hp,g,d,tk,os⟩:=s1;refine Mj (MM (hc ?_));have d1:=Obj.data_mapFields hd (·.setIfInBounds 3 Value.none);have e1:=M4 (Obj.mapFields (·.setIfInBounds 3 Value.none)) he (Obj.isFreed_of_fields d1);have d2:=Obj.data_mapFields d1 (·.setIfInBounds 4 (Value.bool true));have e2:=M4 (Obj.mapFields (·.setIfInBounds 4 (Value.bool true))) e1 (Obj.isFreed_of_fields d2)
 repeat (first | (with_reducible refine wpAny_loadPart_at he ?_; rw [hcl]) | with_reducible refine wpAny_loadPart_at hC ?_ | (with_reducible refine wpAny_isSubtype_exc hC ?_; rw [cB]) | wp_step)
 rw [hd];dsimp only;rw [if_pos (by omega)]
 have c1:(Obj.mapFields (·.setIfInBounds 3 Value.none) o).cls=.ref C:=(Obj.cls_mapFields _ _).trans hcl;have k2:(Obj.mapFields (·.setIfInBounds 4 (Value.bool true)) (Obj.mapFields (·.setIfInBounds 3 Value.none) o)).dict=o.dict:=(fP _ _).trans (fP _ _);have c2:(Obj.mapFields (·.setIfInBounds 4 (Value.bool true)) (Obj.mapFields (·.setIfInBounds 3 Value.none) o)).cls=.ref C:=(Obj.cls_mapFields _ _).trans c1;refine wpAny_update' he (Mj (wpAny_setField e1 d1 (by rw [Array.size_setIfInBounds]; omega) ?_))
 have ot:∀ b,b≠e->((hp.update e (Obj.mapFields (·.setIfInBounds 3 Value.none))).update e (Obj.mapFields (·.setIfInBounds 4 (Value.bool true)))).get? b=hp.get? b:=λb nb=>(MS _ _ (Ne.symm nb)).trans (MS _ _ (Ne.symm nb))
 have C2:=(ot C Ce).trans hC;have v2:((vs.setIfInBounds 3 Value.none).setIfInBounds 4 (Value.bool true))[1]?=some .none:=by rw [Array.getElem?_setIfInBounds_ne (by decide),Array.getElem?_setIfInBounds_ne (by decide)]; exact hv
 generalize hh2:(hp.update e (Obj.mapFields (·.setIfInBounds 3 Value.none))).update e (Obj.mapFields (·.setIfInBounds 4 (Value.bool true)))=h2 at e2 ot C2 ⊢
 generalize ho2:Obj.mapFields (·.setIfInBounds 4 (Value.bool true)) (Obj.mapFields (·.setIfInBounds 3 Value.none) o)=o2 at e2 d2 c2 k2 ⊢
 repeat (first | (with_reducible refine wpAny_loadPart_at e2 ?_; rw [c2]) | with_reducible refine wpAny_loadPart_at C2 ?_ | (with_reducible refine wpAny_isSubtype_exc C2 ?_; rw [cB]) | with_reducible refine MZ e2 d2 v2 ?_ | wp_step)
 have hB2:B.StaysIn h2:=λa o p=>(ot a (hn a o p)).trans (hB a o p)
 have ga2:=(ot ea ae).trans ga;refine Mj (wpAny_handled ?_);rw [hh];dsimp only;rw [if_pos (by simp [ae])]
 refine Mj (MM (wpAny_runValue (unchain hB2 hn ?_ cx ga2 da a2 (λ_=>.inl rfl) (λz=>by cases z))))
 have z2:((vs.setIfInBounds 3 Value.none).setIfInBounds 4 (Value.bool true)).size=6:=by rw [Array.size_setIfInBounds,Array.size_setIfInBounds]; exact hz
 have d3:=Obj.data_mapFields d2 (·.setIfInBounds 2 (Value.ref ea));have e3:=M4 (Obj.mapFields (·.setIfInBounds 2 (Value.ref ea))) e2 (Obj.isFreed_of_fields d3);have c3:(Obj.mapFields (·.setIfInBounds 2 (Value.ref ea)) o2).cls=.ref C:=(Obj.cls_mapFields _ _).trans c2;dsimp only;refine Mj (wpAny_setField (a:=e) e2 d2 (by rw [z2]; decide) ?_)
 refine wpAny_throw (hE _ ⟨_,e3,c3,d3,(fP _ _).trans k2⟩ λb o nb g=>?_)
 exact(MS _ _ (Ne.symm nb)).trans ((ot b nb).trans g)
end
theorem jG.mono {B B':Nt} {v:Nk} (c:jG B v) (k:∀ a o vs,B.get? a=some o->o.data=.fields vs->B'.get? a=some o):jG B' v:=by
 induction c with
 | last=>exact .last
 | more ga gd gv _ ih=>exact .more (k _ _ _ ga gd) gd gv ih
section
variable {M:Model} {A A':Nq} {E E':Nk->Nj->Prop} {s:Nj} {B:Nt} {env:Env} {outer:List Env} {L e:Nl} {Q:Unit->Nj->Prop}
theorem vP {l:List Env} {cls a0 f0:Nk} (fr:Nm Nl) (x1:B.StaysIn s.heap) (x2:B.get? e=none) (x3:s.heap.FunFrames B l) (x4:s.heap.TracedAtW B e cls a0 f0) {dd:Nm Nl} (x5:By B s.heap e dd)
  (hQ:∀ h',B.StaysIn h'->h'.FunFrames B l->h'.TracedAtW B e cls a0 (fr.elim Value.none λf=>rawInt f)->By B h' e dd->s.heap.UpToSlots h'->Q () {s with heap:=h'}):wpAny M A (setFlight (.ref e) fr) Q E s:=by
 obtain⟨oe,vs,T,oT,ts,he,hc,hd,h1,nT,te,hT,dT,h3⟩:=x4;obtain⟨oc,vc,w2,gc,dc,c2,ok2,dk⟩:=x5;rw [he] at gc;cases gc;rw [hd] at dc;cases dc;have z3:3 < ts.size:=(Array.getElem?_eq_some_iff.mp h3).1;have ot:∀ b,b≠T->(s.heap.update T (Obj.mapFields (·.setIfInBounds 3 (fr.elim Value.none λf=>rawInt f)))).get? b=s.heap.get? b:=λb hb=>MS _ _ (Ne.symm hb)
 have nr:∀ b o,s.heap.get? b=some o->(∀ vs,o.data≠.fields vs)->b≠T:=λb o hb z y=>by
  rw [y,hT] at hb;cases hb;exact z ts dT
 unfold setFlight;refine Mj (MZ he hd h1 ?_);rw [if_pos (by simp)]
 have ge:=(ot e (Ne.symm te)).trans he;refine wpAny_setField hT dT z3 (hQ _ (λb o y=>(ot b λz=>by rw [z,nT] at y; cases y).trans (x1 b o y)) (x3.of_keeps λb o hb z=>⟨o,(ot b (nr b o hb z)).trans hb,rfl⟩) ?_ ⟨_,_,w2,ge,hd,c2,ok2,dk⟩ λb o hb z=>⟨o.slots,(ot b (nr b o hb z)).trans hb⟩)
 exact⟨oe,vs,T,_,_,ge,hc,hd,h1,nT,te,M4 _ hT (Obj.isFreed_of_fields (Obj.data_mapFields dT _)),Obj.data_mapFields dT _,by simp [z3]⟩
theorem BW {W:Nk->Nj->Prop} {oe:Nz} {vs:Nv Nk} {a0 v2:Nk} (hW:∀ s2,wpAny M A (leaving env (.ref e)) Q E s2->W (.ref e) s2) (hfr:A'.frames=some (env::outer)) (hl:s.heap.FunFrames B (env::outer)) (hf:env.frame=some L) (he:s.heap.get? e=some oe) (hk:B.StaysIn s.heap) (hn:B.get? e=none) (hd:oe.data=.fields vs) (h1:vs[1]?=some .none) (h0:vs[0]?=some a0) (h2:vs[2]?=some v2) (ok2:jG B v2)
  (hQ:∀ h',oH B outer e oe.cls (a0,oe.dict) h'->s.heap.UpToSlots h'->Q () {s with heap:=h'}):wpAny M A' (noteFrame (.ref e) env) (λ_ s1=>cameBackBy M A env W (.ref e) s1) E' s:=by
 unfold noteFrame;simp only [hf];refine Mj (MZ he hd h1 ?_);rw [if_neg (by decide)]
 refine qc hfr hl hf he hk hn hd (Array.getElem?_eq_some_iff.mp h1).1 h0 h2 ok2 λh' ⟨x1,x2,x3,x4⟩ cx=>?_
 have x3':=x3;obtain⟨oe',vs',T,oT,ts,he',hc,hd',h1',nT,te,hT,dT,h3⟩:=x3';unfold cameBackBy;refine Mj (MZ he' hd' h1' ?_);rw [if_neg (by simp),hf]
 refine vP (some L) x1 hn x2 x3 cx λh3 y1 y2 y3 y4 y5=>?_
 refine hW _ ?_;unfold leaving;refine Mj (wpAny_noteFrame_againW hf y3 ?_);exact jL (s:={s with heap:=h3}) (a0:=(a0,oe.dict)) ⟨⟨y1,hn,y2,y3⟩,y4⟩ λh4 z2 u2=>hQ h4 (ve z2) (Heap.UpToSlots.trans x4 (Heap.UpToSlots.trans y5 u2))
end
section
variable {P:Np} {w:Nr} {K:PySem.W.Frag} {mg:Str->Nm Nk} {base:Nt} {N:List Str} {qual:Str} {scope:Scope} {f:Nl} {cd:Nk} {A:Nq} {outer:List Env} {s0:Nj} {H0:Hp} {E:XK}
theorem zo {NA:List (Nl×Nz)} {σ:St} {H H3:Hp} {s s3:Nj} {C e:Nl} {a0:Nk×Nm Nl} {h':Nt} (I:aI (ph P w K mg base N qual scope f cd A outer s0 H0 E) NA σ H s) (I3:aI (ph P w K mg base N qual scope f cd A outer s0 H0 E) NA σ H3 s3) (h3:∀ b u,H b=some u->H3 b=some u) (n3:∀ b o,s.heap.get? b=some o->H b=none->H3 b=none) (He:H3 e=none)
  (ne:s.heap.get? e=none) (k3:∀ b o,s.heap.get? b=some o->s3.heap.get? b=some o) (fl:oH (PySem.W.hideAll s3.heap (e::fc (ph P w K mg base N qual scope f cd A outer s0 H0 E).stack)) outer e (.ref C) a0 h') (up:s3.heap.UpToSlots h') (q:E (.ref C) a0.2 H3):eV P w outer H0 s0 E (.ref e) {s3 with heap:=h'}:=by
 have bne:∀ b o,s.heap.get? b=some o->b≠e:=λb o z y=>by rw [y,ne] at z; cases z
 have hide:∀ b o,s.heap.get? b=some o->b∉fc (ph P w K mg base N qual scope f cd A outer s0 H0 E).stack->(PySem.W.hideAll s3.heap (e::fc (ph P w K mg base N qual scope f cd A outer s0 H0 E).stack)).get? b=some o:=λb o z hb=>PySem.W.hideAll_get _ (k3 b o z) λy=>by
  rcases Mt.mp y with y | y
  ·exact bne b o z y
  ·exact hb y
 refine yi (sx:=s3) I (I3.os.trans I.os.symm) I3.bare fl (λb ob z=>?_) (λb o z n hb=>hide b o z hb) (λb o z hb=>⟨o,hide b o z hb⟩) (λb hb o z=>?_) n3 (λ_ _ z=>h3 _ _ z) (λ_ _ _ z=>h3 _ _ z) (λb ps z=>⟨#[],by rw [h3 _ _ z]; simp⟩) q
 ·have be:b≠e:=λy=>by rw [y,He] at z; cases z
  refine(I3.hok b ob z).stay (λc v hc y=>PySem.W.hideAll_get _ y λhf=>?_) (λ_ y=>y) λ_ _ y=>y
  rcases Mt.mp hf with rfl | hf
  ·rcases hc with rfl | hc
   ·exact be rfl
   ·rw [He] at hc; cases hc
  ·have hn:=I3.stkFree c hf;rcases hc with rfl | hc
   ·rw [hn] at z; cases z
   ·rw [hn] at hc; cases hc
 ·have hb':b∈fc (ph P w K mg base N qual scope f cd A outer s0 H0 E).stack:=Mw _ hb;have e1:=k3 b o z;obtain⟨_,o2,e2,d2⟩:=I3.stack.mem hb';rw [e1] at e2;cases e2;exact up b _ e1 d2
end
theorem zn {X:Cx} {NA:List (Nl×Nz)} {σ:St} {H:Hp} {h:Nt} {g:Nv GenState} {d:Drawn} {t:Nat} {os:OsState} {x ay yI n nmI qI:Str} {C fI:Nl} {bmB:List Nk} {B newId initId sa owner:Ny} {st:Nu} {fd:FuncData} {A':Nq} {j:Nat} {v:V} {np ap cpos:Pos} {Q:Nk->Nj->Prop} {W:Nk->Nj->Prop} (FB:ExcBaseFacts B newId initId bmB) (F:CQ X.K C fI bmB newId n yI nmI qI st fd) (SF:StoreFacts B bmB sa owner) (hB:typeLookup (.type B) n=pure none) (hb:gM X.K fd ["self",yI] []) (hm:X.mg x=some (.ref C))
  (hr:bE 2 X.A) (hA:∀ c,(A'.under c).depth=(X.A.under c).depth) (I:aI X NA σ H ⟨h,g,d,t,os⟩) (hx:∀ {Q:Nk->Nj->Prop},Q (.ref C) ⟨h,g,d,t,os⟩->wpAny (model X.prog X.w) A' (eval (.Name x np) X.env) Q W ⟨h,g,d,t,os⟩) (hN:X.N[j]?=some ay) (hv:tU X.env.scope ay) (hd:(ay == ("__debug__":Str))=false) (hcd:(ay == ("__classdict__":Str))=false) (e1:σ[j]?=some (some v))
  (he:starEach [.Name ay ap] X.env=[(false,eval (.Name ay ap) X.env)])
  (hq:∀ h' tk' a dx u',h.get? (h.objs.size+1)=none->h.objs.size+1 < dx->h'.Ns1 dx (λy=>if y=n then some u' else none)->bz v u'->(∀ b o,h.get? b=some o->h'.get? b=some o)->wP h' (h.objs.size+1) C #[.ref a,.none,.none,.none,.bool false,.none] (some dx)->Q (.ref (h.objs.size+1)) ⟨h',g,d,tk',os⟩):
  wpAny (model X.prog X.w) A' (eval (.Call (.Name x np) [.Name ay ap] [] cpos) X.env) Q W ⟨h,g,d,t,os⟩:=by
 obtain⟨tl,Nn,nm,qn,bs,sn,sub,ab,col,dd,k0,k1,k2,k3,k5,lk,⟨oI,lI,cI⟩,kp,al⟩:=(vk F.ini).obj;obtain⟨mN,hn,hi,_,_,T,_,_⟩:=al _ I.kIn;refine wpAny_Call_Name_kw (hx ?_);refine PySem.W.callWith_K (h₀:=X.base) I.ok.mod.kin kp ?_ he rfl;rw [he]
 show wpAny _ _ (spliced [(false,eval (.Name ay ap) X.env)]) _ _ _
 refine Calls.spliced_cons (yc I hN hv hd hcd e1 λu r=>Calls.spliced_nil ⟨I.kIn,?_⟩)
 show wpAny _ _ (call (.ref C) [u]) _ _ _
 refine C_ FB T (I.kIn _ _ lk) hn hi (I.kIn _ _ lI) cI ?_ (MF rfl);have kk:∀ b o,h.get? b=some o->(ya h C [u]).get? b=some o:=λb o z=>Mk _ (Mk _ z)
 have g1:(ya h C [u]).get? (h.objs.size+1)=some {cls:=.ref C,data:=.fields #[.ref h.objs.size,.none,.none,.none,.bool false,.none]}:=by heap_get
 have I2:aI X NA σ H ⟨ya h C [u],g,d,t,os⟩:=I.kept kk;have hr':=hr.make C [u] [];refine wpAny_call (yB F SF hB hr' ?_ (I2.env0.make C [u] []) (hb _ [.ref (h.objs.size+1),u] I2.kIn rfl) r g1 rfl rfl rfl λh' tk' dx u' er lt en ru kp=>⟨rfl,?_⟩)
 ·rw [hA]; exact hr'.depth
 ·have nw:h.get? (h.objs.size+1)=none:=Heap.get?_none_of_le (Nat.le_succ _);exact hq h' tk' _ dx u' nw lt en ru (λb o z=>kp b o (λy=>by rw [y,nw] at z; cases z) (kk b o z)) er
theorem EC {X:Cx} {NA:List (Nl×Nz)} {σ:St} {H:Hp} {s s':Nj} {E:XK} {e:Nk} (hex:X.ex=[]) (hst:X.stack=X.env::X.outer) (hf:X.env.frame=some X.env.locals) (I:aI X NA σ H s) (h:eV X.prog X.w X.stack H s E e s') {Cn:Str} {cv:Nk} {p1 hp:Pos} {b0:Nu} {suite:List Nu} {Q:Flow->Nj->Prop}
  (hg:Gl X Cn) (hm:X.mg Cn=some cv) (hdb:(Cn == ("__debug__":Str))=false) (hx:∀ c d0 H',E c d0 H'->PySem.W.exmOne X.K c cv=some true)
  (k:∀ ea c d0 H' o s6 B vs v2,E c d0 H'->H' ea=none->o.cls=c->ea∉fc X.stack->o.data=.fields vs->vs[2]?=some v2->jG B v2->B.StaysIn s6.heap->s6.heap.get? ea=some o->aI X NA σ (bL H' ea (.frz o (.ext λ_=>True))) s6->
   wpAny (model X.prog X.w) (X.A.mark (some (.ref ea))) (execs (b0::suite) X.env) Q (notedBy (model X.prog X.w) (X.A.mark (some (.ref ea))) X.env λx s2=>cameBackBy (model X.prog X.w) X.A X.env X.xe x s2) s6):
  wpAny (model X.prog X.w) X.A (noteFrame e X.env) (λ_ s2=>wpAny (model X.prog X.w) X.A (setFlight e none) (λ_ s3=>wpAny (model X.prog X.w) X.A (handleBy e X.env [.ExceptHandler (some (.Name Cn p1)) none (b0::suite) hp]) Q X.xe s3) X.xe s2) X.xe s':=by
 obtain⟨ea,cls,a0,H',B,rfl,os,bare,flc,hok,hB,hB2,un,q⟩:=h;have fl:=flc.1;have fr0:X.A.frames=some (X.env::X.outer):=by rw [<- hst]; exact I.ok.frames
 have fl0:oH B (X.env::X.outer) ea cls a0 s'.heap:=by rw [<- hst]; exact flc
 refine qk fr0 hf fl0 λh4 held4 up4=>?_
 refine jL held4 λh5 fl5 up5=>?_
 have up45:=up4.trans up5;have I5:=I.landed os bare fl (by rw [hst]; exact fl5.1) up45 hok hB hB2 un
 obtain⟨ob,hob,hobc⟩:=fl5.1.there;refine wpAny_handleBy_cons (codeAny_handlers_test (fh (X:=X.marked (.ref ea) mq) (I5.marked (.ref ea) _) hg hm ?_ hdb)) (by intro z; cases z)
 have LT:PySem.W.Looks (model X.prog X.w) h5 (typeOf (.ref ea)) cls:=by
  subst hobc;exact(PySem.W.Looks.ld hob).andThen .now
 refine PySem.W.exm_one I5.kIn LT (hx cls a0.2 H' q) _ _ _ _ (λ_ _ z=>z) ?_
 refine codeAny_handlers_suite ?_;refine vP none fl5.1.1 fl5.1.2.1 fl5.1.2.2.1 fl5.1.2.2.2.at fl5.2 λh6 y1 y2 y3 y4 up6=>?_
 have fl6:Heap.FlyingW B (X.env::X.outer) ea cls a0.1 h6:=⟨y1,fl5.1.2.1,y2,y3⟩;have I6:=I.landed os bare fl (by rw [hst]; exact fl6) (up45.trans up6) hok hB hB2 un
 obtain⟨o6,ho6,hc6⟩:=fl6.there;obtain⟨oc,vc,v2,gc,dc,c2,cx,_⟩:=y4;rw [ho6] at gc;cases gc;have nfr:ea∉fc X.stack:=λz=>by
  obtain⟨_,o2,e2,d2⟩:=fl.2.2.1.mem z;obtain⟨oe,vs,T,oT,ts,w1,w2,w3,w4⟩:=fl.2.2.2;rw [w1] at e2;cases e2;exact d2 _ w3
 have nB:B.get? ea=none:=fl.2.1;have nw:∀ b o,s.heap.get? b=some o->b≠ea:=λb o z y=>by
  subst y;obtain⟨o',z'⟩:=hB2 b o z nfr;rw [nB] at z';cases z'
 have hn:H' ea=none:=by
  cases y:H' ea with
  | none=>rfl
  | some u=>
   obtain⟨o',z'⟩:=(hok ea u y).there;rw [nB] at z';cases z'
 have h0:X.s₀.heap.get? ea=none:=by
  cases y:X.s₀.heap.get? ea with
  | none=>rfl
  | some u=>
   obtain⟨o',z'⟩:=I.base.there ea u y (by rw [hex]; simp)
   exact absurd rfl (nw ea o' z')
 have I7:=I6.freeze ho6 hn h0 (λz=>nfr (by rw [hst,z]; unfold fc; rw [List.filterMap_cons,hf]; exact Mv)) (λx c z=>by
  obtain⟨v,o,z2,_⟩:=I.cell x c z;exact nw c o z2) (λp z=>nw p.1 p.2 (I.pin p z).1)
 exact k ea cls a0.2 H' o6 _ B vc v2 q hn hc6 nfr dc c2 cx y1 ho6 I7
section
variable {P:Np} {w:Nr} {K:PySem.W.Frag} {mg:Str->Nm Nk} {base:Nt} {N:List Str} {qual:Str} {scope:Scope} {f:Nl} {cd:Nk} {A:Nq} {outer:List Env} {s0:Nj} {H0:Hp} {E:XK}
def JN (E:XK) (C:Nl) (j:Nat) (n:Str):TS:=λ_ σ H=>∃ i,σ[j]?=some (some (.int i))/\∀ dx,H dx=none->E (.ref C) (some dx) (bL H dx (.xd [(n,.int i)]))
theorem Fj {P:Np} {w:Nr} {H:Hp} {h:Nt} {dx:Nl} {n:Str} {v:V} {u:Nk} (x:h.Ns1 dx (λy=>if y=n then some u else none)) (r:bz v u):dO P w H h dx (.xd [(n,v)]):=by
 refine⟨_,x,λf=>?_⟩
 by_cases z:f=n
 ·subst z;rw [if_pos rfl]
  show Bx (([(f,v)]:List (Str×V)).lookup f) (some u)
  rw [show ([(f,v)]:List (Str×V)).lookup f=some v by simp [List.lookup]]
  exact r
 ·rw [if_neg z]
  show Bx (([(n,v)]:List (Str×V)).lookup f) none
  have zb:(f == n)=false:=by simpa using z
  have e:([(n,v)]:List (Str×V)).lookup f=none:=by
   show(match f == n with | true=>some v | false=>none)=none
   rw [zb]
  rw [e]
  trivial
theorem CG {stack:List Env} {h:Nt} {e:Nl}:∀ env∈stack,∀ b,env.frame=some b->b∈e::fc stack:=λenv he b hb=>Mw _ (List.mem_filterMap.mpr ⟨env,he,hb⟩)
theorem zO {x ay yI n nmI qI:Str} {C fI:Nl} {bmB:List Nk} {B newId initId sa owner:Ny} {st:Nu} {fd:FuncData} {j:Nat} {np ap cpos pos:Pos} (FB:ExcBaseFacts B newId initId bmB) (F:CQ K C fI bmB newId n yI nmI qI st fd) (SF:StoreFacts B bmB sa owner) (hB:typeLookup (.type B) n=pure none) (hb:gM K fd ["self",yI] []) (hm:mg x=some (.ref C))
  (hr:bE 2 (ph P w K mg base N qual scope f cd A outer s0 H0 E).A) (hg:Gl (ph P w K mg base N qual scope f cd A outer s0 H0 E) x) (hN:N[j]?=some ay) (hv:tU scope ay) (hdx:(x == ("__debug__":Str))=false:=by decide) (hd:(ay == ("__debug__":Str))=false:=by decide) (hcd:(ay == ("__classdict__":Str))=false:=by decide)
  (he:starEach [.Name ay ap] (ph P w K mg base N qual scope f cd A outer s0 H0 E).env=[(false,eval (.Name ay ap) (ph P w K mg base N qual scope f cd A outer s0 H0 E).env)]:=by rfl):
  PS (ph P w K mg base N qual scope f cd A outer s0 H0 E) (.Raise (some (.Call (.Name x np) [.Name ay ap] [] cpos)) none pos) (JN E C j n):=by
 intro NA s σ H D I h;obtain⟨iv,e1,q⟩:=h;obtain⟨tl,Nn,nm,qn,bs,sn,sub,ab,col,dd,k0,k1,k2,k3,k5,lk,⟨oI,lI,cI⟩,kp,al⟩:=(vk F.ini).obj;obtain⟨_,_,_,_,_,T0,_,_⟩:=al _ I.kIn;rw [arm_exec_Raise];simp only [evalOpt,Option.map];refine Mj (wpAny_standAt (zH (C:=C) (nm:=nm) (q:=qn) (N:=Nn) (bs:=bs) (bm:=tl) (hdct:=true) (sn:=sn) (sub:=sub) (ab:=ab) (col:=col) (dd:=dd) (k0:=k0) (k1:=k1) (k2:=k2) (k3:=k3) (k5:=k5) (newId:=newId) (T0.hasType FB.hasBase) (I.ok.hd rfl) ?_));obtain⟨hp,g,d,tk,os⟩:=s;refine Mj (zn FB F SF hB hb hm hr (λ_=>rfl) I (λz=>fh I hg hm z hdx) hN hv hd hcd e1 he λh' tk' a dx u' ne lt en ru kk er=>Mj (wpAny_standAt (Ml ?_)))
 obtain⟨o,go,gc,gd,gk⟩:=er;have le:hp.objs.size<=dx:=by omega
 have I3:aI (ph P w K mg base N qual scope f cd A outer s0 H0 E) NA σ (bL H dx (.xd [(n,.int iv)])) ⟨h',g,d,tk',os⟩:=I.laid kk le (Fj en ru);have hx:H dx=none:=I.hok.fresh le;refine⟨_,o,_,rfl,I3.kIn _ _ lk,go,gc,gd,rfl,?_⟩
 show wpAny _ _ (leaving _ (.ref _)) _ _ _
 refine uF (B:=PySem.W.hideAll h' ((hp.objs.size+1)::fc (ph P w K mg base N qual scope f cd A outer s0 H0 E).stack)) I.ok.frames (PySem.W.funFrames_hide I3.stack (CG (h:=h'))) rfl go (λb o z=>PySem.W.of_hideAll _ z) (PySem.W.hideAll_none _ Mv) gd rfl rfl rfl .last λh2 fl up=>?_
 rw [gc,gk] at fl;exact zo I I3 (λb u z=>by rw [aF (λy=>by rw [y,hx] at z; cases z)]; exact z) (λb o z y=>by rw [aF (λw=>by have:=Mo z; rw [w] at this; exact absurd (show dx < hp.objs.size from this) (by omega))]; exact y) (by rw [aF (Mu lt)]; exact I.hok.fresh (Nat.le_succ _)) ne kk fl up (q dx hx)
theorem Dv {x0 Cn x ay yI n nmI qI:Str} {cv:Nk} {E':XK} {i k9:Nat} {e:No} {te:TX} {C fI:Nl} {bmB:List Nk} {B newId initId sa owner:Ny} {st:Nu} {fd:FuncData} {j:Nat} {xp xap p1 hp np ap cpos npos rpos pos:Pos} (hpe:HU (ph P w K mg base N qual scope f cd A outer s0 H0 E) E' e te) (FB:ExcBaseFacts B newId initId bmB) (F:CQ K C fI bmB newId n yI nmI qI st fd) (SF:StoreFacts B bmB sa owner) (hB:typeLookup (.type B) n=pure none) (hb:gM K fd ["self",yI] []) (hm:mg x=some (.ref C))
  (hr:bE 2 (ph P w K mg base N qual scope f cd A outer s0 H0 E).A) (hg:Gl (ph P w K mg base N qual scope f cd A outer s0 H0 E) x) (hN:N[j]?=some ay) (hv:tU scope ay) (hgC:Gl (ph P w K mg base N qual scope f cd A outer s0 H0 E) Cn) (hmC:mg Cn=some cv) (hNd:N.Nodup) (hi:N[i]?=some x0) (hx0:AI scope x0)
  (hsw:swapsWith e (some (.Name x0 xp)) xap.line (ph P w K mg base N qual scope f cd A outer s0 H0 E).env=pure false:=by rfl) (hdb:(Cn == ("__debug__":Str))=false:=by decide) (hdx:(x == ("__debug__":Str))=false:=by decide) (hd:(ay == ("__debug__":Str))=false:=by decide) (hcd:(ay == ("__classdict__":Str))=false:=by decide)
  (he:starEach [.Name ay ap] (ph P w K mg base N qual scope f cd A outer s0 H0 E).env=[(false,eval (.Name ay ap) (ph P w K mg base N qual scope f cd A outer s0 H0 E).env)]:=by rfl):
  PS (ph P w K mg base N qual scope f cd A outer s0 H0 E) (.Try [.Assign [.Name x0 xp] e xap] [.ExceptHandler (some (.Name Cn p1)) none [.Raise (some (.Call (.Name x np) [.Name ay ap] [] cpos)) (some (.Constant .none k9 npos)) rpos] hp] [] [] pos) (Ib K E' cv te (λD σ v H=>D.nx (σ.set i (some v)) H) (JN E C j n)):=by
 intro NA s σ H D I h;obtain⟨hE,R,h,kk⟩:=h;refine wpAny_Try_except (wpAny_execs_cons (wpAny_Assign_Name (MY (hpe NA s σ H _ R I h) (λv s1 ⟨y,H1,I1,r1,q1⟩=>?_) λe s' z=>?_) hsw))
 ·exact fY I1 hNd hi hx0 r1 (λs2 I2=>wpAny_execs_nil (wpAny_execs_nil ⟨_,H1,I2,q1⟩)) (.inl rfl)
 obtain⟨H1,s1,I1,hR,hq⟩:=z;refine EC rfl rfl rfl I1 (DL.yo hq) hgC hmC hdb (λc d0 H' z=>hE c d0 H' z.1) λea c d0 H' oa s6 B0 va v2 y1 y2 y3 nfr da a2 cx hB0 ga I6=>?_
 obtain⟨iv,e1,q⟩:=kk H1 ea c d0 H' oa hR y1.1 y1.2 y2 y3;obtain⟨tl,Nn,nm,qn,bs,sn,sub,ab,col,dd,k0,k1,k2,k3,k5,lk,⟨oI,lI,cI⟩,kp,al⟩:=(vk F.ini).obj;obtain⟨_,_,_,_,_,T0,_,_⟩:=al _ I6.kIn;refine wpAny_execs_cons ?_;rw [arm_exec_Raise];simp only [evalOpt,Option.map];refine Mj (wpAny_standAt (xQ (C:=C) (ea:=ea) (nm:=nm) (q:=qn) (N:=Nn) (bs:=bs) (bm:=tl) (hdct:=true) (sn:=sn) (sub:=sub) (ab:=ab) (col:=col) (dd:=dd) (k0:=k0) (k1:=k1) (k2:=k2) (k3:=k3) (k5:=k5) (newId:=newId) (T0.hasType FB.hasBase) rfl (λz=>?_) ?_))
 ·exact Mj (wpAny_Constant_none (Mj (wpAny_standAt (Ml z))))
 obtain⟨hp6,g,d,tk,os⟩:=s6;refine Mj (zn FB F SF hB hb hm hr (λ_=>rfl) I6 (λz=>fh (X:=(ph P w K mg base N qual scope f cd A outer s0 H0 E).marked (.ref ea) mq) (I6.marked (.ref ea) _) hg hm z hdx) hN hv hd hcd e1 he λh' tk' a dx u' ne lt en ru k7 er=>Mj (wpAny_standAt (Ml ?_)))
 obtain⟨o,go,gc,gd,gk⟩:=er;have I3:aI (ph P w K mg base N qual scope f cd A outer s0 H0 E) NA σ _ ⟨h',g,d,tk',os⟩:=I6.kept k7;have le:hp6.objs.size<=dx:=by omega
 have nB0:∀ a o,B0.get? a=some o->a≠hp6.objs.size+1:=λa o z y=>by
  have z:=hB0 a o z;rw [y] at z;exact absurd (z.symm.trans ne) (by simp)
 have nea:ea≠hp6.objs.size+1:=λy=>by
  rw [y] at ga;exact absurd (ga.symm.trans ne) (by simp)
 have lkC:=I3.kIn _ _ lk;have Cne:C≠hp6.objs.size+1:=λy=>by
  have z:=I6.kIn _ _ lk;rw [y] at z;exact absurd (z.symm.trans ne) (by simp)
 refine⟨_,o,_,rfl,lkC,Cne,go,gc,gd,rfl,rfl,nea,⟨B0,oa,va,v2,λb o z=>k7 b o (hB0 b o z),nB0,k7 _ _ ga,da,a2,cx⟩,λh8 er8 k8=>?_⟩
 have k9:∀ b o,hp6.get? b=some o->h8.get? b=some o:=λb o z=>k8 b o (λy=>by rw [y] at z; exact absurd (z.symm.trans ne) (by simp)) (k7 b o z)
 have en8:h8.Ns1 dx (λy=>if y=n then some u' else none):=en.at λob z=>k8 dx ob (Nat.ne_of_gt lt) z
 have I8:aI (ph P w K mg base N qual scope f cd A outer s0 H0 E) NA σ (bL _ dx (.xd [(n,.int iv)])) ⟨h8,g,d,tk',os⟩:=I6.laid k9 le (Fj en8 ru);have hx:=I6.hok.fresh le;obtain⟨o8,g8,c8,d8,dk8⟩:=er8;have nst:∀ a o vs,hp6.get? a=some o->o.data=.fields vs->a∉fc (ph P w K mg base N qual scope f cd A outer s0 H0 E).stack:=λa o vs z y hf=>by
  obtain⟨_,o2,e2,d2⟩:=I6.stack.mem hf;rw [z] at e2;cases e2;exact d2 _ y
 have hid:∀ a o vs,hp6.get? a=some o->o.data=.fields vs->(PySem.W.hideAll h8 ((hp6.objs.size+1)::fc (ph P w K mg base N qual scope f cd A outer s0 H0 E).stack)).get? a=some o:=λa o vs z y=>PySem.W.hideAll_get _ (k9 a o z) λhf=>by
  rcases Mt.mp hf with rfl | hf
  ·exact absurd (z.symm.trans ne) (by simp)
  ·exact nst a o vs z y hf
 show wpAny _ _ (noteFrame _ _) _ _ _
 refine BW (λ_ z=>z) (A':=(ph P w K mg base N qual scope f cd A outer s0 H0 E).A.mark (some (.ref ea))) (B:=PySem.W.hideAll h8 ((hp6.objs.size+1)::fc (ph P w K mg base N qual scope f cd A outer s0 H0 E).stack)) I6.ok.frames (PySem.W.funFrames_hide I8.stack (CG (h:=h8))) rfl g8 (λb o z=>PySem.W.of_hideAll _ z) (PySem.W.hideAll_none _ Mv) d8 rfl rfl rfl (.more (hid ea oa va ga da) da a2 (cx.mono λa o vs z y=>hid a o vs (hB0 a o z) y)) λh9 fl up=>?_
 rw [c8,dk8,gk] at fl;exact zo I6 I8 (λb u z=>by rw [aF (λy=>by rw [y,hx] at z; cases z)]; exact z) (λb o z y=>by rw [aF (λw=>by have:=Mo z; rw [w] at this; exact absurd (show dx < hp6.objs.size from this) (by omega))]; exact y) (by rw [aF (Mu lt)]; exact I6.hok.fresh (Nat.le_succ _)) ne k9 fl up (q dx hx)
end
end L2
namespace DL
open PySem PySem.Spec PyProof.Rows L2
inductive IZ (K:Fg) (q:Str) (st:Nu) (f:Nl) (cd:Nk):Prop where
 | mk {oc kV doc pm ct:Nk} {od an:Nm Nl} {osl:Nv (Nm Nk)} (l:K.lookup f=some ⟨oc,od,.func (PySem.W.fnOf "__init__" q (d_ st) (b_ st) (am st) .none kV doc pm an cd ct),osl⟩):IZ K q st f cd
structure EI (K:Fg) (bmB:List Nk) (q n:Str) (st:Nu) (C f:Nl) (cd:Nk):Prop where
 b:PySem.W.findIn K (.ref C) "__init__"=some (some (.ref f))
 x:IZ K q st f cd
 e:PySem.W.codeIn K cd q=true
 k:PySem.W.keepIn K (.ref f)=true
 i:zl K C bmB "ValueError.__new__" f n=true
structure CD (K:Fg) (mg:Str->Nm Nk) (x:Str) (C:Nl):Prop where
 ex:∃ (fI:Nl) (bmB:List Nk) (B newId initId sa owner:Ny) (yI nmI qI:Str) (st:Nu) (fd:FuncData),ExcBaseFacts B newId initId bmB/\CQ K C fI bmB newId "step" yI nmI qI st fd/\StoreFacts B bmB sa owner/\typeLookup (.type B) "step"=pure none/\gM K fd ["self",yI] []/\mg x=some (.ref C)
theorem EI.err {K:Fg} {mg:Str->Nm Nk} {bmB:List Nk} {initId sa owner:Ny} {x q y:Str} {st:Nu} {C f:Nl} {cd:Nk} (d:EI K bmB q "step" st C f cd) (hm:mg x=some (.ref C)) (FB:ExcBaseFacts "ValueError" "ValueError.__new__" initId bmB) (SF:StoreFacts "ValueError" bmB sa owner) (sc:av ["self",y] ["self",y] (am st)) (body:∃ p1 p2 p3 pos,b_ st=[.Assign [.Attribute (.Name "self" p1) "step" p2] (.Name y p3) pos])
  (hB:typeLookup (.type "ValueError") "step"=pure none) (v1:tU (am st) "self":=by exact .inl rfl) (v2:tU (am st) y:=by exact .inl rfl) (d2:(y == ("__debug__":Str))=false:=by decide) (c2:(y == ("__classdict__":Str))=false:=by decide)
  (hb:∀ (kV doc pm:Nk) (an:Nm Nl) (cdv ct u1 u2:Nk),bindArgs (PySem.W.fnOf "__init__" q (d_ st) (b_ st) (am st) .none kV doc pm an cdv ct) ⟨[u1,u2],[]⟩=pure (List.zip [("self":Str),y] [u1,u2]):=by exact λ_ _ _ _ _ _ _ _=>rfl):CD K mg x C:=by
 obtain⟨lk⟩:=d.x;have Fn:=sK lk d.e d.k;exact⟨f,bmB,_,_,initId,sa,owner,y,_,q,st,_,FB,⟨Fn,sc,body,v1,v2,d2,c2,d.i⟩,SF,hB,Fn.binds λ_ _ _ _ _ _ us hl=>match us,hl with | [u1,u2],_=>hb _ _ _ _ _ _ _ _,hm⟩
section
variable {P:Np} {w:Nr} {K:Fg} {mg:Str->Nm Nk} {base:Nt} {N:List Str} {qual:Str} {scope:Scope} {f:Nl} {cd:Nk} {A:Nq} {outer:List Env} {s0:Nj} {H0:Hp} {E:XK} {ex:Er->DH->Prop}
def Gc (ex:Er->DH->Prop) (C:Nl) (j:Nat):DS:=λ_ L S=>∃ i,L[j]?=some (some (.int i))/\ex (C,some i) S
theorem w5 {x ay:Str} {C:Nl} {j:Nat} {np ap cpos pos:Pos} (hE:∀ r d0 S' H',ex r S'->Hs K H' S'->jz r.2 d0 H'->E (.ref r.1) d0 H') (q:CD K mg x C) (hr:bE 2 (cQ (eV P w) P w K mg base N qual scope f cd A outer s0 H0 E).A)
  (hg:Gl (cQ (eV P w) P w K mg base N qual scope f cd A outer s0 H0 E) x) (hN:N[j]?=some ay) (hv:tU scope ay) (hdx:(x == ("__debug__":Str))=false:=by decide) (hd:(ay == ("__debug__":Str))=false:=by decide) (hcd:(ay == ("__classdict__":Str))=false:=by decide):
  SJ (cQ (eV P w) P w K mg base N qual scope f cd A outer s0 H0 E) (.Raise (some (.Call (.Name x np) [.Name ay ap] [] cpos)) none pos) (Gc ex C j):=by
 obtain⟨fI,bmB,B,newId,initId,sa,owner,yI,nmI,qI,st,fd,FB,F,SF,hB,hb,hm⟩:=q.ex;refine⟨PS.imp (zO FB F SF hB hb hm hr hg hN hv hdx hd hcd rfl) λ_ σ H ⟨L,S,_,hL,hS,⟨i,e,h⟩,_⟩=>?_⟩
 obtain⟨v,z,z2⟩:=hL.get e;have z3:=isInt.mp z2;subst z3;exact⟨i,z,λdx hx=>hE (C,some i) (some dx) S _ h (hS.new hx) λi' e'=>by cases e'; exact⟨dx,rfl,bp⟩⟩
theorem Al {x0 Cn x ay:Str} {cv:Nk} {i j k9:Nat} {e:No} {g:(Er->DH->Prop)->DE} {C:Nl} {xp xap p1 hp np ap cpos npos rpos pos:Pos} (hE:∀ r d0 S' H',ex r S'->Hs K H' S'->jz r.2 d0 H'->E (.ref r.1) d0 H') (q:CD K mg x C) (he:∀ ex,Lz (cQ (eV P w) P w K mg base N qual scope f cd A outer s0 H0 E) ex e (g ex)) (hr:bE 2 (cQ (eV P w) P w K mg base N qual scope f cd A outer s0 H0 E).A)
  (hg:Gl (cQ (eV P w) P w K mg base N qual scope f cd A outer s0 H0 E) x) (hN:N[j]?=some ay) (hv:tU scope ay) (hgC:Gl (cQ (eV P w) P w K mg base N qual scope f cd A outer s0 H0 E) Cn) (hmC:mg Cn=some cv) (hNd:N.Nodup) (hi:N[i]?=some x0) (hx0:AI scope x0)
  (hsw:swapsWith e (some (.Name x0 xp)) xap.line (cQ (eV P w) P w K mg base N qual scope f cd A outer s0 H0 E).env=pure false:=by rfl) (hdb:(Cn == ("__debug__":Str))=false:=by decide) (hdx:(x == ("__debug__":Str))=false:=by decide) (hd:(ay == ("__debug__":Str))=false:=by decide) (hcd:(ay == ("__classdict__":Str))=false:=by decide):
  SJ (cQ (eV P w) P w K mg base N qual scope f cd A outer s0 H0 E) (.Try [.Assign [.Name x0 xp] e xap] [.ExceptHandler (some (.Name Cn p1)) none [.Raise (some (.Call (.Name x np) [.Name ay ap] [] cpos)) (some (.Constant .none k9 npos)) rpos] hp] [] [] pos) (Jj K cv g i (Gc ex C j)):=by
 obtain⟨fI,bmB,B,newId,initId,sa,owner,yI,nmI,qI,st,fd,FB,F,SF,hB,hb,hm⟩:=q.ex;refine⟨λNA s σ H M0 I ⟨L,S,M,hL,hS,h,r⟩=>Dv (he (λC' S2=>PySem.W.exmOne K (.ref C'.1) cv=some true/\Gc ex C j M L S2)).h FB F SF hB hb hm hr hg hN hv hgC hmC hNd hi hx0 hsw hdb hdx hd hcd rfl NA s σ H M0 I ⟨?_,Kp H,⟨L,S,_,hL,hS,h,λd S' v H' q k1 hS' i1=>r.nx _ _ _ _ q k1 ((hL.kp k1).set i1 i) hS',λ_ z=>z⟩,?_⟩⟩
 ·rintro c d0 H' ⟨C',S',rfl,z,_⟩;exact z.1
 ·rintro H1 ea c d0 H' o k0 ⟨C',S',rfl,⟨_,i,e,z⟩,zs,_⟩ kp hn ho;obtain⟨v,z1,z2⟩:=hL.get e;have z3:=isInt.mp z2;subst z3;exact⟨i,z1,λdx hx=>hE (C,some i) (some dx) S' _ z ((zs.new hn).new hx) λi' e'=>by cases e'; exact⟨dx,rfl,bp⟩⟩
end
def Ih (g:DE) (tl th:Ds):DE:=λL S k=>g L S λx S1=>tl L S1 λlo S2=>th L S2 λhi S3=>match x with
 | .ref a=>∃ xs,S3 a=some (.lst xs)/\∀ p,S3 p=none->k (.ref p) (put S3 p (.lst (iU xs lo hi)))
 | _=>False
theorem DD {X:Cx} {e:No} {g:DE} {lo hi:Nm No} {tl th:Ds} {p2 pos:Pos} (he:EJ X e g) (hl:OJ X lo tl) (hu:OJ X hi th):EJ X (.Subscript e (.Slice lo hi none p2) pos) (Ih g tl th):=
 ⟨PE.imp (tE yS he.h hl.h hu.h) fun σ H Q ⟨L,S,k,hL,hS,h,n⟩=>up.go hL hS h λd S1 v H1 h1 k1 hL1 hS1 i1=>by
  refine⟨L,S1,_,hL1,hS1,h1,λlo' S2 H2 h2 k2 hS2=>⟨L,S2,_,hL1.kp k2,hS2,h2,λhi' S3 H3 h3 k3 hS3=>?_⟩⟩
  cases d with
  | ref a=>
   have e1:=cf.mp i1;subst e1;obtain⟨xs,z,h3⟩:=h3;obtain⟨vs,hl,j⟩:=hS3.lst z;refine⟨a,vs,rfl,jW.of hl,λp hp=>?_⟩
   refine n _ _ _ _ (h3 p (hS3.free hp)) (k1.trans (k2.trans (k3.trans (Kp.new hp)))) (hS3.newL hp ?_) (cf.mpr rfl);unfold iU qy;rw [j.length];exact(j.drop _).take _
  | _=>exact(show False from h3).elim⟩
def oD:Nm Nl->D
 | none=>.non
 | some l=>.ref l
def DN (i j:Int):Prop:=0<=j/\(Builtin.Int.intBits i:Int)+j<=2 ^ 27
abbrev Iz:D2:=Gy DN λi j=>.int (i*2 ^ j.toNat)
theorem GY {X:Cx}:gp X (binaryOp .LShift) (jX X.K Iz):=zy (C:=DN) (gV:=λi j=>.int (i*2 ^ j.toNat)) (IM (C:=DN) λ_ _ _ _ _ _ _ hc q=>lshift_int hc.1 hc.2 q) λ_ _ _=>isInt.mpr rfl
end DL
namespace L2
open PySem PySem.Spec PyProof.Rows
structure tR (K:PySem.W.Frag) (C:Nl) (n:Str):Prop where
 ga:PySem.W.findIn K (.ref C) "__getattribute__"=some (some (.builtin "BaseException.__getattribute__"))
 gt:PySem.W.findIn K (.ref C) "__getattr__"=some none
 nn:PySem.W.findIn K (.ref C) n=some none
 sb:PySem.W.subIn K (.ref C) (.type "BaseException")=some true
section
variable {prog:Np} {w:Nr} {A:Nq} {E:Nk->Nj->Prop} {h:Nt} {g:Nv GenState} {d:Drawn} {t:Nat} {os:OsState} {a C dx:Nl} {o:Nz} {K:PySem.W.Frag} {n:Str} {m:Str->Nm Nk} {oC:Nz} {cd:ClassData} {iv:Int} {it:Tok}
theorem Ac {tk:Tok} {vs:Nv Nk} {Q:Fin->Nj->Prop} (X:K.In h) (c:tR K C n) (hx:h.get? a=some o) (hc:o.cls=.ref C) (hC:h.get? C=some oC) (hcd:oC.data=.cls cd) (hhd:cd.hasDict=true) (hf:o.data=.fields vs) (hd:o.dict=some dx) (hn:h.Ns dx m) (hv:m n=some (.int iv it)) (hq:Q (.done (.ret (.int iv it))) ⟨h,g,d,t,os⟩):
  wpAny (model prog w) A (Builtin.«object.__getattribute__» ⟨[.ref a,.str n tk],[]⟩) Q E ⟨h,g,d,t,os⟩:=by
 have L:=PySem.W.looks_findIn (M:=model prog w) X c.nn
 repeat (any_goals (first | assumption | (with_reducible refine wpAny_loadPart_at hx ?_; rw [hc]) | with_reducible refine L.at ?_ | wp_step))
 rw [hf];dsimp only;unfold instanceDict
 repeat (any_goals (first | assumption | (with_reducible refine wpAny_loadPart_at hx ?_; rw [hd]) | wp_step))
 rw [hc];dsimp only;unfold classData
 repeat (any_goals (first | assumption | (with_reducible refine wpAny_loadPart_at hC ?_) | wp_step))
 rw [hcd];refine Ml ?_;rw [hhd];refine Ml ?_;unfold Builtin.ObjectAttr.inDict;refine wpAny_nsGet hn ?_;rw [hv]
 repeat (any_goals (first | assumption | wp_step))
theorem Ai {M:Model} {nameV:Nk} {Q:Unit->Nj->Prop} (X:K.In h) (c:tR K C n) (hx:h.get? a=some o) (hc:o.cls=.ref C) (hq:Q () ⟨h,g,d,t,os⟩):
  wpAny M A (checkBuiltinCall "BaseException.__getattribute__" ⟨[.ref a,nameV],[]⟩) Q E ⟨h,g,d,t,os⟩:=by
 have hk:builtinKind "BaseException.__getattribute__"=some .slot:=by decide +kernel
 have hsplit:splitId "BaseException.__getattribute__"=some ("BaseException","__getattribute__"):=by decide +kernel
 have L:=PySem.W.looks_subIn (M:=M) X c.sb;have ha:=F.args_bexc_ga (.ref a) nameV;simp only [checkBuiltinCall,hk,hsplit];refine Mj ?_;unfold isInstance
 repeat (first | (with_reducible refine wpAny_loadPart_at hx ?_; rw [hc]) | with_reducible refine L.at ?_ | wp_step)
 exact hq
theorem G_ {tk:Tok} {fill expr:Nw} {vs:Nv Nk} {Q:Nk->Nj->Prop} (X:K.In h) (c:tR K C n) (hx:h.get? a=some o) (hc:o.cls=.ref C) (hC:h.get? C=some oC) (hcd:oC.data=.cls cd) (hhd:cd.hasDict=true) (hf:o.data=.fields vs) (hd:o.dict=some dx) (hn:h.Ns dx m) (hv:m n=some (.int iv it)) (hq:Q (.int iv it) ⟨h,g,d,t,os⟩):
  wpAny (model prog w) A (getAttrBy (.ref a) (.str n tk) fill expr) Q E ⟨h,g,d,t,os⟩:=by
 have f3:=F.excAttr_ValueError.ga.bind (.ref a);have hx0:(expr && onTheHeap (Value.builtin "BaseException.__getattribute__"))=false:=by cases expr <;> rfl
 have hx2:(Value.builtin "BaseException.__getattribute__" == Value.builtin "object.__getattribute__")=false:=by decide +kernel
 have hx1:(onTheHeap (Value.ref C) && Value.builtin "BaseException.__getattribute__" == Value.builtin "object.__getattribute__")=false:=by rw [hx2]; rfl
 have L1:=PySem.W.looks_findIn (M:=model prog w) X c.ga;have L2:=PySem.W.looks_findIn (M:=model prog w) X c.gt
 repeat (any_goals (first | assumption | (with_reducible refine wpAny_loadPart_at hx ?_; rw [hc]) | with_reducible refine L1.at ?_ | with_reducible refine L2.at ?_ | wp_step))
 refine codeAny_call_builtin F.excAttr_ValueError.ga.plain F.entry_bexc_ga (Ai X c hx hc (Ac X c hx hc hC hcd hhd hf hd hn hv ?_))
 repeat (any_goals (first | assumption | wp_step))
theorem BG {expr:Nw} {vs:Nv Nk} {Q:Nk->Nj->Prop} (X:K.In h) (c:tR K C n) (hx:h.get? a=some o) (hc:o.cls=.ref C) (hC:h.get? C=some oC) (hcd:oC.data=.cls cd) (hhd:cd.hasDict=true) (hf:o.data=.fields vs) (hd:o.dict=some dx) (hn:h.Ns dx m) (hv:m n=some (.int iv it)) (hq:Q (.int iv it) ⟨h,g,d,t+1,os⟩):
  wpAny (model prog w) A (getAttr (.ref a) n expr) Q E ⟨h,g,d,t,os⟩:=by
 unfold getAttr
 repeat (any_goals (first | assumption | with_reducible apply G_ X c hx hc hC hcd hhd hf hd hn hv | wp_step))
end
def sj (K:PySem.W.Frag) (C:Nl):Nw:=(PySem.W.findIn K (.ref C) "__getattribute__" == some (some (.builtin "BaseException.__getattribute__"))) && ((PySem.W.findIn K (.ref C) "__getattr__" == some none) && ((PySem.W.findIn K (.ref C) "step" == some none) && ((PySem.W.subIn K (.ref C) (.type "BaseException") == some true) && (match K.lookup C with
 | some ⟨_,_,.cls cd,_⟩=>cd.hasDict
 | _=>false))))
theorem F8 {K:PySem.W.Frag} {C:Nl} (h:sj K C=true):tR K C "step"/\∃ oC cd,K.lookup C=some oC/\oC.data=.cls cd/\cd.hasDict=true:=by
 unfold sj at h;simp only [M2,beq_iff_eq] at h;obtain⟨h1,h2,h3,h4,h5⟩:=h;refine⟨⟨h1,h2,h3,h4⟩,?_⟩
 split at h5
 ·rename_i e
  exact⟨_,_,e,rfl,h5⟩
 ·cases h5
def Ig (C:Nl) (i ix:Nat):TS:=λD σ H=>∃ a o u dx vs iv,σ[i]?=some (some (.ref a))/\H a=some (.frz o u)/\o.cls=.ref C/\o.data=.fields vs/\o.dict=some dx/\H dx=some (.xd [("step",.int iv)])/\D.nx (σ.set ix (some (.int iv))) H
theorem GQ {X:Cx} {C:Nl} {x n:Str} {i ix:Nat} {xp np ap pos:Pos} (hC:sj X.K C=true) (hN:X.N.Nodup) (hix:X.N[ix]?=some x) (hxl:AI X.env.scope x) (hi:X.N[i]?=some n) (hv:tU X.env.scope n) (hfx:X.fn x=true\/X.env.scope.names.lookup x=some .local)
  (hsw:swapsWith (.Attribute (.Name n np) "step" ap) (some (.Name x xp)) pos.line X.env=pure false) (hbase:attributeBase (.Name n np) "step" X.env (eval (.Name n np) X.env)=eval (.Name n np) X.env) (hd:(n == ("__debug__":Str))=false) (hcd:(n == ("__classdict__":Str))=false):
  tI X [.Assign [.Name x xp] (.Attribute (.Name n np) "step" ap) pos] (Ig C i ix):=by
 intro NA s σ H D I h;obtain⟨a,o,u,dx,vs,iv,e1,e2,hc,hf,hdk,e3,q⟩:=h;obtain⟨cs,oC,cd,lk,hcl,hhd⟩:=F8 hC;refine wpAny_execs_cons (wpAny_Assign_Name (EY hbase (yl I hi hv e1 (λw r=>?_) hd hcd)) hsw)
 cases r;obtain⟨ho,_⟩:=(show dO X.prog X.w H s.heap a (.frz o u) from I.hok a _ e2)
 obtain⟨mA,ns,rel⟩:=(show dO X.prog X.w H s.heap dx (.xd [("step",.int iv)]) from I.hok dx _ e3)
 have r2:Bx (some (.int iv)) (mA "step"):=rel "step"
 cases hm:mA "step" with
 | none=>rw [hm] at r2; exact r2.elim
 | some w=>
  rw [hm] at r2;obtain⟨it,rfl⟩:=(show ∃ t,w=Value.int iv t from r2)
  have kin:=I.kIn;obtain⟨hh,g,d,t,os⟩:=s;refine BG kin cs ho hc (kin _ _ lk) hcl hhd hf hdk ns.ns hm ?_;exact fY (v:=.int iv) (I.tok (t+1)) hN hix hxl ⟨it,rfl⟩ (λs2 I2=>wpAny_execs_nil ⟨_,H,I2,q⟩) hfx
structure Fp (cells:List (Nl×Nz)) (P:Np) (w:Nr) (K:PySem.W.Frag) (mg:Str->Nm Nk) (base:Nt) (n:Nat) (g:Nl) (H:Hp) (Q:VK) (E:XK):Prop where
 fn:∃ (o:Nz) (u:HO) (fd:FuncData),H g=some (.frz o u)/\o.data=.func fd
 run:∀ (A:Nq) (outer:List Env) (s:Nj),bE n A->oJ P w K mg base A outer s H->hU cells outer H s.heap->codeAny (model P w) A (.call (.ref g) ⟨[],[]⟩) (CR (eV P w) outer P w H s Q E) s
section
variable {P:Np} {w:Nr} {K:PySem.W.Frag} {mg:Str->Nm Nk} {base:Nt} {N:List Str} {qual:Str} {scope:Scope} {clos:List (Str×Nl)} {g:Nl} {cd:Nk} {A:Nq} {outer:List Env} {s:Nj} {H:Hp} {cells:List (Nl×Nz)} {σ0:St} {E:XK}
theorem B7 {params:Arguments} {body:No} {n:Nat} {t:TE} {Q:VK} (hl:i_ qual params body scope clos g H) (S:uU scope clos N) (hbind:∀ pm cv ctv,bindArgs (PySem.W.kla_fn "<lambda>" qual params body scope clos pm cv ctv) ⟨[],[]⟩=pure [])
  (hr:bE (n+1) A) (e0:oJ P w K mg base A outer s H) (hc:hU cells outer H s.heap) (hcl:∀ p∈clos,∃ o v,(p.2,o)∈cells/\o.data=.cell v)
  (hcap:∀ (i:Nat) (x:Str) (v:V),N[i]?=some x->σ0[i]?=some (some v)->∃ c o u,clos.lookup x=some c/\(c,o)∈cells/\o.data=.cell (some u)/\bz v u) (hlen:σ0.length=N.length)
  (ht:∀ cv,PE (wu P w K mg base N qual scope clos g cv A outer s H E) body t) (hq:t σ0 H Q):
  codeAny (model P w) A (.call (.ref g) ⟨[],[]⟩) (CR (eV P w) outer P w H s Q E) s:=by
 obtain⟨o,u,cv,pm,ctv,h1,h2,c',oc,uc,vs,tt,rfl,h4,h5,h6⟩:=hl;have lim:s.heap.NoLimit:=e0.mod.nolimit.keeps λb o e=>(e0.bs b o e).1
 refine PySem.W.kla_callFunE hr.depth (e0.hok g _ h1).1 h2 S.co S.gen rfl ⟨c',oc,vs,tt,rfl,(e0.hok c' _ h4).1,h5,h6⟩ ?_;rw [hbind];refine Ml (wpAny_newFunctionEnv S.nocell (λx hx=>nomatch hx) (λh1 hns hsb=>⟨?_,?_⟩) S.kind)
 ·exact lim.keeps λb o e=>(hsb.2 b (Mu (Mo e))).trans (Mk _ e)
 ·show codeAny _ _ (.expr body (PySem.W.envX qual scope s.heap.objs.size g (.ref c') clos)) _ _
  have I:=zg (qual:=qual) (g:=g) (cd:=.ref c') (E:=E) (tk:=s.toks+([]:List (Str×Nk)).length) S hr.hd e0 hc hcl hcap hlen hns hsb;refine PySem.W.kla_codeExpr (MY (ht (.ref c') [] _ σ0 H _ I hq) (λv s' hs=>?_) λe s' h=>h)
  obtain⟨v',H',J,r,q⟩:=hs;exact⟨v',H',J.os,J.bare,J.base,J.hok,r,q⟩
end
section
variable {X:Cx} {NA:List (Nl×Nz)} {σ:St} {H:Hp} {s s':Nj} {E:XK}
theorem DX {e:Nk} (hex:X.ex=[]) (hst:X.stack=X.env::X.outer) (hf:X.env.frame=some X.env.locals) (I:aI X NA σ H s) (h:eV X.prog X.w X.stack H s E e s') {Cn n:Str} {cv:Nk} {p1 hp:Pos} {b0:Nu} {suite:List Nu} {i:Nat} {Q:Flow->Nj->Prop}
  (hg:Gl X Cn) (hm:X.mg Cn=some cv) (hdb:(Cn == ("__debug__":Str))=false) (hx:∀ c d0 H',E c d0 H'->PySem.W.exmOne X.K c cv=some true) (hN:X.N.Nodup) (hi:X.N[i]?=some n) (hl:X.env.kindOf n=some .local)
  (k:∀ ea c d0 H' o vs s6,E c d0 H'->H' ea=none->o.cls=c->o.data=.fields vs->o.dict=d0->aI X NA (σ.set i (some (.ref ea))) (bL H' ea (.frz o (.ext λ_=>True))) s6->
   wpAny (model X.prog X.w) (X.A.mark (some (.ref ea))) (execs (b0::suite) X.env) (λf s7=>∃ σ7 H7,aI X NA σ7 H7 s7/\∀ s8,aI X NA (σ7.set i none) H7 s8->Q f s8) mq s6):
  wpAny (model X.prog X.w) X.A (noteFrame e X.env) (λ_ s2=>wpAny (model X.prog X.w) X.A (setFlight e none) (λ_ s3=>wpAny (model X.prog X.w) X.A (handleBy e X.env [.ExceptHandler (some (.Name Cn p1)) (some n) (b0::suite) hp]) Q X.xe s3) X.xe s2) X.xe s':=by
 obtain⟨ea,cls,a0,H',B,rfl,os,bare,flc,hok,hB,hB2,un,q⟩:=h;have fl:=flc.1;have fr0:X.A.frames=some (X.env::X.outer):=by rw [<- hst]; exact I.ok.frames
 have fl0:oH B (X.env::X.outer) ea cls a0 s'.heap:=by rw [<- hst]; exact flc
 refine qk fr0 hf fl0 λh4 held4 up4=>?_
 refine jL held4 λh5 fl5 up5=>?_
 have up45:=up4.trans up5;have I5:=I.landed os bare fl (by rw [hst]; exact fl5.1) up45 hok hB hB2 un
 obtain⟨ob,hob,hobc⟩:=fl5.1.there;have nfr:ea∉fc X.stack:=λz=>by
  obtain⟨_,o2,e2,d2⟩:=fl.2.2.1.mem z;obtain⟨oe,vs,T,oT,ts,w1,w2,w3,w4⟩:=fl.2.2.2;rw [w1] at e2;cases e2;exact d2 _ w3
 have nB:B.get? ea=none:=fl.2.1;have nw:∀ b o,s.heap.get? b=some o->b≠ea:=λb o z y=>by
  subst y;obtain⟨o',z'⟩:=hB2 b o z nfr;rw [nB] at z';cases z'
 have hn:H' ea=none:=by
  cases y:H' ea with
  | none=>rfl
  | some u=>
   obtain⟨o',z'⟩:=(hok ea u y).there;rw [nB] at z';cases z'
 have h0:X.s₀.heap.get? ea=none:=by
  cases y:X.s₀.heap.get? ea with
  | none=>rfl
  | some u=>
   obtain⟨o',z'⟩:=I.base.there ea u y (by rw [hex]; simp)
   exact absurd rfl (nw ea o' z')
 have nlo:ea≠X.env.locals:=λz=>nfr (by rw [hst,z]; unfold fc; rw [List.filterMap_cons,hf]; exact Mv)
 have ncl:∀ x c,X.env.cells.lookup x=some c->c≠ea:=λx c z=>by
  obtain⟨v,o,z2,_⟩:=I.cell x c z;exact nw c o z2
 have LT:PySem.W.Looks (model X.prog X.w) h5 (typeOf (.ref ea)) cls:=by
  subst hobc;exact(PySem.W.Looks.ld hob).andThen .now
 have I5m:=I5.marked (.ref ea) (mq:Nk->Nj->Prop);refine wpAny_handleBy_cons (codeAny_handlers_test (fh (X:=X.marked (.ref ea) mq) (I5.marked (.ref ea) _) hg hm ?_ hdb)) (by intro z; cases z)
 refine PySem.W.exm_one I5.kIn LT (hx cls a0.2 H' q) _ _ _ _ (λ_ _ z=>z) ?_
 refine codeAny_handlers_suite_as ?_;refine vP none fl5.1.1 fl5.1.2.1 fl5.1.2.2.1 fl5.1.2.2.2.at fl5.2 λh6 y1 y2 y3 y4 up6=>?_
 have fl6:Heap.FlyingW B (X.env::X.outer) ea cls a0.1 h6:=⟨y1,fl5.1.2.1,y2,y3⟩;have I6:=I.landed os bare fl (by rw [hst]; exact fl6) (up45.trans up6) hok hB hB2 un
 obtain⟨o6,ho6,hc6⟩:=fl6.there;obtain⟨oc,vc,v2,gc,dc,_,_,dk⟩:=y4;rw [ho6] at gc;cases gc;have I7:=I6.freeze ho6 hn h0 nlo ncl (λp z=>nw p.1 p.2 (I.pin p z).1)
 refine fY (v:=.ref ea) I7 hN hi (.inl hl) rfl (λs7 I8=>?_) (.inr hl)
 exact MY (k ea cls a0.2 H' o6 vc s7 q hn hc6 dc dk I8) (λf s8 ⟨σ7,H7,I9,kk⟩=>uP I9 hN hi hl kk) λ_ _ z=>z.elim
end
def F7 (cells:List (Nl×Nz)) (P:Np) (w:Nr) (K:PySem.W.Frag) (mg:Str->Nm Nk) (base:Nt) (m:Nat) (cv:Nk) (cB:Nl) (j i ix:Nat):TS:=λD σ H=>∃ g E,σ[j]?=some (some (.ref g))/\Fp cells P w K mg base m g H (λ_ _=>False) E/\(∀ c d0 H',E c d0 H'->PySem.W.exmOne K c cv=some true)/\
 ∀ ea c d0 H' o vs,E c d0 H'->DL.Kp H H'->H' ea=none->o.cls=c->o.data=.fields vs->o.dict=d0->Ig cB i ix ⟨fun σ7 H7=>D.nx (σ7.set i none) H7,D.rt,fun σ7 H7=>D.bk (σ7.set i none) H7,fun σ7 H7=>D.ct (σ7.set i none) H7⟩ (σ.set i (some (.ref ea))) (bL H' ea (.frz o (.ext λ_=>True)))
theorem CL {X:Cx} {x Cn n y:Str} {cv:Nk} {cB:Nl} {xp cp ep p1 hp pos xp2 np2 ap2 pos2:Pos} {j i ix m:Nat} {cells:List (Nl×Nz)} (hB:sj X.K cB=true) (hce:hU cells X.outer X.H₀ X.s₀.heap) (hr:bE m X.A) (hd:X.calm=true->X.A.handled=none) (hex:X.ex=[]) (hst:X.stack=X.env::X.outer) (hf:X.env.frame=some X.env.locals) (hx:X.N[j]?=some x) (hv:tU X.env.scope x)
  (hg:Gl X Cn) (hm:X.mg Cn=some cv) (hN:X.N.Nodup) (hi:X.N[i]?=some n) (hl:X.env.kindOf n=some .local) (hix:X.N[ix]?=some y) (hxl:AI X.env.scope y)
  (hdb:(Cn == ("__debug__":Str))=false:=by decide) (hdx:(x == ("__debug__":Str))=false:=by decide) (hcx:(x == ("__classdict__":Str))=false:=by decide) (hsw:swapsWith (.Call (.Name x xp) [] [] cp) none ep.line X.env=pure false:=by rfl)
  (hfx:X.fn y=true\/X.env.scope.names.lookup y=some .local:=by first | exact .inl rfl | exact .inr rfl | assumption)
  (hsw2:swapsWith (.Attribute (.Name n np2) "step" ap2) (some (.Name y xp2)) pos2.line X.env=pure false:=by rfl) (hbase:attributeBase (.Name n np2) "step" X.env (eval (.Name n np2) X.env)=eval (.Name n np2) X.env:=by rfl) (hdn:(n == ("__debug__":Str))=false:=by decide) (hcdn:(n == ("__classdict__":Str))=false:=by decide):
  PS X (.Try [.Expr (.Call (.Name x xp) [] [] cp) ep] [.ExceptHandler (some (.Name Cn p1)) (some n) [.Assign [.Name y xp2] (.Attribute (.Name n np2) "step" ap2) pos2] hp] [] [] pos) (F7 cells X.prog X.w X.K X.mg X.base m cv cB j i ix):=by
 intro NA s σ H D I h;obtain⟨g,E,e,F,hE,k⟩:=h;refine wpAny_Try_except (wpAny_execs_cons (wpAny_Expr_any ?_ I.quiet hsw));refine wpAny_Call_Name_kw (yl I hx hv e (λu r=>?_) hdx hcx)
 cases r;obtain⟨o,u,fd,e1,e2⟩:=F.fn;obtain⟨q,_⟩:=(show dO X.prog X.w H s.heap g (.frz o u) from I.hok g _ e1)
 refine rF q e2 (wpAny_call (codeAny_mono (F.run X.A X.stack s hr I.env0 (I.cells hex hce)) λr s' z=>?_))
 cases r with
 | ok fl=>
  cases fl with
  | ret u=>obtain⟨_,_,_,_,_,_,_,q⟩:=z; exact q.elim
  | next=>exact z.elim
  | brk=>exact z.elim
  | cont=>exact z.elim
 | error e=>
  refine DX hex hst hf I (DL.yo z) hg hm hdb (λc d0 H' z=>hE c d0 H' z.1) hN hi hl λea c d0 H' o vs s6 y1 y2 y3 y4 y5 I6=>?_
  refine cu (GQ (X:=X.marked (.ref ea) mq) hB hN hix hxl hi (.inl hl) hfx hsw2 hbase hdn hcdn NA s6 _ _ _ (I6.marked (.ref ea) mq) (k ea c d0 H' o vs y1.1 y1.2 y2 y3 y4 y5)) λf s7 y=>?_
  cases f with
  | next=>
   obtain⟨σ7,H7,I7,q⟩:=y;exact⟨σ7,H7,I7.unmarked hd,λs8 I8=>⟨_,_,I8,q⟩⟩
  | brk=>
   obtain⟨σ7,H7,I7,q⟩:=y;exact⟨σ7,H7,I7.unmarked hd,λs8 I8=>⟨_,_,I8,q⟩⟩
  | cont=>
   obtain⟨σ7,H7,I7,q⟩:=y;exact⟨σ7,H7,I7.unmarked hd,λs8 I8=>⟨_,_,I8,q⟩⟩
  | ret v=>
   obtain⟨v,σ7,H7,I7,r,q⟩:=y;exact⟨σ7,H7,I7.unmarked hd,λs8 I8=>⟨v,_,H7,I8,r,q⟩⟩
end L2
namespace DL
open PySem PySem.Spec PyProof.Rows L2
def AW (cells:List (Nl×Nz)) (P:Np) (w:Nr) (K:Fg) (mg:Str->Nm Nk) (base:Nt) (m:Nat) (g:Nl) (H:Hp) (S:DH) (x:Er->DH->Prop):Prop:=
 Hs K H S->Fp cells P w K mg base m g H (λ_ _=>False) (vJ K x)
def KI (cB:Nl) (k:DK):Er->DH->Prop:=λr S'=>r.1=cB/\∃ iv,r.2=some iv/\k (.int iv) S'
def Gg (cells:List (Nl×Nz)) (P:Np) (w:Nr) (K:Fg) (mg:Str->Nm Nk) (base:Nt) (m:Nat) (cv:Nk) (cB:Nl) (j i ix:Nat):DS:=λM L S=>∃ g φ,L[j]?=some (some (.ref g))/\S g=some (.fn φ)/\PySem.W.exmOne K (.ref cB) cv=some true/\∀ H,φ H->AW cells P w K mg base m g H S (KI cB λd S'=>M.nx ((L.set ix (some d)).set i none) S')
theorem xJ {X:Cx} {x Cn n y:Str} {cv:Nk} {cB:Nl} {xp cp ep p1 hp pos xp2 np2 ap2 pos2:Pos} {j i ix m:Nat} {cells:List (Nl×Nz)} (hB:sj X.K cB=true) (hce:hU cells X.outer X.H₀ X.s₀.heap) (hr:bE m X.A) (hd:X.calm=true->X.A.handled=none) (hex:X.ex=[]) (hst:X.stack=X.env::X.outer) (hf:X.env.frame=some X.env.locals) (hx:X.N[j]?=some x) (hv:tU X.env.scope x)
  (hg:Gl X Cn) (hm:X.mg Cn=some cv) (hN:X.N.Nodup) (hi:X.N[i]?=some n) (hl:X.env.kindOf n=some .local) (hix:X.N[ix]?=some y) (hxl:AI X.env.scope y)
  (hdb:(Cn == ("__debug__":Str))=false:=by decide) (hdx:(x == ("__debug__":Str))=false:=by decide) (hcx:(x == ("__classdict__":Str))=false:=by decide) (hsw:swapsWith (.Call (.Name x xp) [] [] cp) none ep.line X.env=pure false:=by rfl)
  (hfx:X.fn y=true\/X.env.scope.names.lookup y=some .local:=by first | exact .inl rfl | exact .inr rfl | assumption) (hne:i≠ix:=by decide)
  (hsw2:swapsWith (.Attribute (.Name n np2) "step" ap2) (some (.Name y xp2)) pos2.line X.env=pure false:=by rfl) (hbase:attributeBase (.Name n np2) "step" X.env (eval (.Name n np2) X.env)=eval (.Name n np2) X.env:=by rfl) (hdn:(n == ("__debug__":Str))=false:=by decide) (hcdn:(n == ("__classdict__":Str))=false:=by decide):
  SJ X (.Try [.Expr (.Call (.Name x xp) [] [] cp) ep] [.ExceptHandler (some (.Name Cn p1)) (some n) [.Assign [.Name y xp2] (.Attribute (.Name n np2) "step" ap2) pos2] hp] [] [] pos) (Gg cells X.prog X.w X.K X.mg X.base m cv cB j i ix):=by
 refine⟨λNA s σ H N I ⟨L,S,M,hL,hS,h,r⟩=>CL hB hce hr hd hex hst hf hx hv hg hm hN hi hl hix hxl hdb hdx hcx hsw hfx hsw2 hbase hdn hcdn NA s σ H N I ?_⟩
 obtain⟨g,φ,e,z,hc,hφ⟩:=h;obtain⟨v,e1,e2⟩:=hL.get e;have e3:=cf.mp e2;subst e3;obtain⟨_,af⟩:=hS _ _ z;refine⟨g,_,e1,hφ H (af H (Kp.refl H)) hS,?_,?_⟩
 ·rintro c d0 H' ⟨r',S',rfl,⟨er,_⟩,_⟩;rw [er];exact hc
 ·rintro ea c d0 H' o vs ⟨r',S',rfl,⟨er,iv,e2,q⟩,zs,st⟩ kp hn ho hfd hdk;have k2:Kp H (bL H' ea (.frz o (.ext λ_=>True))):=kp.trans (Kp.new hn)
  obtain⟨dx,ed,hdx⟩:=st iv e2;have nd:dx≠ea:=λy=>by rw [y,hn] at hdx; cases hdx
  have li:i < σ.length:=by rw [I.len]; exact(MX.mp hi).1
  refine⟨ea,o,_,dx,vs,iv,by rw [List.getElem?_set_self li],bp,by rw [ho,er],hfd,by rw [hdk,ed],by rw [aF nd]; exact hdx,?_⟩
  have eσ:((σ.set i (some (.ref ea))).set ix (some (.int iv))).set i none=(σ.set ix (some (.int iv))).set i none:=by rw [List.set_comm _ _ hne,List.set_set]
  show N.nx (((σ.set i (some (.ref ea))).set ix (some (.int iv))).set i none) _
  rw [eσ];exact r.nx _ _ _ _ q k2 (((hL.kp k2).set (isInt.mpr rfl) ix).unset i) (zs.new hn)
section
variable {P:Np} {w:Nr} {K:Fg} {mg:Str->Nm Nk} {base:Nt} {N:List Str} {qual:Str} {scope:Scope} {clos:List (Str×Nl)} {g:Nl} {cd:Nk} {A:Nq} {outer:List Env} {s:Nj} {H:Hp} {ex:Er->DH->Prop}
theorem KM {cells:List (Nl×Nz)} {params:Arguments} {body:No} {n:Nat} {σ0:L2.St} {L0:Lo} {gb:(Er->DH->Prop)->DE} {S:DH} (hl:i_ qual params body scope clos g H) (Sc:uU scope clos N) (hbind:∀ pm cv ctv,bindArgs (PySem.W.kla_fn "<lambda>" qual params body scope clos pm cv ctv) ⟨[],[]⟩=pure [])
  (hcl:∀ p∈clos,∃ o v,(p.2,o)∈cells/\o.data=.cell v) (hcap:∀ (i:Nat) (x:Str) (v:V),N[i]?=some x->σ0[i]?=some (some v)->∃ c o u,clos.lookup x=some c/\(c,o)∈cells/\o.data=.cell (some u)/\bz v u) (hlen:σ0.length=N.length) (hL:Lc K H L0 σ0)
  (hb:∀ (ex:Er->DH->Prop) (A:Nq) (outer:List Env) (s:Nj) (cv:Nk),bE n (A.deeper (PySem.W.envX qual scope s.heap.objs.size g cv clos))->EJ (wu P w K mg base N qual scope clos g cv A outer s H (vJ K ex)) body (gb ex))
  (hra:gb ex L0 S λ_ _=>False):AW cells P w K mg base (n+1) g H S ex:=by
 intro hS;obtain⟨o,u,cv,pm,ctv,q1,q2,q3⟩:=id hl;refine⟨⟨o,u,_,q1,q2⟩,λA outer s hr e0 hc=>?_⟩
 exact B7 (E:=vJ K ex) (t:=up K (gb ex)) (n:=n) hl Sc hbind hr e0 hc hcl hcap hlen (λcv=>(hb _ A outer s cv (hr.deeper _)).h) ⟨L0,S,_,hL,hS,hra,λd S' v H' q kp hs i=>q.elim⟩
end
def HX (cC:Nl) (m:Nat) (P:Np) (w:Nr) (K:Fg) (mg:Str->Nm Nk) (base:Nt) (cells:List (Nl×Nz)):cr:=λds S k=>
 ∃ g φ,ds=[.ref g]/\S g=some (.fn φ)/\∀ H,φ H->AW cells P w K mg base m g H S (KI cC k)
def KY (cC:Nl) (qual:Str) (params:Arguments) (body:No) (scope:Scope) (clos:List (Str×Nl)) (cap:List (Nm Nat)) (gb:(Er->DH->Prop)->DE) (L:Lo) (k:DK) (d:D) (S1:DH):Prop:=∃ (g:Nl),d=.ref g/\S1 g=some (.fn (i_ qual params body scope clos g))/\
 ∀ S,(∀ b o,b≠g->S1 b=some o->S b=some o)->gb (KI cC k) (tN cap L) S λ_ _=>False
def LA (cC:Nl) (qual:Str) (params:Arguments) (body:No) (scope:Scope) (clos:List (Str×Nl)) (cap:List (Nm Nat)) (gb:(Er->DH->Prop)->DE) (ge:DE):DE:=λL S k=>ge L S λd S1=>KY cC qual params body scope clos cap gb L k d S1
section
variable {X:Cx} {qual:Str} {params:Arguments} {body:No} {scope:Scope} {clos:List (Str×Nl)} {p pos:Pos}
theorem JZ {x:Str} {n m:Nat} {e:No} {ge:DE} {cC:Nl} {N:List Str} {cap:List (Nm Nat)} {gb:(Er->DH->Prop)->DE} (c:uj X.prog X.w X.K X.mg X.base x n (HX cC (m+1) X.prog X.w X.K X.mg X.base)) (hr:bE n X.A) (hg:Gl X x)
  (Lc0:rX X scope clos N cap) (hbind:∀ pm cv ctv,bindArgs (PySem.W.kla_fn "<lambda>" qual params body scope clos pm cv ctv) ⟨[],[]⟩=pure [])
  (hb:∀ (g:Nl) (H:Hp) (ex:Er->DH->Prop) (A:Nq) (outer:List Env) (s:Nj) (cv:Nk),bE m (A.deeper (PySem.W.envX qual scope s.heap.objs.size g cv clos))->EJ (wu X.prog X.w X.K X.mg X.base N qual scope clos g cv A outer s H (vJ X.K ex)) body (gb ex))
  (he:EJ X e ge) (hmono:GZ ge) (hdb:(x == ("__debug__":Str))=false:=by decide) (hst:starEach [e] X.env=[(false,eval e X.env)]:=by rfl) (hpl:(backTo pos (starEach [] X.env)).any (·.1)=false:=by rfl):
  EJ X (.Call (.Name x p) [e] [] pos) (LA cC qual params body scope clos cap gb ge):=by
 obtain⟨f,fd,ps,F1,hm,hk,hbd⟩:=c.ex;refine⟨λNA s σ H Q I h=>?_⟩
 obtain⟨L,S,k,hL,hS,h,nn⟩:=h;have ha:PA X [e] (qR X.K (cH ge ku)):=(aa he ac hst).h;have h2:qR X.K (cH ge ku) σ H λvs H1=>∃ d S1,IsDs X.K H1 [d] vs/\Kp H H1/\Lc X.K H1 L σ/\Hs X.K H1 S1/\KY cC qual params body scope clos cap gb L k d S1:=by
  refine⟨L,S,λds S1=>∃ d,ds=[d]/\KY cC qual params body scope clos cap gb L k d S1,hL,hS,?_,?_⟩
  ·exact hmono L S _ _ (λd S1 q=>⟨d,rfl,q⟩) h
  ·rintro ds S1 vs H1 ⟨d,rfl,q⟩ k1 hS1 i1;exact⟨d,S1,i1,k1,hL.kp k1,hS1,q⟩
 refine wpAny_Call_Name_kw (fh I hg hm ?_ hdb);refine PySem.W.callWith_K (h₀:=X.base) I.ok.mod.kin hk (cu (ha pos NA s σ H _ I h2) λus s1 ⟨vs,H1,I1,r,q⟩=>⟨I1.kIn,?_⟩) hst hpl
 obtain⟨d,S1,i1,k1,hL1,hS1,g,rfl,hg1,hra⟩:=q;obtain⟨⟨og,ug,hog⟩,hφ⟩:=hS1 _ _ hg1;have LS:=Lc0.sc λx y c e1 e2=>I1.ok.inj x y c (Lc0.sub _ (M3 e1)) (Lc0.sub _ (M3 e2))
 have cel:∀ p∈clos,∃ o v,s1.heap.get? p.2=some o/\o.data=.cell v:=λp hp=>by
  obtain⟨v,o,q1,q2⟩:=I1.cell p.1 p.2 (Lc0.sub p hp);exact⟨o,v,q1,q2⟩
 let cells:List (Nl×Nz):=clos.filterMap λp=>(s1.heap.get? p.2).map λo=>(p.2,o)
 have inC:∀ p∈clos,∀ o,s1.heap.get? p.2=some o->(p.2,o)∈cells:=λp hp o e=>List.mem_filterMap.mpr ⟨p,hp,by rw [e]; rfl⟩
 have hce:hU cells X.stack H1 s1.heap:=λq hq=>by
  obtain⟨p,hp,e⟩:=List.mem_filterMap.mp hq;obtain⟨o,v,e1,e2⟩:=cel p hp;rw [e1] at e;cases e;refine⟨e1,I1.freeC p.1 p.2 (Lc0.sub p hp),λz=>?_⟩
  rcases Mt.mp (I1.stkSub p.2 z) with z | z
  ·exact I1.cne p.1 p.2 (Lc0.sub p hp) z
  ·obtain⟨_,o2,e3,_⟩:=I1.ok.funs.mem z;exact absurd (Mz (Mo e3) (I1.ok.cab p.1 p.2 (Lc0.fn p hp) (Lc0.sub p hp))) (Na _)
 have hcl:∀ p∈clos,∃ o v,(p.2,o)∈cells/\o.data=.cell v:=λp hp=>by
  obtain⟨o,v,e1,e2⟩:=cel p hp;exact⟨o,v,inC p hp o e1,e2⟩
 have hcap:∀ (i:Nat) (x:Str) (v:V),N[i]?=some x->(fN cap σ)[i]?=some (some v)->∃ c o u,clos.lookup x=some c/\(c,o)∈cells/\o.data=.cell (some u)/\bz v u:=λi x v e1 e2=>by
  obtain⟨j,c1,c2⟩:=qb e2;obtain⟨d1,d2⟩:=Lc0.caps i j x c1 e1;obtain⟨m0,_,l0⟩:=I1.loc;obtain⟨u,ru,lk⟩:=l0 j x v d1 c2 (d2.elim (λz=>.inr (.inl z)) λz=>.inr (.inr z))
  rcases lk with ⟨z,_⟩ | ⟨_,c,z1,o,z2,z3⟩
  ·have z:X.env.scope.names.lookup x=some .local:=z;rcases d2 with q | q <;> (rw [q] at z; cases z)
  ·obtain⟨c',q⟩:=LS.has x (LS.free x (List.mem_of_getElem? e1));have q2:=Lc0.sub _ (M3 q);have q2:X.env.cells.lookup x=some c':=q2;rw [z1] at q2;cases q2;exact⟨c,o,u,q,inC (x,c) (M3 q) o z2,z3,ru⟩
 have hlen:(fN cap σ).length=N.length:=by unfold fN; rw [Mq]; exact Lc0.len
 have hL0:Lc X.K H1 (tN cap L) (fN cap σ):=hL1.cap cap
 let φ':Hp->Prop:=λH'=>i_ qual params body scope clos g H'/\Lc X.K H' (tN cap L) (fN cap σ)
 have hS2:Hs X.K H1 (put S1 g (.fn φ')):=λa o e=>by
  by_cases y:a=g
  ·subst y;rw [ak] at e;cases e;exact⟨⟨og,ug,hog⟩,λH2 k2=>⟨(hφ H2 k2),hL0.kp k2⟩⟩
  ·rw [bw y] at e;exact hS1 a o e
 have hsp:cY X.K (HX cC (m+1) X.prog X.w X.K X.mg X.base cells) vs H1 Q E0:=by
  refine⟨[.ref g],put S1 g (.fn φ'),k,i1,hS2,⟨g,φ',rfl,ak,λH2 z=>?_⟩,λd' S' v H' q k2 hs' i'=>nn _ _ _ _ q (k1.trans k2) hs' i'⟩
  exact KM z.1 LS hbind hcl hcap hlen z.2 (λex A outer s cv hr=>hb g H2 ex A outer s cv hr) (hra _ λb o y e=>by rw [bw y]; exact e)
 have hl:us.length=ps.length:=by rw [<- r.length]; exact(F1 cells).len _ _ _ _ hsp
 have hbs:=hbd s1 us I1.kIn (by rw [MJ]; exact hl)
 rw [MJ] at hbs;refine wpAny_call (codeAny_mono ((F1 cells).run X.A X.stack s1 H1 ⟨us,[]⟩ us vs Q E0 hr I1.env0 hce hbs r hsp) λr s' hq=>?_)
 cases r with
 | error e=>exact(Bl NA σ H1 s1 e s' I1 hq)
 | ok fl=>
  cases fl with
  | ret u=>exact I1.after hq
  | next=>exact False.elim hq
  | brk=>exact False.elim hq
  | cont=>exact False.elim hq
end
theorem Hd {X:Cx} {params:Arguments} {body:No} {scope:Scope} {clos:List (Str×Nl)} {p pos lpos:Pos} {x:Str} {n m:Nat} {cC:Nl} {N:List Str} {cap:List (Nm Nat)} {gb:(Er->DH->Prop)->DE} {c P:Nl} (hcl:closureFor scope X.env=pure clos) (hdef:defaultsOf params X.env=([],[]))
  (c0:uj X.prog X.w X.K X.mg X.base x n (HX cC (m+1) X.prog X.w X.K X.mg X.base)) (hr:bE n X.A) (hg:Gl X x) (hC:PySem.W.CodeHd X.base c P) (hbl:lC X.mg X.base) (hcode:X.env.code=.ref c)
  (Lc0:rX X scope clos N cap) (hbind:∀ pm cv ctv,bindArgs (PySem.W.kla_fn "<lambda>" (X.env.qual++"<lambda>") params body scope clos pm cv ctv) ⟨[],[]⟩=pure [])
  (hb:∀ (g:Nl) (H:Hp) (ex:Er->DH->Prop) (A:Nq) (outer:List Env) (s:Nj) (cv:Nk),bE m (A.deeper (PySem.W.envX (X.env.qual++"<lambda>") scope s.heap.objs.size g cv clos))->EJ (wu X.prog X.w X.K X.mg X.base N (X.env.qual++"<lambda>") scope clos g cv A outer s H (vJ X.K ex)) body (gb ex))
  (hdb:(x == ("__debug__":Str))=false:=by decide) (hst:starEach [.Lambda params body scope lpos] X.env=[(false,eval (.Lambda params body scope lpos) X.env)]:=by rfl) (hpl:(backTo pos (starEach [] X.env)).any (·.1)=false:=by rfl):
  EJ X (.Call (.Name x p) [.Lambda params body scope lpos] [] pos) (LA cC (X.env.qual++"<lambda>") params body scope clos cap gb (D6 P (X.env.qual++"<lambda>") params body scope clos)):=
 JZ c0 hr hg Lc0 hbind hb (Bp hC hbl hcode hdef hcl) wA hdb hst hpl
end DL
namespace My
abbrev FN (K:PySem.W.Frag) (n:PySem.Str) (st:PySem.Stmt) (f:PySem.Addr) (fd:PySem.FuncData):=L2.rC K n n st f fd
variable {P:Np} {w:Nr} {K:Fg} {mg:Str->Nm Nk} {base:Nt} {f:Nl} {fd:FuncData}
open PySem PySem.Spec PyProof.Rows L2 DL HM
set_option maxHeartbeats 4000000
def ek (i : Nat) : Nu := PySem.Challenge.pw_hingedraw_k42_stands.main.body.getD i (.Pass ⟨0, 0, 0, 0⟩)
abbrev gz:Nu:=ek 14
abbrev vx:Nu:=ek 15
abbrev yx:Nu:=ek 16
abbrev vO:Nu:=ek 17
abbrev vi:Nu:=ek 18
abbrev xB:Nu:=ek 19
abbrev nW:Nu:=ek 20
abbrev iV:Nu:=ek 21
abbrev kY:Nu:=ek 22
abbrev dU:Nu:=ek 23
abbrev qC:Nu:=ek 24
abbrev m7:Nu:=ek 26
abbrev ir:Nu:=ek 27
abbrev xK:Nu:=ek 28
abbrev j6:Nu:=ek 30
abbrev wa:Nu:=ek 31
abbrev sh:Nu:=ek 32
abbrev gZ:Nu:=ek 33
abbrev lS:Nu:=ek 34
abbrev kH:Nu:=ek 35
abbrev ka:Nu:=ek 36
abbrev jk:Nu:=ek 42
abbrev jw:Nu:=ek 39
abbrev ni:Nu:=ek 40
abbrev lM:Nu:=ek 44
abbrev fR:Nu:=ek 45
abbrev vZ:Nu:=ek 46
abbrev gT:Nu:=ek 47
abbrev kQ:Nu:=ek 48
abbrev dJ:Nu:=ek 49
abbrev mh:Nu:=ek 29
abbrev fj:Nu:=ek 41
abbrev fT:Nu:=ek 50
abbrev iO:Nu:=ek 52
abbrev lQ:Nu:=ek 53
abbrev gE:Nu:=ek 38
abbrev ib:Nu:=ek 54
abbrev mD:Nu:=ek 43
abbrev iQ:Nu:=ek 57
abbrev kK:Nu:=ek 58
abbrev l_:Nu:=ek 59
abbrev iA:Nu:=ek 60
abbrev j9:Nu:=ek 61
abbrev jZ:Nu:=ek 64
abbrev kE:Nu:=ek 66
abbrev lY:Nu:=ek 62
abbrev kI:Nu:=ek 63
abbrev mj:Nu:=ek 65
abbrev gy:Nu:=ek 72
abbrev fO:Nu:=ek 73
abbrev kl:Nu:=ek 67
abbrev fX:Nu:=ek 68
abbrev gu:Nu:=ek 69
abbrev iG:Nu:=ek 70
abbrev rm:Nu:=ek 55
abbrev fM:Nu:=ek 75
abbrev gf:Nu:=ek 74
abbrev kB:Nu:=ek 76
abbrev km:Nu:=ek 77
abbrev gm:Nu:=ek 80
abbrev fu:Nu:=ek 81
abbrev gX:Nu:=ek 78
abbrev f':Nu:=ek 79
abbrev kb:Nu:=ek 82
abbrev jd:Nu:=ek 83
abbrev iJ:Nu:=ek 84
abbrev jv:Nu:=ek 71
abbrev gY:Nu:=ek 86
abbrev lG:Nu:=ek 85
abbrev kR:Nu:=ek 87
abbrev A3:Nu:=ek 88
abbrev yJ:Nu:=E1 (ek 6) 0
theorem A0:av ["self","step"] ["self","step"] (am yJ):=ej
theorem sJ:bootBuiltins "abs"=some (.builtin "abs"):=by decide +kernel
theorem jD:bootBuiltins "len"=some (.builtin "len"):=by decide +kernel
theorem CF:bootBuiltins "range"=some (.type "range"):=by decide +kernel
theorem jH:bootBuiltins "tuple"=some (.type "tuple"):=by decide +kernel
theorem aT:bootBuiltins "isinstance"=some (.builtin "isinstance"):=by decide +kernel
theorem vt:bootBuiltins "list"=some (.type "list"):=by decide +kernel
theorem GK:bootBuiltins "all"=some (.builtin "all"):=by decide +kernel
theorem yQ:bootBuiltins "bool"=some (.type "bool"):=by decide +kernel
theorem uy:bootBuiltins "ValueError"=some (.type "ValueError"):=by decide +kernel
theorem GH:bootBuiltins "int"=some (.type "int"):=by decide +kernel
theorem GW:bootBuiltins "max"=some (.builtin "max"):=by decide +kernel
theorem Hq:bootBuiltins "min"=some (.builtin "min"):=by decide +kernel
theorem Ge {y:Int} {A B:Prop} (h1:y≠0->A) (h2:y=0->B):if (!decide (y=0))=true then A else B:=by
 by_cases h:y=0
 ·rw [if_neg (by simp [h])]; exact h2 h
 ·rw [if_pos (by simp [h])]; exact h1 h
theorem aN {p:Prop} [Decidable p] {A B:Prop} (h1:p->A) (h2:¬ p->B):if decide p=true then A else B:=by
 by_cases h:p
 ·rw [if_pos (by simp [h])]; exact h1 h
 ·rw [if_neg (by simp [h])]; exact h2 h
theorem cZ {p:Prop} [Decidable p] {A B:Prop} (h1:¬ p->A) (h2:p->B):if (!decide p)=true then A else B:=by
 by_cases h:p
 ·rw [if_neg (by simp [h])]; exact h2 h
 ·rw [if_pos (by simp [h])]; exact h1 h
theorem n9 {c:Nw} {A B:Prop} (h1:c=true->A) (h2:c=false->B):if c=true then A else B:=by
 cases c
 ·exact EM (h2 rfl)
 ·exact vg (h1 rfl)
theorem nc {c:Nw} {A B:Prop} (h1:c=false->A) (h2:c=true->B):if (!c)=true then A else B:=by
 cases c
 ·exact vg (h1 rfl)
 ·exact EM (h2 rfl)
theorem kT {ds:List D} {i:Int} (h0:0<=i) (h1:i < (ds.length:Int)):∃ d,L2.atI ds i=some d/\d∈ds:=by
 obtain⟨n,rfl⟩:=Int.eq_ofNat_of_zero_le h0;have hn:n < ds.length:=by omega
 exact⟨ds[n],h_ (by simp [hn]),List.getElem_mem hn⟩
theorem wI {ok:DH->Prop} {g:DG} {b:DS} {M:oY} {P:D->Prop} (Iv:Lo->DH->Prop) (hok:∀ L S,Iv L S->ok S)
  (hs:∀ d L S N,P d->Iv L S->(∀ L' S',Iv L' S'->N L' S')->g d L S λL1 S1=>b {M with nx:=N,ct:=N,bk:=M.nx} L1 S1) (hd:∀ L S,Iv L S->M.nx L S):∀ r,(∀ d∈r,P d)->∀ L S,Iv L S->hV ok g b M r L S
 | [],_,L,S,i=>⟨hok L S i,hd L S i⟩
 | d::r,hp,L,S,i=>⟨hok L S i,hs d L S _ (hp d Mv) i λL' S' i'=>wI Iv hok hs hd r (λe he=>hp e (Mw _ he)) L' S' i'⟩
instance {n:Nat} {x:Int}:Decidable (Bt n x):=inferInstanceAs (Decidable (x.natAbs < 2 ^ n))
theorem a9 {ds:List D} (h:Nat.ble ds.length sizeLine=true:=by rfl):ds.length<=sizeLine:=MF h
def sL (S:DH) (a:Nl):Prop:=∃ n b,S a=some (.lst [.int n,.bl b])/\(b=false->0<=n/\n < 2147483647)
def Dr (a:Nl) (S S':DH):Prop:=sL S' a/\∀ b o,b≠a->S b=some o->S' b=some o
theorem Dr.trans {a:Nl} {S S1 S2:DH} (h1:Dr a S S1) (h2:Dr a S1 S2):Dr a S S2:=⟨h2.1,λb o n e=>h2.2 b o n (h1.2 b o n e)⟩
theorem sL.ne {a p:Nl} {S:DH} (h:sL S a) (hp:S p=none):p≠a:=by
 obtain⟨n,b,e,_⟩:=h;intro z;subst z;rw [e] at hp;cases hp
theorem sL.new {a p:Nl} {S:DH} {o:DO} (h:sL S a) (hp:S p=none):sL (put S p o) a:=by
 have z:=h.ne hp;obtain⟨n,b,e,q⟩:=h;exact⟨n,b,by rw [bw (Ne.symm z)]; exact e,q⟩
theorem Dr.new {a p:Nl} {S:DH} {o:DO} (h:sL S a) (hp:S p=none):Dr a S (put S p o):=
 ⟨h.new hp,λb u n e=>by rw [bw (BI e hp)]; exact e⟩
theorem zD {x:Int} (h1:0<=x) (h2:x < 2147483648):Bt 31 x:=by
 unfold Bt;omega
def N (u a b:Rat):D:=.tup [fr a,fr (ss b*u)]
structure Fd (u:Rat):Prop where
 pos:0 < u
 no:fW u
 sz:Sz 6700000 u
structure Sm (n:Nat) (a b:Rat):Prop where
 a:Sz n a
 b:Sz n b
theorem Sm.mono {m n:Nat} {a b:Rat} (h:Sm m a b) (hm:m<=n):Sm n a b:=⟨h.a.mono hm,h.b.mono hm⟩
theorem Sm.add {m n:Nat} {a b c d:Rat} (h:Sm m a b) (h':Sm n c d):Sm (m+n+1) (a+c) (b+d):=⟨h.a.add h'.a,h.b.add h'.b⟩
theorem Sm.sub {m n:Nat} {a b c d:Rat} (h:Sm m a b) (h':Sm n c d):Sm (m+n+1) (a - c) (b - d):=⟨h.a.sub h'.a,h.b.sub h'.b⟩
theorem Hm {q:Rat}:D.tup [.int (-q.num),.int (q.den:Int)]=fr (-q):=by
 show _=D.tup [.int (-q).num,.int ((-q).den:Int)]
 rw [Rat.neg_num,Rat.neg_den]
theorem IX {q:Rat}:D.tup [.int (if q.num < 0 then -q.num else q.num),.int (q.den:Int)]=fr (ab q):=by
 show _=D.tup [.int (ab q).num,.int ((ab q).den:Int)]
 rw [GX,FP]
theorem CZ {n:Nat} {t b:Int} (h:b≠0) (hb:Bt n b):Bt n ((Int.gcd t b:Nat):Int):=by
 refine hb.le ?_;have h1:Int.gcd t b ∣ b.natAbs:=by
  have:=Int.gcd_dvd_right t b;exact(by have:=Int.natAbs_dvd_natAbs.mpr this; simpa using this)
 have:=Nat.le_of_dvd (by omega) h1
 omega
def eW:cr:=λds S k=>match ds with
 | [.int a,.int b]=>k (.int ((Int.gcd a b:Nat):Int)) S
 | _=>False
theorem dY:av ["one","other","rest"] ["one","other"] (am gz):=ej
theorem o7 (Fn:FN K "common_divisor" gz f fd) (jJ:mg "abs"=none):
  aU P w K mg base cW 1 f fd ["one","other"] (cY K eW):=by
 refine Fn.okJ dY (λds S k h=>?_) (λcdv A outer s H E hr=>⟨_,(ag (kz PassesOwn.never (aA xW (aj 1) ah (aD _)) (ag (aq (i:=2) dY.nd (aH oq (aj 0) (aj 1))) (ag (aq (i:=0) dY.nd (aj 1)) (ai (aq (i:=1) dY.nd (aj 2)))))) (ai (ar (aQ wN rfl jJ sJ (aB 0 ac))))),λds S k h=>?_⟩)
 ·unfold eW at h
  split at h
  ·rfl
  ·exact h.elim
 ·unfold eW at h
  split at h
  ·rename_i a b
   refine⟨λm L S'=>S'=S/\∃ x y r,L=[some (.int x),some (.int y),r]/\m=y.natAbs/\Int.gcd x y=Int.gcd a b,⟨_,rfl,a,b,_,rfl,rfl,rfl⟩,?_⟩
   rintro m L S' ⟨rfl,x,y,r,rfl,rfl,e⟩;refine Ge (λhy=>⟨λL' S''=>∃ m',m' < y.natAbs/\S''=S'/\∃ x y r,L'=[some (.int x),some (.int y),r]/\m'=y.natAbs/\Int.gcd x y=Int.gcd a b,λ_ _ z=>z,hy,?_⟩) (λhy=>?_)
   ·exact⟨_,yU x y hy,rfl,y,x.fmod y,_,rfl,rfl,(wO x y).trans e⟩
   ·subst hy;have e2:=w9 x;rw [e] at e2
    show k (.int (if x < 0 then -x else x)) S'
    rw [<- e2];exact h
  ·exact h.elim
def iY:cr:=λds S k=>match ds with
 | [.int t,.int b]=>b≠0/\Bt 130000000 b/\k (fr (Rat.divInt t b)) S
 | _=>False
theorem oN {S:DH} {k:DK} {t b:Int} {q:Rat} (e:Rat.divInt t b=q) (h0:b≠0) (hb:Bt 130000000 b) (h:k (fr q) S):iY [.int t,.int b] S k:=by subst e; exact⟨h0,hb,h⟩
theorem tQ:av ["top","bottom","shared"] ["top","bottom"] (am vx):=ej
theorem CW (Fn:FN K "ratio" vx f fd) (gH:aZ P w K mg base "common_divisor" 1 eW) (hBl:lC mg base) (hTr:P.given.tree=none):
  aU P w K mg base cW 34 f fd ["top","bottom"] (cY K iY):=by
 refine Fn.okJ tQ (λds S k h=>?_) (λcdv A outer s H E hr=>⟨_,(ag (aE (aA fC (aj 1) ah (aD _)) (ai fB) aL) (ag (aq (i:=2) tQ.nd (dq gH hr (aB 0 (aB 1 ac)))) (ag (aE (aA rb (aj 1) ah (aD _)) (ai (aq (i:=2) tQ.nd (Ch Bh (aj 2)))) aL) (ai (ar (au (aa (aH (kc hr hBl hTr rfl rfl rfl (by decide)) (aj 0) (aj 2)) (aa (aH (kc hr hBl hTr rfl rfl rfl (by decide)) (aj 1) (aj 2)) ac)))))))),λds S k h=>?_⟩)
 ·unfold iY at h
  split at h
  ·rfl
  ·exact h.elim
 ·unfold iY at h
  split at h
  ·rename_i t b
   obtain⟨h0,hb,q⟩:=h;have hg:=CZ (t:=t) h0 hb;have hs:=Ct (t:=t) h0;have e1:=rk (t:=t) h0;have e2:=oM (t:=t) h0;have qq:k (.tup [.int (t.fdiv (Ay t b)),.int (b.fdiv (Ay t b))]) S:=by rw [e1,e2]; exact q
   unfold Ay at qq hs
   refine aN (λz=>absurd z h0) (λ_=>aN (λhl=>?_) (λhl=>?_))
   ·rw [if_pos hl] at qq hs
    exact⟨hs,hs,a9,qq⟩
   ·rw [if_neg hl] at qq hs
    exact⟨hs,hs,a9,qq⟩
  ·exact h.elim
def kW:cr:=λds S k=>∃ p q:Rat,ds=[fr p,fr q]/\Sz 60000000 p/\Sz 60000000 q/\k (fr (p+q)) S
theorem E2:av ["one","other"] ["one","other"] (am yx):=ej
theorem EK (Fn:FN K "plus" yx f fd) (fm:aZ P w K mg base "ratio" 34 iY):
  aU P w K mg base cW 35 f fd ["one","other"] (cY K kW):=by
 refine Fn.okJ E2 (λds S k h=>?_) (λcdv A outer s H E hr=>⟨_,(ai (ar (dq fm hr (aa (aH dF (aH cN (aO 0) (aO 1)) (aH cN (aO 1) (aO 0))) (aa (aH cN (aO 0) (aO 1)) ac))))),λds S k h=>?_⟩)
 ·obtain⟨_,_,rfl,_⟩:=h
  rfl
 ·obtain⟨p,q,rfl,hp,hq,w⟩:=h;exact⟨mQ hp.num hq.den,mQ hq.num hp.den,mQ hp.den hq.den,oN (eG p q) (ax p q) ((hp.den.mul hq.den).mono (by decide)) w⟩
def oZ:cr:=λds S k=>∃ p q:Rat,ds=[fr p,fr q]/\Sz 60000000 p/\Sz 60000000 q/\k (fr (p - q)) S
theorem Dh:av ["one","other"] ["one","other"] (am vO):=ej
theorem AU (Fn:FN K "minus" vO f fd) (fm:aZ P w K mg base "ratio" 34 iY):
  aU P w K mg base cW 35 f fd ["one","other"] (cY K oZ):=by
 refine Fn.okJ Dh (λds S k h=>?_) (λcdv A outer s H E hr=>⟨_,(ai (ar (dq fm hr (aa (aH qG (aH cN (aO 0) (aO 1)) (aH cN (aO 1) (aO 0))) (aa (aH cN (aO 0) (aO 1)) ac))))),λds S k h=>?_⟩)
 ·obtain⟨_,_,rfl,_⟩:=h
  rfl
 ·obtain⟨p,q,rfl,hp,hq,w⟩:=h;exact⟨mQ hp.num hq.den,mQ hq.num hp.den,mQ hp.den hq.den,oN (x_ p q) (ax p q) ((hp.den.mul hq.den).mono (by decide)) w⟩
def ik:cr:=λds S k=>∃ p q:Rat,ds=[fr p,fr q]/\Sz 60000000 p/\Sz 60000000 q/\k (fr (p*q)) S
theorem AQ:av ["one","other"] ["one","other"] (am vi):=ej
theorem B4 (Fn:FN K "times" vi f fd) (fm:aZ P w K mg base "ratio" 34 iY):
  aU P w K mg base cW 35 f fd ["one","other"] (cY K ik):=by
 refine Fn.okJ AQ (λds S k h=>?_) (λcdv A outer s H E hr=>⟨_,(ai (ar (dq fm hr (aa (aH cN (aO 0) (aO 1)) (aa (aH cN (aO 0) (aO 1)) ac))))),λds S k h=>?_⟩)
 ·obtain⟨_,_,rfl,_⟩:=h
  rfl
 ·obtain⟨p,q,rfl,hp,hq,w⟩:=h;exact⟨mQ hp.num hq.num,mQ hp.den hq.den,oN (bW p q) (ax p q) ((hp.den.mul hq.den).mono (by decide)) w⟩
def qd:cr:=λds S k=>∃ p q:Rat,ds=[fr p,fr q]/\q≠0/\Sz 60000000 p/\Sz 60000000 q/\k (fr (p / q)) S
theorem EH:av ["one","other"] ["one","other"] (am xB):=ej
theorem Eb (Fn:FN K "over" xB f fd) (fm:aZ P w K mg base "ratio" 34 iY):
  aU P w K mg base cW 35 f fd ["one","other"] (cY K qd):=by
 refine Fn.okJ EH (λds S k h=>?_) (λcdv A outer s H E hr=>⟨_,(ai (ar (dq fm hr (aa (aH cN (aO 0) (aO 1)) (aa (aH cN (aO 0) (aO 1)) ac))))),λds S k h=>?_⟩)
 ·obtain⟨_,_,rfl,_⟩:=h
  rfl
 ·obtain⟨p,q,rfl,h0,hp,hq,w⟩:=h;exact⟨mQ hp.num hq.den,mQ hp.den hq.num,oN (xX p q) (Int.mul_ne_zero (lZ p) (vC h0)) ((hp.den.mul hq.num).mono (by decide)) w⟩
def fw:cr:=λds S k=>∃ q:Rat,ds=[fr q]/\k (fr (-q)) S
theorem xu:av ["one"] ["one"] (am nW):=ej
theorem w_ (Fn:FN K "negative" nW f fd):
  aU P w K mg base cW 1 f fd ["one"] (cY K fw):=by
 refine Fn.okJ xu (λds S k h=>?_) (λcdv A outer s H E hr=>⟨_,(ai (ar (au (aa (Ch Bh (aO 0)) (aa (aO 0) ac))))),λds S k h=>?_⟩)
 ·obtain⟨_,rfl,_⟩:=h
  rfl
 ·obtain⟨q,rfl,w⟩:=h;rw [<- Hm] at w;exact⟨a9,w⟩
def eI:cr:=λds S k=>∃ q:Rat,ds=[fr q]/\k (fr (ab q)) S
theorem qS:av ["one"] ["one"] (am iV):=ej
theorem q_ (Fn:FN K "without_sign" iV f fd) (jJ:mg "abs"=none):
  aU P w K mg base cW 1 f fd ["one"] (cY K eI):=by
 refine Fn.okJ qS (λds S k h=>?_) (λcdv A outer s H E hr=>⟨_,(ai (ar (au (aa (aQ wN rfl jJ sJ (aa (aO 0) ac)) (aa (aO 0) ac))))),λds S k h=>?_⟩)
 ·obtain⟨_,rfl,_⟩:=h
  rfl
 ·obtain⟨q,rfl,w⟩:=h;rw [<- IX] at w;exact⟨a9,w⟩
set_option maxHeartbeats 4000000
structure Gu (n g:Int):Prop where
 pos:0 < g
 ge:jq n<=g
theorem Gu.next {n g:Int} (h0:1<=n) (h:Gu n g) (hl:(g+n.fdiv g).fdiv 2 < g):Gu n ((g+n.fdiv g).fdiv 2):=by
 have rt:=kU (n:=n) (by omega)
 have r1:1<=jq n:=rt.le_of (by omega)
 rw [tz _ (by decide),tz _ h.pos] at hl ⊢
 have h1:=zS h.pos rt.nn rt.le;exact⟨by omega,h1⟩
theorem Gu.last {n g:Int} (h0:1<=n) (h:Gu n g) (hl:¬ (g+n.fdiv g).fdiv 2 < g):g=jq n:=by
 have rt:=kU (n:=n) (by omega)
 rw [tz _ (by decide),tz _ h.pos] at hl
 have h1:=h.ge;rcases Int.lt_or_le (jq n) g with h2 | h2
 ·exact absurd (Ah (by omega) rt h2) hl
 ·omega
theorem Gu.first {n:Int} {b:Nat} (h0:1<=n) (hn:n.natAbs < 2 ^ b):Gu n ((1:Int)*2 ^ ((((b:Nat):Int)+1).fdiv 2).toNat):=by
 have e:((((b:Nat):Int)+1).fdiv 2).toNat=(b+1) / 2:=by rw [tz _ (by decide)]; omega
 rw [e,Int.one_mul];have hp:(0:Int) < 2 ^ ((b+1) / 2):=Int.pow_pos (by decide)
 have rt:=kU (n:=n) (by omega)
 refine⟨hp,?_⟩;apply Int.not_lt.mp;intro hl;have h1:=kr (Int.le_of_lt hp) (Int.le_of_lt hl);have h2:=rt.le;have h3:(2:Int) ^ ((b+1) / 2)*2 ^ ((b+1) / 2)=2 ^ ((b+1) / 2+(b+1) / 2):=(Int.pow_add _ _ _).symm;have h4:2 ^ b<=2 ^ ((b+1) / 2+(b+1) / 2):=s9 (by omega)
 have h5:((2 ^ ((b+1) / 2+(b+1) / 2):Nat):Int)=(2:Int) ^ ((b+1) / 2+(b+1) / 2):=by rw [Int.natCast_pow]; rfl
 have h6:((2 ^ b:Nat):Int)<=((2 ^ ((b+1) / 2+(b+1) / 2):Nat):Int):=Int.ofNat_le.mpr h4;have h7:(n.natAbs:Int) < ((2 ^ b:Nat):Int):=Int.ofNat_lt.mpr hn;rw [h3] at h1;rw [h5] at h6;omega
def n4:cr:=λds S k=>∃ n:Int,ds=[.int n]/\0<=n/\Bt 34000000 n/\k (.int (jq n)) S
theorem e_:av ["number","guess","better"] ["number"] (am kY):=ej
theorem uq (Fn:FN K "whole_root" kY f fd) (hBl:lC mg base) (hTr:P.given.tree=none):
  aU P w K mg base cW 34 f fd ["number"] (cY K n4):=by
 refine Fn.okJ e_ (λds S k h=>?_) (λcdv A outer s H E hr=>⟨_,(ag (aE (aA fC (aj 0) ah (aD _)) (ai (ar ah)) aL) (ag (aq (i:=1) e_.nd (aH GY ah (aH (kc hr hBl hTr rfl rfl rfl (by decide)) (aH dF (Et (aj 0)) ah) ah))) (ag (aq (i:=2) e_.nd (aH (kc hr hBl hTr rfl rfl rfl (by decide)) (aH dF (aj 1) (aH (kc hr hBl hTr rfl rfl rfl (by decide)) (aj 0) (aj 1))) ah)) (ag (kz PassesOwn.never (aA rb (aj 2) (aj 1) (aD _)) (ag (aq (i:=1) e_.nd (aj 2)) (ai (aq (i:=2) e_.nd (aH (kc hr hBl hTr rfl rfl rfl (by decide)) (aH dF (aj 1) (aH (kc hr hBl hTr rfl rfl rfl (by decide)) (aj 0) (aj 1))) ah))))) (ai (ar (aj 1))))))),λds S k h=>?_⟩)
 ·obtain⟨_,rfl,_⟩:=h
  rfl
 ·obtain⟨n,rfl,h0,hb,q⟩:=h;refine aN (λe=>?_) (λe=>?_)
  ·subst e;rw [CA] at q;exact q
  ·have hbits:Builtin.Int.intBits n<=34000000:=intBits_le_iff.mpr hb;have h1:1<=n:=by omega
   have hn:n.natAbs < 2 ^ Builtin.Int.intBits n:=intBits_le_iff.mp (Mp _);have G:=Gu.first h1 hn;have hc:DN 1 ((((Builtin.Int.intBits n:Nat):Int)+1).fdiv 2):=by
    have e2:=tz (((Builtin.Int.intBits n:Nat):Int)+1) (b:=2) (by decide)
    exact⟨by rw [e2]; omega,by rw [e2]; show(1:Int)+_<=134217728; omega⟩
   have two:(2:Int)≠0:=by decide
   have dv:∀ g:Int,Gu n g->g≠0:=λg G=>by have:=G.pos; omega
   refine⟨two,hc,dv _ G,two,λm L S'=>S'=S/\∃ g,L=[some (.int n),some (.int g),some (.int ((g+n.fdiv g).fdiv 2))]/\m=g.toNat/\Gu n g,⟨_,rfl,_,rfl,rfl,G⟩,?_⟩
   rintro m L S' ⟨rfl,g,rfl,rfl,G⟩;refine aN (λhl=>⟨λL' S''=>∃ m',m' < g.toNat/\S''=S'/\∃ g,L'=[some (.int n),some (.int g),some (.int ((g+n.fdiv g).fdiv 2))]/\m'=g.toNat/\Gu n g,λ_ _ z=>z,dv _ (G.next h1 hl),two,?_⟩) (λhl=>?_)
   ·have G2:=G.next h1 hl;exact⟨_,by have:=G2.pos; have:=G.pos; omega,rfl,_,rfl,rfl,G2⟩
   ·rw [<- G.last h1 hl] at q;exact q
def E8 (n:Int):D:=if jq n*jq n=n then .int (jq n) else .non
def gq:cr:=λds S k=>∃ n:Int,ds=[.int n]/\0<=n/\Bt 34000000 n/\k (E8 n) S
theorem fS:av ["number","root"] ["number"] (am dU):=ej
theorem kD (Fn:FN K "square_root_or_none" dU f fd) (kG:aZ P w K mg base "whole_root" 34 n4):
  aU P w K mg base cW 35 f fd ["number"] (cY K gq):=by
 refine Fn.okJ fS (λds S k h=>?_) (λcdv A outer s H E hr=>⟨_,(ag (aq (i:=1) fS.nd (dq kG hr (aB 0 ac))) (ai (ar (uA (aA fC (aH cN (aj 1) (aj 1)) (aj 0) (aD _)) (aj 1) cO)))),λds S k h=>?_⟩)
 ·obtain⟨_,rfl,_⟩:=h
  rfl
 ·obtain⟨n,rfl,h0,hb,q⟩:=h;have b2:=td h0 hb;refine⟨n,rfl,h0,hb,mQ b2 b2,aN (λe=>?_) (λe=>?_)⟩
  ·rw [E8,if_pos e] at q;exact q
  ·rw [E8,if_neg e] at q;exact q
def mw:cr:=λds S k=>∃ q:Rat,ds=[fr q]/\0<=q/\Sz 34000000 q/\(∀ r,0<=r->r*r=q->k (fr r) S)/\(fW q->k .non S)
theorem nG:av ["one","top","bottom"] ["one"] (am qC):=ej
theorem x9 (Fn:FN K "root_in" qC f fd) (cU:aZ P w K mg base "square_root_or_none" 35 gq):
  aU P w K mg base cW 36 f fd ["one"] (cY K mw):=by
 refine Fn.okJ nG (λds S k h=>?_) (λcdv A outer s H E hr=>⟨_,(ag (aq (i:=1) nG.nd (dq cU hr (aa (aO 0) ac))) (ag (aE (aA wD (aj 1) cO (aD _)) (ai (ar cO)) aL) (ag (aq (i:=2) nG.nd (dq cU hr (aa (aO 0) ac))) (ag (aE (aA wD (aj 2) cO (aD _)) (ai (ar cO)) aL) (ai (ar (au (aB 1 (aB 2 ac))))))))),λds S k h=>?_⟩)
 ·obtain⟨_,rfl,_⟩:=h
  rfl
 ·obtain⟨q,rfl,h0,hs,h1,h2⟩:=h;have n0:=rY h0
  by_cases e:jq q.num*jq q.num=q.num
  ·by_cases e2:jq (q.den:Int)*jq (q.den:Int)=(q.den:Int)
   ·obtain⟨r,r0,rr⟩:=nC h0 e e2;obtain⟨e3,e4⟩:=iT r0 rr;have w:=h1 r r0 rr;refine⟨q.num,rfl,n0,hs.num,?_⟩;rw [show E8 q.num=.int (jq q.num) from if_pos e]
    refine⟨(q.den:Int),rfl,by omega,hs.den,?_⟩
    rw [show E8 (q.den:Int)=.int (jq (q.den:Int)) from if_pos e2,e3,e4]
    exact⟨a9,w⟩
   ·refine⟨q.num,rfl,n0,hs.num,?_⟩;rw [show E8 q.num=.int (jq q.num) from if_pos e]
    refine⟨(q.den:Int),rfl,by omega,hs.den,?_⟩
    rw [show E8 (q.den:Int)=.non from if_neg e2]
    refine h2 λr rr=>e2 ?_
    have:=congrArg (λz:Rat=>(z.den:Int)) rr
    simp only [pE,Int.natCast_mul] at this;exact pI this
  ·refine⟨q.num,rfl,n0,hs.num,?_⟩;rw [show E8 q.num=.non from if_neg e]
   refine h2 λr rr=>e ?_
   have:=congrArg Rat.num rr;rw [nQ] at this;exact pI this
def ft:cr:=λds S k=>∃ x q,ds=[.tup [x,fr q]]/\k (.bl (decide (q=0))) S
theorem wU:av ["one"] ["one"] (am m7):=ej
theorem w6 (Fn:FN K "is_plain" m7 f fd):
  aU P w K mg base cW 1 f fd ["one"] (cY K ft):=by
 refine Fn.okJ wU (λds S k h=>?_) (λcdv A outer s H E hr=>⟨_,(ai (ar (qA fC (bh cj (aO 0) ah Zf) ah (aD _)))),λds S k h=>?_⟩)
 ·obtain⟨_,_,rfl,_⟩:=h
  rfl
 ·obtain⟨x,q,rfl,w⟩:=h;have e:decide (q.num=0)=decide (q=0):=by
   by_cases h0:q=0
   ·subst h0; rfl
   ·rw [M9 h0,M9 (vC h0)]
  rw [<- e] at w;exact w
def eL:cr:=λds S k=>∃ p q:Rat,ds=[fr p,fr q]/\k (fr (sg p q)) S
theorem qZ:av ["one","other"] ["one","other"] (am ir):=ej
theorem qU (Fn:FN K "with_sign_of" ir f fd) (bb:aZ P w K mg base "negative" 1 fw):
  aU P w K mg base cW 2 f fd ["one","other"] (cY K eL):=by
 refine Fn.okJ qZ (λds S k h=>?_) (λcdv A outer s H E hr=>⟨_,(ai (ar (uA (aA rb (aO 1) ah (aD _)) (dq bb hr (aB 0 ac)) (aj 0)))),λds S k h=>?_⟩)
 ·obtain⟨_,_,rfl,_⟩:=h
  rfl
 ·obtain⟨p,q,rfl,w⟩:=h;unfold sg at w;refine aN (λhn=>?_) (λhn=>?_)
  ·rw [if_pos ((cM q).mp hn)] at w;exact⟨p,rfl,w⟩
  ·rw [if_neg (λz=>hn ((cM q).mpr z))] at w
   exact w
set_option maxHeartbeats 4000000
theorem uC (n:Nat):n<=n*n:=by
 rcases Nat.eq_zero_or_pos n with h | h
 ·subst h; decide
 ·exact Nat.le_mul_of_pos_left n h
theorem _root_.HM.Sz.root {n:Nat} {q r:Rat} (h:Sz n q) (e:r*r=q):Sz n r:=by
 subst e;refine⟨h.num.le ?_,h.den.le ?_⟩
 ·rw [nQ,Int.natAbs_mul];exact uC _
 ·rw [pE];have:=uC r.den;omega
open Classical in
noncomputable def AA (p q:Rat):D:=if h:∃ r,0<=r/\r*r=ab q then .tup [fr (p+sg h.choose q),fr 0] else .tup [fr p,fr q]
theorem uM {r r' q:Rat} (h0:0<=r) (h1:0<=r') (e:r*r=q) (e':r'*r'=q):r=r':=by
 obtain⟨a1,a2⟩:=iT h0 e;obtain⟨b1,b2⟩:=iT h1 e';refine Rat.ext (a1.symm.trans b1) ?_;have:=a2.symm.trans b2;omega
theorem oR {p q r:Rat} (r0:0<=r) (rr:r*r=ab q):AA p q=.tup [fr (p+sg r q),fr 0]:=by
 have h:∃ r,0<=r/\r*r=ab q:=⟨r,r0,rr⟩;unfold AA;rw [dif_pos h,uM h.choose_spec.1 r0 h.choose_spec.2 rr]
theorem xC {p q:Rat} (no:fW (ab q)):AA p q=.tup [fr p,fr q]:=by
 unfold AA;rw [dif_neg λz9=>by obtain⟨r,_,e⟩:=z9; exact no r e]
theorem wH {p:Rat}:AA p 0=.tup [fr p,fr 0]:=by
 rw [oR (r:=0) (by decide) (by unfold ab; grind),show p+sg 0 0=p by unfold sg; grind]
def Bf:cr:=λds S k=>∃ p q:Rat,ds=[fr p,fr q]/\Sz 800000 p/\Sz 800000 q/\k (AA p q) S
theorem yN:av ["part","under","root"] ["part","under"] (am xK):=ej
theorem DW (Fn:FN K "made" xK f fd) (eO:aZ P w K mg base "root_in" 36 mw) (a_:aZ P w K mg base "without_sign" 1 eI) (bU:aZ P w K mg base "plus" 35 kW) (bn:aZ P w K mg base "with_sign_of" 2 eL) (bH:tZ K mg "NOUGHT" [0,1]):
  aU P w K mg base cW 37 f fd ["part","under"] (cY K Bf):=by
 refine Fn.okJ yN (λds S k h=>?_) (λcdv A outer s H E hr=>⟨_,(ag (aq (i:=2) yN.nd (dq eO hr (aa (dq a_ hr (aB 1 ac)) ac))) (ag (aE (aA wD (aj 2) cO (aD _)) (ai (ar (au (aB 0 (aB 1 ac))))) aL) (ai (ar (au (aa (dq bU hr (aB 0 (aa (dq bn hr (aB 2 (aB 1 ac))) ac))) (aa (gS bH rfl) ac))))))),λds S k h=>?_⟩)
 ·obtain⟨_,_,rfl,_⟩:=h
  rfl
 ·obtain⟨p,q,rfl,hp,hq,w⟩:=h;refine⟨q,rfl,ab q,rfl,mP q,hq.ab.mono (by decide),λr r0 rr=>?_,λno=>⟨a9,?_⟩⟩
  ·rw [oR r0 rr] at w;exact⟨r,q,rfl,p,sg r q,rfl,hp.mono (by decide),((hq.ab.root rr).sg).mono (by decide),a9,w⟩
  ·rw [xC no] at w;exact w
def kF:cr:=λds S k=>∃ u a b c d:Rat,ds=[N u a b,N u c d]/\0 < u/\k (fr (pick b d*pick b d*u)) S
theorem tY:av ["one","other"] ["one","other"] (am j6):=ej
theorem uf (Fn:FN K "field_base" j6 f fd) (a_:aZ P w K mg base "without_sign" 1 eI) (ba:aZ P w K mg base "is_plain" 1 ft):
  aU P w K mg base cW 2 f fd ["one","other"] (cY K kF):=by
 refine Fn.okJ tY (λds S k h=>?_) (λcdv A outer s H E hr=>⟨_,(ai (ar (dq a_ hr (aa (uA (cV (dq ba hr (aB 0 ac))) (aO 1) (aO 0)) ac)))),λds S k h=>?_⟩)
 ·obtain⟨_,_,_,_,_,rfl,_⟩:=h
  rfl
 ·obtain⟨u,a,b,c,d,rfl,u0,w⟩:=h;refine⟨fr a,ss b*u,rfl,aN (λe=>⟨_,rfl,?_⟩) (λe=>⟨_,rfl,?_⟩)⟩
  ·have e2:b=0:=(jg u0).mp e;rw [show pick b d=d from if_pos e2] at w
   rw [oW u0];exact w
  ·have e2:¬ b=0:=λz=>e ((jg u0).mpr z)
   rw [show pick b d=b from if_neg e2] at w
   rw [oW u0];exact w
def vy:cr:=λds S k=>∃ u a b e:Rat,ds=[N u a b,fr (e*e*u)]/\0 < u/\(b=0\/e≠0)/\Sm 5100000 b e/\Sz 6700000 u/\k (fr (b / ab e)) S
theorem xx:av ["one","base","root"] ["one","base"] (am wa):=ej
theorem Cq (Fn:FN K "share" wa f fd) (ba:aZ P w K mg base "is_plain" 1 ft) (eO:aZ P w K mg base "root_in" 36 mw) (dS:aZ P w K mg base "over" 35 qd) (a_:aZ P w K mg base "without_sign" 1 eI) (bn:aZ P w K mg base "with_sign_of" 2 eL) (bH:tZ K mg "NOUGHT" [0,1]):
  aU P w K mg base cW 37 f fd ["one","base"] (cY K vy):=by
 refine Fn.okJ xx (λds S k h=>?_) (λcdv A outer s H E hr=>⟨_,(ag (aE (cV (dq ba hr (aB 0 ac))) (ai (ar (gS bH rfl))) aL) (ag (aq (i:=2) xx.nd (dq eO hr (aa (dq dS hr (aa (dq a_ hr (aa (aO 0) ac)) (aB 1 ac))) ac))) (ag (aE (aA wD (aj 2) cO (aD _)) (ai fB) aL) (ai (ar (dq bn hr (aB 2 (aa (aO 0) ac)))))))),λds S k h=>?_⟩)
 ·obtain⟨_,_,_,_,rfl,_⟩:=h
  rfl
 ·obtain⟨u,a,b,e,rfl,u0,hbe,hs,hu,w⟩:=h;refine⟨fr a,ss b*u,rfl,aN (λz=>?_) (λz=>?_)⟩
  ·have e2:b=0:=(jg u0).mp z;subst e2;rw [show (0:Rat) / ab e=0 by grind] at w
   exact w
  ·have e2:¬ b=0:=λq=>z ((jg u0).mpr q)
   have e0:e≠0:=hbe.resolve_left e2;have ne:e*e*u≠0:=by grind
   have ea:ab (ss b*u)=b*b*u:=oW u0;have s1:Sz 16900000 (ab (ss b*u)):=(hs.a.ss.mul hu).ab;have s2:Sz 16900000 (e*e*u):=(hs.b.mul hs.b).mul hu;have nn:0<=ab (ss b*u) / (e*e*u):=la (mP _) (MK (fb e) (Rat.le_of_lt u0));refine⟨_,rfl,ab (ss b*u),e*e*u,rfl,ne,s1.mono (by decide),s2.mono (by decide),_,rfl,nn,(s1.div s2 ne).mono (by decide),λr r0 rr=>?_,λno=>?_⟩
   ·rw [ea] at rr;have er:=xM u0 e0 r0 rr;subst er;refine⟨_,ss b*u,rfl,?_⟩;rw [B6 u0];exact w
   ·rw [ea] at no;exact absurd (CN u0 e0) (no _)
def rV:cr:=λds S k=>∃ a p c:Rat,ds=[fr a,fr p,fr c]/\Sz 24000000 p/\Sz 17000000 c/\k (.tup [fr a,fr (ss p*c)]) S
theorem uQ:av ["part","portion","base","under"] ["part","portion","base"] (am sh):=ej
theorem Aa (Fn:FN K "joined" sh f fd) (bc:aZ P w K mg base "times" 35 ik) (bn:aZ P w K mg base "with_sign_of" 2 eL):
  aU P w K mg base cW 36 f fd ["part","portion","base"] (cY K rV):=by
 refine Fn.okJ uQ (λds S k h=>?_) (λcdv A outer s H E hr=>⟨_,(ag (aq (i:=3) uQ.nd (dq bc hr (aa (dq bc hr (aB 1 (aB 1 ac))) (aB 2 ac)))) (ai (ar (au (aB 0 (aa (dq bn hr (aB 3 (aB 1 ac))) ac)))))),λds S k h=>?_⟩)
 ·obtain⟨_,_,_,rfl,_⟩:=h
  rfl
 ·obtain⟨a,p,c,rfl,hp,hc,w⟩:=h;refine⟨p,p,rfl,hp.mono (by decide),hp.mono (by decide),p*p,c,rfl,(hp.mul hp).mono (by decide),hc.mono (by decide),p*p*c,p,rfl,a9,?_⟩
  rw [C3];exact w
def lq:cr:=λds S k=>∃ u a b:Rat,ds=[N u a b]/\k (N u (-a) (-b)) S
theorem p9:av ["one"] ["one"] (am gZ):=ej
theorem pG (Fn:FN K "root_negative" gZ f fd) (bb:aZ P w K mg base "negative" 1 fw):
  aU P w K mg base cW 2 f fd ["one"] (cY K lq):=by
 refine Fn.okJ p9 (λds S k h=>?_) (λcdv A outer s H E hr=>⟨_,(ai (ar (au (aa (dq bb hr (aa (aO 0) ac)) (aa (dq bb hr (aa (aO 0) ac)) ac))))),λds S k h=>?_⟩)
 ·obtain⟨_,_,_,rfl,_⟩:=h
  rfl
 ·obtain⟨u,a,b,rfl,w⟩:=h;refine⟨a,rfl,ss b*u,rfl,a9,?_⟩;unfold N at w;rw [uK,show -ss b*u=-(ss b*u) by grind] at w
  exact w
def bs (u b d:Rat):Rat:=pick b d*pick b d*u
theorem Fq {u b d:Rat} (hu:Fd u) (hb:Sz 5100000 b) (hd:Sz 5100000 d):Sz 16900000 (bs u b d):=((hb.pick hd).mul (hb.pick hd)).mul hu.sz
theorem FG {b d e:Rat} (hb:Sz 5100000 b) (he:Sz 5100000 e):Sz 10200100 (b / ab e):=(hb.div' he.ab).mono (by decide)
structure Sn (a b:Rat):Prop where
 a:Sz 12500000 a
 b:Sz 5100000 b
theorem Sn.neg {a b:Rat} (h:Sn a b):Sn (-a) (-b):=⟨h.a.neg,h.b.neg⟩
theorem Sm.sn {n:Nat} {a b:Rat} (h:Sm n a b) (hn:n<=5100000):Sn a b:=⟨h.a.mono (by omega),h.b.mono hn⟩
def jc:cr:=λds S k=>∃ u a b c d:Rat,ds=[N u a b,N u c d]/\Fd u/\Sn a b/\Sn c d/\k (N u (a+c) (b+d)) S
theorem k6:av ["one","other","base","portion"] ["one","other"] (am lS):=ej
theorem vL (Fn:FN K "root_plus" lS f fd) (eR:aZ P w K mg base "field_base" 2 kF) (bU:aZ P w K mg base "plus" 35 kW) (je:aZ P w K mg base "share" 37 vy) (jK:aZ P w K mg base "joined" 36 rV):
  aU P w K mg base cW 38 f fd ["one","other"] (cY K jc):=by
 refine Fn.okJ k6 (λds S k h=>?_) (λcdv A outer s H E hr=>⟨_,(ag (aq (i:=2) k6.nd (dq eR hr (aB 0 (aB 1 ac)))) (ag (aq (i:=3) k6.nd (dq bU hr (aa (dq je hr (aB 0 (aB 2 ac))) (aa (dq je hr (aB 1 (aB 2 ac))) ac)))) (ai (ar (dq jK hr (aa (dq bU hr (aa (aO 0) (aa (aO 1) ac))) (aB 3 (aB 2 ac)))))))),λds S k h=>?_⟩)
 ·obtain⟨_,_,_,_,_,rfl,_⟩:=h
  rfl
 ·obtain⟨u,a,b,c,d,rfl,hu,h1,h2,w⟩:=h;have hp:=h1.b.pick h2.b;have s1:=FG (d:=d) h1.b hp;have s2:=FG (d:=d) h2.b hp;refine⟨u,a,b,c,d,rfl,hu.pos,u,a,b,pick b d,rfl,hu.pos,BR,⟨h1.b,hp⟩,hu.sz,u,c,d,pick b d,rfl,hu.pos,Cs,⟨h2.b,hp⟩,hu.sz,_,_,rfl,s1.mono (by decide),s2.mono (by decide),?_⟩
  refine⟨a,c,rfl,h1.a.mono (by decide),h2.a.mono (by decide),_,_,_,rfl,(s1.add s2).mono (by decide),(Fq hu h1.b h2.b).mono (by decide),?_⟩
  rw [Ae];exact w
def ie:cr:=λds S k=>∃ u a b c d:Rat,ds=[N u a b,N u c d]/\Fd u/\Sn a b/\Sn c d/\k (N u (a - c) (b - d)) S
theorem um:av ["one","other"] ["one","other"] (am kH):=ej
theorem uu (Fn:FN K "root_minus" kH f fd) (bT:aZ P w K mg base "root_plus" 38 jc) (gR:aZ P w K mg base "root_negative" 2 lq):
  aU P w K mg base cW 39 f fd ["one","other"] (cY K ie):=by
 refine Fn.okJ um (λds S k h=>?_) (λcdv A outer s H E hr=>⟨_,(ai (ar (dq bT hr (aB 0 (aa (dq gR hr (aB 1 ac)) ac))))),λds S k h=>?_⟩)
 ·obtain⟨_,_,_,_,_,rfl,_⟩:=h
  rfl
 ·obtain⟨u,a,b,c,d,rfl,hu,h1,h2,w⟩:=h;refine⟨u,c,d,rfl,u,a,b,-c,-d,rfl,hu,h1,h2.neg,?_⟩;rw [show a - c=a+-c by grind,show b - d=b+-d by grind] at w
  exact w
def kS:cr:=λds S k=>∃ u a b c d:Rat,ds=[N u a b,N u c d]/\Fd u/\Sm 1250000 a b/\Sm 1250000 c d/\k (N u (a*c+b*d*u) (a*d+b*c)) S
theorem dQ:av ["one","other","base","mine","theirs","part","portion"] ["one","other"] (am ka):=ej
theorem ub (Fn:FN K "root_times" ka f fd) (eR:aZ P w K mg base "field_base" 2 kF) (je:aZ P w K mg base "share" 37 vy) (bU:aZ P w K mg base "plus" 35 kW) (bc:aZ P w K mg base "times" 35 ik) (jK:aZ P w K mg base "joined" 36 rV):
  aU P w K mg base cW 38 f fd ["one","other"] (cY K kS):=by
 refine Fn.okJ dQ (λds S k h=>?_) (λcdv A outer s H E hr=>⟨_,(ag (aq (i:=2) dQ.nd (dq eR hr (aB 0 (aB 1 ac)))) (ag (aq (i:=3) dQ.nd (dq je hr (aB 0 (aB 2 ac)))) (ag (aq (i:=4) dQ.nd (dq je hr (aB 1 (aB 2 ac)))) (ag (aq (i:=5) dQ.nd (dq bU hr (aa (dq bc hr (aa (aO 0) (aa (aO 1) ac))) (aa (dq bc hr (aa (dq bc hr (aB 3 (aB 4 ac))) (aB 2 ac))) ac)))) (ag (aq (i:=6) dQ.nd (dq bU hr (aa (dq bc hr (aa (aO 0) (aB 4 ac))) (aa (dq bc hr (aa (aO 1) (aB 3 ac))) ac)))) (ai (ar (dq jK hr (aB 5 (aB 6 (aB 2 ac))))))))))),λds S k h=>?_⟩)
 ·obtain⟨_,_,_,_,_,rfl,_⟩:=h
  rfl
 ·obtain⟨u,a,b,c,d,rfl,hu,h1,h2,w⟩:=h;have b1:=h1.b.mono (n:=5100000) (by decide)
  have b2:=h2.b.mono (n:=5100000) (by decide)
  have hp0:=h1.b.pick h2.b;have hp:=b1.pick b2;have s1:Sz 2500001 (b / ab (pick b d)):=h1.b.div' hp0.ab;have s2:Sz 2500001 (d / ab (pick b d)):=h2.b.div' hp0.ab;have s3:=Fq hu b1 b2;refine⟨u,a,b,c,d,rfl,hu.pos,u,a,b,pick b d,rfl,hu.pos,BR,⟨b1,hp⟩,hu.sz,u,c,d,pick b d,rfl,hu.pos,Cs,⟨b2,hp⟩,hu.sz,?_⟩;refine⟨a,c,rfl,h1.a.mono (by decide),h2.a.mono (by decide),_,_,rfl,s1.mono (by decide),s2.mono (by decide),_,_,rfl,(s1.mul s2).mono (by decide),s3.mono (by decide),_,_,rfl,(h1.a.mul h2.a).mono (by decide),((s1.mul s2).mul s3).mono (by decide),?_⟩
  refine⟨a,_,rfl,h1.a.mono (by decide),s2.mono (by decide),c,_,rfl,h2.a.mono (by decide),s1.mono (by decide),_,_,rfl,(h1.a.mul s2).mono (by decide),(h2.a.mul s1).mono (by decide),?_⟩
  refine⟨_,_,_,rfl,((h1.a.mul s2).add (h2.a.mul s1)).mono (by decide),s3.mono (by decide),?_⟩
  rw [yn,xF];exact w
set_option maxHeartbeats 4000000
def bV (S S':DH):Prop:=∀ b o,S b=some o->S' b=some o
theorem bV.refl (S:DH):bV S S:=λ_ _ h=>h
theorem bV.trans {S S1 S2:DH} (a:bV S S1) (b:bV S1 S2):bV S S2:=λc o h=>b c o (a c o h)
theorem bV.new {S:DH} {p:Nl} {o:DO} (h:S p=none):bV S (put S p o):=λb u e=>by
 unfold put
 split
 ·rename_i z; subst z; rw [h] at e; cases e
 ·exact e
theorem bV.put {S S1:DH} {p:Nl} {o:DO} (e:bV S S1) (h:S p=none):bV S (put S1 p o):=λb u z=>by
 unfold DL.put
 split
 ·rename_i y; subst y; rw [h] at z; cases z
 ·exact e b u z
theorem bV.none {S S1:DH} {p:Nl} (e:bV S S1) (h:S1 p=none):S p=none:=by
 cases q:S p with
 | none=>rfl
 | some o=>rw [e p o q] at h; cases h
theorem iW {u r:Rat}:D.tup [fr r,fr 0]=N u r 0:=by
 unfold N;rw [show ss 0*u=0 by unfold ss; grind]
abbrev Q:=Rat×Rat
def qa (x y:Q):Q:=(x.1+y.1,x.2+y.2)
def qs (x y:Q):Q:=(x.1 - y.1,x.2 - y.2)
def qm (u:Rat) (x y:Q):Q:=(x.1*y.1+x.2*y.2*u,x.1*y.2+x.2*y.1)
abbrev Sq (n:Nat) (x:Q):Prop:=Sm n x.1 x.2
theorem J1 {m n:Nat} {x y:Q} (h:Sq m x) (h':Sq n y):Sq (m+n+1) (qa x y):=h.add h'
theorem Hj {m n:Nat} {x y:Q} (h:Sq m x) (h':Sq n y):Sq (m+n+1) (qs x y):=h.sub h'
def Pq (u:Rat) (x y:Q):D:=.tup [N u x.1 x.2,N u y.1 y.2]
def qo (p:Rat):Q:=(p,0)
theorem Dg {n:Nat} {p:Rat} (h:Sz n p) (hn:1<=n):Sq n (qo p):=⟨h,Sz.zero.mono hn⟩
def jb (u:Rat) (x y:Q):Q:=qa (qm u x x) (qm u y y)
def fH (u:Rat) (x y z w p q:Q):Q:=qa x (qs (qm u p (qs z x)) (qm u q (qs w y)))
def gl (u:Rat) (x y z w p q:Q):Q:=qa y (qa (qm u p (qs w y)) (qm u q (qs z x)))
def y6 (u:Rat) (x y z w a b:Q):Q:=qs (qm u (qs z x) (qs b y)) (qm u (qs w y) (qs a x))
def ju:cr:=λds S k=>∃ (u:Rat) (x y z v:Q),ds=[Pq u x y,Pq u z v]/\Fd u/\Sq 610000 x/\Sq 610000 y/\Sq 610000 z/\Sq 610000 v/\k (Pq u (qs z x) (qs v y)) S
theorem sM:av ["one","other"] ["one","other"] (am jk):=ej
theorem sI (Fn:FN K "way_between" jk f fd) (ci:aZ P w K mg base "root_minus" 39 ie):
  aU P w K mg base cW 40 f fd ["one","other"] (cY K ju):=by
 refine Fn.okJ sM (λds S k h=>?_) (λcdv A outer s H E hr=>⟨_,(ai (ar (au (aa (dq ci hr (aa (aO 1) (aa (aO 0) ac))) (aa (dq ci hr (aa (aO 1) (aa (aO 0) ac))) ac))))),λds S k h=>?_⟩)
 ·obtain⟨_,_,_,_,_,rfl,_⟩:=h
  rfl
 ·obtain⟨u,x,y,z,v,rfl,hu,hx,hy,hz,hv,w⟩:=h;exact⟨u,_,_,_,_,rfl,hu,hz.sn (by decide),hx.sn (by decide),u,_,_,_,_,rfl,hu,hv.sn (by decide),hy.sn (by decide),a9,w⟩
def W (x y:Rat):D:=.tup [fr x,fr y]
def PP (x y:Rat):D:=.tup [.tup [fr x,fr 0],.tup [fr y,fr 0]]
noncomputable def MP (x y a b s:Rat):D:=.tup [AA x (ss a*s),AA y (ss b*s)]
noncomputable def jO (x y a b s:Rat):List D:=if s < 0 then [] else if s=0 then [PP x y] else [MP x y a b s,MP x y (-a) (-b) s]
def e9:cr:=λds S k=>∃ x y:Rat,ds=[W x y]/\k (PP x y) S
theorem rT:av ["place"] ["place"] (am jw):=ej
theorem tM (Fn:FN K "plain_point" jw f fd) (bH:tZ K mg "NOUGHT" [0,1]):
  aU P w K mg base cW 1 f fd ["place"] (cY K e9):=by
 refine Fn.okJ rT (λds S k h=>?_) (λcdv A outer s H E hr=>⟨_,(ai (ar (au (aa (au (aa (aO 0) (aa (gS bH rfl) ac))) (aa (au (aa (aO 0) (aa (gS bH rfl) ac))) ac))))),λds S k h=>?_⟩)
 ·obtain⟨_,_,rfl,_⟩:=h
  rfl
 ·obtain⟨x,y,rfl,w⟩:=h;exact⟨a9,a9,a9,w⟩
def j8:cr:=λds S k=>∃ x y:Rat,ds=[PP x y]/\k (W x y) S
theorem xr:av ["point"] ["point"] (am ni):=ej
theorem xl (Fn:FN K "place_of" ni f fd):
  aU P w K mg base cW 1 f fd ["point"] (cY K j8):=by
 refine Fn.okJ xr (λds S k h=>?_) (λcdv A outer s H E hr=>⟨_,(ai (ar (au (aa (bh cj (aO 0) ah Zf) (aa (bh cj (aO 0) ah Zf) ac))))),λds S k h=>?_⟩)
 ·obtain⟨_,_,rfl,_⟩:=h
  rfl
 ·obtain⟨x,y,rfl,w⟩:=h;exact⟨a9,w⟩
def ml:cr:=λds S k=>∃ x y z v:Rat,ds=[W x y,W z v]/\Sz 60000000 x/\Sz 60000000 y/\Sz 60000000 z/\Sz 60000000 v/\k (W (z - x) (v - y)) S
theorem vw:av ["one","other"] ["one","other"] (am lM):=ej
theorem vT (Fn:FN K "plain_way" lM f fd) (dL:aZ P w K mg base "minus" 35 oZ):
  aU P w K mg base cW 36 f fd ["one","other"] (cY K ml):=by
 refine Fn.okJ vw (λds S k h=>?_) (λcdv A outer s H E hr=>⟨_,(ai (ar (au (aa (dq dL hr (aa (aO 1) (aa (aO 0) ac))) (aa (dq dL hr (aa (aO 1) (aa (aO 0) ac))) ac))))),λds S k h=>?_⟩)
 ·obtain⟨_,_,_,_,rfl,_⟩:=h
  rfl
 ·obtain⟨x,y,z,v,rfl,hx,hy,hz,hv,w⟩:=h;exact⟨z,x,rfl,hz,hx,v,y,rfl,hv,hy,a9,w⟩
def fJ:cr:=λds S k=>∃ x y z v:Rat,ds=[W x y,W z v]/\Sz 360000 x/\Sz 360000 y/\Sz 360000 z/\Sz 360000 v/\k (fr (x*z+y*v)) S
theorem mZ:av ["one","other"] ["one","other"] (am fR):=ej
theorem nq (Fn:FN K "product_of_ways" fR f fd) (bU:aZ P w K mg base "plus" 35 kW) (bc:aZ P w K mg base "times" 35 ik):
  aU P w K mg base cW 36 f fd ["one","other"] (cY K fJ):=by
 refine Fn.okJ mZ (λds S k h=>?_) (λcdv A outer s H E hr=>⟨_,(ai (ar (dq bU hr (aa (dq bc hr (aa (aO 0) (aa (aO 1) ac))) (aa (dq bc hr (aa (aO 0) (aa (aO 1) ac))) ac))))),λds S k h=>?_⟩)
 ·obtain⟨_,_,_,_,rfl,_⟩:=h
  rfl
 ·obtain⟨x,y,z,v,rfl,hx,hy,hz,hv,w⟩:=h;exact⟨x,z,rfl,hx.mono (by decide),hz.mono (by decide),y,v,rfl,hy.mono (by decide),hv.mono (by decide),_,_,rfl,(hx.mul hz).mono (by decide),(hy.mul hv).mono (by decide),w⟩
def rg:cr:=λds S k=>∃ x y a b t:Rat,ds=[W x y,W a b,fr t]/\Sz 360000 x/\Sz 360000 y/\Sz 360000 a/\Sz 360000 b/\Sz 360000 t/\k (W (x+a*t) (y+b*t)) S
theorem Cm:av ["place","way","by"] ["place","way","by"] (am vZ):=ej
theorem Cr (Fn:FN K "moved" vZ f fd) (bU:aZ P w K mg base "plus" 35 kW) (bc:aZ P w K mg base "times" 35 ik):
  aU P w K mg base cW 36 f fd ["place","way","by"] (cY K rg):=by
 refine Fn.okJ Cm (λds S k h=>?_) (λcdv A outer s H E hr=>⟨_,(ai (ar (au (aa (dq bU hr (aa (aO 0) (aa (dq bc hr (aa (aO 1) (aB 2 ac))) ac))) (aa (dq bU hr (aa (aO 0) (aa (dq bc hr (aa (aO 1) (aB 2 ac))) ac))) ac))))),λds S k h=>?_⟩)
 ·obtain⟨_,_,_,_,_,rfl,_⟩:=h
  rfl
 ·obtain⟨x,y,a,b,t,rfl,hx,hy,ha,hb,ht,w⟩:=h;exact⟨a,t,rfl,ha.mono (by decide),ht.mono (by decide),_,_,rfl,hx.mono (by decide),(ha.mul ht).mono (by decide),b,t,rfl,hb.mono (by decide),ht.mono (by decide),_,_,rfl,hy.mono (by decide),(hb.mul ht).mono (by decide),a9,w⟩
def lw:cr:=λds S k=>∃ x y a b s:Rat,ds=[W x y,W a b,fr s]/\Sz 400000 x/\Sz 400000 y/\Sz 160000 a/\Sz 160000 b/\Sz 400000 s/\∀ S',bV S S'->k (MP x y a b s) S'
theorem dz:av ["place","way","square","numbers","part","portion","under"] ["place","way","square"] (am gT):=ej
theorem qf (Fn:FN K "moved_by_root" gT f fd) (bc:aZ P w K mg base "times" 35 ik) (yD:aZ P w K mg base "made" 37 Bf) (bn:aZ P w K mg base "with_sign_of" 2 eL) (oo:mg "zip"=none):
  aU P w K mg base cW 38 f fd ["place","way","square"] (cY K lw):=by
 refine Fn.okJ dz (λds S k h=>?_) (λcdv A outer s H E hr=>⟨_,(ag (aq (i:=3) dz.nd (cb ac)) (ag (zX PassesOwn.never rfl rfl oo (aB 0 (aB 1 ac)) (eQ (n:=2) rfl (aY (aJ (i:=4) dz.nd) (aY (aJ (i:=5) dz.nd) dy))) (ag (aq (i:=6) dz.nd (dq bc hr (aa (dq bc hr (aB 5 (aB 5 ac))) (aB 2 ac)))) (ai (bf (eH (aj 3) (dq yD hr (aB 4 (aa (dq bn hr (aB 6 (aB 5 ac))) ac)))))))) (ai (ar (au (aa (aO 3) (aa (aO 3) ac))))))),λds S k h=>?_⟩)
 ·obtain⟨_,_,_,_,_,rfl,_⟩:=h
  rfl
 ·obtain⟨x,y,a,b,s,rfl,hx,hy,ha,hb,hs,w⟩:=h;have big':∀ n:Nat,n < 300->n < sizeLine:=λn h=>Mz h (MF (rfl:Nat.ble 300 sizeLine=true))
  refine⟨a9,λq hq=>⟨([fr x,fr y],none),([fr a,fr b],none),rfl,rfl,?_⟩⟩
  have m1:=(ha.mul ha).mul hs;have m2:=(hb.mul hb).mul hs;have s1:Sz 800000 (sg (a*a*s) a):=m1.sg.mono (by decide)
  have s2:Sz 800000 (sg (b*b*s) b):=m2.sg.mono (by decide)
  refine⟨⟨trivial,trivial⟩,([fr x,fr a],none),rfl,rfl,rfl,a,a,rfl,ha.mono (by decide),ha.mono (by decide),_,s,rfl,(ha.mul ha).mono (by decide),hs.mono (by decide),?_⟩
  refine⟨⟨_,ak⟩,_,a,rfl,x,_,rfl,hx.mono (by decide),s1,[],ak,big' 0 (by decide),?_⟩
  refine⟨⟨trivial,trivial⟩,([fr y,fr b],none),rfl,rfl,rfl,b,b,rfl,hb.mono (by decide),hb.mono (by decide),_,s,rfl,(hb.mul hb).mono (by decide),hs.mono (by decide),?_⟩
  refine⟨⟨_,ak⟩,_,b,rfl,y,_,rfl,hy.mono (by decide),s2,_,ak,big' 1 (by decide),?_⟩
  refine⟨⟨trivial,trivial⟩,_,_,ak,sf,_,_,ak,FR,a9,?_⟩;rw [C3,C3];exact w _ (((bV.new hq).put hq).put hq)
def j7:cr:=λds S k=>∃ x y a b s:Rat,ds=[W x y,W a b,fr s]/\Sz 400000 x/\Sz 400000 y/\Sz 160000 a/\Sz 160000 b/\Sz 400000 s/\∀ S' p,bV S S'->S' p=none->k (.ref p) (put S' p (.lst (jO x y a b s)))
theorem mV:av ["place","way","square","against"] ["place","way","square"] (am kQ):=ej
theorem ua (Fn:FN K "both_moved" kQ f fd) (bv:aZ P w K mg base "plain_point" 1 e9) (bb:aZ P w K mg base "negative" 1 fw) (ff:aZ P w K mg base "moved_by_root" 38 lw):
  aU P w K mg base cW 39 f fd ["place","way","square"] (cY K j7):=by
 refine Fn.okJ mV (λds S k h=>?_) (λcdv A outer s H E hr=>⟨_,(ag (aE (aA rb (aO 2) ah (aD _)) (ai (ar (cb ac))) aL) (ag (aE (aA fC (aO 2) ah (aD _)) (ai (ar (cb (aa (dq bv hr (aB 0 ac)) ac)))) aL) (ag (aq (i:=3) mV.nd (au (aa (dq bb hr (aa (aO 1) ac)) (aa (dq bb hr (aa (aO 1) ac)) ac)))) (ai (ar (cb (aa (dq ff hr (aB 0 (aB 1 (aB 2 ac)))) (aa (dq ff hr (aB 0 (aB 3 (aB 2 ac)))) ac)))))))),λds S k h=>?_⟩)
 ·obtain⟨_,_,_,_,_,rfl,_⟩:=h
  rfl
 ·obtain⟨x,y,a,b,s,rfl,hx,hy,ha,hb,hs,w⟩:=h;refine aN (λn=>?_) (λn=>aN (λz=>?_) (λz=>?_))
  ·have w':=λp hp=>w S p (bV.refl S) hp
   rw [show jO x y a b s=[] from if_pos ((cM s).mp n)] at w'
   exact⟨a9,w'⟩
  ·have z:s=0:=Nh.mp z;have w':=λp hp=>w S p (bV.refl S) hp
   rw [show jO x y a b s=[PP x y] by unfold jO; rw [if_neg (by rw [z]; decide),if_pos z]] at w'
   exact⟨x,y,rfl,a9,w'⟩
  ·have z:s≠0:=λq=>z (by rw [q]; rfl)
   refine⟨a,rfl,b,rfl,a9,x,y,a,b,s,rfl,hx,hy,ha,hb,hs,λS1 e1=>⟨x,y,-a,-b,s,rfl,hx,hy,ha.neg,hb.neg,hs,λS2 e2=>⟨a9,λp hp=>?_⟩⟩⟩
   have w':=w S2 p (e1.trans e2) hp;rw [show jO x y a b s=[MP x y a b s,MP x y (-a) (-b) s] by unfold jO; rw [if_neg (λq=>n ((cM s).mpr q)),if_neg z]] at w'
   exact w'
def iS:cr:=λds S k=>∃ a b:Rat,ds=[W a b]/\Sz 360000 a/\Sz 360000 b/\a*a+b*b≠0/\k (fr (a*a+b*b)) S
theorem dw:av ["way","square"] ["way"] (am dJ):=ej
theorem mG (Fn:FN K "square_of_unlike" dJ f fd) (cn:aZ P w K mg base "product_of_ways" 36 fJ):
  aU P w K mg base cW 37 f fd ["way"] (cY K iS):=by
 refine Fn.okJ dw (λds S k h=>?_) (λcdv A outer s H E hr=>⟨_,(ag (aq (i:=1) dw.nd (dq cn hr (aB 0 (aB 0 ac)))) (ag (aE (aA fC (aO 1) ah (aD _)) (ai fB) aL) (ai (ar (aj 1))))),λds S k h=>?_⟩)
 ·obtain⟨_,_,rfl,_⟩:=h
  rfl
 ·obtain⟨a,b,rfl,ha,hb,h0,w⟩:=h;exact⟨a,b,a,b,rfl,ha,hb,ha,hb,aN (λz=>absurd (Nh.mp z) h0) (λ_=>w)⟩
set_option maxHeartbeats 4000000
abbrev Gn:=Rat×Rat
abbrev gD (n:Gn):D:=.tup [fr n.1,fr n.2]
abbrev gP (p:Gn×Gn):D:=.tup [gD p.1,gD p.2]
def Gz (q:Rat):Prop:=∃ r,r*r=q
def DJ (m n:Gn):Prop:=m.2=0\/n.2=0\/Gz (ab m.2 / ab n.2)
noncomputable def Ev (m n:Gn):Nw:=@decide (DJ m n) (Classical.propDecidable _)
theorem FK {m n:Gn} (h:DJ m n):Ev m n=true:=@decide_eq_true _ (Classical.propDecidable _) h
theorem Fe {m n:Gn} (h:¬ DJ m n):Ev m n=false:=@M9 _ (Classical.propDecidable _) h
theorem IW {m n:Gn} (h:Ev m n=true):DJ m n:=by
 apply Classical.byContradiction;intro z;rw [Fe z] at h;cases h
def lz:cr:=λds S k=>∃ m n:Gn,ds=[gD m,gD n]/\Sz 6700000 m.2/\Sz 6700000 n.2/\k (.bl (Ev m n)) S
theorem vU:av ["one","other"] ["one","other"] (am mh):=ej
theorem v_ (Fn:FN K "one_field" mh f fd) (ba:aZ P w K mg base "is_plain" 1 ft) (eO:aZ P w K mg base "root_in" 36 mw) (dS:aZ P w K mg base "over" 35 qd) (a_:aZ P w K mg base "without_sign" 1 eI):
  aU P w K mg base cW 37 f fd ["one","other"] (cY K lz):=by
 refine Fn.okJ vU (λds S k h=>?_) (λcdv A outer s H E hr=>⟨_,(ag (aE (WJ.pt (iC (cV (dq ba hr (aB 0 ac))) (gI (cV (dq ba hr (aB 1 ac)))))) (ai (ar oy)) aL) (ai (ar (qA yT (dq eO hr (aa (dq dS hr (aa (dq a_ hr (aa (aO 0) ac)) (aa (dq a_ hr (aa (aO 1) ac)) ac))) ac)) cO (aD _))))),λds S k h=>?_⟩)
 ·obtain⟨_,_,rfl,_⟩:=h
  rfl
 ·obtain⟨m,n,rfl,hm,hn,w⟩:=h;have yes:(m.2=0\/n.2=0\/Gz (ab m.2 / ab n.2))->k (.bl true) S:=λc=>by
   rw [show Ev m n=true from FK c] at w
   exact w
  refine⟨fr m.1,m.2,rfl,aN (λe=>yes (.inl e)) (λe=>⟨fr n.1,n.2,rfl,aN (λe2=>yes (.inr (.inl e2))) (λe2=>?_)⟩)⟩
  have ne:ab n.2≠0:=mI e2;refine⟨_,rfl,_,rfl,_,_,rfl,ne,hm.ab.mono (by decide),hn.ab.mono (by decide),_,rfl,la (mP _) (mP _),(hm.ab.div hn.ab ne).mono (by decide),λr r0 rr=>yes (.inr (.inr ⟨r,rr⟩)),λno=>?_⟩
  rw [show Ev m n=false from Fe (by rintro(z | z | ⟨r,z⟩); exact e z; exact e2 z; exact no r z)] at w
  exact w
def eY (ps:List (Gn×Gn)):List Gn:=ps.flatMap λp=>[p.1,p.2].filter λn=>!decide (n.2=0)
def Dp (ps:List (Gn×Gn)):Prop:=∀ n∈(eY ps).tail,Ev ((eY ps).headD (0,0)) n=true
theorem vF:∀ ps:List (Gn×Gn),(eY ps).length<=2*ps.length
 | []=>Mp _
 | p::ps=>by
  have ih:=vF ps;unfold eY at ih ⊢;rw [List.flatMap_cons,MI,MB];have:([p.1,p.2].filter λn=>!decide (n.2=0)).length<=2:=List.length_filter_le _ _
  omega
theorem oA {ps:List (Gn×Gn)} {n:Gn} (h:n∈eY ps):n.2≠0/\∃ p∈ps,n=p.1\/n=p.2:=by
 obtain⟨p,hp,hn⟩:=List.mem_flatMap.mp h;obtain⟨h1,h2⟩:=List.mem_filter.mp hn;refine⟨by simpa using h2,p,hp,by simpa using h1⟩
theorem ze {ps qs:List (Gn×Gn)}:eY (ps++qs)=eY ps++eY qs:=by unfold eY; rw [List.flatMap_append]
theorem BO {p:Gn×Gn} (h1:¬ p.1.2=0) (h2:¬ p.2.2=0):eY [p]=[p.1,p.2]:=by simp [eY,h1,h2]
theorem A7 {p:Gn×Gn} (h1:¬ p.1.2=0) (h2:p.2.2=0):eY [p]=[p.1]:=by simp [eY,h1,h2]
theorem AS {p:Gn×Gn} (h1:p.1.2=0) (h2:¬ p.2.2=0):eY [p]=[p.2]:=by simp [eY,h1,h2]
theorem Ca {p:Gn×Gn} (h1:p.1.2=0) (h2:p.2.2=0):eY [p]=[]:=by simp [eY,h1,h2]
theorem uI (n:Nat) (h:n < 300):n < sizeLine:=Mz h (MF (rfl:Nat.ble 300 sizeLine=true))
theorem FA {x:D} {t:List D}:DL.iU (x::t) (some 1) none=t:=by
 unfold DL.iU;have h1:HT.dX (x::t).length 0 (some 1)=1:=by unfold HT.dX; simp
 have h2:HT.dX (x::t).length (x::t).length none=(x::t).length:=rfl;rw [h1,h2];simp
theorem IU {n:Nat} (h:n<=300):n<=sizeLine:=M1 h (MF (rfl:Nat.ble 300 sizeLine=true))
def lx:cr:=λds S k=>∃ ps:List (Gn×Gn),ds=[.tup (ps.map gP)]/\(∀ p∈ps,Sz 6700000 p.1.2/\Sz 6700000 p.2.2)/\ps.length<=90/\Dp ps/\∀ S',bV S S'->k .non S'
theorem bR:av ["points","rooted","point","number"] ["points"] (am fj):=ej
theorem qj (Fn:FN K "ask_one_field" fj f fd) (ba:aZ P w K mg base "is_plain" 1 ft) (fE:aZ P w K mg base "one_field" 37 lz):
  aU P w K mg base cW 38 f fd ["points"] (cY K lx):=by
 refine Fn.okJ bR (λds S k h=>?_) (λcdv A outer s H E hr=>⟨_,(ag (aq (i:=1) bR.nd (cb ac)) (ag (gw PassesOwn.never rfl (aj 0) (aJ (i:=2) bR.nd) (ai (bf (Cw (aj 1) (r6 rfl (kM (N:=["number"]) (cap:=[none]) rfl rfl rfl rfl trivial rfl rfl trivial) (aj 2) (λ_ _ _ _=>(aJ (i:=0) (show List.Nodup (["number"]:List Str) from by decide +kernel))) (λ_ _ _ _=>(f_ (cV (dq ba hr (aB 0 ac))))) (λ_ _ _ _=>(aj 0))))))) (ai (gw PassesOwn.never rfl (rD (aj 1) (jM ah) jQ) (aJ (i:=3) bR.nd) (ai (aE (f_ (cV (dq fE hr (aa (aO 1) (aB 3 ac))))) (ai fB) aL)))))),λds S k h=>?_⟩)
 ·obtain⟨_,rfl,_⟩:=h
  rfl
 ·obtain⟨ps,rfl,hp,hl,one,w1⟩:=h;refine⟨a9,λq hq=>?_⟩
  refine⟨(ps.map gP,none),rfl,?_⟩;refine gh (λr' L S1=>∃ ps1 ps2 l2 l3,L=[some (.tup (ps.map gP)),some (.ref q),l2,l3]/\bV S S1/\S1 q=some (.lst ((eY ps1).map gD))/\ps=ps1++ps2/\r'=ps2.map gP) (λ_ _ _ _=>trivial) ?_ ?_ _ _ _ ⟨[],ps,none,none,rfl,bV.new hq,ak,rfl,rfl⟩
  ·rintro d r L S1 Nx ⟨ps1,ps2,l2,l3,rfl,e,hS1,eps,er⟩ hN;cases ps2 with
   | nil=>cases er
   | cons p ps2=>
    cases er;have nxt:∀ (es:List D) (S2:DH) (l2':Nm D),es=(eY [p]).map gD->bV S S2->S2 q=some (.lst ((eY ps1).map gD++es))->Nx [some (.tup (ps.map gP)),some (.ref q),l2',l3] S2:=λes S2 l2' he e2 h2=>hN _ _ ⟨ps1++[p],ps2,l2',l3,rfl,e2,by rw [h2,ze,List.map_append,he],by rw [eps,List.append_assoc]; rfl,rfl⟩
    refine⟨⟨_,hS1⟩,([gD p.1,gD p.2],none),rfl,λp1 hp2=>?_⟩
    have qp:q≠p1:=λz=>by subst z; rw [hS1] at hp2; cases hp2
    have sp:S p1=none:=e.none hp2;have hlen:(eY ps1).length<=180:=by
     have h1:=vF ps1;have h2:ps.length=ps1.length+(p::ps2).length:=by rw [eps,MI]
     omega
    have fin:∀ (es:List D) (S2:DH),bV S S2->S2 q=some (.lst ((eY ps1).map gD))->S2 p1=some (.lst es)->es.length<=2->es=(eY [p]).map gD->∃ ds es',S2 q=some (.lst ds)/\S2 p1=some (.lst es')/\ds.length+es'.length<=sizeLine/\Nx [some (.tup (ps.map gP)),some (.ref q),some (gP p),l3] (put S2 q (.lst (ds++es'))):=λes S2 e2 h1 h2 h3 h4=>
     ⟨_,es,h1,h2,IU (by rw [Mq]; omega),nxt es _ _ h4 (e2.put hq) ak⟩
    have e0:bV S (put S1 p1 (.lst [])):=e.put sp;have q0:put S1 p1 (.lst []) q=some (.lst ((eY ps1).map gD)):=by rw [bw qp]; exact hS1
    refine⟨trivial,_,_,rfl,cZ (λh1=>⟨ak,uI 0 (by decide),trivial,_,_,rfl,cZ (λh2=>⟨ak,uI 1 (by decide),trivial,?_⟩) (λh2=>⟨trivial,?_⟩)⟩) (λh1=>⟨trivial,_,_,rfl,cZ (λh2=>⟨ak,uI 0 (by decide),trivial,?_⟩) (λh2=>⟨trivial,?_⟩)⟩)⟩
    ·exact fin [gD p.1,gD p.2] _ ((e0.put sp).put sp) (by rw [bw qp,bw qp]; exact q0) ak (by show 2<=2; decide) (by rw [BO h1 h2]; rfl)
    ·exact fin [gD p.1] _ (e0.put sp) (by rw [bw qp]; exact q0) ak (by show 1<=2; decide) (by rw [A7 h1 h2]; rfl)
    ·exact fin [gD p.2] _ (e0.put sp) (by rw [bw qp]; exact q0) ak (by show 1<=2; decide) (by rw [AS h1 h2]; rfl)
    ·exact fin [] _ e0 q0 ak (by show 0<=2; decide) (by rw [Ca h1 h2]; rfl)
  ·rintro L S1 ⟨ps1,ps2,l2,l3,rfl,e,hS1,eps,er⟩;cases ps2 with
   | cons _ _=>cases er
   | nil=>
    rw [MJ] at eps;subst eps;refine⟨_,hS1,λp2 hp2=>⟨(DL.iU ((eY ps).map gD) (some 1) none,some p2),by simp only [aS,ak],?_⟩⟩
    have qp:q≠p2:=λz=>by subst z; rw [hS1] at hp2; cases hp2
    have ecut:DL.iU ((eY ps).map gD) (some 1) none=(eY ps).tail.map gD:=by
     cases eY ps with
     | nil=>rfl
     | cons x t=>exact FA
    refine gh (λr L S2=>∃ t' l2 l3,L=[some (.tup (ps.map gP)),some (.ref q),l2,l3]/\bV S S2/\S2 q=some (.lst ((eY ps).map gD))/\S2 p2=some (.lst (DL.iU ((eY ps).map gD) (some 1) none))/\r=t'.map gD/\(∀ n∈t',n∈eY ps)/\(Dp ps↔∀ n∈t',Ev ((eY ps).headD (0,0)) n=true)) (λr L S2 ⟨_,_,_,_,_,_,z,_⟩=>z) ?_ ?_ _ _ _ ⟨(eY ps).tail,l2,l3,rfl,e.put (e.none hp2),(bw qp).trans hS1,ak,ecut,λn hn=>List.mem_of_mem_tail hn,Iff.rfl⟩
    ·rintro d r L S2 Nx ⟨t',l2,l3,rfl,e2,h1,h2,er,hm,hO⟩ hN;cases t' with
     | nil=>cases er
     | cons n t'=>
      cases er;obtain⟨x0,t,ex⟩:∃ x0 t,eY ps=x0::t:=by
       cases h:eY ps with
       | nil=>have:=hm n Mv; rw [h] at this; cases this
       | cons x0 t=>exact⟨x0,t,rfl⟩
      have sz:∀ n∈eY ps,Sz 6700000 n.2:=λn hn=>by
       obtain⟨_,p,hp2,hh⟩:=oA hn;rcases hh with rfl | rfl
       ·exact(hp p hp2).1
       ·exact(hp p hp2).2
      have eh:(eY ps).headD (0,0)=x0:=by rw [ex]; rfl
      have h1':=h1;rw [ex] at h1';rw [eh] at hO;refine⟨_,_,h1',sf,x0,n,rfl,sz x0 (by rw [ex]; exact Mv),sz n (hm n Mv),nc (λz=>False.elim ?_) (λz=>hN _ _ ⟨t',_,_,rfl,e2,h1,h2,rfl,λy hy=>hm y (Mw _ hy),?_⟩)⟩
      ·rw [hO.mp one n Mv] at z;cases z
      ·rw [eh];exact⟨λo y hy=>hO.mp o y (Mw _ hy),λo=>hO.mpr λy hy=>by
        rcases Mt.mp hy with rfl | hy
        ·exact z
        ·exact o y hy⟩
    ·rintro L S2 ⟨t',l2,l3,rfl,e2,h1,h2,er,hm,hO⟩;cases t' with
     | cons _ _=>cases er
     | nil=>exact w1 S2 e2
def jU (az:Nl):mH:=λds S k x=>∃ ps:List (Gn×Gn),ds=[.tup (ps.map gP)]/\(∀ p∈ps,Sz 6700000 p.1.2/\Sz 6700000 p.2.2)/\ps.length<=90/\(Dp ps->∀ S',bV S S'->k .non S')/\(¬ Dp ps->∀ S',bV S S'->x az S')
theorem pe {P:Np} {w:Nr} {K:Fg} {mg:Str->Nm Nk} {base:Nt} {f:Nl} {fd:FuncData} {az:Nl} (Fn:FN K "ask_one_field" fj f fd) (fE:aZ P w K mg base "one_field" 37 lz) (ba:aZ P w K mg base "is_plain" 1 ft) (eS:mg "NoField"=some (.ref az)) (qz:PySem.W.excIn K az [.type "ValueError",.type "Exception",.type "BaseException",.type "object"] "ValueError.__new__"=true):
  aU P w K mg base (eV P w) 38 f fd ["points"] (AC K (jU az)):=by
 refine Fn.okX bR (λds S k x h=>?_) (λcdv A outer s H E ex hr hE=>⟨_,(ag (aq (i:=1) bR.nd (cb ac)) (ag (gw PassesOwn.leaving rfl (aj 0) (aJ (i:=2) bR.nd) (ai (bf (Cw (aj 1) (r6 rfl (kM (N:=["number"]) (cap:=[none]) rfl rfl rfl rfl trivial rfl rfl trivial) (aj 2) (λ_ _ _ _=>(aJ (i:=0) (show List.Nodup (["number"]:List Str) from by decide +kernel))) (λ_ _ _ _=>(f_ (cV (dq ba hr (aB 0 ac))))) (λ_ _ _ _=>(aj 0))))))) (ai (gw PassesOwn.leaving rfl (rD (aj 1) (jM ah) jQ) (aJ (i:=3) bR.nd) (ai (aE (f_ (cV (dq fE hr (aa (aO 1) (aB 3 ac))))) (ai (nL hE PySem.F.excBase_ValueError qz eS rfl)) aL)))))),λds S k h=>?_⟩)
 ·obtain⟨_,rfl,_⟩:=h
  rfl
 ·obtain⟨ps,rfl,hp,hl,w1,w0⟩:=h;refine⟨a9,λq hq=>?_⟩
  refine⟨(ps.map gP,none),rfl,?_⟩;refine gh (λr' L S1=>∃ ps1 ps2 l2 l3,L=[some (.tup (ps.map gP)),some (.ref q),l2,l3]/\bV S S1/\S1 q=some (.lst ((eY ps1).map gD))/\ps=ps1++ps2/\r'=ps2.map gP) (λ_ _ _ _=>trivial) ?_ ?_ _ _ _ ⟨[],ps,none,none,rfl,bV.new hq,ak,rfl,rfl⟩
  ·rintro d r L S1 Nx ⟨ps1,ps2,l2,l3,rfl,e,hS1,eps,er⟩ hN;cases ps2 with
   | nil=>cases er
   | cons p ps2=>
    cases er;have nxt:∀ (es:List D) (S2:DH) (l2':Nm D),es=(eY [p]).map gD->bV S S2->S2 q=some (.lst ((eY ps1).map gD++es))->Nx [some (.tup (ps.map gP)),some (.ref q),l2',l3] S2:=λes S2 l2' he e2 h2=>hN _ _ ⟨ps1++[p],ps2,l2',l3,rfl,e2,by rw [h2,ze,List.map_append,he],by rw [eps,List.append_assoc]; rfl,rfl⟩
    refine⟨⟨_,hS1⟩,([gD p.1,gD p.2],none),rfl,λp1 hp2=>?_⟩
    have qp:q≠p1:=λz=>by subst z; rw [hS1] at hp2; cases hp2
    have sp:S p1=none:=e.none hp2;have hlen:(eY ps1).length<=180:=by
     have h1:=vF ps1;have h2:ps.length=ps1.length+(p::ps2).length:=by rw [eps,MI]
     omega
    have fin:∀ (es:List D) (S2:DH),bV S S2->S2 q=some (.lst ((eY ps1).map gD))->S2 p1=some (.lst es)->es.length<=2->es=(eY [p]).map gD->∃ ds es',S2 q=some (.lst ds)/\S2 p1=some (.lst es')/\ds.length+es'.length<=sizeLine/\Nx [some (.tup (ps.map gP)),some (.ref q),some (gP p),l3] (put S2 q (.lst (ds++es'))):=λes S2 e2 h1 h2 h3 h4=>
     ⟨_,es,h1,h2,IU (by rw [Mq]; omega),nxt es _ _ h4 (e2.put hq) ak⟩
    have e0:bV S (put S1 p1 (.lst [])):=e.put sp;have q0:put S1 p1 (.lst []) q=some (.lst ((eY ps1).map gD)):=by rw [bw qp]; exact hS1
    refine⟨trivial,_,_,rfl,cZ (λh1=>⟨ak,uI 0 (by decide),trivial,_,_,rfl,cZ (λh2=>⟨ak,uI 1 (by decide),trivial,?_⟩) (λh2=>⟨trivial,?_⟩)⟩) (λh1=>⟨trivial,_,_,rfl,cZ (λh2=>⟨ak,uI 0 (by decide),trivial,?_⟩) (λh2=>⟨trivial,?_⟩)⟩)⟩
    ·exact fin [gD p.1,gD p.2] _ ((e0.put sp).put sp) (by rw [bw qp,bw qp]; exact q0) ak (by show 2<=2; decide) (by rw [BO h1 h2]; rfl)
    ·exact fin [gD p.1] _ (e0.put sp) (by rw [bw qp]; exact q0) ak (by show 1<=2; decide) (by rw [A7 h1 h2]; rfl)
    ·exact fin [gD p.2] _ (e0.put sp) (by rw [bw qp]; exact q0) ak (by show 1<=2; decide) (by rw [AS h1 h2]; rfl)
    ·exact fin [] _ e0 q0 ak (by show 0<=2; decide) (by rw [Ca h1 h2]; rfl)
  ·rintro L S1 ⟨ps1,ps2,l2,l3,rfl,e,hS1,eps,er⟩;cases ps2 with
   | cons _ _=>cases er
   | nil=>
    rw [MJ] at eps;subst eps;refine⟨_,hS1,λp2 hp2=>⟨(DL.iU ((eY ps).map gD) (some 1) none,some p2),by simp only [aS,ak],?_⟩⟩
    have qp:q≠p2:=λz=>by subst z; rw [hS1] at hp2; cases hp2
    have ecut:DL.iU ((eY ps).map gD) (some 1) none=(eY ps).tail.map gD:=by
     cases eY ps with
     | nil=>rfl
     | cons x t=>exact FA
    refine gh (λr L S2=>∃ t' l2 l3,L=[some (.tup (ps.map gP)),some (.ref q),l2,l3]/\bV S S2/\S2 q=some (.lst ((eY ps).map gD))/\S2 p2=some (.lst (DL.iU ((eY ps).map gD) (some 1) none))/\r=t'.map gD/\(∀ n∈t',n∈eY ps)/\(Dp ps↔∀ n∈t',Ev ((eY ps).headD (0,0)) n=true)) (λr L S2 ⟨_,_,_,_,_,_,z,_⟩=>z) ?_ ?_ _ _ _ ⟨(eY ps).tail,l2,l3,rfl,e.put (e.none hp2),(bw qp).trans hS1,ak,ecut,λn hn=>List.mem_of_mem_tail hn,Iff.rfl⟩
    ·rintro d r L S2 Nx ⟨t',l2,l3,rfl,e2,h1,h2,er,hm,hO⟩ hN;cases t' with
     | nil=>cases er
     | cons n t'=>
      cases er;obtain⟨x0,t,ex⟩:∃ x0 t,eY ps=x0::t:=by
       cases h:eY ps with
       | nil=>have:=hm n Mv; rw [h] at this; cases this
       | cons x0 t=>exact⟨x0,t,rfl⟩
      have sz:∀ n∈eY ps,Sz 6700000 n.2:=λn hn=>by
       obtain⟨_,p,hp2,hh⟩:=oA hn;rcases hh with rfl | rfl
       ·exact(hp p hp2).1
       ·exact(hp p hp2).2
      have eh:(eY ps).headD (0,0)=x0:=by rw [ex]; rfl
      have h1':=h1;rw [ex] at h1';rw [eh] at hO;refine⟨_,_,h1',sf,x0,n,rfl,sz x0 (by rw [ex]; exact Mv),sz n (hm n Mv),nc (λz=>w0 (λo=>?_) S2 e2) (λz=>hN _ _ ⟨t',_,_,rfl,e2,h1,h2,rfl,λy hy=>hm y (Mw _ hy),?_⟩)⟩
      ·rw [hO.mp o n Mv] at z;cases z
      ·rw [eh];exact⟨λo y hy=>hO.mp o y (Mw _ hy),λo=>hO.mpr λy hy=>by
        rcases Mt.mp hy with rfl | hy
        ·exact z
        ·exact o y hy⟩
    ·rintro L S2 ⟨t',l2,l3,rfl,e2,h1,h2,er,hm,hO⟩;cases t' with
     | cons _ _=>cases er
     | nil=>exact w1 (hO.mpr λ_ h=>by cases h) S2 e2
set_option maxHeartbeats 4000000
def hG (aV:Nl):mH:=λds S k x=>∃ a b:Rat,ds=[W a b]/\Sz 360000 a/\Sz 360000 b/\(a*a+b*b=0->x aV S)/\(a*a+b*b≠0->k (fr (a*a+b*b)) S)
theorem lH {P:Np} {w:Nr} {K:Fg} {mg:Str->Nm Nk} {base:Nt} {f:Nl} {fd:FuncData} {aV:Nl} (Fn:FN K "square_of_unlike" dJ f fd) (cn:aZ P w K mg base "product_of_ways" 36 fJ) (gn:mg "NoMeet"=some (.ref aV)) (wG:PySem.W.excIn K aV [.type "ValueError",.type "Exception",.type "BaseException",.type "object"] "ValueError.__new__"=true):
  aU P w K mg base (eV P w) 37 f fd ["way"] (AC K (hG aV)):=by
 refine Fn.okX dw (λds S k x h=>?_) (λcdv A outer s H E ex hr hE=>⟨_,(ag (aq (i:=1) dw.nd (dq cn hr (aB 0 (aB 0 ac)))) (ag (aE (aA fC (aO 1) ah (aD _)) (ai (nL hE PySem.F.excBase_ValueError wG gn rfl)) aL) (ai (ar (aj 1))))),λds S k h=>?_⟩)
 ·obtain⟨_,_,rfl,_⟩:=h
  rfl
 ·obtain⟨a,b,rfl,ha,hb,w0,w1⟩:=h;exact⟨a,b,a,b,rfl,ha.mono (by decide),hb.mono (by decide),ha.mono (by decide),hb.mono (by decide),aN (λz=>w0 (Nh.mp z)) (λz=>w1 λe=>z (by rw [e]; rfl))⟩
def cT (x y s z v r:Rat):Rat:=((s - r)+((z - x)*(z - x)+(v - y)*(v - y))) / (((z - x)*(z - x)+(v - y)*(v - y))+((z - x)*(z - x)+(v - y)*(v - y)))
def cE (x y s z v r:Rat):Rat:=s / ((z - x)*(z - x)+(v - y)*(v - y)) - cT x y s z v r*cT x y s z v r
noncomputable def cL (x y s z v r:Rat):List D:=jO (x+(z - x)*cT x y s z v r) (y+(v - y)*cT x y s z v r) (-(v - y)) (z - x) (cE x y s z v r)
theorem wc {A:Rat} (h:A≠0):A+A≠0:=by grind
def iI:cr:=λds S k=>match ds with
 | [.non,.non,.non,.non]=>False/\k .non S
 | _=>False
theorem a8:av ["one","square","other","other_square","start","way","apart","along","aside"] ["one","square","other","other_square"] (am fT):=ej
theorem qO (Fn:FN K "circles_meet" fT f fd) (cS:aZ P w K mg base "place_of" 1 j8) (fD:aZ P w K mg base "plain_way" 36 ml) (fx:aZ P w K mg base "square_of_unlike" 37 iS) (dS:aZ P w K mg base "over" 35 qd) (bU:aZ P w K mg base "plus" 35 kW) (dL:aZ P w K mg base "minus" 35 oZ) (bc:aZ P w K mg base "times" 35 ik) (eN:aZ P w K mg base "both_moved" 39 j7) (bb:aZ P w K mg base "negative" 1 fw) (hZ:aZ P w K mg base "moved" 36 rg):
  aU P w K mg base cW 40 f fd ["one","square","other","other_square"] (cY K iI):=by
 refine Fn.okJ a8 (λds S k h=>?_) (λcdv A outer s H E hr=>⟨_,(ag (aq (i:=4) a8.nd (dq cS hr (aB 0 ac))) (ag (aq (i:=5) a8.nd (dq fD hr (aB 4 (aa (dq cS hr (aB 2 ac)) ac)))) (ag (aq (i:=6) a8.nd (dq fx hr (aB 5 ac))) (ag (aq (i:=7) a8.nd (dq dS hr (aa (dq bU hr (aa (dq dL hr (aB 1 (aB 3 ac))) (aB 6 ac))) (aa (dq bU hr (aB 6 (aB 6 ac))) ac)))) (ag (aq (i:=8) a8.nd (dq dL hr (aa (dq dS hr (aB 1 (aB 6 ac))) (aa (dq bc hr (aB 7 (aB 7 ac))) ac)))) (ai (ar (dq eN hr (aa (dq hZ hr (aB 4 (aB 5 (aB 7 ac)))) (aa (au (aa (dq bb hr (aa (aO 5) ac)) (aa (aO 5) ac))) (aB 8 ac))))))))))),λds S k h=>?_⟩)
 ·unfold iI at h
  split at h
  ·rfl
  ·exact h.elim
 ·unfold iI at h
  split at h
  ·exact h.1.elim
  ·exact h.elim
structure C0 (x y s z v r:Rat):Prop where
 hx:Sz 49000 x
 hy:Sz 49000 y
 hs:Sz 30 s
 hz:Sz 49000 z
 hv:Sz 49000 v
 hr:Sz 30 r
 ha:Sz 98000 (z - x)
 hb:Sz 98000 (v - y)
 ht:(z - x)*(z - x)+(v - y)*(v - y)≠0->Sz 195000 (cT x y s z v r)
 he:(z - x)*(z - x)+(v - y)*(v - y)≠0->Sz 390000 (cE x y s z v r)
 hX:(z - x)*(z - x)+(v - y)*(v - y)≠0->Sz 295000 (x+(z - x)*cT x y s z v r)
 hY:(z - x)*(z - x)+(v - y)*(v - y)≠0->Sz 295000 (y+(v - y)*cT x y s z v r)
def lv (aV:Nl):mH:=λds S k e=>∃ x y s z v r:Rat,ds=[PP x y,fr s,PP z v,fr r]/\C0 x y s z v r/\((z - x)*(z - x)+(v - y)*(v - y)=0->e aV S)/\((z - x)*(z - x)+(v - y)*(v - y)≠0->∀ S' p,bV S S'->S' p=none->k (.ref p) (put S' p (.lst (cL x y s z v r))))
theorem pH {P:Np} {w:Nr} {K:Fg} {mg:Str->Nm Nk} {base:Nt} {f:Nl} {fd:FuncData} {aV:Nl} (Fn:FN K "circles_meet" fT f fd) (eN:aZ P w K mg base "both_moved" 39 j7) (bb:aZ P w K mg base "negative" 1 fw) (hZ:aZ P w K mg base "moved" 36 rg) (dL:aZ P w K mg base "minus" 35 oZ) (bc:aZ P w K mg base "times" 35 ik) (dS:aZ P w K mg base "over" 35 qd) (bU:aZ P w K mg base "plus" 35 kW) (fD:aZ P w K mg base "plain_way" 36 ml) (cS:aZ P w K mg base "place_of" 1 j8) (eX:nO P w K mg base "square_of_unlike" 37 (hG aV)):
  aU P w K mg base (eV P w) 40 f fd ["one","square","other","other_square"] (AC K (lv aV)):=by
 refine Fn.okX a8 (λds S k x h=>?_) (λcdv A outer s H E ex hr hE=>⟨_,(ag (aq (i:=4) a8.nd (dq cS hr (aB 0 ac))) (ag (aq (i:=5) a8.nd (dq fD hr (aB 4 (aa (dq cS hr (aB 2 ac)) ac)))) (ag (aq (i:=6) a8.nd (oO hE eX (hr.mono (by decide)) rfl (aB 5 ac))) (ag (aq (i:=7) a8.nd (dq dS hr (aa (dq bU hr (aa (dq dL hr (aB 1 (aB 3 ac))) (aB 6 ac))) (aa (dq bU hr (aB 6 (aB 6 ac))) ac)))) (ag (aq (i:=8) a8.nd (dq dL hr (aa (dq dS hr (aB 1 (aB 6 ac))) (aa (dq bc hr (aB 7 (aB 7 ac))) ac)))) (ai (ar (dq eN hr (aa (dq hZ hr (aB 4 (aB 5 (aB 7 ac)))) (aa (au (aa (dq bb hr (aa (aO 5) ac)) (aa (aO 5) ac))) (aB 8 ac))))))))))),λds S k h=>?_⟩)
 ·obtain⟨_,_,_,_,_,_,rfl,_⟩:=h
  rfl
 ·obtain⟨x,y,s,z,v,r,rfl,hz,w0,w⟩:=h;have sA:=(hz.ha.mul hz.ha).add (hz.hb.mul hz.hb);have sp:=(hz.hs.sub hz.hr).add sA;have sB:=sA.add sA;refine⟨x,y,rfl,z,v,rfl,x,y,z,v,rfl,hz.hx.mono (by decide),hz.hy.mono (by decide),hz.hz.mono (by decide),hz.hv.mono (by decide),_,_,rfl,hz.ha.mono (by decide),hz.hb.mono (by decide),w0,λh0=>?_⟩
  have w:=w h0;have ht:=hz.ht h0;have he:=hz.he h0;have h2:=wc h0;have sq:=hz.hs.div sA h0;have sX:=hz.hX h0;have sY:=hz.hY h0;refine⟨s,r,rfl,hz.hs.mono (by decide),hz.hr.mono (by decide),_,_,rfl,(hz.hs.sub hz.hr).mono (by decide),sA.mono (by decide),_,_,rfl,sA.mono (by decide),sA.mono (by decide),_,_,rfl,h2,sp.mono (by decide),sB.mono (by decide),?_⟩
  refine⟨s,_,rfl,h0,hz.hs.mono (by decide),sA.mono (by decide),_,_,rfl,ht.mono (by decide),ht.mono (by decide),_,_,rfl,sq.mono (by decide),(ht.mul ht).mono (by decide),?_⟩
  refine⟨_,_,_,_,_,rfl,hz.hx.mono (by decide),hz.hy.mono (by decide),hz.ha.mono (by decide),hz.hb.mono (by decide),ht.mono (by decide),?_⟩
  exact⟨_,rfl,a9,_,_,_,_,_,rfl,sX.mono (by decide),sY.mono (by decide),hz.hb.neg.mono (by decide),hz.ha.mono (by decide),he.mono (by decide),w⟩
set_option maxHeartbeats 4000000
theorem kC:Sz 1 (1:Rat):=⟨by decide,by decide⟩
theorem IV {m n:Nat} (h1:m*m < n) (h2:n < (m+1)*(m+1)) (k:Nat):k*k≠n:=λe=>by
 subst e;rcases Nat.lt_or_ge m k with h | h
 ·have:=Nat.mul_le_mul (show m+1<=k from h) (show m+1<=k from h)
  omega
 ·have:=Nat.mul_le_mul h h;omega
theorem Gf {q:Rat} {m n:Nat} (h:q.num=(n:Int)) (h1:m*m < n) (h2:n < (m+1)*(m+1)):fW q:=λr e=>by
 have e1:=congrArg Rat.num e;rw [nQ,h] at e1;have:=congrArg Int.natAbs e1;rw [Int.natAbs_mul] at this;exact IV h1 h2 _ this
theorem C5:Fd 2:=⟨by decide,Gf (q:=2) (m:=1) (n:=2) rfl (by decide) (by decide),(show Sz 2 2 from⟨by decide,by decide⟩).mono (by decide)⟩
theorem Ba {a s:Rat} (no:fW s) (ha:a≠0):fW (a*a*s):=λr e=>no (r / a) (by
 have h:r / a*a=r:=Rat.div_mul_cancel ha;generalize r / a=t at h;subst h;have:a*a*(t*t - s)=0:=by grind
 have h2:a*a≠0:=by grind
 grind)
theorem Fo {p a s:Rat} (s0:0 < s) (no:fW s):AA p (ss a*s)=N s p a:=by
 by_cases ha:a=0
 ·subst ha;rw [show ss 0*s=0 by unfold ss; grind,wH]
  exact iW
 ·rw [xC (by rw [oW s0]; exact Ba no ha)]
  rfl
theorem Fv {p a ρ:Rat} (r0:0 < ρ):AA p (ss a*(ρ*ρ))=.tup [fr (p+a*ρ),fr 0]:=by
 have s0:0 < ρ*ρ:=MR r0 r0;have n1:0<=ab a*ρ:=MK (mP a) (Rat.le_of_lt r0);have n2:ab a*ρ*(ab a*ρ)=ab (ss a*(ρ*ρ)):=by
  rw [oW s0];unfold ab
  split <;> grind
 rw [oR n1 n2];have e:sg (ab a*ρ) (ss a*(ρ*ρ))=a*ρ:=by
  have h:=HP (b:=a) s0;unfold sg ab;rcases tri a with z | z | z
  ·have:¬ ss a*(ρ*ρ) < 0:=λq=>by rw [rz q,vI z] at h; exact absurd h (by decide)
   rw [if_neg this,if_neg (by grind)]
  ·have:ss a*(ρ*ρ) < 0:=by
    have:Ex (ss a*(ρ*ρ))=-1:=by rw [h,rz z]
    unfold Ex at this
    split at this
    ·exact absurd this (by decide)
    ·split at this
     ·assumption
     ·exact absurd this (by decide)
   rw [if_pos this,if_pos z]; grind
  ·subst z
   split <;> grind
 rw [e]
theorem Hv {s:Rat} (s0:0 < s):fW s\/∃ ρ,0 < ρ/\ρ*ρ=s:=by
 by_cases h:∃ r,r*r=s
 ·obtain⟨r,e⟩:=h
  right
  rcases tri r with z | z | z
  ·exact⟨r,z,e⟩
  ·exact⟨-r,by grind,by grind⟩
  ·subst z; grind
 ·exact .inl λr e=>h ⟨r,e⟩
theorem Jb {x y a b s:Rat} (s0:0 < s) (no:fW s):MP x y a b s=Pq s (x,a) (y,b):=by
 unfold MP;rw [Fo s0 no,Fo s0 no]
 rfl
theorem FD {x y a b ρ:Rat} (r0:0 < ρ):MP x y a b (ρ*ρ)=PP (x+a*ρ) (y+b*ρ):=by
 unfold MP;rw [Fv r0,Fv r0]
 rfl
theorem yO {n m:Nat} (h:n*n < 2 ^ (2*m)):n < 2 ^ m:=by
 rcases Nat.lt_or_ge n (2 ^ m) with z | z
 ·exact z
 ·have h2:=Nat.mul_le_mul z z;rw [<- Nat.pow_add,show m+m=2*m by omega] at h2
  omega
theorem Ag {m:Nat} {q r:Rat} (h:Sz (2*m) q) (e:r*r=q):Sz m r:=by
 subst e;have h1:(r*r).num.natAbs < 2 ^ (2*m):=h.num;have h2:((r*r).den:Int).natAbs < 2 ^ (2*m):=h.den;rw [nQ,Int.natAbs_mul] at h1;rw [pE,Int.natAbs_natCast] at h2;exact⟨yO h1,by show((r.den:Nat):Int).natAbs < 2 ^ m; rw [Int.natAbs_natCast]; exact yO h2⟩
theorem xU {b:Rat} (h:b≠0):0 < b*b:=by
 rcases tri b with z | z | z
 ·exact MR z z
 ·have:=MR (show 0 < -b by grind) (show 0 < -b by grind); grind
 ·exact absurd z h
theorem DQ {x y s z v r t A e σ:Rat} (hσ:σ*σ=1) (hA:A=(z - x)*(z - x)+(v - y)*(v - y)) (ht:t*(A+A)=s - r+A) (he:e*A=s - t*t*A):
  jb e (qs (x+(z - x)*t,σ*-(v - y)) (qo x)) (qs (y+(v - y)*t,σ*(z - x)) (qo y))=(s,0)/\jb e (qs (x+(z - x)*t,σ*-(v - y)) (qo z)) (qs (y+(v - y)*t,σ*(z - x)) (qo v))=(r,0)/\
  y6 e (qo x) (qo y) (qo z) (qo v) (x+(z - x)*t,σ*-(v - y)) (y+(v - y)*t,σ*(z - x))=(0,σ*A):=by
 simp only [jb,y6,qa,qm,qs,qo];refine⟨MH ?_ ?_,MH ?_ ?_,MH ?_ ?_⟩ <;> dsimp only <;> grind
theorem Ey {u x y s z v r t A ρ σ:Rat} (hσ:σ*σ=1) (hA:A=(z - x)*(z - x)+(v - y)*(v - y)) (ht:t*(A+A)=s - r+A) (he:ρ*ρ*A=s - t*t*A):
  jb u (qs (qo (x+(z - x)*t+σ*-(v - y)*ρ)) (qo x)) (qs (qo (y+(v - y)*t+σ*(z - x)*ρ)) (qo y))=(s,0)/\jb u (qs (qo (x+(z - x)*t+σ*-(v - y)*ρ)) (qo z)) (qs (qo (y+(v - y)*t+σ*(z - x)*ρ)) (qo v))=(r,0)/\
  y6 u (qo x) (qo y) (qo z) (qo v) (qo (x+(z - x)*t+σ*-(v - y)*ρ)) (qo (y+(v - y)*t+σ*(z - x)*ρ))=(σ*A*ρ,0):=by
 simp only [jb,y6,qa,qm,qs,qo];refine⟨MH ?_ ?_,MH ?_ ?_,MH ?_ ?_⟩ <;> dsimp only <;> grind
theorem JV {u x y:Rat}:PP x y=Pq u (qo x) (qo y):=by
 unfold PP Pq qo;rw [iW (u:=u),iW (u:=u)]
theorem En (q:Rat):((q.den:Int):Rat)≠0:=λz=>by
 have:=q.den_nz;have:(q.den:Int)=0:=Rat.intCast_inj.mp (by rw [z]; rfl)
 omega
theorem dN (q:Rat):((q.den:Int):Rat)*q=(q.num:Rat):=by
 have d0:=En q;have e:=Rat.num_divInt_den q;rw [MW] at e;grind
theorem mT (q:Rat):0 < (q.den:Int):=by have:=q.den_pos; omega
theorem i9 {n d:Int} {k:Nat} {q:Rat} (d0:d≠0) (e:q*(d:Rat)=(n:Rat)) (hn:Bt k n) (hd:Bt k d):Sz k q:=by
 have d1:(d:Rat)≠0:=λz=>d0 (by exact_mod_cast z)
 have e1:q=Rat.divInt n d:=by
  rw [MW,<- e,Rat.mul_div_cancel d1]
 rw [e1];exact⟨by rw [<- rk d0]; exact hn.le (HM.eA _ _),by rw [<- oM d0]; exact hd.le (HM.eA _ _)⟩
section
variable {x y s z v r:Rat} {P Q K:Int}
theorem CT (h0:(z - x)*(z - x)+(v - y)*(v - y)≠0):cT x y s z v r*(((z - x)*(z - x)+(v - y)*(v - y))+((z - x)*(z - x)+(v - y)*(v - y)))=s - r+((z - x)*(z - x)+(v - y)*(v - y)):=Rat.div_mul_cancel (wc h0)
theorem Dk (h0:(z - x)*(z - x)+(v - y)*(v - y)≠0):cE x y s z v r*((z - x)*(z - x)+(v - y)*(v - y))=s - cT x y s z v r*cT x y s z v r*((z - x)*(z - x)+(v - y)*(v - y)):=by
 have h:s / ((z - x)*(z - x)+(v - y)*(v - y))*((z - x)*(z - x)+(v - y)*(v - y))=s:=Rat.div_mul_cancel h0;unfold cE;generalize s / ((z - x)*(z - x)+(v - y)*(v - y))=q at h ⊢;grind
end
theorem zG {q:Rat} {M:Int} (h:q*q=(M:Rat)):∃ F:Int,q=(F:Rat):=by
 refine⟨q.num,?_⟩;have dp:=q.den_pos;have e:=dN q;have e2:((q.num*q.num:Int):Rat)=((M*((q.den:Int)*(q.den:Int)):Int):Rat):=by
  rw [Mn,Mn,Mn,<- h,<- e];grind
 have e3:q.num*q.num=M*((q.den:Int)*(q.den:Int)):=by exact_mod_cast e2
 have d1:q.den ∣ q.num.natAbs*q.num.natAbs:=by
  have:(q.den:Int) ∣ q.num*q.num:=⟨M*q.den,by rw [e3]; grind⟩
  have:=Int.natAbs_dvd_natAbs.mpr this
  rwa [Int.natAbs_mul,Int.natAbs_natCast] at this
 have c:Nat.Coprime q.den q.num.natAbs:=q.reduced.symm;have d2:q.den ∣ q.num.natAbs:=c.dvd_of_dvd_mul_left d1;have d3:q.den=1:=by
  have g:=Nat.gcd_eq_left d2;rw [c] at g;exact g.symm
 rw [<- e,d3];grind
structure Cd (n:Nat) (x y:Rat):Prop where
 ex:∃ X Y K:Int,0 < K/\Bt n K/\Bt n X/\Bt n Y/\x*(K:Rat)=X/\y*(K:Rat)=Y
theorem Cd.mono {m n:Nat} {x y:Rat} (h:Cd m x y) (l:m<=n):Cd n x y:=by
 obtain⟨X,Y,K,h0,h1,h2,h3,h4,h5⟩:=h.ex;exact⟨X,Y,K,h0,h1.mono l,h2.mono l,h3.mono l,h4,h5⟩
theorem Cd.sx {n:Nat} {x y:Rat} (h:Cd n x y):Sz n x:=by
 obtain⟨X,Y,K,h0,h1,h2,h3,h4,h5⟩:=h.ex;exact i9 (by omega) h4 h2 h1
theorem Cd.sy {n:Nat} {x y:Rat} (h:Cd n x y):Sz n y:=by
 obtain⟨X,Y,K,h0,h1,h2,h3,h4,h5⟩:=h.ex;exact i9 (by omega) h5 h3 h1
theorem Cd.of {m:Nat} {x y:Rat} (hx:Sz m x) (hy:Sz m y):Cd (m+m) x y:=by
 refine⟨x.num*(y.den:Int),y.num*(x.den:Int),(x.den:Int)*(y.den:Int),Int.mul_pos (mT x) (mT y),hx.den.mul hy.den,hx.num.mul hy.den,hy.num.mul hx.den,?_,?_⟩
 ·rw [Mn,Mn,<- dN x];grind
 ·rw [Mn,Mn,<- dN y];grind
theorem Cd.way {n:Nat} {x y z v:Rat} (h:Cd n x y) (g:Cd n z v):∃ P Q X Y K:Int,0 < K/\Bt (n+n) K/\Bt (n+n+1) P/\Bt (n+n+1) Q/\Bt (n+n) X/\Bt (n+n) Y/\(z - x)*(K:Rat)=P/\(v - y)*(K:Rat)=Q/\x*(K:Rat)=X/\y*(K:Rat)=Y:=by
 obtain⟨X,Y,K,h0,h1,h2,h3,h4,h5⟩:=h.ex;obtain⟨Z,V,L,g0,g1,g2,g3,g4,g5⟩:=g.ex;refine⟨Z*K - X*L,V*K - Y*L,X*L,Y*L,K*L,Int.mul_pos h0 g0,h1.mul g1,((g2.mul h1).sub (h2.mul g1)).mono (by omega),((g3.mul h1).sub (h3.mul g1)).mono (by omega),h2.mul g1,h3.mul g1,?_,?_,?_,?_⟩
 ·rw [MV,Mn,Mn,Mn,<- g4,<- h4];grind
 ·rw [MV,Mn,Mn,Mn,<- g5,<- h5];grind
 ·rw [Mn,Mn,<- h4];grind
 ·rw [Mn,Mn,<- h5];grind
section
variable {x y s z v r:Rat} {P Q K:Int}
theorem Ll (hK:0 < K) (ha:(z - x)*(K:Rat)=P) (hb:(v - y)*(K:Rat)=Q) (h0:(z - x)*(z - x)+(v - y)*(v - y)≠0):
  (P*P+Q*Q≠0)/\cT x y s z v r*((2*(P*P+Q*Q)*(s.den:Int)*(r.den:Int):Int):Rat)=(((s.num*(r.den:Int) - r.num*(s.den:Int))*(K*K)+(P*P+Q*Q)*(s.den:Int)*(r.den:Int):Int):Rat):=by
 have g:((z - x)*(z - x)+(v - y)*(v - y))*((K:Rat)*K)=((P*P+Q*Q:Int):Rat):=by
  rw [MG,Mn,Mn,<- ha,<- hb];grind
 have K0:(K:Rat)≠0:=λe=>by
  have:K=0:=by exact_mod_cast e
  omega
 refine⟨λe=>?_,?_⟩
 ·rw [e] at g;rcases MC.mp g with q | q
  ·exact h0 q
  ·rcases MC.mp q with q | q <;> exact K0 q
 ·have t:=CT (x:=x) (y:=y) (s:=s) (z:=z) (v:=v) (r:=r) h0;have d1:=dN s;have d2:=dN r;simp only [MG,Mn,MV] at g ⊢;generalize (z - x)*(z - x)+(v - y)*(v - y)=A at*
  generalize cT x y s z v r=T at*
  grind
theorem CI {n:Nat} (h:Cd n x y) (g:Cd n z v) (sn:Bt 8 s.num) (sd:Bt 8 (s.den:Int)) (rn:Bt 8 r.num) (rd:Bt 8 (r.den:Int)) (h0:(z - x)*(z - x)+(v - y)*(v - y)≠0):
  ∃ P Q X Y K N D M:Int,0 < K/\0 < D/\Bt (n+n) K/\Bt (n+n+1) P/\Bt (n+n+1) Q/\Bt (n+n) X/\Bt (n+n) Y/\(z - x)*(K:Rat)=P/\(v - y)*(K:Rat)=Q/\x*(K:Rat)=X/\y*(K:Rat)=Y/\
   Bt (4*n+21) D/\Bt (4*n+22) N/\Bt (8*n+45) M/\cT x y s z v r*(D:Rat)=N/\cE x y s z v r*((D:Rat)*D)=M:=by
 obtain⟨P,Q,X,Y,K,hK,bK,bP,bQ,bX,bY,ha,hb,hx,hy⟩:=h.way g;obtain⟨G0,t⟩:=Ll (s:=s) (r:=r) hK ha hb h0;have s0:=mT s;have r0:=mT r;have bG:Bt (4*n+3) (P*P+Q*Q):=((bP.mul bP).add (bQ.mul bQ)).mono (by omega)
 have Gp:0 < P*P+Q*Q:=by
  have a1:0<=P*P:=by rw [<- Int.natAbs_mul_self' P]; exact Int.natCast_nonneg _
  have a2:0<=Q*Q:=by rw [<- Int.natAbs_mul_self' Q]; exact Int.natCast_nonneg _
  omega
 have bD:Bt (4*n+21) (2*(P*P+Q*Q)*(s.den:Int)*(r.den:Int)):=((((show Bt 2 2 by decide).mul bG).mul sd).mul rd).mono (by omega)
 have bN:Bt (4*n+22) ((s.num*(r.den:Int) - r.num*(s.den:Int))*(K*K)+(P*P+Q*Q)*(s.den:Int)*(r.den:Int)):=((((sn.mul rd).sub (rn.mul sd)).mul (bK.mul bK)).add ((bG.mul sd).mul rd)).mono (by omega)
 have D0:0 < 2*(P*P+Q*Q)*(s.den:Int)*(r.den:Int):=Int.mul_pos (Int.mul_pos (by omega) s0) r0
 have g:((z - x)*(z - x)+(v - y)*(v - y))*((K:Rat)*K)=((P*P+Q*Q:Int):Rat):=by
  rw [MG,Mn,Mn,<- ha,<- hb];grind
 have e:=Dk (x:=x) (y:=y) (s:=s) (z:=z) (v:=v) (r:=r) h0;have d1:=dN s;generalize hN:(s.num*(r.den:Int) - r.num*(s.den:Int))*(K*K)+(P*P+Q*Q)*(s.den:Int)*(r.den:Int)=N at*
 have f:cE x y s z v r*(((2*(P*P+Q*Q)*(s.den:Int)*(r.den:Int):Int):Rat)*((2*(P*P+Q*Q)*(s.den:Int)*(r.den:Int):Int):Rat))=((4*(P*P+Q*Q)*s.num*(s.den:Int)*((r.den:Int)*(r.den:Int))*(K*K) - N*N:Int):Rat):=by
  clear hN bN bD D0 bG Gp;generalize P*P+Q*Q=G at*
  simp only [Mn,MV] at g t ⊢
  rw [<- t];generalize (z - x)*(z - x)+(v - y)*(v - y)=A at*
  generalize cT x y s z v r=T at*
  generalize cE x y s z v r=C at*
  rw [<- g,<- d1];have e2:((4:Int):Rat)=4:=rfl;have e3:((2:Int):Rat)=2:=rfl;rw [e2,e3];generalize ((s.den:Int):Rat)=a;generalize ((r.den:Int):Rat)=b;clear t g d1;have:=congrArg (·*(4*A*((K:Rat)*K)*((K:Rat)*K)*a*a*b*b)) e;grind
 have bM:Bt (8*n+45) (4*(P*P+Q*Q)*s.num*(s.den:Int)*((r.den:Int)*(r.den:Int))*(K*K) - N*N):=(((((((show Bt 3 4 by decide).mul bG).mul sn).mul sd).mul (rd.mul rd)).mul (bK.mul bK)).sub (bN.mul bN)).mono (by omega)
 exact⟨P,Q,X,Y,K,N,_,_,hK,D0,bK,bP,bQ,bX,bY,ha,hb,hx,hy,bD,bN,bM,t,f⟩
end
theorem ED {k:Nat} {F M:Int} (h:F*F=M) (b:Bt (k+k) M):Bt k F:=by
 unfold Bt at*
 rw [<- h,Int.natAbs_mul,Nat.pow_add] at b;refine Nat.lt_of_not_le λz=>?_
 exact absurd b (Nat.not_lt.mpr (Nat.mul_le_mul z z))
section
variable {x y s z v r:Rat}
theorem AK {n:Nat} (h:Cd n x y) (g:Cd n z v) (sn:Bt 8 s.num) (sd:Bt 8 (s.den:Int)) (rn:Bt 8 r.num) (rd:Bt 8 (r.den:Int)) (h0:(z - x)*(z - x)+(v - y)*(v - y)≠0):
  Sz (2*n+1) (z - x)/\Sz (2*n+1) (v - y)/\Sz (4*n+22) (cT x y s z v r)/\Sz (8*n+45) (cE x y s z v r)/\Cd (6*n+26) (x+(z - x)*cT x y s z v r) (y+(v - y)*cT x y s z v r):=by
 obtain⟨P,Q,X,Y,K,N,D,M,hK,hD,bK,bP,bQ,bX,bY,ha,hb,hx,hy,bD,bN,bM,ht,he⟩:=CI h g sn sd rn rd h0;refine⟨i9 (by omega) ha (bP.mono (by omega)) (bK.mono (by omega)),i9 (by omega) hb (bQ.mono (by omega)) (bK.mono (by omega)),i9 (by omega) ht bN (bD.mono (by omega)),?_,?_⟩
 ·have D1:=Int.mul_pos hD hD;exact i9 (n:=M) (d:=D*D) (by omega) (by rw [Mn]; exact he) bM ((bD.mul bD).mono (by omega))
 ·refine⟨X*D+P*N,Y*D+Q*N,K*D,Int.mul_pos hK hD,(bK.mul bD).mono (by omega),((bX.mul bD).add (bP.mul bN)).mono (by omega),((bY.mul bD).add (bQ.mul bN)).mono (by omega),?_,?_⟩
  ·rw [MG,Mn,Mn,Mn,<- hx,<- ha,<- ht];grind
  ·rw [MG,Mn,Mn,Mn,<- hy,<- hb,<- ht];grind
theorem CC {n:Nat} {e:Rat} (h:Cd n x y) (g:Cd n z v) (sn:Bt 8 s.num) (sd:Bt 8 (s.den:Int)) (rn:Bt 8 r.num) (rd:Bt 8 (r.den:Int)) (h0:(z - x)*(z - x)+(v - y)*(v - y)≠0) (ee:e*e=cE x y s z v r):
  Cd (6*n+26) (x+(z - x)*cT x y s z v r+-(v - y)*e) (y+(v - y)*cT x y s z v r+(z - x)*e):=by
 obtain⟨P,Q,X,Y,K,N,D,M,hK,hD,bK,bP,bQ,bX,bY,ha,hb,hx,hy,bD,bN,bM,ht,he⟩:=CI h g sn sd rn rd h0;have eF:(e*(D:Rat))*(e*(D:Rat))=(M:Rat):=by
  rw [<- he,<- ee];grind
 obtain⟨F,hF⟩:=zG eF;have eM:F*F=M:=by
  rw [hF,<- Mn] at eF
  exact_mod_cast eF
 have bF:Bt (4*n+23) F:=ED eM (bM.mono (by omega))
 refine⟨X*D+P*N+-Q*F,Y*D+Q*N+P*F,K*D,Int.mul_pos hK hD,(bK.mul bD).mono (by omega),(((bX.mul bD).add (bP.mul bN)).add (bQ.neg.mul bF)).mono (by omega),(((bY.mul bD).add (bQ.mul bN)).add (bP.mul bF)).mono (by omega),?_,?_⟩
 ·rw [MG,MG,Mn,Mn,Mn,Mn,Rat.intCast_neg,<- hx,<- ha,<- hb,<- ht,<- hF];grind
 ·rw [MG,MG,Mn,Mn,Mn,Mn,<- hy,<- hb,<- ha,<- ht,<- hF];grind
theorem Cd.like {n k:Nat} {p q:Rat} (h:Cd n x y) (g:Cd n z v) (hp:Sz k p) (hq:Sz k q):Cd (2*n+2*k+4) (x+(p*(z - x) - q*(v - y))) (y+(p*(v - y)+q*(z - x))):=by
 obtain⟨P,Q,X,Y,K,hK,bK,bP,bQ,bX,bY,ha,hb,hx,hy⟩:=h.way g;have e1:=dN p;have e2:=dN q;refine⟨X*((p.den:Int)*q.den)+(p.num*q.den*P - q.num*p.den*Q),Y*((p.den:Int)*q.den)+(p.num*q.den*Q+q.num*p.den*P),K*((p.den:Int)*q.den),Int.mul_pos hK (Int.mul_pos (mT p) (mT q)),(bK.mul (hp.den.mul hq.den)).mono (by omega),?_,?_,?_,?_⟩
 ·exact((bX.mul (hp.den.mul hq.den)).add (((hp.num.mul hq.den).mul bP).sub ((hq.num.mul hp.den).mul bQ))).mono (by omega)
 ·exact((bY.mul (hp.den.mul hq.den)).add (((hp.num.mul hq.den).mul bQ).add ((hq.num.mul hp.den).mul bP))).mono (by omega)
 ·simp only [MG,MV,Mn];rw [<- hx,<- ha,<- hb,<- e1,<- e2];grind
 ·simp only [MG,MV,Mn];rw [<- hy,<- ha,<- hb,<- e1,<- e2];grind
end
structure Jg (n:Nat) (x y s z v r:Rat) (d:D) (u:Rat) (X Y:Q):Prop where
 e:d=Pq u X Y
 u0:0 < u
 no:fW u
 su:Sz (8*n+45) u
 xb:Sz (2*n+2) X.2
 yb:Sz (2*n+2) Y.2
 cd:Cd (6*n+26) X.1 Y.1
 one:jb u (qs X (qo x)) (qs Y (qo y))=(s,0)
 two:jb u (qs X (qo z)) (qs Y (qo v))=(r,0)
section
variable {x y s z v r:Rat}
theorem FL {σ:Rat} (hσ:σ*σ=1) (sσ:Sz 1 σ) {n:Nat} (h:Cd n x y) (g:Cd n z v) (sn:Bt 8 s.num) (sd:Bt 8 (s.den:Int)) (rn:Bt 8 r.num) (rd:Bt 8 (r.den:Int)) (h0:(z - x)*(z - x)+(v - y)*(v - y)≠0) (e0:0 < cE x y s z v r) (no:fW (cE x y s z v r)):
  Jg n x y s z v r (MP (x+(z - x)*cT x y s z v r) (y+(v - y)*cT x y s z v r) (σ*-(v - y)) (σ*(z - x)) (cE x y s z v r)) (cE x y s z v r) (x+(z - x)*cT x y s z v r,σ*-(v - y)) (y+(v - y)*cT x y s z v r,σ*(z - x)):=by
 obtain⟨c1,c2,_⟩:=DQ (x:=x) (y:=y) (s:=s) (z:=z) (v:=v) (r:=r) hσ rfl (CT h0) (by rw [Dk h0])
 obtain⟨a1,a2,a3,a4,a5⟩:=AK h g sn sd rn rd h0;exact⟨Jb e0 no,e0,no,a4,(sσ.mul a2.neg).mono (by omega),(sσ.mul a1).mono (by omega),a5,c1,c2⟩
theorem A8 {σ ρ:Rat} (hσ:σ=1\/σ=-1) {n:Nat} (h:Cd n x y) (g:Cd n z v) (sn:Bt 8 s.num) (sd:Bt 8 (s.den:Int)) (rn:Bt 8 r.num) (rd:Bt 8 (r.den:Int)) (h0:(z - x)*(z - x)+(v - y)*(v - y)≠0) (eρ:ρ*ρ=cE x y s z v r):
  Jg n x y s z v r (PP (x+(z - x)*cT x y s z v r+σ*-(v - y)*ρ) (y+(v - y)*cT x y s z v r+σ*(z - x)*ρ)) 2 (qo (x+(z - x)*cT x y s z v r+σ*-(v - y)*ρ)) (qo (y+(v - y)*cT x y s z v r+σ*(z - x)*ρ)):=by
 have hs:σ*σ=1:=by rcases hσ with rfl | rfl <;> grind
 obtain⟨c1,c2,_⟩:=Ey (u:=2) (x:=x) (y:=y) (s:=s) (z:=z) (v:=v) (r:=r) (ρ:=ρ) hs rfl (CT h0) (by rw [eρ,Dk h0])
 have c:=CC (e:=σ*ρ) h g sn sd rn rd h0 (by rw [<- eρ]; grind)
 rw [show -(v - y)*(σ*ρ)=σ*-(v - y)*ρ by grind,show(z - x)*(σ*ρ)=σ*(z - x)*ρ by grind] at c
 obtain⟨t1,t2,_⟩:=C5;exact⟨JV,t1,t2,⟨(show Bt 2 (2:Rat).num by decide).mono (by omega),(show Bt 2 ((2:Rat).den:Int) by decide).mono (by omega)⟩,Sz.zero.mono (by omega),Sz.zero.mono (by omega),c,c1,c2⟩
theorem Dm {n:Nat} (h:Cd n x y) (g:Cd n z v) (sn:Bt 8 s.num) (sd:Bt 8 (s.den:Int)) (rn:Bt 8 r.num) (rd:Bt 8 (r.den:Int)) (h0:(z - x)*(z - x)+(v - y)*(v - y)≠0):∀ d∈cL x y s z v r,∃ u X Y,Jg n x y s z v r d u X Y:=by
 have o1:Sz 1 (1:Rat):=⟨by decide,by decide⟩
 have o2:Sz 1 (-1:Rat):=⟨by decide,by decide⟩
 have q1:(1:Rat)*1=1:=by grind
 have q2:(-1:Rat)*-1=1:=by grind
 intro d hd
 by_cases e1:cE x y s z v r < 0
 ·rw [show cL x y s z v r=[] from if_pos e1] at hd
  cases hd
 by_cases e2:cE x y s z v r=0
 ·have c:cL x y s z v r=[PP (x+(z - x)*cT x y s z v r) (y+(v - y)*cT x y s z v r)]:=by
   unfold cL jO;rw [if_neg e1,if_pos e2]
  have j:=A8 (ρ:=0) (.inl rfl) h g sn sd rn rd h0 (by rw [e2]; grind)
  rw [Rat.mul_zero,Rat.mul_zero,Rat.add_zero,Rat.add_zero] at j;rw [c,List.mem_singleton] at hd;rw [hd];exact⟨_,_,_,j⟩
 have e3:0 < cE x y s z v r:=by grind
 have c:cL x y s z v r=[MP (x+(z - x)*cT x y s z v r) (y+(v - y)*cT x y s z v r) (-(v - y)) (z - x) (cE x y s z v r),MP (x+(z - x)*cT x y s z v r) (y+(v - y)*cT x y s z v r) (- -(v - y)) (-(z - x)) (cE x y s z v r)]:=by
  unfold cL jO;rw [if_neg e1,if_neg e2]
 rw [c] at hd;simp only [Mt,ME,or_false] at hd;rcases Hv e3 with no | ⟨ρ,r0,eρ⟩
 ·rcases hd with rfl | rfl
  ·have j:=FL q1 o1 h g sn sd rn rd h0 e3 no;rw [show (1:Rat)*-(v - y)=-(v - y) by grind,show(1:Rat)*(z - x)=z - x by grind] at j
   exact⟨_,_,_,j⟩
  ·have j:=FL q2 o2 h g sn sd rn rd h0 e3 no;rw [show (-1:Rat)*-(v - y)=- -(v - y) by grind,show(-1:Rat)*(z - x)=-(z - x) by grind] at j
   exact⟨_,_,_,j⟩
 ·rw [<- eρ,FD r0,FD r0] at hd;rcases hd with rfl | rfl
  ·have j:=A8 (.inl rfl) h g sn sd rn rd h0 eρ;rw [show (1:Rat)*-(v - y)=-(v - y) by grind,show(1:Rat)*(z - x)=z - x by grind] at j
   exact⟨_,_,_,j⟩
  ·have j:=A8 (.inr rfl) h g sn sd rn rd h0 eρ;rw [show (-1:Rat)*-(v - y)=- -(v - y) by grind,show(-1:Rat)*(z - x)=-(z - x) by grind] at j
   exact⟨_,_,_,j⟩
end
set_option maxHeartbeats 4000000
theorem Hg {a b:Rat} (h:ss a=ss b):a=b:=by
 have key:∀ {x y:Rat},0<=x->0<=y->x*x=y*y->x=y:=λhx hy e=>uM hx hy e rfl
 unfold ss ab at h
 split at h <;> split at h
 ·have:=key (x:=-a) (y:=-b) (by grind) (by grind) (by grind)
  grind
 ·rename_i h1 h2
  have:=fb b;have:=xU (b:=a) (by grind)
  grind
 ·rename_i h1 h2
  have:=fb a;have:=xU (b:=b) (by grind)
  grind
 ·exact key (by grind) (by grind) h
def rG (u x:Rat):Prop:=∃ b,ss b*u=x
noncomputable def bq (u x:Rat):Rat:=@dite _ (rG u x) (Classical.propDecidable _) (λh=>Classical.choose h) (λ_=>0)
theorem zp {u x:Rat} (h:rG u x):ss (bq u x)*u=x:=by
 unfold bq;rw [dif_pos h];exact Classical.choose_spec h
theorem wF {u x b:Rat} (u0:0 < u) (e:ss b*u=x):bq u x=b:=by
 have h:=zp ⟨b,e⟩;apply Hg;generalize ss (bq u x)=s at h ⊢;generalize ss b=t at e ⊢;have h2:(s - t)*u=0:=by grind
 have:u≠0:=by grind
 grind
theorem vE {u:Rat} (u0:0 < u):bq u 0=0:=wF u0 (by rw [cy,Rat.zero_mul])
noncomputable def rq (u:Rat) (n:Gn):Q:=(n.1,bq u n.2)
noncomputable def rp (u:Rat) (p:Gn×Gn):Q×Q:=(rq u p.1,rq u p.2)
def HR (u:Rat) (ps:List (Gn×Gn)):Prop:=∀ p∈ps,rG u p.1.2/\rG u p.2.2
def Mc (u:Rat) (p:Q×Q):D:=Pq u p.1 p.2
theorem FC {u:Rat} {p:Gn×Gn} (h:rG u p.1.2/\rG u p.2.2):gP p=Mc u (rp u p):=by
 show D.tup [.tup [fr p.1.1,fr p.1.2],.tup [fr p.2.1,fr p.2.2]]=D.tup [.tup [fr p.1.1,fr (ss (bq u p.1.2)*u)],.tup [fr p.2.1,fr (ss (bq u p.2.2)*u)]]
 rw [zp h.1,zp h.2]
structure Kb (m:Nat) (n:Gn):Prop where
 a:Sz m n.1
 u:Sz m n.2
 no:n.2=0\/fW (ab n.2)
def HB (m:Nat) (p:Gn×Gn):Prop:=Kb m p.1/\Kb m p.2
theorem G9 {m:Nat} {x y r:Rat} (hx:x≠0) (hy:y≠0) (e:r*r=ab x / ab y) (sx:Sz m x) (sy:Sz m y):∃ b,ss b*ab x=y/\Sz (m+3) b:=by
 have ye:=mI hy;have e1:ab r*ab r=ab x / ab y:=(sH r).trans e;have e2:ab r*ab r*ab y=ab x:=by rw [e1]; exact Rat.div_mul_cancel ye
 have st:Sz (m+1) (ab r):=Ag ((sx.ab.div' sy.ab).mono (by omega)) e1
 have r0:0<=ab r:=mP r;generalize ab r=t at*
 have t0:t≠0:=λz=>by
  rw [z] at e2;exact mI hx (by rw [<- e2]; grind)
 have si:Sz (m+3) (1 / t):=(Sz.div' kC st).mono (by omega)
 have ei:1 / t*t=1:=Rat.div_mul_cancel t0;have i0:0<=1 / t:=la (by decide) r0
 generalize 1 / t=i at*
 have es:ss i*ab x=ab y:=by
  rw [jT i0,<- e2];generalize ab y=y' at*
  have:i*i*(t*t*y')=(i*t)*(i*t)*y':=by grind
  rw [this,ei];grind
 by_cases n:y < 0
 ·refine⟨-i,?_,si.neg⟩;rw [uK];have:ab y=-y:=by unfold ab; rw [if_pos n]
  rw [this] at es;generalize ss i=s at*
  generalize ab x=x' at*
  grind
 ·exact⟨i,by rw [es]; unfold ab; rw [if_neg n],si⟩
theorem wg {ps:List (Gn×Gn)} {p:Gn×Gn} (hp:p∈ps) {n:Gn} (hn:n=p.1\/n=p.2) (h0:n.2≠0):n∈eY ps:=
 List.mem_flatMap.mpr ⟨p,hp,List.mem_filter.mpr ⟨by rcases hn with rfl | rfl <;> simp,by simpa using h0⟩⟩
theorem wb {m:Nat} (m6:m<=6700000) {ps:List (Gn×Gn)} (ok:∀ p∈ps,HB m p) (h:Dp ps):∃ u,Fd u/\Sz (m+3) u/\HR u ps/\∀ p∈ps,Sq (m+3) (rq u p.1)/\Sq (m+3) (rq u p.2):=by
 have fin:∀ u,Fd u->Sz (m+3) u->(∀ p∈ps,∀ n:Gn,(n=p.1\/n=p.2)->∃ b,ss b*u=n.2/\Sz (m+3) b)->∃ u,Fd u/\Sz (m+3) u/\HR u ps/\∀ p∈ps,Sq (m+3) (rq u p.1)/\Sq (m+3) (rq u p.2):=λu hu su w=>by
  have sq:∀ p∈ps,∀ n:Gn,(n=p.1\/n=p.2)->Kb m n->Sq (m+3) (rq u n):=λp hp n hn ok=>by
   obtain⟨b,e,s⟩:=w p hp n hn;refine⟨ok.a.mono (by omega),?_⟩
   show Sz (m+3) (bq u n.2)
   rw [wF hu.pos e];exact s
  refine⟨u,hu,su,λp hp=>⟨?_,?_⟩,λp hp=>⟨sq p hp _ (.inl rfl) (ok p hp).1,sq p hp _ (.inr rfl) (ok p hp).2⟩⟩
  ·obtain⟨b,e,_⟩:=w p hp _ (.inl rfl); exact⟨b,e⟩
  ·obtain⟨b,e,_⟩:=w p hp _ (.inr rfl); exact⟨b,e⟩
 have nok:∀ n∈eY ps,n.2≠0/\Kb m n:=λn hn=>by
  obtain⟨h0,p,hp,hh⟩:=oA hn;rcases hh with rfl | rfl
  ·exact⟨h0,(ok p hp).1⟩
  ·exact⟨h0,(ok p hp).2⟩
 have zero:∀ {u:Rat} {n:Gn},n.2=0->∃ b,ss b*u=n.2/\Sz (m+3) b:=λh0=>⟨0,by rw [h0,cy,Rat.zero_mul],Sz.zero.mono (by omega)⟩
 cases e:eY ps with
 | nil=>
  refine fin 2 C5 (Sz.mono (m:=2) ⟨by decide,by decide⟩ (by omega)) λp hp n hn=>zero ?_
  apply Classical.byContradiction;intro h0;have:=wg hp hn h0;rw [e] at this;cases this
 | cons x0 t=>
  have m0:x0∈eY ps:=by rw [e]; exact Mv
  obtain⟨n0,ok0⟩:=nok x0 m0;refine fin (ab x0.2) ⟨ym n0,ok0.no.resolve_left n0,ok0.u.ab.mono (by omega)⟩ (ok0.u.ab.mono (by omega)) λp hp n hn=>?_
  by_cases h0:n.2=0
  ·exact zero h0
  ·have mn:=wg hp hn h0;obtain⟨_,okn⟩:=nok n mn;have sq:Gz (ab x0.2 / ab n.2):=by
    rw [e] at mn;rcases Mt.mp mn with rfl | mn
    ·refine⟨1,?_⟩;rw [Rat.div_def,Rat.mul_inv_cancel _ (mI h0),Rat.mul_one]
    ·have:=IW (h n (by rw [e]; exact mn))
     rw [show (eY ps).headD (0,0)=x0 by rw [e]; rfl] at this
     rcases this with z | z | z
     ·exact absurd z n0
     ·exact absurd z h0
     ·exact z
   obtain⟨r,er⟩:=sq;exact G9 n0 h0 er ok0.u okn.u
theorem Cj {u:Rat} {ps:List (Gn×Gn)} (u0:0 < u) (h:HR u ps):Dp ps:=λn hn=>by
 have has:∀ n∈eY ps,n.2≠0/\rG u n.2:=λn hn=>by
  obtain⟨h0,p,hp,hh⟩:=oA hn;rcases hh with rfl | rfl
  ·exact⟨h0,(h p hp).1⟩
  ·exact⟨h0,(h p hp).2⟩
 cases e:eY ps with
 | nil=>rw [e] at hn; cases hn
 | cons x0 t=>
  obtain⟨m0,b,eb⟩:=has x0 (by rw [e]; exact Mv)
  obtain⟨n0,d,ed⟩:=has n (List.mem_of_mem_tail hn);refine FK (.inr (.inr ⟨b / d,?_⟩))
  show b / d*(b / d)=ab x0.2 / ab n.2
  rw [<- eb,<- ed,Cp u0,Cp u0];have d0:d≠0:=λz=>n0 (by rw [<- ed,z,cy,Rat.zero_mul])
  have hb:b / d*d=b:=Rat.div_mul_cancel d0;have une:u≠0:=by grind
  have dd:d*d*u≠0:=by
   have:=xU d0;have:=MR this u0;grind
  have h2:b*b*u / (d*d*u)*(d*d*u)=b*b*u:=Rat.div_mul_cancel dd;generalize b*b*u / (d*d*u)=y at*
  generalize b / d=x at*
  have:(x*x - y)*(d*d*u)=0:=by subst hb; grind
  grind
set_option maxHeartbeats 4000000
theorem im (t:Rat):1+t*t≠0:=by
 have:0<=t*t:=by
  rcases tri t with h | h | h
  ·exact Rat.le_of_lt (MR h h)
  ·have:=MR (show 0 < -t by grind) (show 0 < -t by grind); grind
  ·subst h; rw [Rat.mul_zero]; decide
 grind
def wK:Nm Rat->D
 | none=>.non
 | some t=>fr t
def rK:Nm Rat->Rat
 | none=>-1
 | some t=>(1 - t*t) / (1+t*t)
def tO:Nm Rat->Rat
 | none=>0
 | some t=>(t+t) / (1+t*t)
def pF (o:Nm Rat):Prop:=∀ t,o=some t->Sz 4 t
def lJ:cr:=λds S k=>∃ o:Nm Rat,ds=[wK o]/\pF o/\k (W (rK o) (tO o)) S
theorem gU:av ["drive","square","total"] ["drive"] (am iO):=ej
theorem qN (Fn:FN K "direction_of" iO f fd) (bb:aZ P w K mg base "negative" 1 fw) (bc:aZ P w K mg base "times" 35 ik) (bU:aZ P w K mg base "plus" 35 kW) (dS:aZ P w K mg base "over" 35 qd) (dL:aZ P w K mg base "minus" 35 oZ) (bH:tZ K mg "NOUGHT" [0,1]) (xg:tZ K mg "ONE" [1,1]):
  aU P w K mg base cW 36 f fd ["drive"] (cY K lJ):=by
 refine Fn.okJ gU (λds S k h=>?_) (λcdv A outer s H E hr=>⟨_,(ag (aE (aA wD (aj 0) cO (aD _)) (ai (ar (au (aa (dq bb hr (aa (gS xg rfl) ac)) (aa (gS bH rfl) ac))))) aL) (ag (aq (i:=1) gU.nd (dq bc hr (aB 0 (aB 0 ac)))) (ag (aq (i:=2) gU.nd (dq bU hr (aa (gS xg rfl) (aB 1 ac)))) (ai (ar (au (aa (dq dS hr (aa (dq dL hr (aa (gS xg rfl) (aB 1 ac))) (aB 2 ac))) (aa (dq dS hr (aa (dq bU hr (aB 0 (aB 0 ac))) (aB 2 ac))) ac)))))))),λds S k h=>?_⟩)
 ·obtain⟨_,rfl,_⟩:=h
  rfl
 ·obtain⟨o,rfl,ho,w⟩:=h;cases o with
  | none=>exact⟨1,rfl,a9,w⟩
  | some t=>
   have s:=ho t rfl;exact⟨t,t,rfl,s.mono (by decide),s.mono (by decide),1,t*t,rfl,kC.mono (by decide),(s.mul s).mono (by decide),1,t*t,rfl,kC.mono (by decide),(s.mul s).mono (by decide),_,_,rfl,im t,(kC.sub (s.mul s)).mono (by decide),(kC.add (s.mul s)).mono (by decide),t,t,rfl,s.mono (by decide),s.mono (by decide),_,_,rfl,im t,(s.add s).mono (by decide),(kC.add (s.mul s)).mono (by decide),a9,w⟩
theorem Em {o:Nm Rat} (h:pF o):Sz 20 (rK o):=by
 cases o with
 | none=>exact⟨by decide,by decide⟩
 | some t=>
  have s:=h t rfl;exact((kC.sub (s.mul s)).div (kC.add (s.mul s)) (im t)).mono (by decide)
theorem Eh {o:Nm Rat} (h:pF o):Sz 20 (tO o):=by
 cases o with
 | none=>exact⟨by decide,by decide⟩
 | some t=>
  have s:=h t rfl;exact((s.add s).div (kC.add (s.mul s)) (im t)).mono (by decide)
def lA:cr:=λds S k=>∃ (x y l:Rat) (o:Nm Rat),ds=[PP x y,fr l,wK o]/\Sz 30 x/\Sz 30 y/\Sz 14 l/\pF o/\k (PP (x+rK o*l) (y+tO o*l)) S
theorem vj:av ["middle","length","drive"] ["middle","length","drive"] (am lQ):=ej
theorem vo (Fn:FN K "crank_end" lQ f fd) (bv:aZ P w K mg base "plain_point" 1 e9) (hZ:aZ P w K mg base "moved" 36 rg) (iz:aZ P w K mg base "direction_of" 36 lJ) (cS:aZ P w K mg base "place_of" 1 j8):
  aU P w K mg base cW 37 f fd ["middle","length","drive"] (cY K lA):=by
 refine Fn.okJ vj (λds S k h=>?_) (λcdv A outer s H E hr=>⟨_,(ai (ar (dq bv hr (aa (dq hZ hr (aa (dq cS hr (aB 0 ac)) (aa (dq iz hr (aB 2 ac)) (aB 1 ac)))) ac)))),λds S k h=>?_⟩)
 ·obtain⟨_,_,_,_,rfl,_⟩:=h
  rfl
 ·obtain⟨x,y,l,o,rfl,hx,hy,hl,ho,w⟩:=h;exact⟨x,y,rfl,o,rfl,ho,x,y,rK o,tO o,l,rfl,hx.mono (by decide),hy.mono (by decide),(Em ho).mono (by decide),(Eh ho).mono (by decide),hl.mono (by decide),_,_,rfl,w⟩
set_option maxHeartbeats 4000000
abbrev Pt:=Gn×Gn
def pN:Nat->Nat
 | 0=>32
 | c+1=>6*pN c+26
def vN:Nat->Nat
 | 0=>32
 | c+1=>11*vN c+90
theorem xh:∀ c,pN c<=vN c
 | 0=>Mp _
 | c+1=>by have:=xh c; show 6*pN c+26<=11*vN c+90; omega
theorem EV (c:Nat):pN c<=pN (c+1):=by show pN c<=6*pN c+26; omega
theorem zu (c:Nat):vN c<=vN (c+1):=by show vN c<=11*vN c+90; omega
theorem vG {a b:Nat} (h:a<=b):pN a<=pN b:=by
 induction h with
 | refl=>exact Mp _
 | step _ ih=>exact M1 ih (EV _)
theorem oh {a b:Nat} (h:a<=b):vN a<=vN b:=by
 induction h with
 | refl=>exact Mp _
 | step _ ih=>exact M1 ih (zu _)
theorem Ln {c:Nat} (h:c<=4):pN c<=48206:=M1 (vG h) (by decide)
theorem Kc {c:Nat} (h:c<=4):vN c<=600272:=M1 (oh h) (by decide)
theorem yW {c:Nat} (h:c<=4):12*pN c+49<=vN (c+1):=by
 match c,h with
 | 0,_=>decide
 | 1,_=>decide
 | 2,_=>decide
 | 3,_=>decide
 | 4,_=>decide
structure mr (c:Nat) (p:Pt):Prop where
 cd:Cd (pN c) p.1.1 p.2.1
 u1:Sz (vN c) p.1.2
 u2:Sz (vN c) p.2.2
 n1:p.1.2=0\/fW (ab p.1.2)
 n2:p.2.2=0\/fW (ab p.2.2)
theorem mr.mono {a b:Nat} {p:Pt} (h:mr a p) (l:a<=b):mr b p:=⟨h.cd.mono (vG l),h.u1.mono (oh l),h.u2.mono (oh l),h.n1,h.n2⟩
theorem mr.pok {c:Nat} {p:Pt} (h:mr c p):HB (vN c) p:=⟨⟨h.cd.sx.mono (xh c),h.u1,h.n1⟩,⟨h.cd.sy.mono (xh c),h.u2,h.n2⟩⟩
def Pl (p:Pt):Prop:=p.1.2=0/\p.2.2=0
instance {p:Pt}:Decidable (Pl p):=inferInstanceAs (Decidable (_/\_))
theorem Pl.e {p:Pt} (h:Pl p):gP p=PP p.1.1 p.2.1:=by
 show D.tup [.tup [fr p.1.1,fr p.1.2],.tup [fr p.2.1,fr p.2.2]]=_
 rw [h.1,h.2]
 rfl
def pU (u:Rat) (X Y:Q):Pt:=((X.1,ss X.2*u),(Y.1,ss Y.2*u))
theorem xw {u b:Rat} (u0:0 < u) (no:fW u):ss b*u=0\/fW (ab (ss b*u)):=by
 by_cases h:b=0
 ·exact .inl ((jg u0).mpr h)
 ·right
  rw [oW u0];exact Ba no h
noncomputable def CJ (u:Rat) (p q:Pt) (a l:Rat):Pt:=pU u (fH u (rq u p.1) (rq u p.2) (rq u q.1) (rq u q.2) (qo a) (qo l)) (gl u (rq u p.1) (rq u p.2) (rq u q.1) (rq u q.2) (qo a) (qo l))
theorem kX {u p q:Rat} {x y z v:Q}:(fH u x y z v (qo p) (qo q)).1=x.1+(p*(z.1 - x.1) - q*(v.1 - y.1))/\(gl u x y z v (qo p) (qo q)).1=y.1+(p*(v.1 - y.1)+q*(z.1 - x.1))/\(fH u x y z v (qo p) (qo q)).2=x.2+(p*(z.2 - x.2) - q*(v.2 - y.2))/\(gl u x y z v (qo p) (qo q)).2=y.2+(p*(v.2 - y.2)+q*(z.2 - x.2)):=by
 simp only [fH,gl,qa,qs,qm,qo];refine⟨?_,?_,?_,?_⟩ <;> grind
theorem mr.like {c:Nat} {p q:Pt} {u a l:Rat} (hp:mr c p) (hq:mr c q) (sa:Sz 4 a) (sl:Sz 4 l) (u0:0 < u) (no:fW u) (su:Sz (vN c+3) u)
  (b1:Sq (vN c+3) (rq u p.1)) (b2:Sq (vN c+3) (rq u p.2)) (b3:Sq (vN c+3) (rq u q.1)) (b4:Sq (vN c+3) (rq u q.2)):mr (c+1) (CJ u p q a l):=by
 obtain⟨e1,e2,e3,e4⟩:=kX (u:=u) (p:=a) (q:=l) (x:=rq u p.1) (y:=rq u p.2) (z:=rq u q.1) (v:=rq u q.2);have pc:32<=pN c:=vG (M_ c);refine⟨?_,?_,?_,xw u0 no,xw u0 no⟩
 ·show Cd _ (fH u (rq u p.1) (rq u p.2) (rq u q.1) (rq u q.2) (qo a) (qo l)).1 (gl u (rq u p.1) (rq u p.2) (rq u q.1) (rq u q.2) (qo a) (qo l)).1
  rw [e1,e2];exact(Cd.like hp.cd hq.cd sa sl).mono (by show 2*pN c+2*4+4<=6*pN c+26; omega)
 ·show Sz _ (ss (fH u (rq u p.1) (rq u p.2) (rq u q.1) (rq u q.2) (qo a) (qo l)).2*u)
  rw [e3];exact(((b1.b.add ((sa.mul (b3.b.sub b1.b)).sub (sl.mul (b4.b.sub b2.b)))).ss).mul su).mono (by show _<=11*vN c+90; omega)
 ·show Sz _ (ss (gl u (rq u p.1) (rq u p.2) (rq u q.1) (rq u q.2) (qo a) (qo l)).2*u)
  rw [e4];exact(((b2.b.add ((sa.mul (b4.b.sub b2.b)).add (sl.mul (b3.b.sub b1.b)))).ss).mul su).mono (by show _<=11*vN c+90; omega)
theorem BN {n:Nat} {x y s z v r:Rat} (hn:n<=48206) (h:Cd n x y) (g:Cd n z v) (hs:Sz 8 s) (hr:Sz 8 r):C0 x y s z v r:=by
 obtain⟨P,Q,X,Y,K,hK,bK,bP,bQ,bX,bY,ha,hb,hx,hy⟩:=h.way g;have s1:Sz 98000 (z - x):=(i9 (k:=n+n+1) (by omega) ha bP (bK.mono (by omega))).mono (by omega)
 have s2:Sz 98000 (v - y):=(i9 (k:=n+n+1) (by omega) hb bQ (bK.mono (by omega))).mono (by omega)
 refine⟨h.sx.mono (by omega),h.sy.mono (by omega),hs.mono (by decide),g.sx.mono (by omega),g.sy.mono (by omega),hr.mono (by decide),s1,s2,λh0=>?_,λh0=>?_,λh0=>?_,λh0=>?_⟩ <;> obtain⟨_,_,a3,a4,a5⟩:=AK h g hs.num hs.den hr.num hr.den h0
 ·exact a3.mono (by omega)
 ·exact a4.mono (by omega)
 ·exact a5.sx.mono (by omega)
 ·exact a5.sy.mono (by omega)
theorem mr.pair {c:Nat} {x y s z v r:Rat} {d:D} {u:Rat} {X Y:Q} (h4:c<=4) (j:Jg (pN c) x y s z v r d u X Y):mr (c+1) (pU u X Y):=by
 have:=yW h4;exact⟨j.cd,((j.xb.ss).mul j.su).mono (by omega),((j.yb.ss).mul j.su).mono (by omega),xw j.u0 j.no,xw j.u0 j.no⟩
theorem Cd.crank {x y l:Rat} {o:Nm Rat} (hx:Sz 9 x) (hy:Sz 9 y) (hl:Sz 4 l) (ho:pF o):Cd 32 (x+rK o*l) (y+tO o*l):=by
 have ex:=dN x;have ey:=dN y;have el:=dN l;have px:=mT x;have py:=mT y;have pl:=mT l;cases o with
 | none=>
  refine⟨x.num*y.den*l.den - l.num*x.den*y.den,y.num*x.den*l.den,x.den*y.den*l.den,Int.mul_pos (Int.mul_pos px py) pl,((hx.den.mul hy.den).mul hl.den).mono (by decide),(((hx.num.mul hy.den).mul hl.den).sub ((hl.num.mul hx.den).mul hy.den)).mono (by decide),((hy.num.mul hx.den).mul hl.den).mono (by decide),?_,?_⟩
  ·show(x+-1*l)*_=_
   simp only [MV,Mn];rw [<- ex,<- el];grind
  ·show(y+0*l)*_=_
   simp only [MV,Mn];rw [<- ey];grind
 | some t=>
  have et:=dN t;have pt:=mT t;have ht:=ho t rfl;have h1:=im t;have e1:(1 - t*t) / (1+t*t)*(1+t*t)=1 - t*t:=Rat.div_mul_cancel h1;have e2:(t+t) / (1+t*t)*(1+t*t)=t+t:=Rat.div_mul_cancel h1;have q0:0<=t.num*t.num:=by rw [<- Int.natAbs_mul_self' t.num]; exact Int.natCast_nonneg _
  have q1:0 < (t.den:Int)*(t.den:Int)+t.num*t.num:=by have:=Int.mul_pos pt pt; omega
  have bq:Bt 9 ((t.den:Int)*(t.den:Int)+t.num*t.num):=((ht.den.mul ht.den).add (ht.num.mul ht.num)).mono (by decide)
  have br:Bt 9 ((t.den:Int)*(t.den:Int) - t.num*t.num):=((ht.den.mul ht.den).sub (ht.num.mul ht.num)).mono (by decide)
  have b2:Bt 9 (t.num*t.den+t.num*t.den):=((ht.num.mul ht.den).add (ht.num.mul ht.den)).mono (by decide)
  refine⟨x.num*y.den*l.den*(t.den*t.den+t.num*t.num)+(t.den*t.den - t.num*t.num)*l.num*x.den*y.den,y.num*x.den*l.den*(t.den*t.den+t.num*t.num)+(t.num*t.den+t.num*t.den)*l.num*x.den*y.den,x.den*y.den*l.den*(t.den*t.den+t.num*t.num),Int.mul_pos (Int.mul_pos (Int.mul_pos px py) pl) q1,(((hx.den.mul hy.den).mul hl.den).mul bq).mono (by decide),((((hx.num.mul hy.den).mul hl.den).mul bq).add (((br.mul hl.num).mul hx.den).mul hy.den)).mono (by decide),((((hy.num.mul hx.den).mul hl.den).mul bq).add (((b2.mul hl.num).mul hx.den).mul hy.den)).mono (by decide),?_,?_⟩
  ·show(x+(1 - t*t) / (1+t*t)*l)*_=_
   simp only [MV,Mn,MG];rw [<- ex,<- el,<- et];generalize (1 - t*t) / (1+t*t)=d at*
   grind
  ·show(y+(t+t) / (1+t*t)*l)*_=_
   simp only [MV,Mn,MG];rw [<- ey,<- el,<- et];generalize (t+t) / (1+t*t)=d at*
   grind
theorem mr.plain {x y:Rat} (h:Cd 32 x y):mr 0 ((x,0),(y,0)):=⟨h,Sz.zero.mono (by decide),Sz.zero.mono (by decide),.inl rfl,.inl rfl⟩
set_option maxHeartbeats 4000000
def gA:cr:=λds S k=>∃ p:Pt,ds=[gP p]/\k (.bl (decide (Pl p))) S
theorem oE:av ["point"] ["point"] (am gE):=ej
theorem oX (Fn:FN K "is_plain_point" gE f fd) (ba:aZ P w K mg base "is_plain" 1 ft):
  aU P w K mg base cW 2 f fd ["point"] (cY K gA):=by
 refine Fn.okJ oE (λds S k h=>?_) (λcdv A outer s H E hr=>⟨_,(ai (ar (BV (dq ba hr (aa (aO 0) ac)) (yy (dq ba hr (aa (aO 0) ac)))))),λds S k h=>?_⟩)
 ·obtain⟨_,rfl,_⟩:=h
  rfl
 ·obtain⟨p,rfl,w⟩:=h;refine⟨fr p.1.1,p.1.2,rfl,aN (λe=>⟨fr p.2.1,p.2.2,rfl,?_⟩) (λe=>?_)⟩
  ·have z:decide (Pl p)=decide (p.2.2=0):=by
    unfold Pl;simp [e]
   rw [z] at w;exact w
  ·rw [show decide (Pl p)=false from M9 λz=>e z.1] at w
   exact w
theorem tL {x y a b s:Rat}:(jO x y a b s).length<=2:=by
 unfold jO
 split
 ·decide
 ·split
  ·show 1<=2; decide
  ·show 2<=2; decide
noncomputable def lu (l:List D) (i:Nat):D:=if l.length=2 then l.getD i .non else l.getD 0 .non
theorem wT {l:List D} {i:Nat} (h:l≠[]) (h2:l.length<=2) (hi:i < 2):lu l i∈l:=by
 match l,h,h2 with
 | [a],_,_=>show lu [a] i∈[a]; unfold lu; simp
 | [a,b],_,_=>
  match i,hi with
  | 0,_=>simp [lu]
  | 1,_=>simp [lu]
noncomputable abbrev cP (p q:Pt) (s t:Rat):List D:=cL p.1.1 p.2.1 s q.1.1 q.2.1 t
abbrev aP (p q:Pt):Rat:=(q.1.1 - p.1.1)*(q.1.1 - p.1.1)+(q.2.1 - p.2.1)*(q.2.1 - p.2.1)
theorem Dj {ps:List Pt} {i:Nat} {p:Pt} (h:ps[i]?=some p):L2.atI (ps.map gP) ((i:Nat):Int)=some (gP p):=L2.h_ (by rw [MQ,h]; rfl)
def ig:cr:=λds S k=>match ds with
 | [.non,.non,.non]=>False/\k .non S
 | _=>False
theorem dr:av ["step","number","points","one","other","found"] ["step","number","points"] (am ib):=ej
theorem ut (Fn:FN K "pair_point" ib f fd) (bS:aZ P w K mg base "is_plain_point" 2 gA) (dP:mg "len"=none):
  aU P w K mg base cW 3 f fd ["step","number","points"] (cY K ig):=by
 refine Fn.okJ dr (λds S k h=>?_) (λcdv A outer s H E hr=>⟨_,(ag (aq (i:=3) dr.nd (bh cj (aj 2) (aO 0) Zf)) (ag (aq (i:=4) dr.nd (bh cj (aj 2) (aO 0) Zf)) (ag (aE (WJ.pt (iC (f_ (cV (dq bS hr (aB 3 ac)))) (gI (f_ (cV (dq bS hr (aB 4 ac))))))) (ai fB) aL) (ag fB (ag (aE (aA fC (aQ jp rfl dP jD (aB 5 ac)) ah (aD _)) (ai fB) aL) (ai (ar (uA (aA fC (aQ jp rfl dP jD (aB 5 ac)) ah (aD _)) (bh cj (aj 5) (aO 0) Zf) (aO 5))))))))),λds S k h=>?_⟩)
 ·unfold ig at h
  split at h
  ·rfl
  ·exact h.elim
 ·unfold ig at h
  split at h
  ·exact h.1.elim
  ·exact h.elim
def mW (az aV aM:Nl):mH:=λds S k e=>∃ (i j:Nat) (s t:Rat) (v n:Nat) (q:Nl) (ps:List Pt) (p1 p2:Pt),ds=[.tup [.str "pair",.int (i:Nat),.int (j:Nat),fr s,fr t,.int (v:Nat)],.int n,.ref q]/\S q=some (.lst (ps.map gP))/\ps[i]?=some p1/\ps[j]?=some p2/\v < 2/\(Pl p1->Pl p2->C0 p1.1.1 p1.2.1 s p2.1.1 p2.2.1 t)/\
 (¬ (Pl p1/\Pl p2)->∀ S',bV S S'->e az S')/\(Pl p1->Pl p2->aP p1 p2=0\/cP p1 p2 s t=[]->∀ S',bV S S'->e (aM,some (n:Int)) S')/\(Pl p1->Pl p2->aP p1 p2≠0->cP p1 p2 s t≠[]->∀ S' d,bV S S'->d=lu (cP p1 p2 s t) v->k d S')
theorem tm {P:Np} {w:Nr} {K:Fg} {mg:Str->Nm Nk} {base:Nt} {f:Nl} {fd:FuncData} {az aV aM:Nl} (Fn:FN K "pair_point" ib f fd) (bS:aZ P w K mg base "is_plain_point" 2 gA) (g6:nO P w K mg base "circles_meet" 40 (lv aV)) (dP:mg "len"=none) (il:mg "Stuck"=some (.ref aM)) (qi_Stuck:CD K mg "Stuck" aM) (gn:mg "NoMeet"=some (.ref aV)) (wG:PySem.W.excIn K aV [.type "ValueError",.type "Exception",.type "BaseException",.type "object"] "ValueError.__new__"=true) (eS:mg "NoField"=some (.ref az)) (qz:PySem.W.excIn K az [.type "ValueError",.type "Exception",.type "BaseException",.type "object"] "ValueError.__new__"=true) (jV:PySem.W.exmOne K (.ref aV) (.ref aV)=some true):
  aU P w K mg base (eV P w) 41 f fd ["step","number","points"] (AC K (mW az aV aM)):=by
 refine Fn.okX dr (λds S k x h=>?_) (λcdv A outer s H E ex hr hE=>⟨_,(ag (aq (i:=3) dr.nd (bh cj (aj 2) (aO 0) Zf)) (ag (aq (i:=4) dr.nd (bh cj (aj 2) (aO 0) Zf)) (ag (aE (WJ.pt (iC (f_ (cV (dq bS hr (aB 3 ac)))) (gI (f_ (cV (dq bS hr (aB 4 ac))))))) (ai (nL hE PySem.F.excBase_ValueError qz eS rfl)) aL) (ag (Al (i:=5) (j:=1) hE qi_Stuck (λex=>(AM g6 (hr.mono (by decide)) rfl (aB 3 (aa (aO 0) (aB 4 (aa (aO 0) ac)))))) (hr.mono (by decide)) rfl rfl (.inl rfl) rfl gn dr.nd rfl (.inl rfl)) (ag (aE (aA fC (aQ jp rfl dP jD (aB 5 ac)) ah (aD _)) (ai (w5 (j:=1) hE qi_Stuck (hr.mono (by decide)) rfl rfl (.inl rfl))) aL) (ai (ar (uA (aA fC (aQ jp rfl dP jD (aB 5 ac)) ah (aD _)) (bh cj (aj 5) (aO 0) Zf) (aO 5))))))))),λds S k h=>?_⟩)
 ·obtain⟨_,_,_,_,_,_,_,_,_,_,rfl,_⟩:=h
  rfl
 ·obtain⟨i,j,s,t,v,n,q,ps,p1,p2,rfl,hq,h1,h2,hv,hz,wf,w0,w1⟩:=h;refine⟨_,_,hq,Dj h1,_,_,hq,Dj h2,p1,rfl,cZ (λz=>vg (wf (λh=>z h.1) S (bV.refl S))) (λhp1=>⟨p2,rfl,cZ (λz=>wf (λh=>z h.2) S (bV.refl S)) (λhp2=>?_)⟩)⟩
  have hz:=hz hp1 hp2;have w0:=w0 hp1 hp2;have w1:=w1 hp1 hp2;refine⟨p1.1.1,p1.2.1,s,p2.1.1,p2.2.1,t,by rw [<- hp1.e,<- hp2.e],hz,λa0=>⟨jV,_,rfl,w0 (.inl a0) S (bV.refl S)⟩,λa1 S' p e hp=>?_⟩
  have hl:(cP p1 p2 s t).length<=2:=tL;have e1:bV S (put S' p (.lst (cP p1 p2 s t))):=e.put (e.none hp)
  show oQ _ _ _ _ (put S' p (.lst (cP p1 p2 s t)))
  generalize cP p1 p2 s t=l at*
  refine⟨_,ak,aN (λz0=>?_) (λz0=>⟨_,ak,aN (λz2=>?_) (λz2=>?_)⟩)⟩
  ·exact⟨_,rfl,w0 (.inr (Ni.mp (by omega))) _ e1⟩
  ·match l,z2 with
   | [a,b],_=>
    have w:=w1 a1 (λz=>by cases z) _ _ e1 rfl
    match v,hv with
    | 0,_=>exact⟨_,_,ak,sf,w⟩
    | 1,_=>exact⟨_,_,ak,FR,w⟩
   | [],z=>exact absurd z (by decide)
   | [_],z=>exact absurd (show (1:Int)=2 from z) (by decide)
  ·match l,z0,z2,hl with
   | [a],_,_,_=>exact⟨_,_,ak,sf,w1 a1 (λz=>by cases z) _ _ e1 rfl⟩
   | [],z,_,_=>exact absurd rfl z
   | [_,_],_,z,_=>exact absurd rfl z
set_option maxHeartbeats 4000000
def mC:cr:=λds S k=>match ds with
 | [.non,.non,.non,.non]=>False/\k .non S
 | _=>False
theorem cw:av ["one","other","along","left","way","ahead","aside","x","y"] ["one","other","along","left"] (am mD):=ej
theorem xR (Fn:FN K "like_at" mD f fd) (gW:aZ P w K mg base "ask_one_field" 38 lx) (dR:aZ P w K mg base "way_between" 40 ju) (ci:aZ P w K mg base "root_minus" 39 ie) (bO:aZ P w K mg base "root_times" 38 kS) (bT:aZ P w K mg base "root_plus" 38 jc) (bH:tZ K mg "NOUGHT" [0,1]):
  aU P w K mg base cW 41 f fd ["one","other","along","left"] (cY K mC):=by
 refine Fn.okJ cw (λds S k h=>?_) (λcdv A outer s H E hr=>⟨_,(ag (bf (dq gW hr (aa (au (aB 0 (aB 1 ac))) ac))) (ag (aq (i:=4) cw.nd (dq dR hr (aB 0 (aB 1 ac)))) (ag (aq (i:=5) cw.nd (au (aB 2 (aa (gS bH rfl) ac)))) (ag (aq (i:=6) cw.nd (au (aB 3 (aa (gS bH rfl) ac)))) (ag (aq (i:=7) cw.nd (dq ci hr (aa (dq bO hr (aB 5 (aa (aO 4) ac))) (aa (dq bO hr (aB 6 (aa (aO 4) ac))) ac)))) (ag (aq (i:=8) cw.nd (dq bT hr (aa (dq bO hr (aB 5 (aa (aO 4) ac))) (aa (dq bO hr (aB 6 (aa (aO 4) ac))) ac)))) (ai (ar (au (aa (dq bT hr (aa (aO 0) (aB 7 ac))) (aa (dq bT hr (aa (aO 0) (aB 8 ac))) ac))))))))))),λds S k h=>?_⟩)
 ·unfold mC at h
  split at h
  ·rfl
  ·exact h.elim
 ·unfold mC at h
  split at h
  ·exact h.1.elim
  ·exact h.elim
def sU (az:Nl):mH:=λds S k x=>∃ (m:Nat) (p q:Pt) (a l:Rat),ds=[gP p,gP q,fr a,fr l]/\m<=600272/\HB m p/\HB m q/\Sz 4 a/\Sz 4 l/\(¬ Dp [p,q]->∀ S',bV S S'->x az S')/\
 (∀ u,0 < u->fW u->Sz (m+3) u->HR u [p,q]->Sq (m+3) (rq u p.1)->Sq (m+3) (rq u p.2)->Sq (m+3) (rq u q.1)->Sq (m+3) (rq u q.2)->∀ S',bV S S'->k (gP (CJ u p q a l)) S')
theorem xi {P:Np} {w:Nr} {K:Fg} {mg:Str->Nm Nk} {base:Nt} {f:Nl} {fd:FuncData} {az:Nl} (Fn:FN K "like_at" mD f fd) (bT:aZ P w K mg base "root_plus" 38 jc) (bO:aZ P w K mg base "root_times" 38 kS) (ci:aZ P w K mg base "root_minus" 39 ie) (dR:aZ P w K mg base "way_between" 40 ju) (gC:nO P w K mg base "ask_one_field" 38 (jU az)) (bH:tZ K mg "NOUGHT" [0,1]):
  aU P w K mg base (eV P w) 41 f fd ["one","other","along","left"] (AC K (sU az)):=by
 refine Fn.okX cw (λds S k x h=>?_) (λcdv A outer s H E ex hr hE=>⟨_,(ag (bf (oO hE gC (hr.mono (by decide)) rfl (aa (au (aB 0 (aB 1 ac))) ac))) (ag (aq (i:=4) cw.nd (dq dR hr (aB 0 (aB 1 ac)))) (ag (aq (i:=5) cw.nd (au (aB 2 (aa (gS bH rfl) ac)))) (ag (aq (i:=6) cw.nd (au (aB 3 (aa (gS bH rfl) ac)))) (ag (aq (i:=7) cw.nd (dq ci hr (aa (dq bO hr (aB 5 (aa (aO 4) ac))) (aa (dq bO hr (aB 6 (aa (aO 4) ac))) ac)))) (ag (aq (i:=8) cw.nd (dq bT hr (aa (dq bO hr (aB 5 (aa (aO 4) ac))) (aa (dq bO hr (aB 6 (aa (aO 4) ac))) ac)))) (ai (ar (au (aa (dq bT hr (aa (aO 0) (aB 7 ac))) (aa (dq bT hr (aa (aO 0) (aB 8 ac))) ac))))))))))),λds S k h=>?_⟩)
 ·obtain⟨_,_,_,_,_,rfl,_⟩:=h
  rfl
 ·obtain⟨m,p,q,a,l,rfl,hm,hp,hq,sa,sl,w0,w⟩:=h;have all:∀ r∈[p,q],HB m r:=λr hr=>by
   simp only [Mt,ME,or_false] at hr;rcases hr with rfl | rfl
   ·exact hp
   ·exact hq
  refine⟨a9,[p,q],rfl,λr hr=>⟨(all r hr).1.u.mono (by omega),(all r hr).2.u.mono (by omega)⟩,(by show 2<=90; decide),λone S1 e1=>?_,w0⟩
  obtain⟨u,hu,su,hR,hs⟩:=wb (m:=m) (by omega) all one
  obtain⟨x1,y1⟩:=hs p (by simp)
  obtain⟨z1,v1⟩:=hs q (by simp)
  have w:=w u hu.pos hu.no su hR x1 y1 z1 v1 S1 e1;have hd1:Sq 1250000 (qs (rq u q.1) (rq u p.1)):=(Hj z1 x1).mono (by omega)
  have hd2:Sq 1250000 (qs (rq u q.2) (rq u p.2)):=(Hj v1 y1).mono (by omega)
  have x1:=x1.mono (n:=610000) (by omega)
  have y1:=y1.mono (n:=610000) (by omega)
  have z1:=z1.mono (n:=610000) (by omega)
  have v1:=v1.mono (n:=610000) (by omega)
  rw [FC (hR p (by simp)),FC (hR q (by simp))]
  have ep:gP (CJ u p q a l)=Pq u (fH u (rq u p.1) (rq u p.2) (rq u q.1) (rq u q.2) (qo a) (qo l)) (gl u (rq u p.1) (rq u p.2) (rq u q.1) (rq u q.2) (qo a) (qo l)):=rfl;rw [ep] at w;clear ep w0 all hR su
  show oQ _ _ _ [some (Pq u (rq u p.1) (rq u p.2)),some (Pq u (rq u q.1) (rq u q.2)),_,_,_,_,_,_,_] _
  generalize rq u p.1=x at*
  generalize rq u p.2=y at*
  generalize rq u q.1=z at*
  generalize rq u q.2=v at*
  have s4:∀ {t:Rat},Sz 4 t->Sq 1250000 (qo t):=λh=>Dg (h.mono (by decide)) (by decide)
  have sc:∀ {t:Rat} {X:Q},Sz 4 t->Sq 1250000 X->Sq 1250004 (qm u (qo t) X):=λ{t X} ht hX=>by
   refine⟨?_,?_⟩
   ·show Sz _ (t*X.1+0*X.2*u)
    rw [show t*X.1+0*X.2*u=t*X.1 by grind]
    exact(ht.mul hX.a).mono (by decide)
   ·show Sz _ (t*X.2+0*X.1)
    rw [show t*X.2+0*X.1=t*X.2 by grind]
    exact(ht.mul hX.b).mono (by decide)
  have m1:=sc sa hd1;have m2:=sc sl hd2;have m3:=sc sa hd2;have m4:=sc sl hd1;refine⟨u,x,y,z,v,rfl,hu,x1,y1,z1,v1,a9,a9,?_⟩;refine⟨u,_,_,_,_,congrArg (λt=>[t,_]) (iW (u:=u)),hu,s4 sa,hd1,?_⟩
  refine⟨u,_,_,_,_,congrArg (λt=>[t,_]) (iW (u:=u)),hu,s4 sl,hd2,?_⟩
  refine⟨u,_,_,_,_,rfl,hu,m1.sn (by decide),m2.sn (by decide),?_⟩
  refine⟨u,_,_,_,_,congrArg (λt=>[t,_]) (iW (u:=u)),hu,s4 sa,hd2,?_⟩
  refine⟨u,_,_,_,_,congrArg (λt=>[t,_]) (iW (u:=u)),hu,s4 sl,hd1,?_⟩
  refine⟨u,_,_,_,_,rfl,hu,m3.sn (by decide),m4.sn (by decide),?_⟩
  exact⟨u,_,_,_,_,rfl,hu,x1.sn (by decide),(Hj m1 m2).sn (by decide),u,_,_,_,_,rfl,hu,y1.sn (by decide),(J1 m3 m4).sn (by decide),a9,w⟩
set_option maxHeartbeats 4000000
def me:cr:=λds S k=>∃ (ns:List Int) (i:Int),ds=[.rl (List.map D.int ns),.int i]/\0<=i/\∀ c:Int,k (.int c) S
theorem qW:av ["script","k"] ["script","k"] (am iQ):=ej
theorem qT (Fn:FN K "_law_cell_at" iQ f fd) (dP:mg "len"=none):
  aU P w K mg base cW 1 f fd ["script","k"] (cY K me):=by
 refine Fn.okJ qW (λds S k h=>?_) (λcdv A outer s H E hr=>⟨_,(ag (aE (aA rb (aj 1) (aQ jp rfl dP jD (aB 0 ac)) (aD _)) (ai (ar (bh cj (aj 0) (aj 1) Zf))) aL) (ai (ar ah))),λds S k h=>?_⟩)
 ·obtain⟨_,_,rfl,_⟩:=h
  rfl
 ·obtain⟨ns,i,rfl,h0,q⟩:=h;refine aN (λhl=>?_) (λ_=>q 0)
  obtain⟨n,rfl⟩:=Int.eq_ofNat_of_zero_le h0;have hn:n < ns.length:=by rw [Mq] at hl; omega
  have e:L2.atI (List.map D.int ns) (n:Int)=some (.int ns[n]):=h_ (by rw [MQ,MN hn] <;> rfl)
  exact⟨_,e,q _⟩
def o_:cr:=λds S k=>∃ ns i,ds=[.rl (List.map D.int ns),.int i]/\0<=i/\∀ (p:Nl) (n:Int) (b:Nw),S p=none->(b=false->0<=n/\n < 2147483647)->k (.ref p) (put S p (.lst [.int n,.bl b]))
theorem mU:av ["script","k","cell"] ["script","k"] (am kK):=ej
theorem uw (Fn:FN K "_law_state" kK f fd) (iM:aZ P w K mg base "_law_cell_at" 1 me):
  aU P w K mg base cW 2 f fd ["script","k"] (cY K o_):=by
 refine Fn.okJ mU (λds S k h=>?_) (λcdv A outer s H E hr=>⟨_,(ag (aq (i:=2) mU.nd (dq iM hr (aB 0 (aB 1 ac)))) (ag (aE (aA K3 (aj 2) (aH E9 ah ah) (aD _)) (ai (ar (cb (aa (aH qG (aj 2) (aH E9 ah ah)) (aa oy ac))))) aL) (ai (ar (cb (aa (aH oq (aj 2) ah) (aa oy ac))))))),λds S k h=>?_⟩)
 ·obtain⟨_,_,rfl,_⟩:=h
  rfl
 ·obtain⟨ns,i,rfl,h0,q⟩:=h;have hp:Hn 10 18:=⟨by decide,by decide,by decide⟩
  refine⟨ns,i,rfl,h0,λc=>⟨hp,aN (λhl=>⟨hp,a9,λp hn=>?_⟩) (λhl=>⟨(by show(2147483647:Int)≠0; decide),a9,λp hn=>?_⟩)⟩⟩
  ·exact q p _ _ hn (λz=>by cases z)
  ·exact q p _ _ hn (λ_=>⟨M7 _ (by decide),Nf _ (by decide)⟩)
def dE:cr:=λds S k=>∃ a m,ds=[.ref a,.int m]/\0 < m/\Bt 200 m/\sL S a/\∀ r S',0<=r->r < m->Dr a S S'->k (.int r) S'
theorem ii:av ["state","many","mixed","found"] ["state","many"] (am l_):=ej
theorem vm (Fn:FN K "_law_take" l_ f fd):
  aU P w K mg base cW 1 f fd ["state","many"] (cY K dE):=by
 refine Fn.okJ ii (λds S k h=>?_) (λcdv A outer s H E hr=>⟨_,(ag (aE (cV (aO 0)) (ag (aq (i:=3) ii.nd (aH oq (aO 0) (aj 1))) (ag (gL (aH A1 (aO 0) (aj 1)) (zf (aj 0) ah)) (ai (ar (aj 3))))) aL) (ag (gL (aH oq (aH dF (aH cN (aO 0) ah) ah) ah) (zf (aj 0) ah)) (ag (aq (i:=2) ii.nd (aH oq (aH dF (aH dF (aH cN (aO 0) (aO 0)) (aH cN ah (aO 0))) ah) ah)) (ag (aq (i:=2) ii.nd (aH oq (aH dF (aH cN (aj 2) (aj 2)) (aH cN ah (aj 2))) ah)) (ai (ar (aH oq (aH A1 (aj 2) ah) (aj 1)))))))),λds S k h=>?_⟩)
 ·obtain⟨_,_,rfl,_⟩:=h
  rfl
 ·obtain⟨a,m,rfl,hm,hb,⟨n,b,hS,hn⟩,q⟩:=h;have put_dr:∀ (n':Int) (b':Nw),(b'=false->0<=n'/\n' < 2147483647)->Dr a S (put S a (.lst [.int n',.bl b'])):=λn' b' h'=>
   ⟨⟨n',b',ak,h'⟩,λc o z e=>by rw [bw z]; exact e⟩
  refine⟨_,_,hS,FR,?_⟩;cases b with
  | true=>
   refine⟨_,_,hS,sf,(show m≠0 by omega),_,_,hS,sf,Mg (by omega) hb,_,_,hS,J2,?_⟩
   exact q _ _ (M7 _ hm) (Nf _ hm) (put_dr _ _ λz=>by cases z)
  | false=>
   obtain⟨n0,n1⟩:=hn rfl;have b31:=zD n0 (by omega)
   refine⟨_,_,hS,sf,mQ (n:=31) b31 (zD (by decide) (by decide)),(show (2147483647:Int)≠0 by decide),_,_,hS,J2,?_⟩
   have c0:0<=(n*48271+29).fmod 2147483647:=M7 _ (by decide)
   have c1:(n*48271+29).fmod 2147483647 < 2147483647:=Nf _ (by decide)
   have bx:=zD c0 (by omega)
   refine⟨_,_,ak,sf,_,_,ak,sf,mQ bx bx,_,_,ak,sf,mQ (m:=31) (zD (by decide) (by decide)) bx,(show (2147483629:Int)≠0 by decide),?_⟩
   have d0:0<=((n*48271+29).fmod 2147483647*(n*48271+29).fmod 2147483647+39373*(n*48271+29).fmod 2147483647+7).fmod 2147483629:=M7 _ (by decide)
   have d1:((n*48271+29).fmod 2147483647*(n*48271+29).fmod 2147483647+39373*(n*48271+29).fmod 2147483647+7).fmod 2147483629 < 2147483629:=Nf _ (by decide)
   have by':=zD d0 (by omega)
   refine⟨mQ by' by',mQ (m:=31) (zD (by decide) (by decide)) by',(show (2147483587:Int)≠0 by decide),⟨by decide,by decide +kernel⟩,(show m≠0 by omega),?_⟩
   exact q _ _ (M7 _ hm) (Nf _ hm) (put_dr _ _ λ_=>⟨c0,c1⟩)
theorem E6 (a b:Int):Int.gcd (m9 a) (m9 b)=Int.gcd a b:=by
 have e:∀ x:Int,(m9 x).natAbs=x.natAbs:=λx=>by unfold m9; split <;> omega
 unfold Int.gcd;rw [e,e]
def lV:cr:=λds S k=>∃ a b,ds=[.int a,.int b]/\k (.int ((Int.gcd a b:Nat):Int)) S
theorem fq:av ["one","other"] ["one","other"] (am iA):=ej
theorem qM (Fn:FN K "_law_divisor" iA f fd) (jJ:mg "abs"=none):
  aU P w K mg base cW 1 f fd ["one","other"] (cY K lV):=by
 refine Fn.okJ fq (λds S k h=>?_) (λcdv A outer s H E hr=>⟨_,(ag (aq (i:=0) fq.nd (aQ wN rfl jJ sJ (aB 0 ac))) (ag (aq (i:=1) fq.nd (aQ wN rfl jJ sJ (aB 1 ac))) (ag (kz PassesOwn.never (aA J0 (aj 1) ah (aD _)) (ai (oK (i:=0) (j:=1) rfl fq.nd (by decide) (aB 1 (aa (aH oq (aj 0) (aj 1)) ac))))) (ai (ar (aj 0)))))),λds S k h=>?_⟩)
 ·obtain⟨_,_,rfl,_⟩:=h
  rfl
 ·obtain⟨a,b,rfl,q⟩:=h;refine⟨λm L S'=>S'=S/\∃ x y,L=[some (.int x),some (.int y)]/\m=y.natAbs/\0<=x/\0<=y/\Int.gcd x y=Int.gcd a b,⟨_,rfl,m9 a,m9 b,rfl,rfl,zi a,zi b,E6 a b⟩,?_⟩
  rintro m L S' ⟨rfl,x,y,rfl,rfl,hx,hy,e⟩;refine aN (λhl=>⟨λL' S''=>∃ m',m' < y.natAbs/\S''=S'/\∃ x y,L'=[some (.int x),some (.int y)]/\m'=y.natAbs/\0<=x/\0<=y/\Int.gcd x y=Int.gcd a b,λ_ _ z=>z,by omega,?_⟩) (λhl=>?_)
  ·exact⟨_,yU x y (by omega),rfl,y,x.fmod y,rfl,rfl,hy,M7 _ hl,(wO x y).trans e⟩
  ·have z:y=0:=by omega
   subst z;have e2:=w9 x;rw [e,if_neg (by omega)] at e2
   rw [e2] at q;exact q
def df:cr:=λds S k=>∃ t b,ds=[.int t,.int b]/\b≠0/\Bt 130000000 b/\k (fr (Rat.divInt t b)) S
theorem jC:av ["top","bottom","by"] ["top","bottom"] (am j9):=ej
theorem t5 (Fn:FN K "_law_ratio" j9 f fd) (iF:aZ P w K mg base "_law_divisor" 1 lV) (hBl:lC mg base) (hTr:P.given.tree=none):
  aU P w K mg base cW 34 f fd ["top","bottom"] (cY K df):=by
 refine Fn.okJ jC (λds S k h=>?_) (λcdv A outer s H E hr=>⟨_,(ag (aq (i:=2) jC.nd (dq iF hr (aB 0 (aB 1 ac)))) (ag (aE (aA rb (aj 1) ah (aD _)) (ai (aq (i:=2) jC.nd (aH qG ah (aj 2)))) aL) (ai (ar (au (aa (aH (kc hr hBl hTr rfl rfl rfl (by decide)) (aj 0) (aj 2)) (aa (aH (kc hr hBl hTr rfl rfl rfl (by decide)) (aj 1) (aj 2)) ac))))))),λds S k h=>?_⟩)
 ·obtain⟨_,_,rfl,_⟩:=h
  rfl
 ·obtain⟨t,b,rfl,h0,hb,q⟩:=h;have hg:=CZ (t:=t) h0 hb;have hs:=Ct (t:=t) h0;have e1:=rk (t:=t) h0;have e2:=oM (t:=t) h0;have qq:k (.tup [.int (t.fdiv (Ay t b)),.int (b.fdiv (Ay t b))]) S:=by rw [e1,e2]; exact q
  unfold Ay at qq hs
  refine⟨t,b,rfl,aN (λhl=>?_) (λhl=>?_)⟩
  ·rw [if_pos hl] at qq hs
   rw [<- Int.zero_sub] at qq hs
   exact⟨hs,hs,a9,qq⟩
  ·rw [if_neg hl] at qq hs
   exact⟨hs,hs,a9,qq⟩
def b8:cr:=λds S k=>∃ (a b c d:Int) (q:Rat),ds=[pr a b,pr c d]/\b*d≠0/\Bt 60000000 a/\Bt 60000000 b/\Bt 60000000 c/\Bt 60000000 d/\Rat.divInt (a*c) (b*d)=q/\k (fr q) S
theorem tW:av ["one","other"] ["one","other"] (am jZ):=ej
theorem t6 (Fn:FN K "_law_times" jZ f fd) (aW:aZ P w K mg base "_law_ratio" 34 df):
  aU P w K mg base cW 35 f fd ["one","other"] (cY K b8):=by
 refine Fn.okJ tW (λds S k h=>?_) (λcdv A outer s H E hr=>⟨_,(ai (ar (dq aW hr (aa (aH cN (aO 0) (aO 1)) (aa (aH cN (aO 0) (aO 1)) ac))))),λds S k h=>?_⟩)
 ·obtain⟨_,_,_,_,_,rfl,_⟩:=h
  rfl
 ·obtain⟨a,b,c,d,_,rfl,h0,h1,h2,h3,h4,rfl,q⟩:=h;exact⟨mQ h1 h3,mQ h2 h4,_,_,rfl,h0,(h2.mul h4).mono (by decide),q⟩
theorem Aj {t b:Int} (h0:0 < b) (h6:b<=6):(Rat.divInt t b).den<=6:=by
 have h1:=oM (t:=t) (b:=b) (by omega)
 have h2:=HM.eA b (Ay t b);rw [h1] at h2;omega
def ic:cr:=λds S k=>∃ a,ds=[.ref a]/\sL S a/\∀ q S',Sz 4 q/\q.den<=6->Dr a S S'->k (fr q) S'
theorem uk:av ["state"] ["state"] (am kE):=ej
theorem t_ (Fn:FN K "_law_small" kE f fd) (aW:aZ P w K mg base "_law_ratio" 34 df) (aC:aZ P w K mg base "_law_take" 1 dE):
  aU P w K mg base cW 35 f fd ["state"] (cY K ic):=by
 refine Fn.okJ uk (λds S k h=>?_) (λcdv A outer s H E hr=>⟨_,(ai (ar (dq aW hr (aa (aH qG (dq aC hr (aB 0 (aa ah ac))) ah) (aa (aH dF ah (bh cj (cb (aa ah (aa ah (aa (dq aC hr (aB 0 (aa ah ac))) ac)))) (dq aC hr (aB 0 (aa ah ac))) Zf)) ac))))),λds S k h=>?_⟩)
 ·obtain⟨_,rfl,_⟩:=h
  rfl
 ·obtain⟨a,rfl,hS,q⟩:=h;refine⟨a,19,rfl,by decide,by decide,hS,λr1 S1 h1 h1' d1=>⟨a,6,rfl,by decide,by decide,d1.1,λr2 S2 h2 h2' d2=>⟨a9,λp hp=>⟨a,3,rfl,by decide,by decide,d2.1.new hp,λr3 S3 h3 h3' d3=>?_⟩⟩⟩⟩
  have hp3:=d3.2 p _ (d2.1.ne hp) ak;obtain⟨c,hc,hm⟩:=kT (ds:=[.int 0,.int 0,.int r2]) h3 h3';have hc2:∃ s:Int,c=.int s/\0<=s/\s < 6:=by
   simp only [Mt,ME,or_false] at hm;rcases hm with rfl | rfl | rfl
   ·exact⟨0,rfl,by decide,by decide⟩
   ·exact⟨0,rfl,by decide,by decide⟩
   ·exact⟨r2,rfl,h2,h2'⟩
  obtain⟨s,rfl,s0,s1⟩:=hc2;have b1:Bt 4 (r1 - 9):=by unfold Bt; omega
  have b2:Bt 4 (1+s):=by unfold Bt; omega
  exact⟨_,_,hp3,hc,_,_,rfl,by omega,b2.mono (by decide),q _ _ ⟨Sz.divInt b1 b2 (by omega),Aj (by omega) (by omega)⟩ (d1.trans (d2.trans ((Dr.new d2.1 hp).trans d3)))⟩
theorem GG (q:Rat) (u:Int):Rat.divInt (q.num*(m9 q.num*u)) ((q.den:Int)*(q.den:Int))=ss q*u:=by
 have h:=qL q;have hd:=rS q;rw [MW,Mn,Mn,Mn,Rat.intCast_natCast];unfold ss ab m9
 by_cases hq:q < 0
 ·rw [if_pos hq,if_pos ((cM q).mpr hq),Rat.intCast_neg]; grind
 ·rw [if_neg hq,if_neg (λz=>hq ((cM q).mp z))]; grind
def B (x:Q):D:=.tup [fr x.1,fr x.2]
theorem pO {S:DH} {k:DK} {t b:Int} {q:Rat} (e:Rat.divInt t b=q) (h0:b≠0) (hb:Bt 130000000 b) (h:k (fr q) S):df [.int t,.int b] S k:=by subst e; exact⟨_,_,rfl,h0,hb,h⟩
theorem Ao {S:DH} {k:DK} {p q:Rat} (hp:Sz 60000000 p) (hq:Sz 60000000 q) (h:k (fr (p*q)) S):b8 [fr p,fr q] S k:=⟨_,_,_,_,_,rfl,ax p q,hp.num,hp.den,hq.num,hq.den,bW p q,h⟩
theorem GO (u:Int):D.tup [.int u,.int 1]=fr (u:Rat):=by
 show _=D.tup [.int (u:Rat).num,.int ((u:Rat).den:Int)]
 rw [Rat.num_intCast,Rat.den_intCast]; rfl
theorem CP {n:Nat} {u:Int} (h:Bt n u) (hn:1<=n):Sz n (u:Rat):=by
 refine⟨by rw [Rat.num_intCast]; exact h,?_⟩
 rw [Rat.den_intCast];exact(show Bt 1 1 by decide).mono hn
theorem sL.set {a q:Nl} {S:DH} {o:DO} (h:sL S a) (z:q≠a):sL (put S q o) a:=by
 obtain⟨n,b,e,w⟩:=h;exact⟨n,b,by rw [bw (Ne.symm z)]; exact e,w⟩
set_option maxHeartbeats 4000000
def eC:cr:=λds S k=>∃ (a b c d:Int) (q:Rat),ds=[pr a b,pr c d]/\b*d≠0/\Bt 60000000 a/\Bt 60000000 b/\Bt 60000000 c/\Bt 60000000 d/\Rat.divInt (a*d+c*b) (b*d)=q/\k (fr q) S
theorem vz:av ["one","other"] ["one","other"] (am lY):=ej
theorem vn (Fn:FN K "_law_plus" lY f fd) (aW:aZ P w K mg base "_law_ratio" 34 df):
  aU P w K mg base cW 35 f fd ["one","other"] (cY K eC):=by
 refine Fn.okJ vz (λds S k h=>?_) (λcdv A outer s H E hr=>⟨_,(ai (ar (dq aW hr (aa (aH dF (aH cN (aO 0) (aO 1)) (aH cN (aO 1) (aO 0))) (aa (aH cN (aO 0) (aO 1)) ac))))),λds S k h=>?_⟩)
 ·obtain⟨_,_,_,_,_,rfl,_⟩:=h
  rfl
 ·obtain⟨a,b,c,d,q,rfl,h0,h1,h2,h3,h4,e,w⟩:=h;exact⟨mQ h1 h4,mQ h3 h2,mQ h2 h4,pO e h0 ((h2.mul h4).mono (by decide)) w⟩
def ia:cr:=λds S k=>∃ p q:Rat,ds=[fr p,fr q]/\Sz 60000000 p/\Sz 60000000 q/\k (fr (p - q)) S
theorem ue:av ["one","other"] ["one","other"] (am kI):=ej
theorem uo (Fn:FN K "_law_minus" kI f fd) (aW:aZ P w K mg base "_law_ratio" 34 df):
  aU P w K mg base cW 35 f fd ["one","other"] (cY K ia):=by
 refine Fn.okJ ue (λds S k h=>?_) (λcdv A outer s H E hr=>⟨_,(ai (ar (dq aW hr (aa (aH qG (aH cN (aO 0) (aO 1)) (aH cN (aO 1) (aO 0))) (aa (aH cN (aO 0) (aO 1)) ac))))),λds S k h=>?_⟩)
 ·obtain⟨_,_,rfl,_⟩:=h
  rfl
 ·obtain⟨p,q,rfl,hp,hq,w⟩:=h;exact⟨mQ hp.num hq.den,mQ hq.num hp.den,mQ hp.den hq.den,pO (x_ p q) (ax p q) ((hp.den.mul hq.den).mono (by decide)) w⟩
def jh:cr:=λds S k=>∃ p q:Rat,ds=[fr p,fr q]/\q≠0/\Sz 60000000 p/\Sz 60000000 q/\k (fr (p / q)) S
theorem vS:av ["one","other"] ["one","other"] (am mj):=ej
theorem vX (Fn:FN K "_law_over" mj f fd) (aW:aZ P w K mg base "_law_ratio" 34 df):
  aU P w K mg base cW 35 f fd ["one","other"] (cY K jh):=by
 refine Fn.okJ vS (λds S k h=>?_) (λcdv A outer s H E hr=>⟨_,(ai (ar (dq aW hr (aa (aH cN (aO 0) (aO 1)) (aa (aH cN (aO 0) (aO 1)) ac))))),λds S k h=>?_⟩)
 ·obtain⟨_,_,rfl,_⟩:=h
  rfl
 ·obtain⟨p,q,rfl,h0,hp,hq,w⟩:=h;exact⟨mQ hp.num hq.den,mQ hp.den hq.num,pO (xX p q) (Int.mul_ne_zero (lZ p) (vC h0)) ((hp.den.mul hq.num).mono (by decide)) w⟩
def jI:cr:=λds S k=>∃ x y:Q,ds=[B x,B y]/\Sq 60000000 x/\Sq 60000000 y/\k (B (qa x y)) S
theorem o0:av ["one","other"] ["one","other"] (am gy):=ej
theorem oU (Fn:FN K "_law_both_plus" gy f fd) (aR:aZ P w K mg base "_law_plus" 35 eC):
  aU P w K mg base cW 36 f fd ["one","other"] (cY K jI):=by
 refine Fn.okJ o0 (λds S k h=>?_) (λcdv A outer s H E hr=>⟨_,(ai (ar (au (aa (dq aR hr (aa (aO 0) (aa (aO 1) ac))) (aa (dq aR hr (aa (aO 0) (aa (aO 1) ac))) ac))))),λds S k h=>?_⟩)
 ·obtain⟨_,_,rfl,_⟩:=h
  rfl
 ·obtain⟨x,y,rfl,hx,hy,w⟩:=h;exact⟨_,_,_,_,_,rfl,ax _ _,hx.a.num,hx.a.den,hy.a.num,hy.a.den,eG _ _,_,_,_,_,_,rfl,ax _ _,hx.b.num,hx.b.den,hy.b.num,hy.b.den,eG _ _,a9,w⟩
def i5:cr:=λds S k=>∃ x y:Q,ds=[B x,B y]/\Sq 60000000 x/\Sq 60000000 y/\k (B (qs x y)) S
theorem nS:av ["one","other"] ["one","other"] (am fO):=ej
theorem nu (Fn:FN K "_law_both_minus" fO f fd) (bo:aZ P w K mg base "_law_minus" 35 ia):
  aU P w K mg base cW 36 f fd ["one","other"] (cY K i5):=by
 refine Fn.okJ nS (λds S k h=>?_) (λcdv A outer s H E hr=>⟨_,(ai (ar (au (aa (dq bo hr (aa (aO 0) (aa (aO 1) ac))) (aa (dq bo hr (aa (aO 0) (aa (aO 1) ac))) ac))))),λds S k h=>?_⟩)
 ·obtain⟨_,_,rfl,_⟩:=h
  rfl
 ·obtain⟨x,y,rfl,hx,hy,w⟩:=h;exact⟨_,_,rfl,hx.a,hy.a,_,_,rfl,hx.b,hy.b,a9,w⟩
set_option maxHeartbeats 4000000
theorem zt {A B:Prop} (f:B->A) (h:B):A:=f h
theorem Dr.keep {a p:Nl} {S S':DH} {o:DO} (h:Dr a S S') (n:p≠a) (e:S p=some o):S' p=some o:=h.2 p o n e
theorem Dr.put {a q:Nl} {S S1:DH} {o:DO} (h:Dr a S S1) (hq:S q=none) (z:q≠a):Dr a S (put S1 q o):=⟨h.1.set z,λb u n e=>by rw [bw (BI e hq)]; exact h.2 b u n e⟩
theorem Dr.ext {a:Nl} {S S1:DH} (h:sL S a) (e:bV S S1):Dr a S S1:=by
 obtain⟨n,b,e1,e2⟩:=h;exact⟨⟨n,b,e _ _ e1,e2⟩,λc o _ z=>e c o z⟩
theorem Kq {a b:Int} (h:0 < a) (h':0 < b):0 < Rat.divInt a b:=by
 rw [MW,Rat.div_def];exact MR (by exact_mod_cast h) (Rat.inv_pos.mpr (by exact_mod_cast h'))
inductive aG where
 | fix (x y:Rat)
 | crank (c:Nat) (l:Rat)
 | pair (i j:Nat) (s t:Rat) (v:Int)
 | like (i j:Nat) (a l:Rat)
def aG.d:aG->D
 | .fix x y=>.tup [.str "fix",fr x,fr y]
 | .crank c l=>.tup [.str "crank",.int (c:Nat),fr l]
 | .pair i j s t v=>.tup [.str "pair",.int (i:Nat),.int (j:Nat),fr s,fr t,.int v]
 | .like i j a l=>.tup [.str "like",.int (i:Nat),.int (j:Nat),fr a,fr l]
def aG.isFix:aG->Nw
 | .fix _ _=>true
 | _=>false
abbrev MD (ms:List aG):D:=.tup (ms.map aG.d)
def iK (pre:List aG):aG->Prop
 | .fix x y=>Sz 9 x/\Sz 9 y
 | .crank c l=>(∃ x y,pre[c]?=some (.fix x y))/\Sz 4 l/\0 < l
 | .pair i j s t v=>i < pre.length/\j < pre.length/\i≠j/\Sz 8 s/\Sz 8 t/\0 < s/\0 < t/\(v=0\/v=1)
 | .like i j a l=>i < pre.length/\j < pre.length/\i≠j/\Sz 4 a/\Sz 4 l
def Wf (ms:List aG):Prop:=∀ (k:Nat) (s:aG),ms[k]?=some s->iK (ms.take k) s
theorem Wf.nil:Wf []:=λk s h=>by simp at h
theorem Wf.snoc {ms:List aG} {s:aG} (h:Wf ms) (hs:iK ms s):Wf (ms++[s]):=by
 intro k t hk
 by_cases hl:k < ms.length
 ·rw [List.getElem?_append_left hl] at hk;rw [List.take_append_of_le_length (Nat.le_of_lt hl)];exact h k t hk
 ·have hk2:=(MX.mp hk).1;have hk3:k < ms.length+1:=by simpa using hk2
  have e:k=ms.length:=by omega
  subst e;rw [List.getElem?_append_right (Mp _),Nat.sub_self] at hk;have hk:some s=some t:=hk;cases hk;rw [List.take_append_of_le_length (Mp _),List.take_length];exact hs
theorem KL {ms:List aG} {c:Nat} {s:aG} (h:ms[c]?=some s):L2.atI (ms.map aG.d) ((c:Nat):Int)=some s.d:=L2.h_ (by rw [MQ,h]; rfl)
def iE:Nat->List aG->List D
 | _,[]=>[]
 | j,s::r=>if s.isFix=true then .int (j:Nat)::iE (j+1) r else iE (j+1) r
theorem pX {d:D}:∀ {r:List aG} {j:Nat},d∈iE j r->∃ n x y,d=.int ((j+n:Nat):Int)/\r[n]?=some (.fix x y)
 | [],_,h=>by cases h
 | s::r,j,h=>by
  unfold iE at h
  split at h
  ·rename_i hf
   rcases Mt.mp h with rfl | h
   ·cases s with
    | fix x y=>exact⟨0,x,y,rfl,rfl⟩
    | _=>cases hf
   ·obtain⟨n,x,y,rfl,e⟩:=pX h;exact⟨n+1,x,y,by congr 2; omega,by simpa using e⟩
  ·obtain⟨n,x,y,rfl,e⟩:=pX h;exact⟨n+1,x,y,by congr 2; omega,by simpa using e⟩
theorem uE:∀ {r:List aG} {j:Nat},(iE j r).length<=r.length
 | [],_=>Mp _
 | s::r,j=>by
  unfold iE;have:=uE (r:=r) (j:=j+1)
  split
  ·show(iE (j+1) r).length+1<=r.length+1; omega
  ·show(iE (j+1) r).length<=r.length+1; omega
theorem zJ {ms r:List aG} {s:aG} {j:Nat} (h:ms.drop j=s::r):ms[j]?=some s/\ms.drop (j+1)=r:=by
 have h0:(ms.drop j)[0]?=some s:=by rw [h]; rfl
 rw [List.getElem?_drop,Nat.add_zero] at h0;refine⟨h0,?_⟩;have h1:=congrArg (List.drop 1) h;rw [List.drop_drop] at h1;exact h1
theorem ly {n:Nat} (h:n < 300):n < sizeLine:=Mz h (MF (rfl:Nat.ble 300 sizeLine=true))
theorem rR {bd:DB} {k:DK} {S:DH} {p:Nl} {ms:List aG} (hp:S p=none)
  (hbd:∀ (i:Nat) (s:aG) (S':DH) (k':Nm D->DH->Prop),ms[i]?=some s->k' (if s.isFix=true then some (.int (i:Nat)) else none) S'->bd [some (.int (i:Nat)),some (MD ms)] S' k'):
  ∀ (r:List aG) (j:Nat) (rr acc:List D) (l0:Nm D),rr=((List.range' j r.length).map fun(i:Nat)=>D.int (i:Nat))->ms.drop j=r->acc.length+r.length<=100->(∀ S',bV S S'->S' p=some (.lst (acc++iE j r))->k (.ref p) S')->
  dH (λ_=>True) p (jn 0) bd k rr acc [l0,some (MD ms)] (put S p (.lst acc))
 | [],j,rr,acc,l0,hr,_,_,w=>by
  subst hr;exact⟨trivial,w _ (bV.new hp) (by rw [ak]; simp [iE])⟩
 | s::r,j,rr,acc,l0,hr,hd,hl,w=>by
  have hl:acc.length+(r.length+1)<=100:=hl;obtain⟨h0,h1⟩:=zJ hd;have hr:rr=D.int (j:Nat)::((List.range' (j+1) r.length).map fun(i:Nat)=>D.int (i:Nat)):=hr
  subst hr;refine⟨trivial,hbd j s _ _ h0 ?_⟩;unfold iE at w
  by_cases hf:s.isFix=true
  ·rw [if_pos hf];rw [if_pos hf] at w;refine⟨ak,ly (by omega),?_⟩
   rw [yY];exact rR hp hbd r (j+1) _ _ _ rfl h1 (by rw [MI]; show acc.length+1+r.length<=100; omega) λS' e h=>w S' e (by rw [h,List.append_assoc]; rfl)
  ·rw [if_neg hf];rw [if_neg hf] at w;exact rR hp hbd r (j+1) _ _ _ rfl h1 (by omega) w
theorem HN (ms:List aG):((List.range ((ms.map aG.d).length:Int).toNat).map fun(i:Nat)=>D.int (i:Nat))=((List.range' 0 ms.length).map fun(i:Nat)=>D.int (i:Nat)):=by
 rw [Int.toNat_natCast,Mq,List.range_eq_range']
def kL:cr:=λds S k=>∃ a,ds=[.ref a]/\sL S a/\∀ q S',Sz 4 q/\0 < q->Dr a S S'->k (fr q) S'
theorem ur:av ["state"] ["state"] (am kl):=ej
theorem t9 (Fn:FN K "_law_above" kl f fd) (aW:aZ P w K mg base "_law_ratio" 34 df) (aC:aZ P w K mg base "_law_take" 1 dE):
  aU P w K mg base cW 35 f fd ["state"] (cY K kL):=by
 refine Fn.okJ ur (λds S k h=>?_) (λcdv A outer s H E hr=>⟨_,(ai (ar (dq aW hr (aa (aH dF ah (dq aC hr (aB 0 (aa ah ac)))) (aa (aH dF ah (bh cj (cb (aa ah (aa ah (aa (dq aC hr (aB 0 (aa ah ac))) ac)))) (dq aC hr (aB 0 (aa ah ac))) Zf)) ac))))),λds S k h=>?_⟩)
 ·obtain⟨_,rfl,_⟩:=h
  rfl
 ·obtain⟨a,rfl,hS,q⟩:=h;refine⟨a,12,rfl,by decide,by decide,hS,λr1 S1 h1 h1' d1=>⟨a,6,rfl,by decide,by decide,d1.1,λr2 S2 h2 h2' d2=>⟨a9,λp hp=>⟨a,3,rfl,by decide,by decide,d2.1.new hp,λr3 S3 h3 h3' d3=>?_⟩⟩⟩⟩
  have hp3:=d3.2 p _ (d2.1.ne hp) ak;obtain⟨c,hc,hm⟩:=kT (ds:=[.int 0,.int 0,.int r2]) h3 h3';have hc2:∃ s:Int,c=.int s/\0<=s/\s < 6:=by
   simp only [Mt,ME,or_false] at hm;rcases hm with rfl | rfl | rfl
   ·exact⟨0,rfl,by decide,by decide⟩
   ·exact⟨0,rfl,by decide,by decide⟩
   ·exact⟨r2,rfl,h2,h2'⟩
  obtain⟨s,rfl,s0,s1⟩:=hc2;have b1:Bt 4 (1+r1):=by unfold Bt; omega
  have b2:Bt 4 (1+s):=by unfold Bt; omega
  exact⟨_,_,hp3,hc,_,_,rfl,by omega,b2.mono (by decide),q _ _ ⟨Sz.divInt b1 b2 (by omega),Kq (by omega) (by omega)⟩ (d1.trans (d2.trans ((Dr.new d2.1 hp).trans d3)))⟩
theorem EO {x r m:Int} (h0:0<=x) (h1:x < m) (h2:0<=r) (h3:r < m - 1):0<=(x+1+r).fmod m/\(x+1+r).fmod m < m/\(x+1+r).fmod m≠x:=by
 have hm:0 < m:=by omega
 refine⟨M7 _ hm,Nf _ hm,?_⟩;rw [Int.fmod_eq_emod_of_nonneg _ (Int.le_of_lt hm)]
 by_cases h:x+1+r < m
 ·rw [Int.emod_eq_of_lt (by omega) h]; omega
 ·have e:(x+1+r) % m=(x+1+r - m) % m:=by
   have:x+1+r=(x+1+r - m)+m:=by omega
   conv=>lhs; rw [this]
   exact Int.add_emod_right _ _
  rw [e,Int.emod_eq_of_lt (by omega) (by omega)]; omega
def i6:cr:=λds S k=>∃ (a:Nl) (m:Nat),ds=[.ref a,.int (m:Nat)]/\2<=m/\m<=100/\sL S a/\∀ (i j:Nat) S',i < m->j < m->i≠j->Dr a S S'->k (.tup [.int (i:Nat),.int (j:Nat)]) S'
theorem iB:av ["state","many","one"] ["state","many"] (am fX):=ej
theorem nJ (Fn:FN K "_law_two_joints" fX f fd) (aC:aZ P w K mg base "_law_take" 1 dE):
  aU P w K mg base cW 2 f fd ["state","many"] (cY K i6):=by
 refine Fn.okJ iB (λds S k h=>?_) (λcdv A outer s H E hr=>⟨_,(ag (aq (i:=2) iB.nd (dq aC hr (aB 0 (aB 1 ac)))) (ai (ar (au (aB 2 (aa (aH oq (aH dF (aH dF (aj 2) ah) (dq aC hr (aB 0 (aa (aH qG (aj 1) ah) ac)))) (aj 1)) ac)))))),λds S k h=>?_⟩)
 ·obtain⟨_,_,rfl,_⟩:=h
  rfl
 ·obtain⟨a,m,rfl,h2,h100,hS,w⟩:=h;have bm:∀ z:Int,0<=z->z<=100->Bt 200 z:=λz _ _=>Bt.mono (m:=7) (by unfold Bt; omega) (by decide)
  refine⟨a,_,rfl,by omega,bm _ (by omega) (by omega),hS,λx S1 x0 x1 d1=>⟨a,_,rfl,by omega,bm _ (by omega) (by omega),d1.1,λr S2 r0 r1 d2=>⟨(show (m:Int)≠0 by omega),a9,?_⟩⟩⟩
  obtain⟨w0,w1,w2⟩:=EO x0 x1 r0 r1;obtain⟨i,rfl⟩:=Int.eq_ofNat_of_zero_le x0;obtain⟨j,hj⟩:=Int.eq_ofNat_of_zero_le w0;rw [hj] at w1 w2
  show k (.tup [.int (i:Nat),.int (((i:Int)+1+r).fmod (m:Int))]) S2
  rw [hj];exact w i j S2 (by omega) (by omega) (by omega) (d1.trans d2)
theorem EN {p:Rat} {r:Int} (hp:Sz 4 p/\0 < p) (h0:0<=r) (h1:r < 9):Sz 8 (p*((1+r:Int):Rat))/\0 < p*((1+r:Int):Rat):=
 ⟨hp.1.mul (CP (n:=4) (by unfold Bt; omega) (by decide)),MR hp.2 (by exact_mod_cast (by omega:0 < 1+r))⟩
theorem zk {S:DH} {p a:Nl} {k:DK} {bd:DB} (hp:S p=none) (pa:p≠a)
  (hbd:∀ (l0:Nm D) (S':DH) (k':Nm D->DH->Prop),sL S' a->(∀ q S2,Sz 8 q->0 < q->Dr a S' S2->k' (some (fr q)) S2)->bd [l0,some (.ref a)] S' k'):
  ∀ (r:List D) (xs:List Rat) (S1:DH) (l0:Nm D),Dr a S S1->S1 p=some (.lst (xs.map fr))->(∀ q∈xs,Sz 8 q/\0 < q)->xs.length+r.length<=100->(∀ (ys:List Rat) S',ys.length=xs.length+r.length->(∀ q∈ys,Sz 8 q/\0 < q)->Dr a S S'->S' p=some (.lst (ys.map fr))->k (.ref p) S')->
  dH (λ_=>True) p (jn 0) bd k r (xs.map fr) [l0,some (.ref a)] S1
 | [],xs,S1,l0,d1,h1,hx,hl,w=>⟨trivial,w xs S1 rfl hx d1 h1⟩
 | d::r,xs,S1,l0,d1,h1,hx,hl,w=>by
  have hl:xs.length+(r.length+1)<=100:=hl;refine⟨trivial,hbd _ _ _ d1.1 λq S2 hq q0 d2=>⟨d2.keep pa h1,by rw [Mq]; exact ly (by omega),?_⟩⟩
  have e:xs.map fr++[fr q]=(xs++[q]).map fr:=by rw [List.map_append]; rfl
  rw [e];refine zk hp pa hbd r (xs++[q]) _ _ ((d1.trans d2).put hp pa) ak (λy hy=>?_) (by rw [MI]; show xs.length+1+r.length<=100; omega) λys S' hl'=>w ys S' (by rw [hl',MI]; show xs.length+1+r.length=xs.length+(r.length+1); omega)
  rcases List.mem_append.mp hy with h | h
  ·exact hx y h
  ·simp only [Mt,ME,or_false] at h; subst h; exact⟨hq,q0⟩
theorem yz {d:D} {ms:List aG} (h:d∈iE 0 ms):∃ n x y,d=.int ((n:Nat):Int)/\ms[n]?=some (.fix x y):=by
 obtain⟨n,x,y,e,h2⟩:=pX h;exact⟨n,x,y,by rw [e,Nat.zero_add],h2⟩
theorem zQ {ms:List aG} {x y:Rat} (h:ms[0]?=some (.fix x y)):0 < (iE 0 ms).length:=by
 cases ms with
 | nil=>cases h
 | cons s r=>
  have h:some s=some (.fix x y):=h;cases h
  show 0 < (iE 1 r).length+1
  omega
theorem JW {z:Int} (h0:0<=z) (h1:z<=100):Bt 200 z:=Bt.mono (m:=7) (by unfold Bt; omega) (by decide)
theorem GA {ys:List Rat} (h:ys.length=2):∃ s t,ys=[s,t]:=by
 match ys,h with
 | [s,t],_=>exact⟨s,t,rfl⟩
def Fi (s:aG):Prop:=∀ x y,s=.fix x y->Sz 4 x/\Sz 4 y
theorem Fi.no {s:aG} (h:s.isFix=false):Fi s:=λx y e=>by rw [e] at h; cases h
def jR:cr:=λds S k=>∃ (a:Nl) (ms:List aG),ds=[.ref a,MD ms]/\sL S a/\ms.length<=10/\(ms=[]\/∃ x y,ms[0]?=some (.fix x y))/\∀ s S',iK ms s->(ms=[]->∃ x y,s=.fix x y)->Fi s->Dr a S S'->k s.d S'
theorem b9:av ["state","machine","many","fixes","way","one","other","squares"] ["state","machine"] (am gu):=ej
theorem oG (Fn:FN K "_law_next_step" gu f fd) (aC:aZ P w K mg base "_law_take" 1 dE) (aX:aZ P w K mg base "_law_small" 35 ic) (cJ:aZ P w K mg base "_law_above" 35 kL) (fL:aZ P w K mg base "_law_two_joints" 2 i6) (aw:aZ P w K mg base "_law_times" 35 b8) (dP:mg "len"=none) (dW:mg "range"=none):
  aU P w K mg base cW 36 f fd ["state","machine"] (cY K jR):=by
 refine Fn.okJ b9 (λds S k h=>?_) (λcdv A outer s H E hr=>⟨_,(ag (aq (i:=2) b9.nd (aQ jp rfl dP jD (aB 1 ac))) (ag (ui (iv:=3) b9.nd rfl (kM (N:=["number","machine"]) (cap:=[none,some 1]) rfl rfl rfl rfl ⟨rfl,trivial⟩ rfl rfl ⟨⟨rfl,.inl rfl,.inl rfl⟩,trivial⟩) rfl dW (aB 2 ac) (λ_ _ _ _=>(aJ (i:=0) (show List.Nodup (["number","machine"]:List Str) from by decide +kernel))) (λ_ _ _ _=>(aA fC (bh gN (bh gN (aj 1) (aj 0) Zf) ah Zf) bZ (aD _))) (λ_ _ _ _=>(aj 0))) (ag (aq (i:=4) b9.nd (dq aC hr (aB 0 (aa ah ac)))) (ag (aE (WJ.pt (iC (aA fC (aj 2) ah (aD _)) (iC (aA fC (aj 4) ah (aD _)) (gI (WJ.pt (yG (aA rb (aj 2) ah (aD _)) (xc (aA rb (aj 4) ah (aD _))))))))) (ai (ar (au (aa bZ (aa (dq aX hr (aB 0 ac)) (aa (dq aX hr (aB 0 ac)) ac)))))) aL) (ag (aE (WJ.pt (iC (aA rb (aj 2) ah (aD _)) (gI (aA rb (aj 4) ah (aD _))))) (ai (ar (au (aa bZ (aa (bh gN (aj 3) (dq aC hr (aB 0 (aa (aQ jp rfl dP jD (aB 3 ac)) ac))) Zf) (aa (dq cJ hr (aB 0 ac)) ac)))))) aL) (ag (gL (dq fL hr (aB 0 (aB 2 ac))) (eQ (n:=2) rfl (aY (aJ (i:=5) b9.nd) (aY (aJ (i:=6) b9.nd) dy)))) (ag (aE (aA rb (aj 4) ah (aD _)) (ag (wZ (iv:=7) b9.nd rfl (kM (N:=["turn","state"]) (cap:=[none,some 0]) rfl rfl rfl rfl ⟨rfl,trivial⟩ rfl rfl ⟨⟨rfl,.inl rfl,.inl rfl⟩,trivial⟩) rfl dW (aa ah ac) (λ_ _ _ _=>(aJ (i:=0) (show List.Nodup (["turn","state"]:List Str) from by decide +kernel))) (λ_ _ _ _=>(dq aw hr (aa (dq cJ hr (aB 1 ac)) (aa (au (aa (aH dF ah (dq aC hr (aB 1 (aa ah ac)))) (aa ah ac))) ac))))) (ai (ar (au (aa bZ (aB 5 (aB 6 (aa (mO 7) (aa (mO 7) (aa (dq aC hr (aB 0 (aa ah ac))) ac)))))))))) aL) (ai (ar (au (aa bZ (aB 5 (aB 6 (aa (dq aX hr (aB 0 ac)) (aa (dq aX hr (aB 0 ac)) ac))))))))))))))),λds S k h=>?_⟩)
 ·obtain⟨_,_,rfl,_⟩:=h
  rfl
 ·obtain⟨a,ms,rfl,hS,hl,h0,w⟩:=h;have ll:(ms.map aG.d).length=ms.length:=Mq ..;refine⟨⟨by omega,by omega⟩,λp hp=>?_⟩
  refine rR hp ?b ms 0 _ [] none (HN ms) rfl (by show 0+ms.length<=100; omega) ?m
  case b=>
   intro i s S' k' hs hk;refine⟨_,KL hs,?_⟩;cases s with
   | fix x y=>exact⟨_,rfl,(hk)⟩
   | crank c l=>exact⟨_,rfl,(hk)⟩
   | pair i j s t v=>exact⟨_,rfl,(hk)⟩
   | like i j s t=>exact⟨_,rfl,(hk)⟩
  case m=>
   intro S1 e1 h1;have pa:=hS.ne hp;have d1:=Dr.ext hS e1;have h1:S1 p=some (.lst (iE 0 ms)):=h1;refine⟨a,8,rfl,by decide,by decide,d1.1,λwy S2 _ _ d2=>?_⟩
   have d12:=d1.trans d2
   by_cases hm:ms=[]
   ·subst hm;exact⟨a,rfl,d2.1,λx S3 hx d3=>⟨a,rfl,d3.1,λy S4 hy d4=>⟨a9,w (.fix x y) S4 ⟨hx.1.mono (by decide),hy.1.mono (by decide)⟩ (λ_=>⟨x,y,rfl⟩) (λ_ _ e=>by cases e; exact⟨hx.1,hy.1⟩) (d12.trans (d3.trans d4))⟩⟩⟩
   refine zt (λfixA=>zt (λcrk=>aN (λ_=>vg fixA) (λh1=>aN (λ_=>vg fixA) (λ_=>aN (λh2=>aN (λ_=>fixA) (λ_=>aN (λ_=>vg crk) (λh=>absurd h2 h))) (λh2=>EM (aN (λh=>absurd h h2) (λ_=>aN (λ_=>crk) (λ_=>?_))))))) ?_) ⟨a,rfl,d2.1,λx S3 hx d3=>⟨a,rfl,d3.1,λy S4 hy d4=>⟨a9,w (.fix x y) S4 ⟨hx.1.mono (by decide),hy.1.mono (by decide)⟩ (λh=>absurd h hm) (λ_ _ e=>by cases e; exact⟨hx.1,hy.1⟩) (d12.trans (d3.trans d4))⟩⟩⟩
   ·refine⟨a,_,rfl,by omega,by omega,d2.1,λi j S3 hi hj hij d3=>⟨([.int (i:Nat),.int (j:Nat)],none),rfl,rfl,rfl,?_⟩⟩
    refine(aN (λ_=>⟨⟨by decide,by decide⟩,λq hq=>?_⟩) (λ_=>⟨a,rfl,d3.1,λx S4 hx d4=>⟨a,rfl,d4.1,λy S5 hy d5=>⟨a9,w (.like i j x y) S5 ⟨by omega,by omega,hij,hx.1,hy.1⟩ (λh=>absurd h hm) (Fi.no rfl) (d12.trans (d3.trans (d4.trans d5)))⟩⟩⟩))
    have qa:=d3.1.ne hq;refine zk (S:=S3) hq qa ?b _ [] _ none (Dr.new d3.1 hq) ak (λ_ h=>by cases h) (by decide) ?m
    case b=>
     intro l0 S' k' hs hk;refine⟨a,rfl,hs,λx S4 hx d4=>⟨a,9,rfl,by decide,by decide,d4.1,λr S5 r0 r1 d5=>⟨a9,?_⟩⟩⟩
     rw [GO];have z:=EN hx r0 r1;exact Ao (k:=λv S=>k' (some v) S) (hx.1.mono (by decide)) (CP (n:=4) (u:=1+r) (by unfold Bt; omega) (by decide) |>.mono (by decide)) (hk _ _ z.1 z.2 (d4.trans d5))
    case m=>
     intro ys S6 hl6 hy6 d6 h6;obtain⟨s,t,rfl⟩:=GA hl6;refine⟨_,_,h6,rfl,_,_,h6,rfl,a,2,rfl,by decide,by decide,d6.1,λv S7 v0 v1 d7=>⟨a9,w (.pair i j s t v) S7 ⟨by omega,by omega,hij,(hy6 s (by simp)).1,(hy6 t (by simp)).1,(hy6 s (by simp)).2,(hy6 t (by simp)).2,by omega⟩ (λh=>absurd h hm) (Fi.no rfl) (d12.trans (d3.trans (d6.trans d7)))⟩⟩
   ·have hx0:∃ x y,ms[0]?=some (.fix x y):=h0.resolve_left hm;obtain⟨x0,y0,hx0⟩:=hx0;have lf:=uE (r:=ms) (j:=0);have lp:=zQ hx0;have h2:=d2.keep pa h1;refine⟨_,h2,a,_,rfl,by omega,JW (by omega) (by omega),d2.1,λr S3 r0 r1 d3=>?_⟩
    obtain⟨c,hc,hmem⟩:=kT r0 r1;obtain⟨n,x,y,rfl,e⟩:=yz hmem;exact⟨_,_,d3.keep pa h2,hc,a,rfl,d3.1,λl S4 hl d4=>⟨a9,w (.crank n l) S4 ⟨⟨x,y,e⟩,hl.1,hl.2⟩ (λh=>absurd h hm) (Fi.no rfl) (d12.trans (d3.trans d4))⟩⟩
set_option maxHeartbeats 4000000
theorem Ar {ms:List aG} {s:aG} (h:ms=[]\/∃ x y,ms[0]?=some (.fix x y)) (hs:ms=[]->∃ x y,s=.fix x y):∃ x y,(ms++[s])[0]?=some (.fix x y):=by
 cases ms with
 | nil=>obtain⟨x,y,rfl⟩:=hs rfl; exact⟨x,y,rfl⟩
 | cons t r=>
  rcases h with h | h
  ·cases h
  ·exact h
def mo:cr:=λds S k=>∃ a:Nl,ds=[.ref a]/\sL S a/\∀ ms S',Wf ms->(∀ s∈ms,Fi s)->ms.length<=7->(∃ x y,ms[0]?=some (.fix x y))->Dr a S S'->k (MD ms) S'
theorem fk:av ["state","machine","turn"] ["state"] (am iG):=ej
theorem qV (Fn:FN K "_law_machine" iG f fd) (aC:aZ P w K mg base "_law_take" 1 dE) (gr:aZ P w K mg base "_law_next_step" 36 jR) (dW:mg "range"=none):
  aU P w K mg base cW 37 f fd ["state"] (cY K mo):=by
 refine Fn.okJ fk (λds S k h=>?_) (λcdv A outer s H E hr=>⟨_,(ag (aq (i:=1) fk.nd (au ac)) (ag (pV PassesOwn.never rfl rfl dW (aa (aH AV ah (dq aC hr (aB 0 (aa ah ac)))) ac) (aJ (i:=2) fk.nd) (ai (aq (i:=1) fk.nd (aH AV (aj 1) (au (aa (dq gr hr (aB 0 (aB 1 ac))) ac)))))) (ai (ar (aj 1))))),λds S k h=>?_⟩)
 ·obtain⟨_,rfl,_⟩:=h
  rfl
 ·obtain⟨a,rfl,hS,w⟩:=h;refine⟨a9,a,7,rfl,by decide,by decide,hS,λn S1 n0 n1 d1=>⟨⟨by omega,by omega⟩,?_⟩⟩
  refine gh (λr L S'=>∃ ms l2,L=[some (.ref a),some (MD ms),l2]/\Dr a S S'/\Wf ms/\(∀ s∈ms,Fi s)/\(ms=[]\/∃ x y,ms[0]?=some (.fix x y))/\ms.length+r.length<=7/\(r=[]->ms≠[])) (λ_ _ _ _=>trivial) ?_ ?_ _ _ _ ⟨[],none,rfl,d1,Wf.nil,(λ_ h=>by cases h),.inl rfl,by simp; omega,λh=>?_⟩
  ·rintro d r L S2 N1 ⟨ms,l2,rfl,d2,hw,h4,hf,hl,_⟩ hN;have hl:ms.length+(r.length+1)<=7:=hl;refine⟨a,ms,rfl,d2.1,by omega,hf,λs S3 hs hs0 hs4 d3=>⟨a9,by rw [Mq]; exact Nat.le_of_lt (ly (by show ms.length+1 < 300; omega)),?_⟩⟩
   have em:MD (ms++[s])=.tup (ms.map aG.d++[s.d]):=by show D.tup _=_; rw [List.map_append]; rfl
   refine hN _ _ ⟨ms++[s],_,by rw [em]; rfl,d2.trans d3,hw.snoc hs,(λt ht=>by rcases List.mem_append.mp ht with h | h; exact h4 t h; simp only [Mt,ME,or_false] at h; rw [h]; exact hs4),.inr (Ar hf hs0),by rw [MI]; show ms.length+1+r.length<=7; omega,λ_=>by simp⟩
  ·rintro L S2 ⟨ms,l2,rfl,d2,hw,h4,hf,hl,hne⟩;exact w ms S2 hw h4 (by simpa using hl) (hf.resolve_left (hne rfl)) d2
  ·have:=congrArg List.length h;simp at this;omega
def aG.isCx:aG->Nw
 | .pair _ _ _ _ _=>true
 | .like _ _ _ _=>true
 | _=>false
set_option maxHeartbeats 4000000
def aG.isCr:aG->Nw
 | .crank _ _=>true
 | _=>false
def ij (ms:List aG):Nat:=ms.countP aG.isCr
def j0 (ms:List aG):Nat:=ms.countP aG.isCx
theorem eK {ms:List aG} {s:aG}:ij (ms++[s])=ij ms+if s.isCr=true then 1 else 0:=by
 unfold ij;rw [List.countP_append,List.countP_singleton]
theorem fe {ms:List aG} {s:aG}:j0 (ms++[s])=j0 ms+if s.isCx=true then 1 else 0:=by
 unfold j0;rw [List.countP_append,List.countP_singleton]
def JR (ps:List Pt) (o:Nm (Nm Rat)):aG->Pt->Prop
 | .fix x y,r=>r=((x,0),(y,0))
 | .crank i l,r=>∃ p d,ps[i]?=some p/\o=some d/\r=((p.1.1+rK d*l,0),(p.2.1+tO d*l,0))
 | .pair i j s t v,r=>∃ p q,ps[i]?=some p/\ps[j]?=some q/\Pl p/\Pl q/\aP p q≠0/\cP p q s t≠[]/\gP r=lu (cP p q s t) v.toNat
 | .like i j a l,r=>∃ p q u,ps[i]?=some p/\ps[j]?=some q/\0 < u/\HR u [p,q]/\r=CJ u p q a l
def JF (ps:List Pt):aG->Prop
 | .pair i j _ _ _=>∃ p q,ps[i]?=some p/\ps[j]?=some q/\¬ (Pl p/\Pl q)
 | .like i j _ _=>∃ p q,ps[i]?=some p/\ps[j]?=some q/\¬ Dp [p,q]
 | _=>False
def JS (ps:List Pt):aG->Prop
 | .pair i j s t _=>∃ p q,ps[i]?=some p/\ps[j]?=some q/\Pl p/\Pl q/\(aP p q=0\/cP p q s t=[])
 | _=>False
inductive vY (os:List (Nm Rat)):List aG->List Pt->Prop
 | nil:vY os [] []
 | snoc {ms:List aG} {ps:List Pt} {s:aG} {r:Pt}:vY os ms ps->JR ps os[ij ms]? s r->vY os (ms++[s]) (ps++[r])
theorem vY.len {os:List (Nm Rat)} {ms:List aG} {ps:List Pt} (h:vY os ms ps):ps.length=ms.length:=by
 induction h with
 | nil=>rfl
 | snoc _ _ ih=>rw [MI,MI,ih]; rfl
theorem pY {p q:Pt} (h:gP p=gP q):p=q:=by
 have fi:∀ {a b:Rat},fr a=fr b->a=b:=λ{a b} e=>by
  injection e with e
  injection e with e1 e
  injection e with e2 _
  injection e1 with e1
  injection e2 with e2
  exact Rat.ext e1 (by exact_mod_cast e2)
 obtain⟨⟨a,b⟩,c,d⟩:=p;obtain⟨⟨a',b'⟩,c',d'⟩:=q;injection h with h
 injection h with h1 h
 injection h with h2 _
 injection h1 with h1
 injection h2 with h2
 injection h1 with h3 h1
 injection h1 with h4 _
 injection h2 with h5 h2
 injection h2 with h6 _
 have e3:a=a':=fi h3;have e4:b=b':=fi h4;have e5:c=c':=fi h5;have e6:d=d':=fi h6;rw [e3,e4,e5,e6]
theorem vY.at {os:List (Nm Rat)} {ms:List aG} {ps:List Pt} (h:vY os ms ps):∀ (k:Nat) (s:aG),ms[k]?=some s->∃ r,ps[k]?=some r/\JR (ps.take k) os[ij (ms.take k)]? s r:=by
 induction h with
 | nil=>intro k s hk; simp at hk
 | snoc hst jr ih=>
  rename_i ms ps s0 r0
  have lp:=hst.len;intro k s hk
  by_cases hl:k < ms.length
  ·rw [List.getElem?_append_left hl] at hk;obtain⟨r,h1,h2⟩:=ih k s hk;refine⟨r,by rw [List.getElem?_append_left (by omega)]; exact h1,?_⟩
   rw [List.take_append_of_le_length (by omega),List.take_append_of_le_length (by omega)]
   exact h2
  ·have hk2:=(MX.mp hk).1;have hk3:k < ms.length+1:=by simpa using hk2
   have e:k=ms.length:=by omega
   subst e;rw [List.getElem?_append_right (Mp _),Nat.sub_self] at hk;have hk:some s0=some s:=hk;cases hk;refine⟨r0,by rw [List.getElem?_append_right (by omega),lp,Nat.sub_self]; rfl,?_⟩
   rw [List.take_append_of_le_length (by omega),List.take_append_of_le_length (by omega),List.take_length,<- lp,List.take_length]
   exact jr
theorem vY.fix {os:List (Nm Rat)} {ms:List aG} {ps:List Pt} (h:vY os ms ps) {c:Nat} {x y:Rat} (hc:ms[c]?=some (.fix x y)):ps[c]?=some ((x,0),(y,0)):=by
 obtain⟨r,h1,h2⟩:=h.at c _ hc;have h2:r=((x,0),(y,0)):=h2;rw [h1,h2]
theorem zm {c:Nat} {p q r:Pt} {s t:Rat} {v:Nat} (h4:c<=4) (hp:mr c p) (hq:mr c q) (ss':Sz 8 s) (st:Sz 8 t) (hv:v < 2) (a0:aP p q≠0) (c0:cP p q s t≠[]) (e:gP r=lu (cP p q s t) v):
  ∃ u X Y,Jg (pN c) p.1.1 p.2.1 s q.1.1 q.2.1 t (gP r) u X Y/\r=pU u X Y/\mr (c+1) r:=by
 have hm:lu (cP p q s t) v∈cP p q s t:=wT c0 tL hv;obtain⟨u,X,Y,j⟩:=Dm hp.cd hq.cd ss'.num ss'.den st.num st.den a0 _ hm;rw [<- e] at j;have er:r=pU u X Y:=pY j.e;exact⟨u,X,Y,j,er,by rw [er]; exact mr.pair h4 j⟩
theorem Cc {c:Nat} {p q:Pt} {s t:Rat} {v:Nat} (h4:c<=4) (hp:mr c p) (hq:mr c q) (ss':Sz 8 s) (st:Sz 8 t) (hv:v < 2) (a0:aP p q≠0) (c0:cP p q s t≠[]):
  ∃ r,gP r=lu (cP p q s t) v:=by
 have hm:lu (cP p q s t) v∈cP p q s t:=wT c0 tL hv;obtain⟨u,X,Y,j⟩:=Dm hp.cd hq.cd ss'.num ss'.den st.num st.den a0 _ hm;exact⟨pU u X Y,j.e.symm⟩
theorem uR {n:Nat} {d:D} {r:List D}:mK n (d::r)=.tup [.int (n:Nat),d]::mK (n+1) r:=rfl
theorem yH {os:List (Nm Rat)} {c:Nat} {o:Nm Rat} (h:os[c]?=some o):L2.atI (os.map wK) ((c:Nat):Int)=some (wK o):=L2.h_ (by rw [MQ,h]; rfl)
def vW:cr:=λds S k=>match ds with
 | [.non,.non]=>False/\k .non S
 | _=>False
theorem dM:av ["machine","drives","points","cranks","number","step"] ["machine","drives"] (am rm):=ej
theorem A6 (Fn:FN K "stand" rm f fd) (bv:aZ P w K mg base "plain_point" 1 e9) (fF:aZ P w K mg base "crank_end" 37 lA) (kh:aZ P w K mg base "pair_point" 3 ig) (pZ:aZ P w K mg base "like_at" 41 mC) (c9:mg "enumerate"=none):
  aU P w K mg base cW 42 f fd ["machine","drives"] (cY K vW):=by
 refine Fn.okJ dM (λds S k h=>?_) (λcdv A outer s H E hr=>⟨_,(ag (aq (i:=2) dM.nd (cb ac)) (ag (aq (i:=3) dM.nd ah) (ag (nD PassesOwn.never rfl rfl c9 (aB 0 ac) (eQ (n:=2) rfl (aY (aJ (i:=4) dM.nd) (aY (aJ (i:=5) dM.nd) dy))) (ai (aE (aA fC (aO 5) bZ (aD _)) (ai (bf (eH (aj 2) (dq bv hr (aa (au (aa (aO 5) (aa (aO 5) ac))) ac))))) (ai (aE (aA fC (aO 5) bZ (aD _)) (ag (bf (eH (aj 2) (dq fF hr (aa (bh cj (aj 2) (aO 5) Zf) (aa (aO 5) (aa (bh cj (aj 1) (aj 3) Zf) ac)))))) (ai (aq (i:=3) dM.nd (aH dF (aj 3) ah)))) (ai (aE (aA fC (aO 5) bZ (aD _)) (ai (bf (eH (aj 2) (dq kh hr (aB 5 (aB 4 (aB 2 ac))))))) (ai (bf (eH (aj 2) (dq pZ hr (aa (bh cj (aj 2) (aO 5) Zf) (aa (bh cj (aj 2) (aO 5) Zf) (aa (aO 5) (aa (aO 5) ac))))))))))))))) (ai (ar (aj 2)))))),λds S k h=>?_⟩)
 ·unfold vW at h
  split at h
  ·rfl
  ·exact h.elim
 ·unfold vW at h
  split at h
  ·exact h.1.elim
  ·exact h.elim
def sC (az aV aM:Nl):mH:=λds S k e=>∃ (ms:List aG) (os:List (Nm Rat)),ds=[MD ms,.tup (os.map wK)]/\Wf ms/\ms.length<=7/\j0 ms<=5/\os.length=ij ms/\(∀ o∈os,pF o)/\
 (∀ pre s post ps,ms=pre++s::post->vY os pre ps->JF ps s->∀ S',bV S S'->e az S')/\(∀ pre s post ps,ms=pre++s::post->vY os pre ps->JS ps s->∀ S',bV S S'->e (aM,some ((pre.length:Nat):Int)) S')/\
 ∀ ps S' q,vY os ms ps->(∀ p∈ps,mr (j0 ms) p)->bV S S'->S q=none->S' q=some (.lst (ps.map gP))->k (.ref q) S'
theorem zC {P:Np} {w:Nr} {K:Fg} {mg:Str->Nm Nk} {base:Nt} {f:Nl} {fd:FuncData} {az aV aM:Nl} (Fn:FN K "stand" rm f fd) (bv:aZ P w K mg base "plain_point" 1 e9) (fF:aZ P w K mg base "crank_end" 37 lA) (jB:nO P w K mg base "pair_point" 41 (mW az aV aM)) (nY:nO P w K mg base "like_at" 41 (sU az)) (c9:mg "enumerate"=none):
  aU P w K mg base (eV P w) 42 f fd ["machine","drives"] (AC K (sC az aV aM)):=by
 refine Fn.okX dM (λds S k x h=>?_) (λcdv A outer s H E ex hr hE=>⟨_,(ag (aq (i:=2) dM.nd (cb ac)) (ag (aq (i:=3) dM.nd ah) (ag (nD PassesOwn.leaving rfl rfl c9 (aB 0 ac) (eQ (n:=2) rfl (aY (aJ (i:=4) dM.nd) (aY (aJ (i:=5) dM.nd) dy))) (ai (aE (aA fC (mO 5) bZ (aD _)) (ai (bf (eH (aj 2) (dq bv hr (aa (au (aa (mO 5) (aa (mO 5) ac))) ac))))) (ai (aE (aA fC (mO 5) bZ (aD _)) (ag (bf (eH (aj 2) (dq fF hr (aa (bh gN (aj 2) (mO 5) Zf) (aa (mO 5) (aa (bh gN (aj 1) (aj 3) Zf) ac)))))) (ai (aq (i:=3) dM.nd (aH dF (aj 3) ah)))) (ai (aE (aA fC (mO 5) bZ (aD _)) (ai (bf (eH (aj 2) (oO hE jB (hr.mono (by decide)) rfl (aB 5 (aB 4 (aB 2 ac))))))) (ai (bf (eH (aj 2) (oO hE nY (hr.mono (by decide)) rfl (aa (bh gN (aj 2) (mO 5) Zf) (aa (bh gN (aj 2) (mO 5) Zf) (aa (mO 5) (aa (mO 5) ac))))))))))))))) (ai (ar (aj 2)))))),λds S k h=>?_⟩)
 ·obtain⟨_,_,rfl,_⟩:=h
  rfl
 ·obtain⟨ms,os,rfl,hw,hl,hc,ho,hd,wf,w0,w⟩:=h;refine⟨a9,λq hq=>⟨(_,none),rfl,?_⟩⟩
  refine gh (λr L S'=>∃ (pre rs:List aG) (ps:List Pt) (l4 l5:Nm D),L=[some (MD ms),some (.tup (os.map wK)),some (.ref q),some (.int (ij pre:Nat)),l4,l5]/\bV S S'/\S' q=some (.lst (ps.map gP))/\r=mK pre.length (rs.map aG.d)/\ms=pre++rs/\vY os pre ps/\∀ p∈ps,mr (j0 pre) p) (λ_ _ _ _=>trivial) ?_ ?_ _ _ _ ⟨[],ms,[],none,none,rfl,bV.new hq,ak,rfl,rfl,.nil,λ_ h=>by cases h⟩
  ·rintro d r L S1 N1 ⟨pre,rs,ps,l4,l5,rfl,e1,h1,er,em,hst,hok⟩ hN;cases rs with
   | nil=>cases er
   | cons s rs=>
    rw [List.map_cons,uR] at er;cases er;have so:iK pre s:=by
     have:=hw pre.length s (by rw [em]; simp)
     rwa [em,List.take_left] at this
    have lp:=hst.len;have lm:ms.length=pre.length+(rs.length+1):=by rw [em,MI]; rfl
    have em2:ms=(pre++[s])++rs:=by rw [em,List.append_assoc]; rfl
    have nxt:∀ (r:Pt) (S2:DH) (c3:Int) (l4 l5:Nm D),c3=(ij (pre++[s]):Nat)->JR ps os[ij pre]? s r->mr (j0 (pre++[s])) r->bV S S2->S2 q=some (.lst (ps.map gP++[gP r]))->N1 [some (MD ms),some (.tup (os.map wK)),some (.ref q),some (.int c3),l4,l5] S2:=λr S2 c3 l4 l5 ec jr jo e2 h2=>
     hN _ _ ⟨pre++[s],rs,ps++[r],l4,l5,by rw [ec],e2,by rw [h2,List.map_append]; rfl,by rw [MI]; rfl,em2,.snoc hst jr,λp hp=>by
      rcases List.mem_append.mp hp with h | h
      ·exact(hok p h).mono (by rw [fe]; omega)
      ·simp only [Mt,ME,or_false] at h; rw [h]; exact jo⟩
    have lt:(ps.map gP).length < sizeLine:=by rw [Mq]; exact ly (by omega)
    have cc:j0 (pre++[s])<=5:=by
     have:j0 ms=j0 (pre++[s])+j0 rs:=by rw [em2]; unfold j0; rw [List.countP_append]
     omega
    refine⟨(_,none),rfl,rfl,rfl,?_⟩;cases s with
    | fix x y=>
     obtain⟨sx,sy⟩:Sz 9 x/\Sz 9 y:=so;refine⟨_,rfl,⟨_,h1⟩,_,rfl,_,rfl,a9,x,y,rfl,_,h1,lt,?_⟩;exact nxt ((x,0),(y,0)) _ _ _ _ (by rw [eK]; rfl) rfl ((mr.plain ((Cd.of sx sy).mono (by decide))).mono (M_ _)) (e1.put hq) ak
    | crank i l=>
     obtain⟨⟨x,y,hi⟩,sl,_⟩:(∃ x y,pre[i]?=some (.fix x y))/\Sz 4 l/\0 < l:=so;have hp:=hst.fix hi;have hcr:ij pre < os.length:=by
      have:ij ms=ij (pre++[.crank i l])+ij rs:=by rw [em2]; unfold ij; rw [List.countP_append]
      rw [eK] at this;have:ij ms=ij pre+1+ij rs:=this;omega
     have ho2:os[ij pre]?=some os[ij pre]:=MN hcr;have dk:=hd _ (List.getElem_mem hcr);generalize os[ij pre]=o at ho2 dk
     obtain⟨sx,sy⟩:Sz 9 x/\Sz 9 y:=by
      have hlt:=(MX.mp hi).1;have:=hw i _ (by rw [em,List.getElem?_append_left hlt]; exact hi)
      exact this
     refine⟨_,rfl,⟨_,rfl,⟨_,h1⟩,_,rfl,_,_,h1,Dj hp,_,rfl,_,yH ho2,x,y,l,o,rfl,sx.mono (by decide),sy.mono (by decide),sl.mono (by decide),dk,_,h1,lt,?_⟩⟩
     exact nxt ((x+rK o*l,0),(y+tO o*l,0)) _ _ _ _ (by rw [eK]; rfl) ⟨_,o,hp,ho2,rfl⟩ ((mr.plain (Cd.crank sx sy sl dk)).mono (M_ _)) (e1.put hq) ak
    | pair i j s t v=>
     obtain⟨hi,hj,_,ss',st,_,_,hv⟩:i < pre.length/\j < pre.length/\i≠j/\Sz 8 s/\Sz 8 t/\0 < s/\0 < t/\(v=0\/v=1):=so;obtain⟨v,rfl⟩:=Int.eq_ofNat_of_zero_le (show 0<=v by omega)
     have c4:j0 pre<=4:=by rw [fe] at cc; have:j0 pre+1<=5:=cc; omega
     have gi:ps[i]?=some ps[i]:=MN (by omega)
     have gj:ps[j]?=some ps[j]:=MN (by omega)
     have ki:=hok _ (List.mem_of_getElem? gi);have kj:=hok _ (List.mem_of_getElem? gj);generalize ps[i]=p1 at gi ki
     generalize ps[j]=p2 at gj kj
     have v2:v < 2:=by omega
     refine⟨_,rfl,⟨_,rfl,⟨_,rfl,⟨_,h1⟩,i,j,s,t,v,pre.length,q,ps,p1,p2,rfl,h1,gi,gj,v2,λ_ _=>BN (Ln c4) ki.cd kj.cd ss' st,λno S2 e2=>?_,λa b c S2 e2=>?_,λa b c d S2 dd e2 ed=>?_⟩⟩⟩
     ·exact wf pre _ rs ps em hst ⟨p1,p2,gi,gj,no⟩ S2 (e1.trans e2)
     ·exact w0 pre _ rs ps em hst ⟨p1,p2,gi,gj,a,b,c⟩ S2 (e1.trans e2)
     ·obtain⟨r,er⟩:=Cc c4 ki kj ss' st v2 c d;obtain⟨_,_,_,_,_,jo⟩:=zm c4 ki kj ss' st v2 c d er;rw [<- er] at ed;subst ed;refine⟨_,e2 _ _ h1,lt,nxt r _ _ _ _ (by rw [eK]; rfl) ⟨p1,p2,gi,gj,a,b,c,d,er⟩ (by rw [fe]; exact jo) ((e1.trans e2).put hq) ak⟩
    | like i j a l=>
     obtain⟨hi,hj,_,sa,sl⟩:i < pre.length/\j < pre.length/\i≠j/\Sz 4 a/\Sz 4 l:=so;have c4:j0 pre<=4:=by rw [fe] at cc; have:j0 pre+1<=5:=cc; omega
     have gi:ps[i]?=some ps[i]:=MN (by omega)
     have gj:ps[j]?=some ps[j]:=MN (by omega)
     have ki:=hok _ (List.mem_of_getElem? gi);have kj:=hok _ (List.mem_of_getElem? gj);generalize ps[i]=p1 at gi ki
     generalize ps[j]=p2 at gj kj
     refine⟨_,rfl,⟨_,rfl,⟨_,rfl,⟨_,h1⟩,_,rfl,_,_,h1,Dj gi,_,rfl,_,_,h1,Dj gj,_,rfl,_,rfl,vN (j0 pre),p1,p2,a,l,rfl,Kc c4,ki.pok,kj.pok,sa,sl,λno S2 e2=>?_,λu u0 no su hR b1 b2 b3 b4 S2 e2=>?_⟩⟩⟩
     ·exact wf pre _ rs ps em hst ⟨p1,p2,gi,gj,no⟩ S2 (e1.trans e2)
     ·exact⟨_,e2 _ _ h1,lt,nxt (CJ u p1 p2 a l) _ _ _ _ (by rw [eK]; rfl) ⟨p1,p2,u,gi,gj,u0,hR,rfl⟩ (by rw [fe]; exact ki.like kj sa sl u0 no su b1 b2 b3 b4) ((e1.trans e2).put hq) ak⟩
  ·rintro L S1 ⟨pre,rs,ps,l4,l5,rfl,e1,h1,er,em,hst,hok⟩;cases rs with
   | cons s rs=>cases er
   | nil=>
    rw [MJ] at em;subst em;exact w ps S1 q hst hok e1 hq h1
set_option maxHeartbeats 4000000
theorem Ep {u v:Rat} {ps:List (Gn×Gn)} (u0:0 < u) (v0:0 < v) (hu:HR u ps) (hv:HR v ps):∃ ρ:Rat,0 < ρ/\(u=ρ*ρ*v\/∀ p∈ps,bq u p.1.2=0/\bq u p.2.2=0)/\∀ p∈ps,bq v p.1.2=ρ*bq u p.1.2/\bq v p.2.2=ρ*bq u p.2.2:=by
 cases e:eY ps with
 | nil=>
  have z:∀ p∈ps,p.1.2=0/\p.2.2=0:=λp hp=>by
   have y:∀ n:Gn,n=p.1\/n=p.2->n.2=0:=λn hn=>by
    apply Classical.byContradiction;intro h0;have:=wg hp hn h0;rw [e] at this;cases this
   exact⟨y _ (.inl rfl),y _ (.inr rfl)⟩
  refine⟨1,by decide,.inr λp hp=>?_,λp hp=>?_⟩
  ·rw [(z p hp).1,(z p hp).2,vE u0];exact⟨rfl,rfl⟩
  ·rw [(z p hp).1,(z p hp).2,vE u0,vE v0];exact⟨by grind,by grind⟩
 | cons x0 t=>
  have m0:x0∈eY ps:=by rw [e]; exact Mv
  obtain⟨n0,p,hp,hh⟩:=oA m0;have hx:rG u x0.2/\rG v x0.2:=by
   rcases hh with rfl | rfl
   ·exact⟨(hu p hp).1,(hv p hp).1⟩
   ·exact⟨(hu p hp).2,(hv p hp).2⟩
  obtain⟨⟨b,eb⟩,⟨d,ed⟩⟩:=hx;have b0:b≠0:=λz=>n0 (by rw [<- eb,z,cy,Rat.zero_mul])
  have hb:d / b*b=d:=Rat.div_mul_cancel b0;have pos:0<=d / b:=by
   have h1:=mX (b:=b) u0;have h2:=mX (b:=d) v0;rw [eb] at h1;rw [ed] at h2;have h3:=h1.symm.trans h2;rcases tri b with z | z | z
   ·exact la (by grind) (by grind)
   ·have:=la (x:=-d) (y:=-b) (by grind) (by grind)
    have y:-d / -b*-b=-d:=Rat.div_mul_cancel (by grind)
    have:-d / -b=d / b:=by
     have:(-d / -b - d / b)*b=0:=by grind
     grind
    grind
   ·exact absurd z b0
  have sρ:=jT pos;generalize d / b=ρ at*
  have ρ0:ρ≠0:=λz=>by
   rw [z] at hb;exact n0 (by rw [<- ed,<- hb,Rat.zero_mul,cy,Rat.zero_mul])
  have euv:u=ρ*ρ*v:=by
   have h:ss ρ*ss b*v=ss b*u:=by rw [<- r_,hb,ed,eb]
   rw [sρ] at h;have sb:ss b≠0:=λz=>n0 (by rw [<- eb,z,Rat.zero_mul])
   generalize ss b=s at*
   have:s*(ρ*ρ*v - u)=0:=by grind
   grind
  have sc:∀ x:Rat,rG u x->bq v x=ρ*bq u x:=λx h=>wF v0 (by
   rw [r_,sρ];have h1:=zp h;rw [euv] at h1 ⊢;generalize ss (bq (ρ*ρ*v) x)=s at*
   grind)
  exact⟨ρ,by grind,.inl euv,λp hp=>⟨sc _ (hu p hp).1,sc _ (hu p hp).2⟩⟩
inductive Tl where
 | pts (ps:List Pt)
 | fld
 | stk (n:Nat)
def Tl.map (f:Pt->Pt):Tl->Tl
 | .pts ps=>.pts (ps.map f)
 | .fld=>.fld
 | .stk n=>.stk n
def Md (s:aG):Nat:=if s.isCr=true then 1 else 0
inductive uL (os:List (Nm Rat)):List Pt->Nat->Nat->List aG->Tl->Prop
 | nil {ps:List Pt} {c k:Nat}:uL os ps c k [] (.pts ps)
 | step {ps:List Pt} {c k:Nat} {s:aG} {r:Pt} {rs:List aG} {t:Tl}:JR ps os[c]? s r->uL os (ps++[r]) (c+Md s) (k+1) rs t->uL os ps c k (s::rs) t
 | fld {ps:List Pt} {c k:Nat} {s:aG} {rs:List aG}:JF ps s->uL os ps c k (s::rs) .fld
 | stk {ps:List Pt} {c k:Nat} {s:aG} {rs:List aG}:JS ps s->uL os ps c k (s::rs) (.stk k)
theorem vY.run {os:List (Nm Rat)} {pre:List aG} {ps:List Pt} (h:vY os pre ps):∀ {rs:List aG} {t:Tl},uL os ps (ij pre) pre.length rs t->uL os [] 0 0 (pre++rs) t:=by
 induction h with
 | nil=>intro rs t h; exact h
 | snoc hst jr ih=>
  rename_i ms ps s r
  intro rs t h;rw [eK,MI] at h;rw [List.append_assoc];exact ih (.step jr h)
theorem yZ {p q:Pt} {u v a l:Rat} (u0:0 < u) (v0:0 < v) (hu:HR u [p,q]) (hv:HR v [p,q]):CJ u p q a l=CJ v p q a l:=by
 obtain⟨ρ,ρ0,euv,sc⟩:=Ep u0 v0 hu hv;obtain⟨p1,p2⟩:=sc p (by simp)
 obtain⟨q1,q2⟩:=sc q (by simp)
 have sρ:ss ρ=ρ*ρ:=jT (Rat.le_of_lt ρ0);have key:∀ t t':Rat,t'=ρ*t->(u=ρ*ρ*v\/t=0)->ss t*u=ss t'*v:=λt t' e h=>by
  subst e;rcases h with h | h
  ·rw [r_,sρ,h];generalize ss t=s;grind
  ·subst h;rw [Rat.mul_zero,cy,Rat.zero_mul,Rat.zero_mul]
 obtain⟨a1,a2,a3,a4⟩:=kX (u:=u) (p:=a) (q:=l) (x:=rq u p.1) (y:=rq u p.2) (z:=rq u q.1) (v:=rq u q.2);obtain⟨b1,b2,b3,b4⟩:=kX (u:=v) (p:=a) (q:=l) (x:=rq v p.1) (y:=rq v p.2) (z:=rq v q.1) (v:=rq v q.2);unfold CJ pU;rw [a1,a2,a3,a4,b1,b2,b3,b4];have z:u=ρ*ρ*v\/(bq u p.1.2=0/\bq u p.2.2=0)/\bq u q.1.2=0/\bq u q.2.2=0:=euv.imp id λh=>⟨h p (by simp),h q (by simp)⟩
 simp only [rq];refine MH (MH rfl ?_) (MH rfl ?_)
 ·refine key _ _ ?_ (z.imp id λ⟨⟨z1,z2⟩,z3,z4⟩=>?_)
  ·rw [p1,p2,q1,q2]; grind
  ·rw [z1,z2,z3,z4]; grind
 ·refine key _ _ ?_ (z.imp id λ⟨⟨z1,z2⟩,z3,z4⟩=>?_)
  ·rw [p1,p2,q1,q2]; grind
  ·rw [z1,z2,z3,z4]; grind
theorem JR.one {ps:List Pt} {o:Nm (Nm Rat)} {s:aG} {r r':Pt} (h:JR ps o s r) (h':JR ps o s r'):r=r':=by
 cases s with
 | fix x y=>
  have h:r=_:=h;have h':r'=_:=h';rw [h,h']
 | crank i l=>
  obtain⟨p,d,e1,e2,e3⟩:=h;obtain⟨p',d',f1,f2,f3⟩:=h';rw [e1] at f1;cases f1;rw [e2] at f2;cases f2;rw [e3,f3]
 | pair i j s t v=>
  obtain⟨p,q,e1,e2,_,_,_,_,e3⟩:=h;obtain⟨p',q',f1,f2,_,_,_,_,f3⟩:=h';rw [e1] at f1;cases f1;rw [e2] at f2;cases f2;exact pY (e3.trans f3.symm)
 | like i j a l=>
  obtain⟨p,q,u,e1,e2,u0,hu,e3⟩:=h;obtain⟨p',q',u',f1,f2,v0,hv,f3⟩:=h';rw [e1] at f1;cases f1;rw [e2] at f2;cases f2;rw [e3,f3];exact yZ u0 v0 hu hv
theorem JR.nf {ps:List Pt} {o:Nm (Nm Rat)} {s:aG} {r:Pt} (h:JR ps o s r) (h':JF ps s):False:=by
 cases s with
 | fix x y=>exact h'
 | crank i l=>exact h'
 | pair i j s t v=>
  obtain⟨p,q,e1,e2,p1,p2,_⟩:=h;obtain⟨p',q',f1,f2,n⟩:=h';rw [e1] at f1;cases f1;rw [e2] at f2;cases f2;exact n ⟨p1,p2⟩
 | like i j a l=>
  obtain⟨p,q,u,e1,e2,u0,hu,e3⟩:=h;obtain⟨p',q',f1,f2,n⟩:=h';rw [e1] at f1;cases f1;rw [e2] at f2;cases f2;exact n (Cj u0 hu)
theorem JR.ns {ps:List Pt} {o:Nm (Nm Rat)} {s:aG} {r:Pt} (h:JR ps o s r) (h':JS ps s):False:=by
 cases s with
 | fix x y=>exact h'
 | crank i l=>exact h'
 | like i j a l=>exact h'
 | pair i j s t v=>
  obtain⟨p,q,e1,e2,p1,p2,a0,c0,_⟩:=h;obtain⟨p',q',f1,f2,_,_,n⟩:=h';rw [e1] at f1;cases f1;rw [e2] at f2;cases f2;exact n.elim a0 c0
theorem JF.ns {ps:List Pt} {s:aG} (h:JF ps s) (h':JS ps s):False:=by
 cases s with
 | fix x y=>exact h'
 | crank i l=>exact h'
 | like i j a l=>exact h'
 | pair i j s t v=>
  obtain⟨p,q,e1,e2,n⟩:=h;obtain⟨p',q',f1,f2,p1,p2,_⟩:=h';rw [e1] at f1;cases f1;rw [e2] at f2;cases f2;exact n ⟨p1,p2⟩
theorem uL.one {os:List (Nm Rat)} {ps:List Pt} {c k:Nat} {ms:List aG} {t t':Tl} (h:uL os ps c k ms t) (h':uL os ps c k ms t'):t=t':=by
 induction h with
 | nil=>cases h'; rfl
 | step jr _ ih=>
  cases h' with
  | step jr' h2=>
   have e:=jr.one jr';subst e;exact ih h2
  | fld jf=>exact(jr.nf jf).elim
  | stk js=>exact(jr.ns js).elim
 | fld jf=>
  cases h' with
  | step jr' h2=>exact(jr'.nf jf).elim
  | fld _=>rfl
  | stk js=>exact(jf.ns js).elim
 | stk js=>
  cases h' with
  | step jr' h2=>exact(jr'.ns js).elim
  | fld jf=>exact(jf.ns js).elim
  | stk _=>rfl
open Classical in
noncomputable def AD (p q:Rat):Gn:=if h:∃ r,0<=r/\r*r=ab q then(p+sg h.choose q,0) else(p,q)
theorem uO {p q:Rat}:AA p q=gD (AD p q):=by
 unfold AA AD
 split <;> rfl
noncomputable def mR (x y a b s:Rat):List Pt:=if s < 0 then [] else if s=0 then [((x,0),(y,0))] else [(AD x (ss a*s),AD y (ss b*s)),(AD x (ss (-a)*s),AD y (ss (-b)*s))]
theorem Hx {x y a b s:Rat}:jO x y a b s=(mR x y a b s).map gP:=by
 unfold jO mR
 split
 ·rfl
 ·split
  ·rfl
  ·show [MP x y a b s,MP x y (-a) (-b) s]=_
   unfold MP;rw [uO,uO,uO,uO]
   rfl
noncomputable def cG (x y s z v r:Rat):List Pt:=mR (x+(z - x)*cT x y s z v r) (y+(v - y)*cT x y s z v r) (-(v - y)) (z - x) (cE x y s z v r)
theorem KJ {x y s z v r:Rat}:cL x y s z v r=(cG x y s z v r).map gP:=Hx
theorem xn {l:List Pt} {i:Nat} {r:Pt} (h2:l.length<=2) (h0:l.map gP≠[]):gP r=lu (l.map gP) i↔some r=if l.length=2 then l[i]? else l[0]?:=by
 match l,h0,h2 with
 | [a],_,_=>exact⟨λe=>congrArg some (pY e),λe=>by cases e; rfl⟩
 | [a,b],_,_=>
  match i with
  | 0=>exact⟨λe=>congrArg some (pY e),λe=>by cases e; rfl⟩
  | 1=>exact⟨λe=>congrArg some (pY e),λe=>by cases e; rfl⟩
  | n+2=>
   constructor
   ·intro e;have e:gP r=D.non:=e;cases e
   ·intro e;have e:some r=none:=e;cases e
theorem BZ {x y s z v r:Rat}:(cG x y s z v r).length<=2:=by
 unfold cG mR
 split
 ·decide
 ·split
  ·show 1<=2; decide
  ·show 2<=2; decide
noncomputable abbrev gG (p q:Pt) (s t:Rat):List Pt:=cG p.1.1 p.2.1 s q.1.1 q.2.1 t
theorem AZ {p q:Pt} {s t:Rat}:cP p q s t=(gG p q s t).map gP:=KJ
theorem EB {ps:List Pt} {o:Nm (Nm Rat)} {i j:Nat} {s t:Rat} {v:Int} {r:Pt}:JR ps o (.pair i j s t v) r↔∃ p q,ps[i]?=some p/\ps[j]?=some q/\Pl p/\Pl q/\aP p q≠0/\gG p q s t≠[]/\some r=if (gG p q s t).length=2 then(gG p q s t)[v.toNat]? else(gG p q s t)[0]?:=by
 constructor
 ·rintro⟨p,q,e1,e2,p1,p2,a0,c0,e⟩;rw [AZ] at c0 e
  exact⟨p,q,e1,e2,p1,p2,a0,λz=>c0 (by rw [z]; rfl),(xn BZ c0).mp e⟩
 ·rintro⟨p,q,e1,e2,p1,p2,a0,c0,e⟩;have c1:(gG p q s t).map gP≠[]:=λz=>c0 (List.map_eq_nil_iff.mp z)
  exact⟨p,q,e1,e2,p1,p2,a0,by rw [AZ]; exact c1,by rw [AZ]; exact(xn BZ c1).mpr e⟩
theorem EE {ps:List Pt} {i j:Nat} {s t:Rat} {v:Int}:JS ps (.pair i j s t v)↔∃ p q,ps[i]?=some p/\ps[j]?=some q/\Pl p/\Pl q/\(aP p q=0\/gG p q s t=[]):=by
 constructor
 ·rintro⟨p,q,e1,e2,p1,p2,c⟩;rw [AZ,List.map_eq_nil_iff] at c;exact⟨p,q,e1,e2,p1,p2,c⟩
 ·rintro⟨p,q,e1,e2,p1,p2,c⟩;exact⟨p,q,e1,e2,p1,p2,by rw [AZ,List.map_eq_nil_iff]; exact c⟩
set_option maxHeartbeats 4000000
theorem JC {m:Nat} {n x:Int} (h0:0<=n) (hb:Bt m n) (h1:0<=x) (h2:x<=n+1):Bt (m+1) x:=by
 unfold Bt at*
 have e:(2:Nat) ^ (m+1)=2*2 ^ m:=by rw [Nat.pow_succ]; omega
 have:0 < 2 ^ m:=Nat.two_pow_pos m;rw [e];generalize 2 ^ m=z at*
 omega
theorem xD {n low high:Int} (h0:0<=low) (h1:low*low<=n) (h2:n < high*high) (h3:low < high) (h4:¬ 1 < high - low):low=jq n:=by
 have e:high=low+1:=by omega
 subst e;have nn:0<=n:=by
  have:=Int.mul_nonneg h0 h0;omega
 have rt:=kU nn;rcases Int.lt_trichotomy low (jq n) with z | z | z
 ·have:=kr (a:=low+1) (b:=jq n) (by omega) (by omega)
  have:=rt.le;omega
 ·exact z
 ·have:=kr (a:=jq n+1) (b:=low) (by have:=rt.nn; omega) (by omega)
  have:=rt.lt;omega
def dh:cr:=λds S k=>∃ n:Int,ds=[.int n]/\0<=n/\Bt 20000000 n/\k (.int (jq n)) S
theorem cR:av ["number","low","high","middle"] ["number"] (am fM):=ej
theorem nN (Fn:FN K "_law_known_root" fM f fd):
  aU P w K mg base cW 1 f fd ["number"] (cY K dh):=by
 refine Fn.okJ cR (λds S k h=>?_) (λcdv A outer s H E hr=>⟨_,(ag (oK (i:=1) (j:=2) rfl cR.nd (by decide) (aa ah (aa (aH dF (aj 0) ah) ac))) (ag (kz PassesOwn.never (aA J0 (aH qG (aj 2) (aj 1)) ah (aD _)) (ag (aq (i:=3) cR.nd (aH A1 (aH dF (aj 1) (aj 2)) ah)) (ai (aE (aA K_ (aH cN (aj 3) (aj 3)) (aj 0) (aD _)) (ai (aq (i:=1) cR.nd (aj 3))) (ai (aq (i:=2) cR.nd (aj 3))))))) (ai (ar (aj 1))))),λds S k h=>?_⟩)
 ·obtain⟨_,rfl,_⟩:=h
  rfl
 ·obtain⟨n,rfl,h0,hb,q⟩:=h;have bs:∀ x:Int,0<=x->x<=n+1->Bt 20000001 x:=λx h1 h2=>JC h0 hb h1 h2
  refine⟨λm L S'=>S'=S/\∃ low high r,L=[some (.int n),some (.int low),some (.int high),r]/\m=(high - low).toNat/\0<=low/\low < high/\low*low<=n/\n < high*high/\high<=n+1,⟨_,rfl,0,n+1,_,rfl,rfl,by decide,by omega,(by show(0:Int)*0<=n; omega),?_,by omega⟩,?_⟩
  ·have:=Int.mul_le_mul_of_nonneg_left (show (1:Int)<=n+1 by omega) (show 0<=n+1 by omega)
   omega
  ·rintro m L S' ⟨rfl,low,high,r,rfl,rfl,l0,lh,s1,s2,hn⟩;refine aN (λhl=>⟨λL' S''=>∃ m',m' < (high - low).toNat/\S''=S'/\∃ low high r,L'=[some (.int n),some (.int low),some (.int high),r]/\m'=(high - low).toNat/\0<=low/\low < high/\low*low<=n/\n < high*high/\high<=n+1,λ_ _ z=>z,⟨by decide,by decide +kernel⟩,?_⟩) (λhl=>?_)
   ·have e2:(low+high).fdiv 2=(low+high) / 2:=tz _ (by decide)
    have m1:low < (low+high).fdiv 2:=by rw [e2]; omega
    have m2:(low+high).fdiv 2 < high:=by rw [e2]; omega
    have bm:=bs ((low+high).fdiv 2) (by omega) (by omega)
    refine⟨mQ bm bm,aN (λhm=>?_) (λhm=>?_)⟩
    ·exact⟨_,by omega,rfl,_,_,_,rfl,rfl,by omega,m2,hm,s2,hn⟩
    ·exact⟨_,by omega,rfl,_,_,_,rfl,rfl,l0,m1,s1,by omega,by omega⟩
   ·rw [<- xD l0 s1 s2 lh hl] at q;exact q
theorem FO {a:Rat}:Rat.divInt (a.num*m9 a.num) ((a.den:Int)*(a.den:Int))=ss a:=by
 have:=GG a 1;rw [Int.mul_one] at this;rw [this]
 show ss a*((1:Int):Rat)=ss a
 rw [show ((1:Int):Rat)=1 from rfl]
 grind
theorem wL (A:Rat):Rat.divInt (2*A.num) (1*(A.den:Int))=A+A:=by
 have h:=bW (2:Rat) A;have e:(2:Rat)*A=A+A:=by grind
 rw [e] at h;exact h
theorem Fx {q:Rat}:(1:Int)*(q.den:Int)≠0:=by have:=lZ q; omega
theorem LI:Bt 60000000 0:=(show Bt 1 0 by decide).mono (by decide)
theorem Dt:Bt 60000000 1:=(show Bt 1 1 by decide).mono (by decide)
theorem Lv:Bt 60000000 2:=(show Bt 2 2 by decide).mono (by decide)
theorem LV:Bt 60000000 (-1):=(show Bt 1 (-1) by decide).mono (by decide)
abbrev Lj:=Rat×Q×Q
abbrev JD (j:Lj):D:=.tup [B j.2.1,B j.2.2,fr j.1]
def i8:cr:=λds S k=>∃ (x y:Q) (u:Rat),ds=[B x,B y,fr u]/\Sz 7000000 u/\Sq 8000000 x/\Sq 8000000 y/\k (B (qm u x y)) S
theorem iw:av ["one","other","under","part"] ["one","other","under"] (am gf):=ej
theorem nF (Fn:FN K "_law_pair_times" gf f fd) (aR:aZ P w K mg base "_law_plus" 35 eC) (aw:aZ P w K mg base "_law_times" 35 b8):
  aU P w K mg base cW 36 f fd ["one","other","under"] (cY K i8):=by
 refine Fn.okJ iw (λds S k h=>?_) (λcdv A outer s H E hr=>⟨_,(ag (aq (i:=3) iw.nd (dq aR hr (aa (dq aw hr (aa (aO 0) (aa (aO 1) ac))) (aa (dq aw hr (aa (dq aw hr (aa (aO 0) (aa (aO 1) ac))) (aB 2 ac))) ac)))) (ai (ar (au (aB 3 (aa (dq aR hr (aa (dq aw hr (aa (aO 0) (aa (aO 1) ac))) (aa (dq aw hr (aa (aO 0) (aa (aO 1) ac))) ac))) ac)))))),λds S k h=>?_⟩)
 ·obtain⟨_,_,_,rfl,_⟩:=h
  rfl
 ·obtain⟨x,y,u,rfl,su,hx,hy,w⟩:=h;have m1:=hx.a.mul hy.a;have m2:=hx.b.mul hy.b;have m3:=hx.a.mul hy.b;have m4:=hx.b.mul hy.a;have m5:=m2.mul su;refine⟨_,_,_,_,_,rfl,ax _ _,hx.a.num.mono (by decide),hx.a.den.mono (by decide),hy.a.num.mono (by decide),hy.a.den.mono (by decide),bW _ _,?_⟩
  refine⟨_,_,_,_,_,rfl,ax _ _,hx.b.num.mono (by decide),hx.b.den.mono (by decide),hy.b.num.mono (by decide),hy.b.den.mono (by decide),bW _ _,?_⟩
  refine⟨_,_,_,_,_,rfl,ax _ _,m2.num.mono (by decide),m2.den.mono (by decide),su.num.mono (by decide),su.den.mono (by decide),bW _ _,_,_,_,_,_,rfl,ax _ _,m1.num.mono (by decide),m1.den.mono (by decide),m5.num.mono (by decide),m5.den.mono (by decide),eG _ _,?_⟩
  refine⟨_,_,_,_,_,rfl,ax _ _,hx.a.num.mono (by decide),hx.a.den.mono (by decide),hy.b.num.mono (by decide),hy.b.den.mono (by decide),bW _ _,?_⟩
  exact⟨_,_,_,_,_,rfl,ax _ _,hx.b.num.mono (by decide),hx.b.den.mono (by decide),hy.a.num.mono (by decide),hy.a.den.mono (by decide),bW _ _,_,_,_,_,_,rfl,ax _ _,m3.num.mono (by decide),m3.den.mono (by decide),m4.num.mono (by decide),m4.den.mono (by decide),eG _ _,a9,w⟩
def j4:cr:=λds S k=>∃ X a Y b e:Rat,ds=[B (X,a),B (Y,b),fr e]/\0<=e/\Sz 7000000 e/\Sz 7000000 X/\Sz 7000000 Y/\Sz 7000000 a/\Sz 7000000 b/\(a=0->b=0->k (.tup [B (X,a),B (Y,b),fr 0]) S)/\(¬ (a=0/\b=0)->fW e->k (.tup [B (X,a),B (Y,b),fr e]) S)/\(¬ (a=0/\b=0)->∀ ρ,0<=ρ->ρ*ρ=e->∀ S',bV S S'->k (.tup [B (qo (X+a*ρ)),B (qo (Y+b*ρ)),fr 0]) S')
theorem gK:av ["first","second","under","flat","top","bottom"] ["first","second","under"] (am kB):=ej
theorem ud (Fn:FN K "_law_joint" kB f fd) (bC:aZ P w K mg base "_law_known_root" 1 dh) (aR:aZ P w K mg base "_law_plus" 35 eC) (aw:aZ P w K mg base "_law_times" 35 b8):
  aU P w K mg base cW 36 f fd ["first","second","under"] (cY K j4):=by
 refine Fn.okJ gK (λds S k h=>?_) (λcdv A outer s H E hr=>⟨_,(ag (aE (WJ.pt (yG (aA fC (bh cj (aO 0) ah Zf) ah (aD _)) (xc (aA fC (bh cj (aO 1) ah Zf) ah (aD _))))) (ai (ar (au (aB 0 (aB 1 (aa (au (aa ah (aa ah ac))) ac)))))) aL) (ag (gL (au (aa (dq bC hr (aa (aO 2) ac)) (aa (dq bC hr (aa (aO 2) ac)) ac))) (eQ (n:=2) rfl (aY (aJ (i:=4) gK.nd) (aY (aJ (i:=5) gK.nd) dy)))) (ag (aE (WJ.pt (iC (aA xW (aH cN (aj 4) (aj 4)) (aO 2) (aD _)) (gI (aA xW (aH cN (aj 5) (aj 5)) (aO 2) (aD _))))) (ai (ar (au (aB 0 (aB 1 (aB 2 ac)))))) aL) (ag (mm (iv:=3) gK.nd rfl (kM (N:=["one","top","bottom"]) (cap:=[none,some 4,some 5]) rfl rfl rfl rfl ⟨rfl,rfl,trivial⟩ rfl rfl ⟨⟨rfl,.inl rfl,.inl rfl⟩,⟨rfl,.inl rfl,.inl rfl⟩,trivial⟩) (au (aB 0 (aB 1 ac))) (λ_ _ _ _=>(aJ (i:=0) (show List.Nodup (["one","top","bottom"]:List Str) from by decide +kernel))) (λ_ _ _ _=>(au (aa (dq aR hr (aa (aO 0) (aa (dq aw hr (aa (aO 0) (aa (au (aB 1 (aB 2 ac))) ac))) ac))) (aa (au (aa ah (aa ah ac))) ac))))) (ai (ar (au (aa (aO 3) (aa (aO 3) (aa (au (aa ah (aa ah ac))) ac)))))))))),λds S k h=>?_⟩)
 ·obtain⟨_,_,_,_,_,rfl,_⟩:=h
  rfl
 ·obtain⟨X,a,Y,b,e,rfl,e0,he,hX,hY,ha,hb,w0,w1,w2⟩:=h;have n0:0<=e.num:=rY e0;have d0:(0:Int)<=(e.den:Int):=by omega
  have bi:=td n0 he.num;have bj:=td d0 he.den
  by_cases hab:a=0/\b=0
  ·exact aN (λ_=>aN (λ_=>⟨a9,a9,w0 hab.1 hab.2⟩) (λz=>absurd (by rw [hab.2]; rfl) z)) (λz=>absurd (by rw [hab.1]; rfl) z)
  have w1:=w1 hab;have w2:=w2 hab;have go:(oQ (Ic (wn (cH (ls dh (cH (t4 qX (fG 2) (dC (D.int 0))) ku)) (cH (ls dh (cH (t4 qX (fG 2) (dC (D.int 1))) ku)) ku))) (yj 2 (tj (jn 4) (tj (jn 5) AL)))) (oQ (Gd (IG (tS (t4 J8 (t4 Ht (fG 4) (fG 4)) (t4 qX (fG 2) (dC (D.int 0))))) (tS (t4 J8 (t4 Ht (fG 5) (fG 5)) (t4 qX (fG 2) (dC (D.int 1)))))) (HC (wn (cH (fG 0) (cH (fG 1) (cH (fG 2) ku))))) B5) (oQ (Av 3 (yw [none,some 4,some 5] (wn (cH (fG 0) (cH (fG 1) ku))) (jn 0) (lU (wn (cH (ls eC (cH (t4 qX (fG 0) (dC (D.int 0))) (cH (ls b8 (cH (t4 qX (fG 0) (dC (D.int 1))) (cH (wn (cH (fG 1) (cH (fG 2) ku))) ku))) ku))) (cH (wn (cH (dC (D.int 0)) (cH (dC (D.int 1)) ku))) ku)))))) (HC (wn (cH (t4 qX (fG 3) (dC (D.int 0))) (cH (t4 qX (fG 3) (dC (D.int 1))) (cH (wn (cH (dC (D.int 0)) (cH (dC (D.int 1)) ku))) ku)))))))) {nx:=λx S'=>k D.non S',rt:=k} [some (B (X,a)),some (B (Y,b)),some (fr e),none,none,none] S:=by
   refine⟨_,rfl,n0,he.num.mono (by decide),_,rfl,d0,he.den.mono (by decide),a9,(_,none),rfl,rfl,rfl,mQ bi bi,cZ (λn1=>⟨a9,w1 λr q=>n1 ?_⟩) (λe1=>⟨mQ bj bj,cZ (λn2=>⟨a9,w1 λr q=>n2 ?_⟩) (λe2=>?_)⟩)⟩
   ·have:=congrArg Rat.num q;rw [nQ] at this;exact pI this
   ·have:=congrArg (λz:Rat=>(z.den:Int)) q
    simp only [pE,Int.natCast_mul] at this;exact pI this
   ·obtain⟨ρ,r0,rr⟩:=nC (q:=e) e0 e1 e2;obtain⟨e3,e4⟩:=iT r0 rr;have sr:=he.root rr;rw [e3,e4];have ma:=ha.mul sr;have mb:=hb.mul sr;refine⟨a9,(_,none),rfl,λp hp=>?_⟩
    refine⟨trivial,a9,_,_,_,_,_,rfl,ax _ _,ha.num.mono (by decide),ha.den.mono (by decide),sr.num.mono (by decide),sr.den.mono (by decide),bW _ _,_,_,_,_,_,rfl,ax _ _,hX.num.mono (by decide),hX.den.mono (by decide),ma.num.mono (by decide),ma.den.mono (by decide),eG _ _,a9,a9,ak,ly (by decide),?_⟩
    refine⟨trivial,a9,_,_,_,_,_,rfl,ax _ _,hb.num.mono (by decide),hb.den.mono (by decide),sr.num.mono (by decide),sr.den.mono (by decide),bW _ _,_,_,_,_,_,rfl,ax _ _,hY.num.mono (by decide),hY.den.mono (by decide),mb.num.mono (by decide),mb.den.mono (by decide),eG _ _,a9,a9,ak,ly (by show 1 < 300; decide),?_⟩
    exact⟨trivial,_,_,ak,rfl,_,_,ak,rfl,a9,a9,w2 ρ r0 rr _ (((bV.new hp).put hp).put hp)⟩
  refine aN (λza=>aN (λzb=>absurd ⟨Nh.mp za,Nh.mp zb⟩ hab) (λ_=>go)) (λ_=>EM go)
def ox:cr:=λds S k=>∃ (j:Lj),ds=[JD j]/\Sz 7000000 j.1/\Sq 7000000 j.2.1/\Sq 7000000 j.2.2/\∀ S',bV S S'->k (gP (pU j.1 j.2.1 j.2.2)) S'
theorem gJ:av ["joint","found","part","more"] ["joint"] (am km):=ej
theorem ux (Fn:FN K "_law_shown" km f fd) (aw:aZ P w K mg base "_law_times" 35 b8) (jJ:mg "abs"=none) (c_:mg "tuple"=none):
  aU P w K mg base cW 36 f fd ["joint"] (cY K ox):=by
 refine Fn.okJ gJ (λds S k h=>?_) (λcdv A outer s H E hr=>⟨_,(ag (aq (i:=1) gJ.nd (cb ac)) (ag (gw PassesOwn.never rfl (rD (aj 0) jQ (jM ah)) (eQ (n:=2) rfl (aY (aJ (i:=2) gJ.nd) (aY (aJ (i:=3) gJ.nd) dy))) (ai (bf (eH (aj 1) (au (aB 2 (aa (dq aw hr (aa (dq aw hr (aB 3 (aa (au (aa (aQ wN rfl jJ sJ (aa (aO 3) ac)) (aa (aO 3) ac))) ac))) (aa (aO 0) ac))) ac))))))) (ai (ar (oS wm rfl c_ jH (aB 1 ac)))))),λds S k h=>?_⟩)
 ·obtain⟨_,rfl,_⟩:=h
  rfl
 ·obtain⟨⟨u,X,Y⟩,rfl,hu,hX,hY,w⟩:=h;have hu:Sz 7000000 u:=hu;have hX:Sq 7000000 X:=hX;have hY:Sq 7000000 Y:=hY;have w:∀ S',bV S S'->k (gP (pU u X Y)) S':=w;have c3:¬ (HT.dX 3 0 none=0/\HT.dX 3 3 (some 2)=3):=by decide
  have sx:=hX.b.ss;have sy:=hY.b.ss;refine⟨a9,λq hq=>⟨c3,([B X,B Y],none),rfl,?_⟩⟩
  refine⟨trivial,([fr X.1,fr X.2],none),rfl,rfl,rfl,⟨_,ak⟩,a9,_,_,_,_,_,rfl,ax X.2 X.2,hX.b.num.mono (by decide),hX.b.den.mono (by decide),(yV hX.b.num).mono (by decide),hX.b.den.mono (by decide),FO,_,_,_,_,_,rfl,ax _ _,sx.num.mono (by decide),sx.den.mono (by decide),hu.num.mono (by decide),hu.den.mono (by decide),bW _ _,a9,[],ak,ly (by decide),?_⟩
  refine⟨trivial,([fr Y.1,fr Y.2],none),rfl,rfl,rfl,⟨_,ak⟩,a9,_,_,_,_,_,rfl,ax Y.2 Y.2,hY.b.num.mono (by decide),hY.b.den.mono (by decide),(yV hY.b.num).mono (by decide),hY.b.den.mono (by decide),FO,_,_,_,_,_,rfl,ax _ _,sy.num.mono (by decide),sy.den.mono (by decide),hu.num.mono (by decide),hu.den.mono (by decide),bW _ _,a9,_,ak,ly (by show 1 < 300; decide),?_⟩
  exact⟨trivial,_,ak,w _ (((bV.new hq).put hq).put hq)⟩
def iX:cr:=λds S k=>∃ (x y z v s r:Rat) (i:Int),ds=[JD (0,qo x,qo y),JD (0,qo z,qo v),fr s,fr r,.int i]/\C0 x y s z v r/\(i=0\/i=1)/\((z - x)*(z - x)+(v - y)*(v - y)=0->k .non S)/\((z - x)*(z - x)+(v - y)*(v - y)≠0->cE x y s z v r < 0->k .non S)/\((z - x)*(z - x)+(v - y)*(v - y)≠0->cE x y s z v r=0->k (JD (0,qo (x+cT x y s z v r*(z - x)),qo (y+cT x y s z v r*(v - y)))) S)/\
  ((z - x)*(z - x)+(v - y)*(v - y)≠0->fW (cE x y s z v r)->0 < cE x y s z v r->k (JD (cE x y s z v r,(x+cT x y s z v r*(z - x),((1 - 2*i:Int):Rat)*(0 - (v - y))),(y+cT x y s z v r*(v - y),((1 - 2*i:Int):Rat)*(z - x)))) S)/\
  ((z - x)*(z - x)+(v - y)*(v - y)≠0->0 < cE x y s z v r->∀ ρ,0<=ρ->ρ*ρ=cE x y s z v r->∀ S',bV S S'->k (JD (0,qo (x+cT x y s z v r*(z - x)+((1 - 2*i:Int):Rat)*(0 - (v - y))*ρ),qo (y+cT x y s z v r*(v - y)+((1 - 2*i:Int):Rat)*(z - x)*ρ))) S')
theorem bt:av ["one","other","square","other_square","side","way","apart","share_v","under","turn","first","second"] ["one","other","square","other_square","side"] (am gm):=ej
theorem nH (Fn:FN K "_law_pair_joint" gm f fd) (bo:aZ P w K mg base "_law_minus" 35 ia) (aR:aZ P w K mg base "_law_plus" 35 eC) (aw:aZ P w K mg base "_law_times" 35 b8) (ck:aZ P w K mg base "_law_over" 35 jh) (eU:aZ P w K mg base "_law_joint" 36 j4):
  aU P w K mg base cW 37 f fd ["one","other","square","other_square","side"] (cY K iX):=by
 refine Fn.okJ bt (λds S k h=>?_) (λcdv A outer s H E hr=>⟨_,(ag (aq (i:=5) bt.nd (au (aa (dq bo hr (aa (bh cj (aO 1) ah Zf) (aa (bh cj (aO 0) ah Zf) ac))) (aa (dq bo hr (aa (bh cj (aO 1) ah Zf) (aa (bh cj (aO 0) ah Zf) ac))) ac)))) (ag (aq (i:=6) bt.nd (dq aR hr (aa (dq aw hr (aa (aO 5) (aa (aO 5) ac))) (aa (dq aw hr (aa (aO 5) (aa (aO 5) ac))) ac)))) (ag (aE (aA fC (aO 6) ah (aD _)) (ai (ar cO)) aL) (ag (aq (i:=7) bt.nd (dq ck hr (aa (dq aR hr (aa (dq bo hr (aB 2 (aB 3 ac))) (aB 6 ac))) (aa (dq aw hr (aa (au (aa ah (aa ah ac))) (aB 6 ac))) ac)))) (ag (aq (i:=8) bt.nd (dq bo hr (aa (dq ck hr (aB 2 (aB 6 ac))) (aa (dq aw hr (aB 7 (aB 7 ac))) ac)))) (ag (aE (aA rb (aO 8) ah (aD _)) (ai (ar cO)) aL) (ag (aq (i:=9) bt.nd (au (aa (aH qG ah (aH cN ah (aj 4))) (aa ah ac)))) (ag (aq (i:=10) bt.nd (au (aa (dq aR hr (aa (bh cj (aO 0) ah Zf) (aa (dq aw hr (aB 7 (aa (aO 5) ac))) ac))) (aa (dq aw hr (aB 9 (aa (dq bo hr (aa (au (aa ah (aa ah ac))) (aa (aO 5) ac))) ac))) ac)))) (ag (aq (i:=11) bt.nd (au (aa (dq aR hr (aa (bh cj (aO 0) ah Zf) (aa (dq aw hr (aB 7 (aa (aO 5) ac))) ac))) (aa (dq aw hr (aB 9 (aa (aO 5) ac))) ac)))) (ag (aE (aA fC (aO 8) ah (aD _)) (ai (ar (au (aa (au (aa (aO 10) (aa (au (aa ah (aa ah ac))) ac))) (aa (au (aa (aO 11) (aa (au (aa ah (aa ah ac))) ac))) (aa (au (aa ah (aa ah ac))) ac)))))) aL) (ai (ar (dq eU hr (aB 10 (aB 11 (aB 8 ac)))))))))))))))),λds S k h=>?_⟩)
 ·obtain⟨_,_,_,_,_,_,_,rfl,_⟩:=h
  rfl
 ·obtain⟨x,y,z,v,s,r,i,rfl,cz,hi,w0,w1,w2,w3,w4⟩:=h;have hx:=cz.hx;have hy:=cz.hy;have hz:=cz.hz;have hv:=cz.hv;have hs:=cz.hs;have hr:=cz.hr;have sa:=cz.ha;have sb:=cz.hb;have maa:=sa.mul sa;have mbb:=sb.mul sb;have sA:=maa.add mbb;have sp:=(hs.sub hr).add sA;have sB:=sA.add sA;have z0:Sz 60000000 0:=Sz.zero.mono (by decide)
  have z4':Sz 1 (0:Rat):=Sz.zero;have bτ:Bt 2 (1 - 2*i):=by rcases hi with rfl | rfl <;> decide
  have nτ:((1 - 2*i:Int):Rat)≠0:=by rcases hi with rfl | rfl <;> decide
  have sτ:Sz 2 ((1 - 2*i:Int):Rat):=⟨bτ,by show Bt 2 1; decide⟩
  have bi:Bt 2 i:=by rcases hi with rfl | rfl <;> decide
  refine⟨z,x,rfl,hz.mono (by decide),hx.mono (by decide),v,y,rfl,hv.mono (by decide),hy.mono (by decide),a9,?_⟩
  refine⟨_,_,_,_,_,rfl,ax _ _,sa.num.mono (by decide),sa.den.mono (by decide),sa.num.mono (by decide),sa.den.mono (by decide),bW _ _,_,_,_,_,_,rfl,ax _ _,sb.num.mono (by decide),sb.den.mono (by decide),sb.num.mono (by decide),sb.den.mono (by decide),bW _ _,_,_,_,_,_,rfl,ax _ _,maa.num.mono (by decide),maa.den.mono (by decide),mbb.num.mono (by decide),mbb.den.mono (by decide),eG _ _,?_⟩
  refine aN (λe0=>w0 (Nh.mp e0)) (λe0=>?_)
  have h0:(z - x)*(z - x)+(v - y)*(v - y)≠0:=λq=>e0 (by rw [q]; rfl)
  have h2:=wc h0;have st:=cz.ht h0;have sq:=hs.div sA h0;have sE:=cz.he h0;refine⟨s,r,rfl,hs.mono (by decide),hr.mono (by decide),_,_,_,_,_,rfl,ax _ _,(hs.sub hr).num.mono (by decide),(hs.sub hr).den.mono (by decide),sA.num.mono (by decide),sA.den.mono (by decide),eG _ _,?_⟩
  refine⟨a9,_,_,_,_,_,rfl,Int.mul_ne_zero (by decide) (lZ _),Lv,Dt,sA.num.mono (by decide),sA.den.mono (by decide),wL _,_,_,rfl,h2,sp.mono (by decide),sB.mono (by decide),?_⟩
  have eT:((s - r)+((z - x)*(z - x)+(v - y)*(v - y))) / (((z - x)*(z - x)+(v - y)*(v - y))+((z - x)*(z - x)+(v - y)*(v - y)))=cT x y s z v r:=rfl;rw [eT];refine⟨s,_,rfl,h0,hs.mono (by decide),sA.mono (by decide),_,_,_,_,_,rfl,ax _ _,st.num.mono (by decide),st.den.mono (by decide),st.num.mono (by decide),st.den.mono (by decide),bW _ _,_,_,rfl,sq.mono (by decide),(st.mul st).mono (by decide),?_⟩
  have eE:s / ((z - x)*(z - x)+(v - y)*(v - y)) - cT x y s z v r*cT x y s z v r=cE x y s z v r:=rfl;rw [eE];have mx:=st.mul sa;have my:=st.mul sb;have sX:=hx.add mx;have sY:=hy.add my;have sb0:=z4'.sub sb;refine aN (λn=>w1 h0 ((cM _).mp n)) (λn=>?_)
  refine⟨mQ (show Bt 2 2 by decide) bi,a9,?_⟩
  refine⟨_,_,_,_,_,rfl,ax _ _,st.num.mono (by decide),st.den.mono (by decide),sa.num.mono (by decide),sa.den.mono (by decide),bW _ _,_,_,_,_,_,rfl,ax _ _,hx.num.mono (by decide),hx.den.mono (by decide),mx.num.mono (by decide),mx.den.mono (by decide),eG _ _,a9,0,_,rfl,z0,sb.mono (by decide),1 - 2*i,1,_,_,_,rfl,Fx,bτ.mono (by decide),Dt,sb0.num.mono (by decide),sb0.den.mono (by decide),bW ((1 - 2*i:Int):Rat) (0 - (v - y)),a9,?_⟩
  refine⟨_,_,_,_,_,rfl,ax _ _,st.num.mono (by decide),st.den.mono (by decide),sb.num.mono (by decide),sb.den.mono (by decide),bW _ _,_,_,_,_,_,rfl,ax _ _,hy.num.mono (by decide),hy.den.mono (by decide),my.num.mono (by decide),my.den.mono (by decide),eG _ _,1 - 2*i,1,_,_,_,rfl,Fx,bτ.mono (by decide),Dt,sa.num.mono (by decide),sa.den.mono (by decide),bW ((1 - 2*i:Int):Rat) (z - x),a9,?_⟩
  refine aN (λq=>⟨a9,a9,a9,a9,a9,a9,w2 h0 (Nh.mp q)⟩) (λq=>?_)
  have ep:0 < cE x y s z v r:=by
   rcases tri (cE x y s z v r) with h | h | h
   ·exact h
   ·exact absurd ((cM _).mpr h) n
   ·exact absurd (by rw [h]; rfl) q
  have nz:¬ (((1 - 2*i:Int):Rat)*(0 - (v - y))=0/\((1 - 2*i:Int):Rat)*(z - x)=0):=λ⟨q1,q2⟩=>by
   have r1:=(MC.mp q1).resolve_left nτ;have r2:=(MC.mp q2).resolve_left nτ;have r3:v - y=0:=by grind
   exact h0 (by rw [r2,r3]; grind)
  exact⟨_,_,_,_,_,rfl,Rat.le_of_lt ep,sE.mono (by decide),sX.mono (by decide),sY.mono (by decide),(sτ.mul sb0).mono (by decide),(sτ.mul sa).mono (by decide),λq1 q2=>absurd ⟨q1,q2⟩ nz,λ_ no=>w3 h0 no ep,λ_=>w4 h0 ep⟩
def ip:cr:=λds S k=>∃ (j:Lj) (l:Rat) (o:Nm Rat),ds=[JD j,fr l,wK o]/\Sz 7000000 j.2.1.1/\Sz 7000000 j.2.2.1/\Sz 4 l/\pF o/\k (JD (0,qo (j.2.1.1+rK o*l),qo (j.2.2.1+tO o*l))) S
theorem bB:av ["middle","length","drive","first","along","aside","whole"] ["middle","length","drive"] (am fu):=ej
theorem mE (Fn:FN K "_law_crank_joint" fu f fd) (aR:aZ P w K mg base "_law_plus" 35 eC) (aw:aZ P w K mg base "_law_times" 35 b8) (ck:aZ P w K mg base "_law_over" 35 jh) (bo:aZ P w K mg base "_law_minus" 35 ia):
  aU P w K mg base cW 36 f fd ["middle","length","drive"] (cY K ip):=by
 refine Fn.okJ bB (λds S k h=>?_) (λcdv A outer s H E hr=>⟨_,(ag (gL (au (aa (au (aa (Ch Bh ah) (aa ah ac))) (aa (au (aa ah (aa ah ac))) ac))) (eQ (n:=2) rfl (aY (aJ (i:=4) bB.nd) (aY (aJ (i:=5) bB.nd) dy)))) (ag (aE (aA yT (aj 2) cO (aD _)) (ag (aq (i:=6) bB.nd (dq aR hr (aa (au (aa ah (aa ah ac))) (aa (dq aw hr (aB 2 (aB 2 ac))) ac)))) (ag (aq (i:=4) bB.nd (dq ck hr (aa (dq bo hr (aa (au (aa ah (aa ah ac))) (aa (dq aw hr (aB 2 (aB 2 ac))) ac))) (aB 6 ac)))) (ai (aq (i:=5) bB.nd (dq ck hr (aa (dq aw hr (aa (au (aa ah (aa ah ac))) (aB 2 ac))) (aB 6 ac))))))) aL) (ag (aq (i:=3) bB.nd (au (aa (dq aR hr (aa (bh cj (aO 0) ah Zf) (aa (dq aw hr (aB 1 (aB 4 ac))) ac))) (aa (au (aa ah (aa ah ac))) ac)))) (ai (ar (au (aB 3 (aa (au (aa (dq aR hr (aa (bh cj (aO 0) ah Zf) (aa (dq aw hr (aB 1 (aB 5 ac))) ac))) (aa (au (aa ah (aa ah ac))) ac))) (aa (au (aa ah (aa ah ac))) ac))))))))),λds S k h=>?_⟩)
 ·obtain⟨_,_,_,rfl,_⟩:=h
  rfl
 ·obtain⟨⟨u,X,Y⟩,l,o,rfl,hX,hY,hl,ho,w⟩:=h;have hX:Sz 7000000 X.1:=hX;have hY:Sz 7000000 Y.1:=hY;have w:k (JD (0,qo (X.1+rK o*l),qo (Y.1+tO o*l))) S:=w;rw [Rat.mul_comm (rK o),Rat.mul_comm (tO o)] at w;have s0:Sz 1 (0:Rat):=Sz.zero;have s1:Sz 1 (1:Rat):=⟨by decide,by decide⟩
  have sm:Sz 1 (-1:Rat):=⟨by decide,by decide⟩
  cases o with
  | none=>
   have m1:=hl.mul sm;have m2:=hl.mul s0;refine⟨a9,a9,a9,(_,none),rfl,rfl,rfl,?_⟩;refine⟨_,_,_,_,_,rfl,ax l (-1),hl.num.mono (by decide),hl.den.mono (by decide),LV,Dt,bW l (-1),_,_,_,_,_,rfl,ax _ _,hX.num.mono (by decide),hX.den.mono (by decide),m1.num.mono (by decide),m1.den.mono (by decide),eG _ _,a9,a9,?_⟩
   exact⟨_,_,_,_,_,rfl,ax l 0,hl.num.mono (by decide),hl.den.mono (by decide),LI,Dt,bW l 0,_,_,_,_,_,rfl,ax _ _,hY.num.mono (by decide),hY.den.mono (by decide),m2.num.mono (by decide),m2.den.mono (by decide),eG _ _,a9,a9,a9,a9,w⟩
  | some t=>
   have ht:Sz 4 t:=ho t rfl;have mt:=ht.mul ht;have n1:=im t;have sw:=s1.add mt;have sd:=s1.sub mt;have s2:=ht.add ht;have sx:=sd.div sw n1;have sy:=s2.div sw n1;have m1:=hl.mul sx;have m2:=hl.mul sy;refine⟨a9,a9,a9,(_,none),rfl,rfl,rfl,?_⟩;refine⟨a9,_,_,_,_,_,rfl,ax _ _,ht.num.mono (by decide),ht.den.mono (by decide),ht.num.mono (by decide),ht.den.mono (by decide),bW _ _,_,_,_,_,_,rfl,ax 1 _,Dt,Dt,mt.num.mono (by decide),mt.den.mono (by decide),eG 1 _,?_⟩
   refine⟨a9,_,_,_,_,_,rfl,ax _ _,ht.num.mono (by decide),ht.den.mono (by decide),ht.num.mono (by decide),ht.den.mono (by decide),bW _ _,1,_,rfl,s1.mono (by decide),mt.mono (by decide),_,_,rfl,n1,sd.mono (by decide),sw.mono (by decide),?_⟩
   refine⟨a9,_,_,_,_,_,rfl,Int.mul_ne_zero (by decide) (lZ _),Lv,Dt,ht.num.mono (by decide),ht.den.mono (by decide),wL _,_,_,rfl,n1,s2.mono (by decide),sw.mono (by decide),?_⟩
   refine⟨_,_,_,_,_,rfl,ax _ _,hl.num.mono (by decide),hl.den.mono (by decide),sx.num.mono (by decide),sx.den.mono (by decide),bW _ _,_,_,_,_,_,rfl,ax _ _,hX.num.mono (by decide),hX.den.mono (by decide),m1.num.mono (by decide),m1.den.mono (by decide),eG _ _,a9,a9,?_⟩
   exact⟨_,_,_,_,_,rfl,ax _ _,hl.num.mono (by decide),hl.den.mono (by decide),sy.num.mono (by decide),sy.den.mono (by decide),bW _ _,_,_,_,_,_,rfl,ax _ _,hY.num.mono (by decide),hY.den.mono (by decide),m2.num.mono (by decide),m2.den.mono (by decide),eG _ _,a9,a9,a9,a9,w⟩
set_option maxHeartbeats 4000000
structure rB (m:Nat) (j:Lj):Prop where
 u0:0<=j.1
 su:Sz m j.1
 sx:Sq m j.2.1
 sy:Sq m j.2.2
 kd:(j.1=0/\j.2.1.2=0/\j.2.2.2=0)\/(0 < j.1/\fW j.1/\¬ (j.2.1.2=0/\j.2.2.2=0))
theorem rB.mono {m n:Nat} {j:Lj} (h:rB m j) (l:m<=n):rB n j:=⟨h.u0,h.su.mono l,h.sx.mono l,h.sy.mono l,h.kd⟩
theorem rB.zero {m:Nat} {j:Lj} (h:rB m j) (e:j.1=0):j.2.1.2=0/\j.2.2.2=0:=h.kd.elim (λz=>z.2) (λz=>by rw [e] at z; exact absurd z.1 (by grind))
theorem rB.pos {m:Nat} {j:Lj} (h:rB m j) (e:j.1≠0):0 < j.1/\fW j.1/\¬ (j.2.1.2=0/\j.2.2.2=0):=h.kd.resolve_left λz=>e z.1
def Ax (j i:Lj) (v:Rat) (X Y:Q):Prop:=(i.1=0/\v=j.1/\X=i.2.1/\Y=i.2.2)\/(j.1=0/\i.1≠0/\v=i.1/\X=i.2.1/\Y=i.2.2)\/(j.1≠0/\i.1≠0/\v=j.1/\∃ ρ,0<=ρ/\ρ*ρ=i.1 / j.1/\X=(i.2.1.1,i.2.1.2*ρ)/\Y=(i.2.2.1,i.2.2.2*ρ))
theorem Ax.nn {m:Nat} {j i:Lj} {v:Rat} {X Y:Q} (h:Ax j i v X Y) (hj:rB m j) (hi:rB m i):0<=v/\Sz m v:=by
 rcases h with ⟨_,rfl,_⟩ | ⟨_,_,rfl,_⟩ | ⟨_,_,rfl,_⟩
 ·exact⟨hj.u0,hj.su⟩
 ·exact⟨hi.u0,hi.su⟩
 ·exact⟨hj.u0,hj.su⟩
theorem Ax.sz {m:Nat} {j i:Lj} {v:Rat} {X Y:Q} (h:Ax j i v X Y) (hj:rB m j) (hi:rB m i):Sq (3*m) X/\Sq (3*m) Y:=by
 rcases h with ⟨_,_,rfl,rfl⟩ | ⟨_,_,_,rfl,rfl⟩ | ⟨n1,n2,_,ρ,r0,rr,rfl,rfl⟩
 ·exact⟨hi.sx.mono (by omega),hi.sy.mono (by omega)⟩
 ·exact⟨hi.sx.mono (by omega),hi.sy.mono (by omega)⟩
 ·have sr:=(hi.su.div hj.su n1).root rr;exact⟨⟨hi.sx.a.mono (by omega),(hi.sx.b.mul sr).mono (by omega)⟩,⟨hi.sy.a.mono (by omega),(hi.sy.b.mul sr).mono (by omega)⟩⟩
theorem Ax.zero {m:Nat} {j i:Lj} {v:Rat} {X Y:Q} (h:Ax j i v X Y) (hj:rB m j) (hi:rB m i) (e:v=0):(j.2.1.2=0/\j.2.2.2=0)/\X.2=0/\Y.2=0:=by
 rcases h with ⟨e1,rfl,rfl,rfl⟩ | ⟨_,n,rfl,_⟩ | ⟨n,_,rfl,_⟩
 ·exact⟨hj.zero e,hi.zero e1⟩
 ·exact absurd e n
 ·exact absurd e n
theorem Ax.no {m:Nat} {j i:Lj} {v:Rat} {X Y:Q} (h:Ax j i v X Y) (hj:rB m j) (hi:rB m i) (e:v≠0):0 < v/\fW v:=by
 rcases h with ⟨_,rfl,_⟩ | ⟨_,_,rfl,_⟩ | ⟨_,_,rfl,_⟩
 ·exact⟨(hj.pos e).1,(hj.pos e).2.1⟩
 ·exact⟨(hi.pos e).1,(hi.pos e).2.1⟩
 ·exact⟨(hj.pos e).1,(hj.pos e).2.1⟩
def lr:cr:=λds S k=>∃ (j i:Lj),ds=[JD j,JD i]/\rB 620000 j/\rB 620000 i/\(j.1≠0->i.1≠0->fW (i.1 / j.1)->k .non S)/\∀ v X Y u',Ax j i v X Y->∀ S',bV S S'->k (.tup [JD (u',X,Y),fr v]) S'
theorem dA:av ["one","other","share_v","same","top","bottom"] ["one","other"] (am gX):=ej
theorem p_ (Fn:FN K "_law_one_root" gX f fd) (ck:aZ P w K mg base "_law_over" 35 jh) (bC:aZ P w K mg base "_law_known_root" 1 dh) (aw:aZ P w K mg base "_law_times" 35 b8):
  aU P w K mg base cW 36 f fd ["one","other"] (cY K lr):=by
 refine Fn.okJ dA (λds S k h=>?_) (λcdv A outer s H E hr=>⟨_,(ag (aE (WJ.pt (iC (aA fC (bh cj (aO 0) ah Zf) ah (aD _)) (gI (aA fC (bh cj (aO 1) ah Zf) ah (aD _))))) (ai (ar (au (aB 1 (aa (uA (aA fC (bh cj (aO 1) ah Zf) ah (aD _)) (aO 0) (aO 1)) ac))))) aL) (ag (aq (i:=2) dA.nd (dq ck hr (aa (aO 1) (aa (aO 0) ac)))) (ag (gL (au (aa (dq bC hr (aa (aO 2) ac)) (aa (dq bC hr (aa (aO 2) ac)) ac))) (eQ (n:=2) rfl (aY (aJ (i:=4) dA.nd) (aY (aJ (i:=5) dA.nd) dy)))) (ag (aE (WJ.pt (iC (aA xW (aH cN (aj 4) (aj 4)) (aO 2) (aD _)) (gI (aA xW (aH cN (aj 5) (aj 5)) (aO 2) (aD _))))) (ai (ar cO)) aL) (ag (mm (iv:=3) dA.nd rfl (kM (N:=["part","more","top","bottom"]) (cap:=[none,none,some 4,some 5]) rfl rfl rfl rfl ⟨rfl,rfl,trivial⟩ rfl rfl ⟨⟨rfl,.inl rfl,.inl rfl⟩,⟨rfl,.inl rfl,.inl rfl⟩,trivial⟩) (rD (aj 1) jQ (jM ah)) (λ_ _ _ _=>(eQ (n:=2) rfl (aY (aJ (i:=0) (show List.Nodup (["part","more","top","bottom"]:List Str) from by decide +kernel)) (aY (aJ (i:=1) (show List.Nodup (["part","more","top","bottom"]:List Str) from by decide +kernel)) dy)))) (λ_ _ _ _=>(au (aB 0 (aa (dq aw hr (aB 1 (aa (au (aB 2 (aB 3 ac))) ac))) ac))))) (ai (ar (au (aa (au (aa (aO 3) (aa (aO 3) (aa (aO 0) ac)))) (aa (aO 0) ac)))))))))),λds S k h=>?_⟩)
 ·obtain⟨_,_,rfl,_⟩:=h
  rfl
 ·obtain⟨j,i,rfl,hj,hi,w0,w⟩:=h;have w1:j.1=0\/i.1=0->ite (decide (i.1.num=0)=true) (k (.tup [JD i,fr j.1]) S) (k (.tup [JD i,fr i.1]) S):=λh=>aN (λy=>w j.1 i.2.1 i.2.2 i.1 (.inl ⟨Nh.mp y,rfl,rfl,rfl⟩) S (bV.refl S)) (λy=>w i.1 i.2.1 i.2.2 i.1 (.inr (.inl ⟨h.resolve_right λe=>y (by rw [e]; rfl),λe=>y (by rw [e]; rfl),rfl,rfl,rfl⟩)) S (bV.refl S))
  have c3:¬ (HT.dX 3 0 none=0/\HT.dX 3 3 (some 2)=3):=by decide
  refine aN (λz=>vg (aN (λy=>⟨a9,?_⟩) (λy=>⟨a9,?_⟩))) (λz=>aN (λy=>aN (λ_=>⟨a9,?_⟩) (λy'=>absurd y y')) (λy=>?_))
  ·exact w j.1 i.2.1 i.2.2 i.1 (.inl ⟨Nh.mp y,rfl,rfl,rfl⟩) S (bV.refl S)
  ·exact w i.1 i.2.1 i.2.2 i.1 (.inr (.inl ⟨Nh.mp z,λe=>y (by rw [e]; rfl),rfl,rfl,rfl⟩)) S (bV.refl S)
  ·exact w j.1 i.2.1 i.2.2 i.1 (.inl ⟨Nh.mp y,rfl,rfl,rfl⟩) S (bV.refl S)
  have n1:j.1≠0:=λe=>z (by rw [e]; rfl)
  have n2:i.1≠0:=λe=>y (by rw [e]; rfl)
  have w0:=w0 n1 n2;have he:=hi.su.div hj.su n1;have e0:0<=i.1 / j.1:=la hi.u0 hj.u0;have wj:∀ ρ,0<=ρ->ρ*ρ=i.1 / j.1->∀ S',bV S S'->k (.tup [JD (j.1,(i.2.1.1,i.2.1.2*ρ),(i.2.2.1,i.2.2.2*ρ)),fr j.1]) S':=fun ρ r0 rr S' e=>w _ _ _ _ (.inr (.inr ⟨n1,n2,rfl,ρ,r0,rr,rfl,rfl⟩)) S' e
  have hx:=hi.sx.b;have hy:=hi.sy.b;refine⟨_,_,rfl,n1,hi.su.mono (by decide),hj.su.mono (by decide),?_⟩
  clear w w1;generalize i.1 / j.1=e at*
  have n0:0<=e.num:=rY e0;have d0:(0:Int)<=(e.den:Int):=by omega
  have bi:=td n0 he.num;have bj:=td d0 he.den;refine⟨_,rfl,n0,he.num.mono (by decide),_,rfl,d0,he.den.mono (by decide),a9,(_,none),rfl,rfl,rfl,mQ bi bi,cZ (λn1=>vg (w0 λr q=>n1 ?_)) (λe1=>⟨mQ bj bj,cZ (λn2=>w0 λr q=>n2 ?_) (λe2=>?_)⟩)⟩
  ·have:=congrArg Rat.num q;rw [nQ] at this;exact pI this
  ·have:=congrArg (λz:Rat=>(z.den:Int)) q
   simp only [pE,Int.natCast_mul] at this;exact pI this
  ·obtain⟨ρ,r0,rr⟩:=nC (q:=e) e0 e1 e2;obtain⟨e3,e4⟩:=iT r0 rr;have sr:=he.root rr;rw [e3,e4];refine⟨c3,([B i.2.1,B i.2.2],none),rfl,λp hp=>?_⟩
   refine⟨trivial,([fr i.2.1.1,fr i.2.1.2],none),rfl,rfl,rfl,a9,_,_,_,_,_,rfl,ax _ _,hx.num.mono (by decide),hx.den.mono (by decide),sr.num.mono (by decide),sr.den.mono (by decide),bW _ _,a9,ak,ly (by decide),?_⟩
   refine⟨trivial,([fr i.2.2.1,fr i.2.2.2],none),rfl,rfl,rfl,a9,_,_,_,_,_,rfl,ax _ _,hy.num.mono (by decide),hy.den.mono (by decide),sr.num.mono (by decide),sr.den.mono (by decide),bW _ _,a9,ak,ly (by show 1 < 300; decide),?_⟩
   exact⟨trivial,_,_,ak,rfl,_,_,ak,rfl,a9,a9,wj ρ r0 rr _ (((bV.new hp).put hp).put hp)⟩
open Classical in
noncomputable def Fm (v:Rat) (j:Lj) (X Y:Q) (a l:Rat):Lj:=if (fH v j.2.1 j.2.2 X Y (qo a) (qo l)).2=0/\(gl v j.2.1 j.2.2 X Y (qo a) (qo l)).2=0 then(0,fH v j.2.1 j.2.2 X Y (qo a) (qo l),gl v j.2.1 j.2.2 X Y (qo a) (qo l)) else(v,fH v j.2.1 j.2.2 X Y (qo a) (qo l),gl v j.2.1 j.2.2 X Y (qo a) (qo l))
def iZ:cr:=λds S k=>∃ (j i:Lj) (a l:Rat),ds=[JD j,JD i,fr a,fr l]/\rB 620000 j/\rB 620000 i/\Sz 4 a/\Sz 4 l/\(j.1≠0->i.1≠0->fW (i.1 / j.1)->k .non S)/\∀ v X Y,Ax j i v X Y->∀ S',bV S S'->k (JD (Fm v j X Y a l)) S'
theorem bu:av ["one","other","along","left","both","way","first","second","under","ahead","aside"] ["one","other","along","left"] (am f'):=ej
theorem m8 (Fn:FN K "_law_like_joint" f' f fd) (g9:aZ P w K mg base "_law_one_root" 36 lr) (di:aZ P w K mg base "_law_both_minus" 36 i5) (cm:aZ P w K mg base "_law_pair_times" 36 i8) (dB:aZ P w K mg base "_law_both_plus" 36 jI) (eU:aZ P w K mg base "_law_joint" 36 j4):
  aU P w K mg base cW 37 f fd ["one","other","along","left"] (cY K iZ):=by
 refine Fn.okJ bu (λds S k h=>?_) (λcdv A outer s H E hr=>⟨_,(ag (aq (i:=4) bu.nd (dq g9 hr (aB 0 (aB 1 ac)))) (ag (aE (aA wD (aj 4) cO (aD _)) (ai (ar cO)) aL) (ag (gL (aj 4) (eQ (n:=2) rfl (aY (aJ (i:=1) bu.nd) (aY (aJ (i:=8) bu.nd) dy)))) (ag (aq (i:=5) bu.nd (au (aa (dq di hr (aa (aO 1) (aa (aO 0) ac))) (aa (dq di hr (aa (aO 1) (aa (aO 0) ac))) ac)))) (ag (oK (i:=9) (j:=10) rfl bu.nd (by decide) (aa (au (aB 2 (aa (au (aa ah (aa ah ac))) ac))) (aa (au (aB 3 (aa (au (aa ah (aa ah ac))) ac))) ac))) (ag (aq (i:=6) bu.nd (dq di hr (aa (dq cm hr (aB 9 (aa (aO 5) (aB 8 ac)))) (aa (dq cm hr (aB 10 (aa (aO 5) (aB 8 ac)))) ac)))) (ag (aq (i:=7) bu.nd (dq dB hr (aa (dq cm hr (aB 10 (aa (aO 5) (aB 8 ac)))) (aa (dq cm hr (aB 9 (aa (aO 5) (aB 8 ac)))) ac)))) (ai (ar (dq eU hr (aa (dq dB hr (aa (aO 0) (aB 6 ac))) (aa (dq dB hr (aa (aO 0) (aB 7 ac))) (aB 8 ac))))))))))))),λds S k h=>?_⟩)
 ·obtain⟨_,_,_,_,rfl,_⟩:=h
  rfl
 ·obtain⟨j,i,a,l,rfl,hj,hi,sa,sl,w0,w⟩:=h;refine⟨j,i,rfl,hj,hi,λn1 n2 no=>w0 n1 n2 no,λv X Y u' hJ S1 e1=>⟨(_,none),rfl,rfl,rfl,?_⟩⟩
  have w:=w v X Y hJ S1 e1;obtain⟨sX,sY⟩:=hJ.sz hj hi;obtain⟨v0,sv⟩:=hJ.nn hj hi;have jx:=hj.sx;have jy:=hj.sy;have s1:=Hj sX jx;have s2:=Hj sY jy;have sp:Sq 4 (qo a):=Dg sa (by decide)
  have sq:Sq 4 (qo l):=Dg sl (by decide)
  have sc:∀ {t:Rat} {X:Q},Sz 4 t->Sq 2480001 X->Sq 2480005 (qm v (qo t) X):=λ{t X} ht hX=>by
   refine⟨?_,?_⟩
   ·show Sz _ (t*X.1+0*X.2*v)
    rw [show t*X.1+0*X.2*v=t*X.1 by grind]
    exact(ht.mul hX.a).mono (by decide)
   ·show Sz _ (t*X.2+0*X.1)
    rw [show t*X.2+0*X.1=t*X.2 by grind]
    exact(ht.mul hX.b).mono (by decide)
  have t1:=s1.mono (n:=2480001) (by decide)
  have t2:=s2.mono (n:=2480001) (by decide)
  have m1:=sc sa t1;have m2:=sc sl t2;have m3:=sc sa t2;have m4:=sc sl t1;have ey:qa (qm v (qo l) (qs X j.2.1)) (qm v (qo a) (qs Y j.2.2))=qa (qm v (qo a) (qs Y j.2.2)) (qm v (qo l) (qs X j.2.1)):=by
   unfold qa;rw [Rat.add_comm,Rat.add_comm (qm v (qo l) (qs X j.2.1)).2]
  have r1:Sq 7000000 (fH v j.2.1 j.2.2 X Y (qo a) (qo l)):=(J1 jx (Hj m1 m2)).mono (by decide)
  have r2:Sq 7000000 (gl v j.2.1 j.2.2 X Y (qo a) (qo l)):=(J1 jy (J1 m3 m4)).mono (by decide)
  refine⟨_,_,rfl,sX.mono (by decide),jx.mono (by decide),_,_,rfl,sY.mono (by decide),jy.mono (by decide),a9,a9,a9,a9,a9,?_⟩
  refine⟨qo a,_,v,rfl,sv.mono (by decide),sp.mono (by decide),s1.mono (by decide),qo l,_,v,rfl,sv.mono (by decide),sq.mono (by decide),s2.mono (by decide),_,_,rfl,m1.mono (by decide),m2.mono (by decide),?_⟩
  refine⟨qo l,_,v,rfl,sv.mono (by decide),sq.mono (by decide),s1.mono (by decide),qo a,_,v,rfl,sv.mono (by decide),sp.mono (by decide),s2.mono (by decide),_,_,rfl,m4.mono (by decide),m3.mono (by decide),?_⟩
  rw [ey];refine⟨_,_,rfl,jx.mono (by decide),(Hj m1 m2).mono (by decide),_,_,rfl,jy.mono (by decide),(J1 m3 m4).mono (by decide),?_⟩
  have zz:v=0->(fH v j.2.1 j.2.2 X Y (qo a) (qo l)).2=0/\(gl v j.2.1 j.2.2 X Y (qo a) (qo l)).2=0:=λe=>by
   obtain⟨⟨z1,z2⟩,z3,z4⟩:=hJ.zero hj hi e;obtain⟨_,_,a3,a4⟩:=kX (u:=v) (p:=a) (q:=l) (x:=j.2.1) (y:=j.2.2) (z:=X) (v:=Y);rw [a3,a4,z1,z2,z3,z4];exact⟨by grind,by grind⟩
  unfold Fm at w;refine⟨(fH v j.2.1 j.2.2 X Y (qo a) (qo l)).1,(fH v j.2.1 j.2.2 X Y (qo a) (qo l)).2,(gl v j.2.1 j.2.2 X Y (qo a) (qo l)).1,(gl v j.2.1 j.2.2 X Y (qo a) (qo l)).2,v,rfl,v0,sv.mono (by decide),r1.a,r2.a,r1.b,r2.b,λq1 q2=>?_,λn _=>?_,λn ρ r0 rr=>?_⟩
  ·rw [if_pos ⟨q1,q2⟩] at w;exact w
  ·rw [if_neg n] at w;exact w
  ·by_cases e:v=0
   ·exact absurd (zz e) n
   ·exact absurd rr ((hJ.no hj hi e).2 ρ)
set_option maxHeartbeats 4000000
abbrev jP (j:Lj):Pt:=pU j.1 j.2.1 j.2.2
structure JL (c:Nat) (j:Lj):Prop where
 ok:rB (vN c) j
 jo:mr c (jP j)
theorem JL.mono {a b:Nat} {j:Lj} (h:JL a j) (l:a<=b):JL b j:=⟨h.ok.mono (oh l),h.jo.mono l⟩
theorem JL.of {c:Nat} {j:Lj} (jo:mr c (jP j)) (u0:0<=j.1) (su:Sz (vN c) j.1) (bx:Sz (vN c) j.2.1.2) (by':Sz (vN c) j.2.2.2) (kd:(j.1=0/\j.2.1.2=0/\j.2.2.2=0)\/(0 < j.1/\fW j.1/\¬ (j.2.1.2=0/\j.2.2.2=0))):JL c j:=⟨⟨u0,su,⟨jo.cd.sx.mono (xh c),bx⟩,⟨jo.cd.sy.mono (xh c),by'⟩,kd⟩,jo⟩
theorem om {u v:Rat} {X Y:Q} (hx:X.2=0) (hy:Y.2=0):pU u X Y=pU v X Y:=by
 unfold pU;rw [hx,hy,cy,Rat.zero_mul,Rat.zero_mul]
theorem fK {x y:Rat}:pU 0 (qo x) (qo y)=((x,0),(y,0)):=by
 show((x,ss 0*0),(y,ss 0*0))=_
 rw [Rat.mul_zero]
theorem v1 (c:Nat):1<=vN c:=M1 (by decide) (oh (M_ c))
theorem JL.plain {c:Nat} {x y:Rat} (h:mr c ((x,0),(y,0))):JL c (0,qo x,qo y):=by
 refine JL.of (by show mr c (pU 0 (qo x) (qo y)); rw [fK]; exact h) Rat.le_refl (Sz.zero.mono (v1 c)) (Sz.zero.mono (v1 c)) (Sz.zero.mono (v1 c)) (.inl ⟨rfl,rfl,rfl⟩)
theorem JL.eq0 {c:Nat} {j:Lj} (h:JL c j) (e:j.1=0):j=(0,qo j.2.1.1,qo j.2.2.1):=by
 obtain⟨z1,z2⟩:=h.ok.zero e;exact MH e (MH (MH rfl z1) (MH rfl z2))
theorem JL.pl {c:Nat} {j:Lj} (h:JL c j):Pl (jP j)↔j.1=0:=by
 constructor
 ·rintro⟨h1,h2⟩;have h1:ss j.2.1.2*j.1=0:=h1;have h2:ss j.2.2.2*j.1=0:=h2;apply Classical.byContradiction;intro n;obtain⟨p,_,m⟩:=h.ok.pos n;exact m ⟨(jg p).mp h1,(jg p).mp h2⟩
 ·intro e;exact⟨by show ss j.2.1.2*j.1=0; rw [e,Rat.mul_zero],by show ss j.2.2.2*j.1=0; rw [e,Rat.mul_zero]⟩
theorem B9 {m n:Gn} (h:gD m=gD n):m=n:=(Prod.ext_iff.mp (pY (p:=(m,m)) (q:=(n,n)) (by show D.tup [gD m,gD m]=D.tup [gD n,gD n]; rw [h]))).1
theorem Gi {p a s:Rat} (s0:0 < s) (no:fW s):AD p (ss a*s)=(p,ss a*s):=by
 apply B9;rw [<- uO];rcases xw (b:=a) s0 no with h | h
 ·rw [h,wH]
 ·rw [xC h]
theorem GL {p a s ρ:Rat} (s0:0 < s) (r0:0<=ρ) (rr:ρ*ρ=s):AD p (ss a*s)=(p+a*ρ,0):=by
 apply B9;rw [<- uO,oR (r:=ab a*ρ) (MK (mP a) r0) (by rw [oW s0,<- rr]; unfold ab; split <;> grind)]
 have e:sg (ab a*ρ) (ss a*s)=a*ρ:=by
  unfold sg ab
  by_cases h:a < 0
  ·rw [if_pos ((mX s0).mpr h),if_pos h]; grind
  ·rw [if_neg (λz=>h ((mX s0).mp z)),if_neg h]
 rw [e]
theorem Cb {c:Nat} {ps:List Pt} {o:Nm (Nm Rat)} {a b:Nat} {p q r:Pt} {s t:Rat} {v:Nat} (h4:c<=4) (ga:ps[a]?=some p) (gb:ps[b]?=some q) (kp:mr c p) (kq:mr c q) (pp:Pl p) (pq:Pl q) (ss':Sz 8 s) (st:Sz 8 t) (hv:v < 2) (a0:aP p q≠0) (n:gG p q s t≠[]) (e:some r=if (gG p q s t).length=2 then(gG p q s t)[v]? else(gG p q s t)[0]?):JR ps o (.pair a b s t (v:Nat)) r/\mr (c+1) r:=by
 have jr:JR ps o (.pair a b s t (v:Nat)) r:=EB.mpr ⟨p,q,ga,gb,pp,pq,a0,n,e⟩;refine⟨jr,?_⟩;obtain⟨p',q',e1,e2,_,_,a1,c1,e3⟩:=jr;rw [ga] at e1;cases e1;rw [gb] at e2;cases e2;obtain⟨_,_,_,_,_,jo⟩:=zm h4 kp kq ss' st hv a1 c1 e3;exact jo
theorem Je {x y s z w t:Rat} (h:cE x y s z w t < 0):gG ((x,0),(y,0)) ((z,0),(w,0)) s t=[]:=by
 show mR _ _ _ _ _=[]
 unfold mR;rw [if_pos h]
theorem AF {x y s z w t:Rat} (h:cE x y s z w t=0):gG ((x,0),(y,0)) ((z,0),(w,0)) s t=[((x+(z - x)*cT x y s z w t,0),(y+(w - y)*cT x y s z w t,0))]:=by
 show mR _ _ _ _ _=_
 unfold mR;rw [if_neg (by rw [h]; decide),if_pos h]
theorem zd {x y s z w t:Rat} (h:0 < cE x y s z w t):gG ((x,0),(y,0)) ((z,0),(w,0)) s t=[(AD (x+(z - x)*cT x y s z w t) (ss (-(w - y))*cE x y s z w t),AD (y+(w - y)*cT x y s z w t) (ss (z - x)*cE x y s z w t)),(AD (x+(z - x)*cT x y s z w t) (ss (-(-(w - y)))*cE x y s z w t),AD (y+(w - y)*cT x y s z w t) (ss (-(z - x))*cE x y s z w t))]:=by
 show mR _ _ _ _ _=_
 unfold mR;rw [if_neg (by grind),if_neg (by grind)]
theorem rh {v:Nat} (hv:v < 2):(v=0/\((1 - 2*(v:Int):Int):Rat)=1)\/(v=1/\((1 - 2*(v:Int):Int):Rat)=-1):=by
 match v,hv with
 | 0,_=>exact .inl ⟨rfl,rfl⟩
 | 1,_=>exact .inr ⟨rfl,rfl⟩
theorem Ad {x y s z w t:Rat} {v:Nat} (h:cE x y s z w t=0):some (jP (0,qo (x+cT x y s z w t*(z - x)),qo (y+cT x y s z w t*(w - y))))=(if (gG ((x,0),(y,0)) ((z,0),(w,0)) s t).length=2 then(gG ((x,0),(y,0)) ((z,0),(w,0)) s t)[v]? else(gG ((x,0),(y,0)) ((z,0),(w,0)) s t)[0]?):=by
 rw [AF h,show jP (0,qo (x+cT x y s z w t*(z - x)),qo (y+cT x y s z w t*(w - y)))=_ from fK,Rat.mul_comm,Rat.mul_comm (cT x y s z w t) (w - y)]
 rfl
theorem DC {x y s z w t:Rat} {v:Nat} (hv:v < 2) (h:0 < cE x y s z w t) (no:fW (cE x y s z w t)):some (jP (cE x y s z w t,(x+cT x y s z w t*(z - x),((1 - 2*(v:Int):Int):Rat)*(0 - (w - y))),(y+cT x y s z w t*(w - y),((1 - 2*(v:Int):Int):Rat)*(z - x))))=(if (gG ((x,0),(y,0)) ((z,0),(w,0)) s t).length=2 then(gG ((x,0),(y,0)) ((z,0),(w,0)) s t)[v]? else(gG ((x,0),(y,0)) ((z,0),(w,0)) s t)[0]?):=by
 rw [zd h,Rat.mul_comm (cT x y s z w t),Rat.mul_comm (cT x y s z w t) (w - y)];simp only [Gi h no];rcases rh hv with ⟨rfl,e⟩ | ⟨rfl,e⟩
 ·rw [e,show(1:Rat)*(0 - (w - y))=-(w - y) by grind,Rat.one_mul]
  rfl
 ·rw [e,show(-1:Rat)*(0 - (w - y))=-(-(w - y)) by grind,show(-1:Rat)*(z - x)=-(z - x) by grind]
  rfl
theorem DR {x y s z w t ρ:Rat} {v:Nat} (hv:v < 2) (h:0 < cE x y s z w t) (r0:0<=ρ) (rr:ρ*ρ=cE x y s z w t):some (jP (0,qo (x+cT x y s z w t*(z - x)+((1 - 2*(v:Int):Int):Rat)*(0 - (w - y))*ρ),qo (y+cT x y s z w t*(w - y)+((1 - 2*(v:Int):Int):Rat)*(z - x)*ρ)))=(if (gG ((x,0),(y,0)) ((z,0),(w,0)) s t).length=2 then(gG ((x,0),(y,0)) ((z,0),(w,0)) s t)[v]? else(gG ((x,0),(y,0)) ((z,0),(w,0)) s t)[0]?):=by
 rw [zd h,show ∀ a b:Rat,jP (0,qo a,qo b)=((a,0),(b,0)) from λa b=>fK,Rat.mul_comm (cT x y s z w t),Rat.mul_comm (cT x y s z w t) (w - y)]
 simp only [GL h r0 rr];rcases rh hv with ⟨rfl,e⟩ | ⟨rfl,e⟩
 ·rw [e,show(1:Rat)*(0 - (w - y))=-(w - y) by grind,Rat.one_mul]
  rfl
 ·rw [e,show(-1:Rat)*(0 - (w - y))=-(-(w - y)) by grind,show(-1:Rat)*(z - x)=-(z - x) by grind]
  rfl
theorem yK {v:Rat} (v0:0 < v) {X Y:Q}:rq v (pU v X Y).1=X/\rq v (pU v X Y).2=Y:=⟨MH rfl (wF v0 rfl),MH rfl (wF v0 rfl)⟩
theorem Fz {v:Rat} {A B C E:Q}:HR v [pU v A B,pU v C E]:=λp hp=>by
 simp only [Mt,ME,or_false] at hp;rcases hp with rfl | rfl
 ·exact⟨⟨_,rfl⟩,⟨_,rfl⟩⟩
 ·exact⟨⟨_,rfl⟩,⟨_,rfl⟩⟩
theorem Fs {v:Rat} (v0:0 < v) {A B C E:Q} {a l:Rat}:CJ v (pU v A B) (pU v C E) a l=pU v (fH v A B C E (qo a) (qo l)) (gl v A B C E (qo a) (qo l)):=by
 unfold CJ;rw [(yK v0).1,(yK v0).2,(yK v0).1,(yK v0).2]
theorem Gv {m:Nat} {j i:Lj} {v:Rat} {X Y:Q} (h:Ax j i v X Y) (hj:rB m j) (hi:rB m i):jP j=pU v j.2.1 j.2.2/\jP i=pU v X Y:=by
 rcases h with ⟨e,rfl,rfl,rfl⟩ | ⟨e,n,rfl,rfl,rfl⟩ | ⟨n1,n2,rfl,ρ,r0,rr,rfl,rfl⟩
 ·obtain⟨z1,z2⟩:=hi.zero e;exact⟨rfl,om z1 z2⟩
 ·obtain⟨z1,z2⟩:=hj.zero e;exact⟨om z1 z2,rfl⟩
 ·refine⟨rfl,?_⟩;have k:∀ b:Rat,ss b*i.1=ss (b*ρ)*j.1:=λb=>by
   rw [r_,jT r0,rr];have:i.1 / j.1*j.1=i.1:=Rat.div_mul_cancel n1;generalize i.1 / j.1=d at*
   generalize ss b=g at*
   rw [<- this];grind
  exact MH (MH rfl (k _)) (MH rfl (k _))
theorem FM {v:Rat} {j:Lj} {X Y:Q} {a l:Rat}:jP (Fm v j X Y a l)=pU v (fH v j.2.1 j.2.2 X Y (qo a) (qo l)) (gl v j.2.1 j.2.2 X Y (qo a) (qo l)):=by
 unfold Fm
 split
 ·rename_i h
  exact om h.1 h.2
 ·rfl
theorem zx {m:Nat} {j i:Lj} {v a l:Rat} {X Y:Q} (h:Ax j i v X Y) (hj:rB m j) (hi:rB m i):∃ u,0 < u/\HR u [jP j,jP i]/\jP (Fm v j X Y a l)=CJ u (jP j) (jP i) a l:=by
 obtain⟨e1,e2⟩:=Gv h hj hi
 by_cases z:v=0
 ·obtain⟨⟨z1,z2⟩,z3,z4⟩:=h.zero hj hi z;rw [om (v:=1) z1 z2] at e1;rw [om (v:=1) z3 z4] at e2;refine⟨1,by decide,by rw [e1,e2]; exact Fz,?_⟩
  rw [e1,e2,Fs (by decide),FM]
  obtain⟨a1,a2,a3,a4⟩:=kX (u:=v) (p:=a) (q:=l) (x:=j.2.1) (y:=j.2.2) (z:=X) (v:=Y);obtain⟨b1,b2,b3,b4⟩:=kX (u:=1) (p:=a) (q:=l) (x:=j.2.1) (y:=j.2.2) (z:=X) (v:=Y);rw [z1,z2,z3,z4] at a3 a4 b3 b4
  have o1:(0:Rat)+(a*(0 - 0) - l*(0 - 0))=0:=by grind
  have o2:(0:Rat)+(a*(0 - 0)+l*(0 - 0))=0:=by grind
  unfold pU;rw [a1,a2,a3,a4,b1,b2,b3,b4,o1,o2,cy,Rat.zero_mul,Rat.zero_mul]
 ·obtain⟨v0,_⟩:=h.no hj hi z;refine⟨v,v0,by rw [e1,e2]; exact Fz,?_⟩
  rw [e1,e2,Fs v0,FM]
theorem EU {c:Nat} {j i:Lj} {v a l:Rat} {X Y:Q} (h4:c<=4) (h:Ax j i v X Y) (hj:JL c j) (hi:JL c i) (sa:Sz 4 a) (sl:Sz 4 l):JL (c+1) (Fm v j X Y a l):=by
 obtain⟨u,u0,hu,eu⟩:=zx (a:=a) (l:=l) h hj.ok hi.ok;have all:∀ r∈[jP j,jP i],HB (vN c) r:=λr hr=>by
  simp only [Mt,ME,or_false] at hr;rcases hr with rfl | rfl
  ·exact hj.jo.pok
  ·exact hi.jo.pok
 obtain⟨u',hu',su',hR',hs⟩:=wb (m:=vN c) (M1 (Kc h4) (by decide)) all (Cj u0 hu)
 obtain⟨x1,y1⟩:=hs _ (Mv);obtain⟨z1,w1⟩:=hs _ (Mw _ Mv);have jo:=hj.jo.like hi.jo sa sl hu'.pos hu'.no su' x1 y1 z1 w1;rw [yZ hu'.pos u0 hR' hu,<- eu] at jo;obtain⟨sX,sY⟩:=h.sz hj.ok hi.ok;obtain⟨v0,sv⟩:=h.nn hj.ok hi.ok;have jx:=hj.ok.sx.b;have jy:=hj.ok.sy.b;obtain⟨_,_,a3,a4⟩:=kX (u:=v) (p:=a) (q:=l) (x:=j.2.1) (y:=j.2.2) (z:=X) (v:=Y);have b1:Sz (vN (c+1)) (fH v j.2.1 j.2.2 X Y (qo a) (qo l)).2:=by
  rw [a3];exact(jx.add ((sa.mul (sX.b.sub jx)).sub (sl.mul (sY.b.sub jy)))).mono (by show _<=11*vN c+90; omega)
 have b2:Sz (vN (c+1)) (gl v j.2.1 j.2.2 X Y (qo a) (qo l)).2:=by
  rw [a4];exact(jy.add ((sa.mul (sY.b.sub jy)).add (sl.mul (sX.b.sub jx)))).mono (by show _<=11*vN c+90; omega)
 have sv':=sv.mono (zu c);have zz:v=0->(fH v j.2.1 j.2.2 X Y (qo a) (qo l)).2=0/\(gl v j.2.1 j.2.2 X Y (qo a) (qo l)).2=0:=λe=>by
  obtain⟨⟨z1,z2⟩,z3,z4⟩:=h.zero hj.ok hi.ok e;rw [a3,a4,z1,z2,z3,z4];exact⟨by grind,by grind⟩
 unfold Fm at jo ⊢
 by_cases hz:(fH v j.2.1 j.2.2 X Y (qo a) (qo l)).2=0/\(gl v j.2.1 j.2.2 X Y (qo a) (qo l)).2=0
 ·rw [if_pos hz] at jo ⊢;exact JL.of jo Rat.le_refl (Sz.zero.mono (v1 _)) b1 b2 (.inl ⟨rfl,hz⟩)
 ·rw [if_neg hz] at jo ⊢;obtain⟨vp,no⟩:=h.no hj.ok hi.ok λe=>hz (zz e)
  exact JL.of jo v0 sv' b1 b2 (.inr ⟨vp,no,hz⟩)
theorem wQ {u w b:Rat} (u0:0 < u) (w0:0 < w) (b0:b≠0) (h:rG u (ss b*w)):∃ σ,σ≠0/\w=σ*σ*u:=by
 obtain⟨d,e⟩:=h;have e2:=congrArg ab e;rw [oW u0,oW w0] at e2;have k:d / b*b=d:=Rat.div_mul_cancel b0;refine⟨d / b,λz=>?_,?_⟩
 ·rw [z,Rat.zero_mul] at k;rw [<- k,cy,Rat.zero_mul] at e;exact b0 ((jg w0).mp e.symm)
 ·generalize d / b=g at*
  subst k;have:b*b*(w - g*g*u)=0:=by grind
  have:=(MC.mp this).resolve_left (λy=>b0 (by rcases MC.mp y with y | y <;> exact y))
  grind
theorem Eo {c:Nat} {j i:Lj} (h4:c<=4) (hj:JL c j) (hi:JL c i) (n1:j.1≠0) (n2:i.1≠0) (no:fW (i.1 / j.1)):¬ Dp [jP j,jP i]:=λone=>by
 have all:∀ r∈[jP j,jP i],HB (vN c) r:=λr hr=>by
  simp only [Mt,ME,or_false] at hr;rcases hr with rfl | rfl
  ·exact hj.jo.pok
  ·exact hi.jo.pok
 obtain⟨u,hu,_,hR,_⟩:=wb (m:=vN c) (M1 (Kc h4) (by decide)) all one
 have rel:∀ k:Lj,k.1≠0->JL c k->jP k∈[jP j,jP i]->∃ σ,σ≠0/\k.1=σ*σ*u:=λk nk hk hm=>by
  obtain⟨h1,h2⟩:=hR _ hm;obtain⟨kp,_,nb⟩:=hk.ok.pos nk
  by_cases b0:k.2.1.2=0
  ·exact wQ hu.pos kp (λz=>nb ⟨b0,z⟩) h2
  ·exact wQ hu.pos kp b0 h1
 obtain⟨σ,s0,e1⟩:=rel j n1 hj (by simp)
 obtain⟨τ,t0,e2⟩:=rel i n2 hi (by simp)
 have up:=hu.pos;refine no (τ / σ) ?_;have k:τ / σ*σ=τ:=Rat.div_mul_cancel s0;have k2:i.1 / j.1*j.1=i.1:=Rat.div_mul_cancel n1;generalize τ / σ=g at*
 generalize i.1 / j.1=d at*
 rw [e1,e2,<- k] at k2;rw [e1] at n1;have:(σ*σ*u)*(g*g - d)=0:=by grind
 have:=(MC.mp this).resolve_left n1;grind
set_option maxHeartbeats 4000000
def LT (S:DH) (t:Tl) (d:D):Prop:=match t with
 | .pts ps=>∃ (q:Nl) (js:List Lj),d=.tup [.str "joints",.ref q]/\S q=some (.lst (js.map JD))/\js.map jP=ps/\∀ j∈js,JL 5 j
 | .fld=>d=.tup [.str "field",.non]
 | .stk n=>d=.tup [.str "stuck",.int (n:Nat)]
theorem BF {js:List Lj} {i:Nat} {j:Lj} (h:js[i]?=some j):L2.atI (js.map JD) ((i:Nat):Int)=some (JD j):=L2.h_ (by rw [MQ,h]; rfl)
def pf:cr:=λds S k=>∃ (ms:List aG) (os:List (Nm Rat)),ds=[MD ms,.tup (os.map wK)]/\Wf ms/\ms.length<=7/\j0 ms<=5/\os.length=ij ms/\(∀ o∈os,pF o)/\
 ∀ t d S',uL os [] 0 0 ms t->LT S' t d->bV S S'->k d S'
theorem bI:av ["machine","drives","joints","turn","number","step","more","one","other"] ["machine","drives"] (am kb):=ej
theorem uh (Fn:FN K "_law_stand" kb f fd) (fy:aZ P w K mg base "_law_crank_joint" 36 ip) (fU:aZ P w K mg base "_law_pair_joint" 37 iX) (fZ:aZ P w K mg base "_law_like_joint" 37 iZ) (c9:mg "enumerate"=none):
  aU P w K mg base cW 38 f fd ["machine","drives"] (cY K pf):=by
 refine Fn.okJ bI (λds S k h=>?_) (λcdv A outer s H E hr=>⟨_,(ag (aq (i:=2) bI.nd (cb ac)) (ag (aq (i:=3) bI.nd ah) (ag (nD PassesOwn.never rfl rfl c9 (aB 0 ac) (eQ (n:=2) rfl (aY (aJ (i:=4) bI.nd) (aY (aJ (i:=5) bI.nd) dy))) (ag (aE (aA fC (mO 5) bZ (aD _)) (ai (aq (i:=6) bI.nd (au (aa (au (aa (mO 5) (aa (au (aa ah (aa ah ac))) ac))) (aa (au (aa (mO 5) (aa (au (aa ah (aa ah ac))) ac))) (aa (au (aa ah (aa ah ac))) ac)))))) (ai (aE (aA fC (mO 5) bZ (aD _)) (ag (aq (i:=6) bI.nd (dq fy hr (aa (bh gN (aj 2) (mO 5) Zf) (aa (mO 5) (aa (bh gN (aj 1) (aj 3) Zf) ac))))) (ai (aq (i:=3) bI.nd (aH dF (aj 3) ah)))) (ai (aE (aA fC (mO 5) bZ (aD _)) (ag (oK (i:=7) (j:=8) rfl bI.nd (by decide) (aa (bh gN (aj 2) (mO 5) Zf) (aa (bh gN (aj 2) (mO 5) Zf) ac))) (ag (aE (WJ.pt (iC (aA xW (bh gN (mO 7) ah Zf) ah (aD _)) (gI (aA xW (bh gN (mO 8) ah Zf) ah (aD _))))) (ai (ar (au (aa bZ (aa cO ac))))) aL) (ag (aq (i:=6) bI.nd (dq fU hr (aB 7 (aB 8 (aa (mO 5) (aa (mO 5) (aa (mO 5) ac))))))) (ai (aE (aA wD (aj 6) cO (aD _)) (ai (ar (au (aa bZ (aB 4 ac))))) aL))))) (ag (aq (i:=6) bI.nd (dq fZ hr (aa (bh gN (aj 2) (mO 5) Zf) (aa (bh gN (aj 2) (mO 5) Zf) (aa (mO 5) (aa (mO 5) ac)))))) (ai (aE (aA wD (aj 6) cO (aD _)) (ai (ar (au (aa bZ (aa cO ac))))) aL)))))))) (ai (bf (eH (aj 2) (aj 6)))))) (ai (ar (au (aa bZ (aB 2 ac)))))))),λds S k h=>?_⟩)
 ·obtain⟨_,_,rfl,_⟩:=h
  rfl
 ·obtain⟨ms,os,rfl,hw,hl,hc,ho,hd,w⟩:=h;refine⟨a9,λq hq=>⟨(_,none),rfl,?_⟩⟩
  refine gh (λr L S'=>∃ (pre rs:List aG) (js:List Lj) (l4 l5 l6 l7 l8:Nm D),L=[some (MD ms),some (.tup (os.map wK)),some (.ref q),some (.int (ij pre:Nat)),l4,l5,l6,l7,l8]/\bV S S'/\S' q=some (.lst (js.map JD))/\r=mK pre.length (rs.map aG.d)/\ms=pre++rs/\vY os pre (js.map jP)/\∀ j∈js,JL (j0 pre) j) (λ_ _ _ _=>trivial) ?_ ?_ _ _ _ ⟨[],ms,[],none,none,none,none,none,rfl,bV.new hq,ak,rfl,rfl,.nil,λ_ h=>by cases h⟩
  ·rintro d r L S1 N1 ⟨pre,rs,js,l4,l5,l6,l7,l8,rfl,e1,h1,er,em,hst,hok⟩ hN;cases rs with
   | nil=>cases er
   | cons s rs=>
    rw [List.map_cons,uR] at er;cases er;have so:iK pre s:=by
     have:=hw pre.length s (by rw [em]; simp)
     rwa [em,List.take_left] at this
    have lp:=hst.len;rw [Mq] at lp;have lm:ms.length=pre.length+(rs.length+1):=by rw [em,MI]; rfl
    have em2:ms=(pre++[s])++rs:=by rw [em,List.append_assoc]; rfl
    have nxt:∀ (j:Lj) (S2:DH) (c3:Int) (l4 l5 l6 l7 l8:Nm D),c3=(ij (pre++[s]):Nat)->JR (js.map jP) os[ij pre]? s (jP j)->JL (j0 (pre++[s])) j->bV S S2->S2 q=some (.lst (js.map JD++[JD j]))->N1 [some (MD ms),some (.tup (os.map wK)),some (.ref q),some (.int c3),l4,l5,l6,l7,l8] S2:=λj S2 c3 l4 l5 l6 l7 l8 ec jr jo e2 h2=>
     hN _ _ ⟨pre++[s],rs,js++[j],l4,l5,l6,l7,l8,by rw [ec],e2,by rw [h2,List.map_append]; rfl,by rw [MI]; rfl,em2,by rw [List.map_append]; exact .snoc hst jr,λp hp=>by
      rcases List.mem_append.mp hp with h | h
      ·exact(hok p h).mono (by rw [fe]; omega)
      ·simp only [Mt,ME,or_false] at h; rw [h]; exact jo⟩
    have lt:(js.map JD).length < sizeLine:=by rw [Mq]; exact ly (by omega)
    have cc:j0 (pre++[s])<=5:=by
     have:j0 ms=j0 (pre++[s])+j0 rs:=by rw [em2]; unfold j0; rw [List.countP_append]
     omega
    have pm:∀ {i:Nat} {j:Lj},js[i]?=some j->(js.map jP)[i]?=some (jP j):=λ{i j} h=>by rw [MQ,h]; rfl
    refine⟨(_,none),rfl,rfl,rfl,?_⟩;cases s with
    | fix x y=>
     obtain⟨sx,sy⟩:Sz 9 x/\Sz 9 y:=so;refine⟨_,rfl,_,rfl,a9,a9,_,rfl,a9,a9,a9,a9,⟨_,h1⟩,_,h1,lt,?_⟩;exact nxt (0,qo x,qo y) _ _ _ _ _ _ _ (by rw [eK]; rfl) fK (JL.plain ((mr.plain ((Cd.of sx sy).mono (by decide))).mono (M_ _))) (e1.put hq) ak
    | crank i l=>
     obtain⟨⟨x,y,hi⟩,sl,_⟩:(∃ x y,pre[i]?=some (.fix x y))/\Sz 4 l/\0 < l:=so;have hp:=hst.fix hi;have hcr:ij pre < os.length:=by
      have:ij ms=ij (pre++[.crank i l])+ij rs:=by rw [em2]; unfold ij; rw [List.countP_append]
      rw [eK] at this;have:ij ms=ij pre+1+ij rs:=this;omega
     have ho2:os[ij pre]?=some os[ij pre]:=MN hcr;have dk:=hd _ (List.getElem_mem hcr);generalize os[ij pre]=o at ho2 dk
     obtain⟨sx,sy⟩:Sz 9 x/\Sz 9 y:=by
      have hlt:=(MX.mp hi).1;have:=hw i _ (by rw [em,List.getElem?_append_left hlt]; exact hi)
      exact this
     have hil:i < js.length:=by
      have:=(MX.mp hi).1;omega
     have gi:js[i]?=some js[i]:=MN hil;generalize js[i]=j at gi;have ep:jP j=((x,0),(y,0)):=by
      have:=pm gi;rw [hp] at this;exact(MT this).symm
     have ex:j.2.1.1=x:=congrArg (λp:Pt=>p.1.1) ep
     have ey:j.2.2.1=y:=congrArg (λp:Pt=>p.2.1) ep
     refine⟨_,rfl,⟨_,rfl,_,rfl,_,_,h1,BF gi,_,rfl,_,yH ho2,j,l,o,rfl,by rw [ex]; exact sx.mono (by decide),by rw [ey]; exact sy.mono (by decide),sl,dk,⟨_,h1⟩,_,h1,lt,?_⟩⟩
     refine nxt (0,qo (j.2.1.1+rK o*l),qo (j.2.2.1+tO o*l)) _ _ _ _ _ _ _ (by rw [eK]; rfl) ?_ ?_ (e1.put hq) ak
     ·rw [ex,ey];exact⟨_,o,hp,ho2,fK⟩
     ·rw [ex,ey];exact JL.plain ((mr.plain (Cd.crank sx sy sl dk)).mono (M_ _))
    | pair i j s t v=>
     obtain⟨hi,hj,_,ss',st,_,_,hv⟩:i < pre.length/\j < pre.length/\i≠j/\Sz 8 s/\Sz 8 t/\0 < s/\0 < t/\(v=0\/v=1):=so;obtain⟨v,rfl⟩:=Int.eq_ofNat_of_zero_le (show 0<=v by omega)
     have c4:j0 pre<=4:=by rw [fe] at cc; have:j0 pre+1<=5:=cc; omega
     have gi:js[i]?=some js[i]:=MN (by omega)
     have gj:js[j]?=some js[j]:=MN (by omega)
     have ki:=hok _ (List.mem_of_getElem? gi);have kj:=hok _ (List.mem_of_getElem? gj);generalize js[i]=p1 at gi ki
     generalize js[j]=p2 at gj kj
     have v2:v < 2:=by omega
     have fl:¬ (p1.1=0/\p2.1=0)->k (.tup [.str "field",.non]) S1:=λn=>w .fld _ S1 (by rw [em]; exact hst.run (.fld ⟨jP p1,jP p2,pm gi,pm gj,λh=>n ⟨ki.pl.mp h.1,kj.pl.mp h.2⟩⟩)) rfl e1
     refine⟨_,rfl,⟨_,rfl,⟨_,rfl,_,rfl,_,_,h1,BF gi,_,rfl,_,_,h1,BF gj,_,rfl,_,rfl,cZ (λn=>vg ⟨a9,fl λh=>n (by rw [h.1]; rfl)⟩) (λz1=>⟨_,rfl,_,rfl,cZ (λn=>⟨a9,fl λh=>n (by rw [h.2]; rfl)⟩) (λz2=>?_)⟩)⟩⟩⟩
     have z1:p1.1=0:=Nh.mp z1;have z2:p2.1=0:=Nh.mp z2;have q1:=ki.pl.mpr z1;have q2:=kj.pl.mpr z2;have ep1:=ki.eq0 z1;have ep2:=kj.eq0 z2;generalize p1.2.1.1=x at ep1;generalize p1.2.2.1=y at ep1;generalize p2.2.1.1=z at ep2;generalize p2.2.2.1=u at ep2;subst ep1 ep2;have f1:jP (0,qo x,qo y)=((x,0),(y,0)):=fK;have f2:jP (0,qo z,qo u)=((z,0),(u,0)):=fK;have pi:=pm gi;have pj:=pm gj;have oi:=ki.jo;have oj:=kj.jo;rw [f1] at pi oi q1
     rw [f2] at pj oj q2
     have cz:C0 x y s z u t:=BN (Ln c4) oi.cd oj.cd ss' st;have cg:=λh0=>AK (x:=x) (y:=y) (z:=z) (v:=u) (s:=s) (r:=t) oi.cd oj.cd ss'.num ss'.den st.num st.den h0
     have pv:=yW c4;have stk:aP ((x,0),(y,0)) ((z,0),(u,0))=0\/gG ((x,0),(y,0)) ((z,0),(u,0)) s t=[]->k (.tup [.str "stuck",.int (pre.length:Nat)]) S1:=λh=>w (.stk pre.length) _ S1 (by rw [em]; exact hst.run (.stk (EE.mpr ⟨_,_,pi,pj,q1,q2,h⟩))) rfl e1
     have fin:∀ (j':Lj) (S2:DH) (l4 l5 l6 l7 l8:Nm D),bV S1 S2->aP ((x,0),(y,0)) ((z,0),(u,0))≠0->gG ((x,0),(y,0)) ((z,0),(u,0)) s t≠[]->(some (jP j')=if (gG ((x,0),(y,0)) ((z,0),(u,0)) s t).length=2 then(gG ((x,0),(y,0)) ((z,0),(u,0)) s t)[v]? else(gG ((x,0),(y,0)) ((z,0),(u,0)) s t)[0]?)->(mr (j0 pre+1) (jP j')->JL (j0 pre+1) j')->N1 [some (MD ms),some (.tup (os.map wK)),some (.ref q),some (.int (ij pre:Nat)),l4,l5,l6,l7,l8] (put S2 q (.lst (js.map JD++[JD j']))):=λj' S2 l4 l5 l6 l7 l8 e2 a0 n e jl=>by
      obtain⟨jr,jo⟩:=Cb (o:=os[ij pre]?) c4 pi pj oi oj q1 q2 ss' st v2 a0 n e;exact nxt j' _ _ _ _ _ _ _ (by rw [eK]; rfl) jr (by rw [fe]; exact jl jo) ((e1.trans e2).put hq) ak
     refine⟨_,rfl,_,rfl,_,rfl,x,y,z,u,s,t,(v:Nat),rfl,cz,by omega,λa0=>⟨a9,stk (.inl a0)⟩,λa0 e0=>⟨a9,stk (.inr (Je e0))⟩,λa0 e0=>?_,λa0 no e0=>?_,λa0 e0 ρ r0 rr S2 e2=>?_⟩
     ·refine⟨⟨_,h1⟩,_,h1,lt,fin _ S1 _ _ _ _ _ (bV.refl S1) a0 (by rw [AF e0]; exact List.cons_ne_nil _ _) (Ad e0) λjo=>?_⟩
      rw [show jP _=_ from fK] at jo
      exact JL.plain jo
     ·refine⟨⟨_,h1⟩,_,h1,lt,fin _ S1 _ _ _ _ _ (bV.refl S1) a0 (by rw [zd e0]; exact List.cons_ne_nil _ _) (DC v2 e0 no) λjo=>?_⟩
      obtain⟨a1,a2,_,a4,_⟩:=cg a0;have sτ:Sz 1 ((1 - 2*(v:Int):Int):Rat):=by
       rcases rh v2 with ⟨_,e⟩ | ⟨_,e⟩ <;> rw [e] <;> exact⟨by decide,by decide⟩
      have nτ:((1 - 2*(v:Int):Int):Rat)≠0:=by
       rcases rh v2 with ⟨_,e⟩ | ⟨_,e⟩ <;> rw [e] <;> decide
      have s0:Sz 1 (0:Rat):=Sz.zero;refine JL.of jo (Rat.le_of_lt e0) (a4.mono (by omega)) ((sτ.mul (s0.sub a2)).mono (by omega)) ((sτ.mul a1).mono (by omega)) (.inr ⟨e0,no,λ⟨b1,b2⟩=>a0 ?_⟩)
      have r1:=(MC.mp b1).resolve_left nτ;have r2:=(MC.mp b2).resolve_left nτ;have r3:u - y=0:=by grind
      show(z - x)*(z - x)+(u - y)*(u - y)=0
      rw [r2,r3];grind
     ·refine⟨⟨_,e2 _ _ h1⟩,_,e2 _ _ h1,lt,fin _ S2 _ _ _ _ _ e2 a0 (by rw [zd e0]; exact List.cons_ne_nil _ _) (DR v2 e0 r0 rr) λjo=>?_⟩
      rw [show jP _=_ from fK] at jo
      exact JL.plain jo
    | like i j a l=>
     obtain⟨hi,hj,_,sa,sl⟩:i < pre.length/\j < pre.length/\i≠j/\Sz 4 a/\Sz 4 l:=so;have c4:j0 pre<=4:=by rw [fe] at cc; have:j0 pre+1<=5:=cc; omega
     have gi:js[i]?=some js[i]:=MN (by omega)
     have gj:js[j]?=some js[j]:=MN (by omega)
     have ki:=hok _ (List.mem_of_getElem? gi);have kj:=hok _ (List.mem_of_getElem? gj);generalize js[i]=p1 at gi ki
     generalize js[j]=p2 at gj kj
     have v6:vN (j0 pre)<=620000:=M1 (Kc c4) (by decide)
     refine⟨_,rfl,⟨_,rfl,⟨_,rfl,_,rfl,_,_,h1,BF gi,_,rfl,_,_,h1,BF gj,_,rfl,_,rfl,p1,p2,a,l,rfl,ki.ok.mono v6,kj.ok.mono v6,sa,sl,λn1 n2 no=>⟨a9,?_⟩,λv X Y hJ S2 e2=>⟨⟨_,e2 _ _ h1⟩,_,e2 _ _ h1,lt,?_⟩⟩⟩⟩
     ·exact w .fld _ S1 (by rw [em]; exact hst.run (.fld ⟨jP p1,jP p2,pm gi,pm gj,Eo c4 ki kj n1 n2 no⟩)) rfl e1
     ·obtain⟨u,u0,hu,eu⟩:=zx (a:=a) (l:=l) hJ ki.ok kj.ok;exact nxt (Fm v p1 X Y a l) _ _ _ _ _ _ _ (by rw [eK]; rfl) ⟨jP p1,jP p2,u,pm gi,pm gj,u0,hu,eu⟩ (by rw [fe]; exact EU c4 hJ ki kj sa sl) ((e1.trans e2).put hq) ak
  ·rintro L S1 ⟨pre,rs,js,l4,l5,l6,l7,l8,rfl,e1,h1,er,em,hst,hok⟩;cases rs with
   | cons s rs=>cases er
   | nil=>
    rw [MJ] at em;subst em;have r:=hst.run .nil;rw [MJ] at r;exact⟨a9,w _ _ S1 r ⟨q,js,rfl,h1,rfl,λj hj=>(hok j hj).mono hc⟩ e1⟩
set_option maxHeartbeats 4000000
theorem sW {S S':DH} {d:D} {q:List D×Nm Nl} (x:bV S S') (h:aS S d=some q):aS S' d=some q:=by
 cases d with
 | ref a=>
  simp only [aS] at h ⊢
  split at h
  ·rename_i z; rw [x _ _ z]; exact h
  ·cases h
 | _=>exact h
theorem uN {S S':DH} {q:List D×Nm Nl} (x:bV S S') (h:dG q S):dG q S':=by
 obtain⟨ds,o⟩:=q;cases o with
 | none=>trivial
 | some a=>exact x _ _ h
theorem zw {S S':DH} {d:D} {t:Ty} (x:bV S S') (h:Fc S d=some t):Fc S' d=some t:=by
 cases d with
 | ref a=>
  have h:HY (S a)=some t:=h
  show HY (S' a)=some t
  cases z:S a with
  | none=>rw [z] at h; cases h
  | some o=>rw [x _ _ z,<- z]; exact h
 | _=>exact h
def KN:D->Prop
 | .int _=>True | .non=>True | .bl _=>True | .str _=>True | _=>False
def iP:Nat->DH->D->D->Prop
 | 0,_,_,_=>False
 | n+1,S,f,d=>(KN d/\f=d)\/∃ (t:Ty) (q r:List D×Nm Nl),(t=.tup\/t=.lst)/\Fc S f=some t/\Fc S d=some t/\aS S f=some q/\aS S d=some r/\q.1.length=r.1.length/\q.1.length<=1000/\
   ∀ (i:Nat) x y,q.1[i]?=some x->r.1[i]?=some y->iP n S x y
theorem iP.ext {S S':DH} (e:bV S S'):∀ {n:Nat} {f d:D},iP n S f d->iP n S' f d
 | 0,_,_,h=>h
 | n+1,_,_,h=>h.elim .inl λ⟨t,q,r,h1,h2,h3,h4,h5,h6,h7,h8⟩=>.inr ⟨t,q,r,h1,zw e h2,zw e h3,sW e h4,sW e h5,h6,h7,λi x y a b=>(h8 i x y a b).ext e⟩
def dj:Nat->cr
 | n=>λds S k=>match ds with | [f,d]=>iP n S f d/\∀ S',bV S S'->k (.bl true) S' | _=>False
theorem Fl {n:Nat} {S:DH} {p:Nl} {ok:DH->Prop} {k:DK} (hp:S p=none) (hok:∀ S',bV S S'->ok S') (kk:∀ S2 m',bV S S2->S2 p=some (.lst (List.map D.bl (List.replicate m' true)))->k (.ref p) S2):
  ∀ (eJ:List D) (m:Nat) (l0 l1:Nm D) (S1:DH),bV S S1->S1 p=some (.lst (List.map D.bl (List.replicate m true)))->m+eJ.length<=1000->(∀ c∈eJ,∃ x y,c=.tup [x,y]/\iP n S x y)->
   dH ok p (yj 2 (tj (jn 0) (tj (jn 1) AL))) (lU (ls (dj n) (cH (fG 0) (cH (fG 1) ku)))) k eJ (List.map D.bl (List.replicate m true)) [l0,l1] S1
 | [],m,l0,l1,S1,e,h1,_,_=>⟨hok S1 e,kk S1 m e h1⟩
 | c::eJ,m,l0,l1,S1,e,h1,hm,al=>by
  obtain⟨x,y,rfl,h⟩:=al c Mv;have hm':m+(eJ.length+1)<=1000:=hm;refine⟨hok _ e,([x,y],none),rfl,rfl,?_⟩;refine⟨rfl,h.ext e,λS2 e2=>⟨e2 _ _ h1,?_,?_⟩⟩
  ·rw [Mq,List.length_replicate];exact Mz (by omega:m < 1000) (MF rfl)
  ·have ea:List.map D.bl (List.replicate m true)++[D.bl true]=List.map D.bl (List.replicate (m+1) true):=by rw [List.replicate_succ',List.map_append]; rfl
   rw [ea];exact Fl hp hok kk eJ (m+1) _ _ _ ((e.trans e2).put hp) ak (by omega) λc hc=>al c (Mw _ hc)
theorem CY {S:DH} {f:D} {q:List D×Nm Nl} {k:DK} (h:aS S f=some q) (w:k (.int q.1.length) S):CH [f] S k:=by
 cases f with
 | tup ds=>cases h; exact w
 | rl ds=>cases h; exact w
 | ref a=>
  simp only [aS] at h
  split at h
  ·rename_i z; cases h; exact⟨_,z,w⟩
  ·cases h
 | _=>cases h
theorem Db (b:Nw):DL.qD 8 (.bl b) (.bl b)=some true:=by cases b <;> rfl
theorem lW (ds:List D) (S:DH) (k:DK) (h:dj 0 ds S k):False:=by
 unfold dj at h
 split at h
 ·exact h.1
 ·exact h
theorem vK:av ["found","due"] ["found","due"] (am jd):=ej
theorem vB {lm n:Nat} (HS:aZ P w K mg base "_law_same" lm (dj n)) (Fn:FN K "_law_same" jd f fd) (aK:mg "isinstance"=none) (lK:mg "list"=none) (c_:mg "tuple"=none) (dP:mg "len"=none) (uB:mg "all"=none) (oo:mg "zip"=none) (m_:mg "bool"=none):
  aU P w K mg base cW (lm+1) f fd ["found","due"] (cY K (dj (n+1))):=by
 refine Fn.okJ vK (λds S k h=>?_) (λcdv A outer s H E hr=>⟨_,(ag (aE (cV (aQ nE rfl aK aT (aB 1 (aa (au (aa (n_ (n:=.tup) rfl c_ jH) (aa (n_ (n:=.lst) rfl lK vt) ac))) ac)))) (ag (aE (WJ.pt (iC (aA (Bg hr) (aQ nE rfl aK aT (aB 0 (aa (n_ (n:=.tup) rfl c_ jH) ac))) (aQ nE rfl aK aT (aB 1 (aa (n_ (n:=.tup) rfl c_ jH) ac))) (aD _)) (gI (aA (Bg hr) (aQ nE rfl aK aT (aB 0 (aa (n_ (n:=.lst) rfl lK vt) ac))) (aQ nE rfl aK aT (aB 1 (aa (n_ (n:=.lst) rfl lK vt) ac))) (aD _))))) (ai (ar oy)) aL) (ag (aE (aA (Bg hr) (aQ jp rfl dP jD (aB 0 ac)) (aQ jp rfl dP jD (aB 1 ac)) (aD _)) (ai (ar oy)) aL) (ai (ar (aQ GE rfl uB GK (aa (B_ rfl (kM (N:=["one","other"]) (cap:=[none,none]) rfl rfl rfl rfl trivial rfl rfl trivial) rfl oo (aB 0 (aB 1 ac)) (λ_ _ _ _=>(eQ (n:=2) rfl (aY (aJ (i:=0) (show List.Nodup (["one","other"]:List Str) from by decide +kernel)) (aY (aJ (i:=1) (show List.Nodup (["one","other"]:List Str) from by decide +kernel)) dy)))) (λ_ _ _ _=>(y9 HS (hr.mono (Mp _)) rfl (aB 0 (aB 1 ac))))) ac)))))) aL) (ai (ar (BV (qA (E_ hr) (aj 0) (aj 1) (aD _)) (yy (qA (E_ hr) (aQ nE rfl aK aT (aB 0 (aa (n_ (n:=.bool) rfl m_ yQ) ac))) (aQ nE rfl aK aT (aB 1 (aa (n_ (n:=.bool) rfl m_ yQ) ac))) (aD _))))))),λds S k h=>?_⟩)
 ·unfold dj at h
  split at h
  ·rfl
  ·exact h.elim
 ·unfold dj at h
  split at h
  ·obtain⟨h,w⟩:=h
   rename_i fv dv
   unfold iP at h;rcases h with ⟨lf,rfl⟩ | ⟨t,q,r,ht,hf,hd,e1,e2,hl,hz,al⟩
   ·have e8:qD 8 fv fv=some true:=by
     cases fv with
     | int i=>show some (decide (i=i))=some true; simp
     | non=>rfl
     | bl b=>cases b <;> rfl
     | str x=>show some (decide (x=x))=some true; simp
     | _=>exact lf.elim
    obtain⟨t,hd,nt⟩:∃ t,Fc S fv=some t/\[Ty.tup,Ty.lst].any (xt t)=false:=by
     cases fv with
     | int i=>exact⟨_,rfl,rfl⟩
     | non=>exact⟨_,rfl,rfl⟩
     | bl b=>exact⟨_,rfl,rfl⟩
     | str x=>exact⟨_,rfl,rfl⟩
     | _=>exact lf.elim
    refine⟨a9,t,[.tup,.lst],hd,rfl,n9 (λe=>by rw [nt] at e; cases e) (λ_=>?_)⟩
    refine⟨true,e8,n9 (λ_=>?_) (λe=>by cases e)⟩
    refine⟨t,hd,t,hd,?_⟩;exact⟨true,Db _,w S (bV.refl S)⟩
   ·refine⟨a9,t,[.tup,.lst],hd,rfl,n9 (λ_=>?_) (λe=>by rcases ht with rfl | rfl <;> cases e)⟩
    refine⟨t,hf,t,hd,true,Db _,n9 (λe=>by cases e) (λ_=>⟨t,hf,t,hd,true,Db _,n9 (λe=>by cases e) (λ_=>?_)⟩)⟩
    dsimp only [B5,oQ,Gd,tS,t4,ls,cH,fG,ku,List.map_cons,List.map_nil,List.cons_append,List.nil_append,List.getElem?_cons_zero,List.getElem?_cons_succ];refine CY e1 ?_;refine CY e2 ?_;refine⟨true,?_,n9 (λe=>by cases e) (λ_=>?_)⟩
    ·rw [hl]
     show some ((_:Int) == _)=some true
     simp
    ·refine⟨q,r,e1,e2,λp hp=>?_⟩
     refine Fl (S:=S) hp (λS' e=>⟨uN e (wo e1),uN e (wo e2)⟩) (λS2 m e h=>?_) _ 0 none none _ (bV.new hp) ak ?_ ?_
     ·refine⟨(List.map D.bl (List.replicate m true),some p),List.replicate m true,by simp only [aS,h],rfl,?_⟩
      have ea:(List.replicate m true).all id=true:=by simp
      rw [ea];exact w S2 e
     ·unfold tX;rw [List.length_zipWith];omega
     ·intro c hc;obtain⟨i,hi,rfl⟩:=List.mem_iff_getElem.mp hc;unfold tX at hi ⊢;rw [List.length_zipWith] at hi;rw [List.getElem_zipWith];exact⟨_,_,rfl,al i _ _ (MN _) (MN _)⟩
  ·exact h.elim
theorem ow {P:Np} {w:Nr} {K:Fg} {mg:Str->Nm Nk} {base:Nt} {f:Nl} {fd:FuncData} (Fn:FN K "_law_same" jd f fd) (hm:mg "_law_same"=some (.ref f)) (hb:gM K fd ["found","due"] []) (aK:mg "isinstance"=none) (lK:mg "list"=none) (c_:mg "tuple"=none) (dP:mg "len"=none) (uB:mg "all"=none) (oo:mg "zip"=none) (m_:mg "bool"=none):∀ n,aU P w K mg base cW n f fd ["found","due"] (cY K (dj n))
 | 0=>⟨λ_ _ _ _ ⟨ds,S,k,_,_,h,_⟩=>(lW ds S k h).elim,λ_ _ _ _ _ _ _ _ _ _ _ _ _ ⟨ds,S,k,_,_,h,_⟩=>(lW ds S k h).elim⟩
 | n+1=>vB (aZ.mk' Fn (ow Fn hm hb aK lK c_ dP uB oo m_ n) hm hb) Fn aK lK c_ dP uB oo m_
set_option maxHeartbeats 4000000
theorem yd {S S1 S2:DH} (a:∀ b o,S b=some o->S1 b=some o) (b:∀ b o,S1 b=some o->S2 b=some o):∀ b o,S b=some o->S2 b=some o:=λc o h=>b c o (a c o h)
theorem pR {S:DH} {p:Nl} {o:DO} (h:S p=none):∀ b u,S b=some u->put S p o b=some u:=λb u e=>by
 unfold put
 split
 ·rename_i z; subst z; rw [h] at e; cases e
 ·exact e
theorem cA:av ["call","error","e","kinds"] ["call"] (am iJ):=ej
theorem ra {io iy az fA aV k_ eB kA gF aM:Nl} {cells:List (Nl×Nz)} (Fn:FN K "_law_refused" iJ f fd) (aK:mg "isinstance"=none) (j5:mg "ValueError"=none) (dW:mg "range"=none) (mY:mg "RodError"=some (.ref gF)) (tK:mg "NoRoot"=some (.ref kA)) (eS:mg "NoField"=some (.ref az)) (ko:mg "NoQuotient"=some (.ref eB)) (lL:mg "NoMachine"=some (.ref fA)) (il:mg "Stuck"=some (.ref aM)) (gn:mg "NoMeet"=some (.ref aV)) (qv:mg "BadNote"=some (.ref io)) (rH:mg "NoName"=some (.ref k_)) (pL:mg "NoCurve"=some (.ref iy)) (hR:∀ j C,(j,C)∈[(1,az),(4,aM)]->Jo K (.ref gF) [eB,az,kA,aV,aM,fA,iy,k_,io] j C):
  rQ cells P w K mg base cW 44 f fd ["call"] (cY K (Aw [(1,az),(4,aM)] 43 P w K mg base cells)):=by
 refine Fn.okP cA (λds S k h=>?_) (λcdv A outer s H E hr hce=>⟨_,(ag (aq (i:=1) cA.nd cO) (ag (BL (j:=0) (i:=2) hce (hr.mono (Mp _)) (λ_=>hr.hd) rfl rfl rfl rfl (.inl rfl) rfl mY cA.nd rfl rfl (λv=>(ai (aq (i:=1) cA.nd (aj 2))))) (ag (aq (i:=3) cA.nd (cb (aa (aQ jA rfl aK aT (aB 1 (aa (j_ ko rfl) ac))) (aa (aQ jA rfl aK aT (aB 1 (aa (j_ eS rfl) ac))) (aa (aQ jA rfl aK aT (aB 1 (aa (j_ tK rfl) ac))) ac))))) (ag (aq (i:=3) cA.nd (aH dF (aj 3) (cb (aa (aQ jA rfl aK aT (aB 1 (aa (j_ gn rfl) ac))) (aa (aQ jA rfl aK aT (aB 1 (aa (j_ il rfl) ac))) (aa (aQ jA rfl aK aT (aB 1 (aa (j_ lL rfl) ac))) ac)))))) (ag (aq (i:=3) cA.nd (aH dF (aj 3) (cb (aa (aQ jA rfl aK aT (aB 1 (aa (j_ pL rfl) ac))) (aa (aQ jA rfl aK aT (aB 1 (aa (j_ rH rfl) ac))) (aa (aQ jA rfl aK aT (aB 1 (aa (j_ qv rfl) ac))) ac)))))) (ag (aE (f_ (cV (aQ jA rfl aK aT (aB 1 (aa (n_ (n:=.verr) rfl j5 uy) ac))))) (ai (ar cO)) aL) (ai (ar (yu rfl (kM (N:=["k","kinds"]) (cap:=[none,some 3]) rfl rfl rfl rfl ⟨rfl,trivial⟩ rfl rfl ⟨⟨rfl,.inl rfl,.inl rfl⟩,trivial⟩) rfl dW (aa ah ac) (λ_ _ _ _=>(aJ (i:=0) (show List.Nodup (["k","kinds"]:List Str) from by decide +kernel))) (λ_ _ _ _=>(cV (bh cj (aj 1) (aj 0) Zf))) (λ_ _ _ _=>(aj 0))))))))))),λds S k h=>?_⟩)
 ·obtain⟨_,_,_,_,rfl,_⟩:=h
  rfl
 ·obtain⟨g,φ,j,C,rfl,hg,hf,hj,w⟩:=h;have R:=hR j C hj;refine⟨g,C,φ,rfl,hg,hf,R.rod,λea S1 e1 hea=>?_⟩
  have q1:put S1 ea (.exc C) ea=some (.exc C):=ak;have x1:∀ b o,S b=some o->put S1 ea (.exc C) b=some o:=yd e1 (pR hea);generalize put S1 ea (.exc C)=T1 at q1 x1 ⊢
  refine⟨C,_,q1,R.exc,R.kit 0 _ rfl,C,_,q1,R.exc,R.kit 1 _ rfl,C,_,q1,R.exc,R.kit 2 _ rfl,a9,λp1 h1=>?_⟩
  have y1:=ak (S:=T1) (a:=p1) (o:=.lst [.bl (decide (0=j)),.bl (decide (1=j)),.bl (decide (2=j))]);have q2:=pR (o:=.lst [.bl (decide (0=j)),.bl (decide (1=j)),.bl (decide (2=j))]) h1 _ _ q1;have x2:=yd x1 (pR (o:=.lst [.bl (decide (0=j)),.bl (decide (1=j)),.bl (decide (2=j))]) h1);generalize put T1 p1 _=T2 at y1 q2 x2 ⊢
  refine⟨C,_,q2,R.exc,R.kit 3 _ rfl,C,_,q2,R.exc,R.kit 4 _ rfl,C,_,q2,R.exc,R.kit 5 _ rfl,a9,λp2 h2=>?_⟩
  have y2:=ak (S:=T2) (a:=p2) (o:=.lst [.bl (decide (3=j)),.bl (decide (4=j)),.bl (decide (5=j))]);have y1':=pR (o:=.lst [.bl (decide (3=j)),.bl (decide (4=j)),.bl (decide (5=j))]) h2 _ _ y1;have q3:=pR (o:=.lst [.bl (decide (3=j)),.bl (decide (4=j)),.bl (decide (5=j))]) h2 _ _ q2;have x3:=yd x2 (pR (o:=.lst [.bl (decide (3=j)),.bl (decide (4=j)),.bl (decide (5=j))]) h2);generalize put T2 p2 _=T3 at y2 y1' q3 x3 ⊢
  refine⟨_,_,y1',y2,a9 (ds:=[.bl true,.bl true,.bl true,.bl true,.bl true,.bl true]),λp3 h3=>?_⟩
  have y3:=ak (S:=T3) (a:=p3) (o:=.lst [.bl (decide (0=j)),.bl (decide (1=j)),.bl (decide (2=j)),.bl (decide (3=j)),.bl (decide (4=j)),.bl (decide (5=j))]);have q4:=pR (o:=.lst [.bl (decide (0=j)),.bl (decide (1=j)),.bl (decide (2=j)),.bl (decide (3=j)),.bl (decide (4=j)),.bl (decide (5=j))]) h3 _ _ q3;have x4:=yd x3 (pR (o:=.lst [.bl (decide (0=j)),.bl (decide (1=j)),.bl (decide (2=j)),.bl (decide (3=j)),.bl (decide (4=j)),.bl (decide (5=j))]) h3);dsimp only [List.cons_append,List.nil_append];generalize put T3 p3 _=T4 at y3 q4 x4 ⊢
  refine⟨C,_,q4,R.exc,R.kit 6 _ rfl,C,_,q4,R.exc,R.kit 7 _ rfl,C,_,q4,R.exc,R.kit 8 _ rfl,a9,λp4 h4=>?_⟩
  have y4:=ak (S:=T4) (a:=p4) (o:=.lst [.bl (decide (6=j)),.bl (decide (7=j)),.bl (decide (8=j))]);have y3':=pR (o:=.lst [.bl (decide (6=j)),.bl (decide (7=j)),.bl (decide (8=j))]) h4 _ _ y3;have q5:=pR (o:=.lst [.bl (decide (6=j)),.bl (decide (7=j)),.bl (decide (8=j))]) h4 _ _ q4;have x5:=yd x4 (pR (o:=.lst [.bl (decide (6=j)),.bl (decide (7=j)),.bl (decide (8=j))]) h4);generalize put T4 p4 _=T5 at y4 y3' q5 x5 ⊢
  refine⟨_,_,y3',y4,a9 (ds:=[.bl true,.bl true,.bl true,.bl true,.bl true,.bl true,.bl true,.bl true,.bl true]),λp5 h5=>?_⟩
  dsimp only [List.cons_append,List.nil_append];have y5:=ak (S:=T5) (a:=p5) (o:=.lst [.bl (decide (0=j)),.bl (decide (1=j)),.bl (decide (2=j)),.bl (decide (3=j)),.bl (decide (4=j)),.bl (decide (5=j)),.bl (decide (6=j)),.bl (decide (7=j)),.bl (decide (8=j))]);have q6:=pR (o:=.lst [.bl (decide (0=j)),.bl (decide (1=j)),.bl (decide (2=j)),.bl (decide (3=j)),.bl (decide (4=j)),.bl (decide (5=j)),.bl (decide (6=j)),.bl (decide (7=j)),.bl (decide (8=j))]) h5 _ _ q5;have x6:=yd x5 (pR (o:=.lst [.bl (decide (0=j)),.bl (decide (1=j)),.bl (decide (2=j)),.bl (decide (3=j)),.bl (decide (4=j)),.bl (decide (5=j)),.bl (decide (6=j)),.bl (decide (7=j)),.bl (decide (8=j))]) h5);generalize put T5 p5 _=T6 at y5 q6 x6 ⊢
  refine⟨C,_,q6,R.exc,R.val,nc (λz=>by cases z) (λ_=>?_)⟩
  refine⟨⟨by decide,by decide⟩,λp hp=>?_⟩
  have hb:∀ i:Nat,i < 9->[D.bl (decide (0=j)),.bl (decide (1=j)),.bl (decide (2=j)),.bl (decide (3=j)),.bl (decide (4=j)),.bl (decide (5=j)),.bl (decide (6=j)),.bl (decide (7=j)),.bl (decide (8=j))][i]?=some (.bl (decide (i=j))):=λi hi=>by
   match i,hi with
   | 0,_=>rfl
   | 1,_=>rfl
   | 2,_=>rfl
   | 3,_=>rfl
   | 4,_=>rfl
   | 5,_=>rfl
   | 6,_=>rfl
   | 7,_=>rfl
   | 8,_=>rfl
  have z:=sR (k:=k) hp y5 hb R.lt (λS2 e2 h=>w p S2 (yd x6 e2) h) 9 0 none rfl
  rw [if_neg (Nat.not_lt_zero j)] at z;rw [G8];exact z
set_option maxHeartbeats 4000000
theorem BA {n:Nat} {S:DH} {xs:List D} (hl:xs.length<=1000) (h:∀ x∈xs,iP n S x x):iP (n+1) S (.tup xs) (.tup xs):=
 .inr ⟨.tup,(xs,none),(xs,none),.inl rfl,rfl,rfl,rfl,rfl,rfl,hl,λi x y a b=>by
  have e:some x=some y:=a.symm.trans b;cases e;exact h x (List.mem_of_getElem? a)⟩
theorem tH {n:Nat} {S:DH} {i:Int}:iP (n+1) S (.int i) (.int i):=.inl ⟨trivial,rfl⟩
theorem oz {n:Nat} {S:DH} {x y:D} (h1:iP n S x x) (h2:iP n S y y):iP (n+1) S (.tup [x,y]) (.tup [x,y]):=BA (by show 2<=1000; decide) λz hz=>by
 simp only [Mt,ME,or_false] at hz;rcases hz with rfl | rfl
 ·exact h1
 ·exact h2
theorem rj {n:Nat} {S:DH} {q:Rat}:iP (n+2) S (fr q) (fr q):=oz tH tH
theorem Be {s:aG} {rs:List aG}:ij (s::rs)=ij rs+if s.isCr=true then 1 else 0:=by unfold ij; rw [List.countP_cons]
def mJ:cr:=λds S k=>∃ (a:Nl) (ms:List aG),ds=[.ref a,MD ms]/\sL S a/\ms.length<=7/\∀ (os:List (Nm Rat)) S',os.length=ij ms->(∀ o∈os,pF o)->Dr a S S'->k (.tup (os.map wK)) S'
theorem iL:av ["state","machine","found","step"] ["state","machine"] (am jv):=ej
theorem sD (Fn:FN K "_law_drives" jv f fd) (aX:aZ P w K mg base "_law_small" 35 ic) (aC:aZ P w K mg base "_law_take" 1 dE) (c_:mg "tuple"=none):
  aU P w K mg base cW 36 f fd ["state","machine"] (cY K mJ):=by
 refine Fn.okJ iL (λds S k h=>?_) (λcdv A outer s H E hr=>⟨_,(ag (aq (i:=2) iL.nd (cb ac)) (ag (gw PassesOwn.never rfl (aj 1) (aJ (i:=3) iL.nd) (ai (aE (aA fC (mO 3) bZ (aD _)) (ai (bf (eH (aj 2) (bh gN (cb (aa cO (aa (dq aX hr (aB 0 ac)) (aa (dq aX hr (aB 0 ac)) (aa (dq aX hr (aB 0 ac)) ac))))) (dq aC hr (aB 0 (aa ah ac))) Zf)))) aL))) (ai (ar (oS wm rfl c_ jH (aB 2 ac)))))),λds S k h=>?_⟩)
 ·obtain⟨_,_,rfl,_⟩:=h
  rfl
 ·obtain⟨a,ms,rfl,hS,hl,w⟩:=h;refine⟨a9,λq hq=>⟨(ms.map aG.d,none),rfl,?_⟩⟩
  have qa:=hS.ne hq;refine gh (λr L S'=>∃ (rs:List aG) (os:List (Nm Rat)) (l3:Nm D),L=[some (.ref a),some (MD ms),some (.ref q),l3]/\Dr a S S'/\S' q=some (.lst (os.map wK))/\r=rs.map aG.d/\os.length+ij rs=ij ms/\os.length+rs.length<=7/\∀ o∈os,pF o) (λ_ _ _ _=>trivial) ?_ ?_ _ _ _ ⟨ms,[],none,rfl,Dr.new hS hq,ak,rfl,Nat.zero_add _,by show 0+ms.length<=7; omega,λ_ h=>by cases h⟩
  ·rintro d r L S1 N1 ⟨rs,os,l3,rfl,d1,h1,er,hc,hl1,hd⟩ hN;cases rs with
   | nil=>cases er
   | cons s rs=>
    cases er;have hl1:os.length+(rs.length+1)<=7:=hl1;rw [Be] at hc;have skip:s.isCr=false->N1 [some (.ref a),some (MD ms),some (.ref q),some s.d] S1:=λhs=>hN _ _ ⟨rs,os,_,rfl,d1,h1,rfl,by rw [hs] at hc; exact hc,by omega,hd⟩
    cases s with
    | fix x y=>exact⟨_,rfl,skip rfl⟩
    | pair i j s t v=>exact⟨_,rfl,skip rfl⟩
    | like i j x y=>exact⟨_,rfl,skip rfl⟩
    | crank i l=>
     have hc:os.length+(ij rs+1)=ij ms:=hc;refine⟨_,rfl,⟨_,h1⟩,a,rfl,d1.1,λx S2 hx d2=>⟨a,rfl,d2.1,λy S3 hy d3=>⟨a,rfl,d3.1,λz S4 hz d4=>⟨a9,λp hp=>⟨a,4,rfl,by decide,by decide,d4.1.new hp,λt S5 t0 t1 d5=>?_⟩⟩⟩⟩⟩
     have pa:=d4.1.ne hp;have hp5:=d5.2 p _ pa ak;obtain⟨c,hcc,hm⟩:=kT (ds:=[.non,fr x,fr y,fr z]) t0 t1;have ho:∃ o,c=wK o/\pF o:=by
      simp only [Mt,ME,or_false] at hm;rcases hm with rfl | rfl | rfl | rfl
      ·exact⟨none,rfl,λt e=>by cases e⟩
      ·exact⟨some x,rfl,λt e=>by cases e; exact hx.1⟩
      ·exact⟨some y,rfl,λt e=>by cases e; exact hy.1⟩
      ·exact⟨some z,rfl,λt e=>by cases e; exact hz.1⟩
     obtain⟨o,rfl,ok⟩:=ho;have d15:=(d2.trans (d3.trans (d4.trans ((Dr.new d4.1 hp).trans d5))));refine⟨_,_,hp5,hcc,_,d15.keep qa h1,by rw [Mq]; exact ly (by omega),hN _ _ ⟨rs,os++[o],_,rfl,(d1.trans d15).put hq qa,by rw [ak,List.map_append]; rfl,rfl,by rw [MI]; show os.length+1+ij rs=_; omega,by rw [MI]; show os.length+1+rs.length<=7; omega,λo' ho'=>?_⟩⟩
     rcases List.mem_append.mp ho' with h | h
     ·exact hd o' h
     ·simp only [Mt,ME,or_false] at h; rw [h]; exact ok
  ·rintro L S1 ⟨rs,os,l3,rfl,d1,h1,er,hc,hl1,hd⟩;cases rs with
   | cons s rs=>cases er
   | nil=>exact⟨_,h1,w os S1 hc hd d1⟩
theorem JM {α:Type} {f:α->D} {l:List α} {k:Nat} (h:k<=l.length):DL.iU (l.map f) none (some ((k:Nat):Int))=(l.take k).map f:=by
 unfold DL.iU;have h1:HT.dX (l.map f).length 0 none=0:=rfl;have h2:HT.dX (l.map f).length (l.map f).length (some ((k:Nat):Int))=k:=by
  unfold HT.dX;simp only [Mq];rw [if_neg (by omega)]
  simp;omega
 rw [h1,h2];simp [List.map_take]
theorem Ea {i j m:Int} {S:DH} {k:DK} (e:i+j=m) (h:k (.int m) S):Ho (.int i) (.int j) S k:=by subst e; exact h
theorem LO {ms:List aG} (hw:Wf ms) (hl:ms.length<=7) (h0:∃ x y,ms[0]?=some (.fix x y)):j0 ms<=5:=by
 obtain⟨x,y,h0⟩:=h0
 match ms,h0 with
 | [a],h0=>
  have h0:some a=_:=h0;cases h0
  show 0<=5
  decide
 | a::b::r,h0=>
  have h0:some a=_:=h0;cases h0;have hl:r.length+1+1<=7:=hl;have hb:b.isCx=false:=by
   have so:=hw 1 b rfl;cases b with
   | fix x y=>rfl
   | crank i l=>rfl
   | pair i j s t v=>
    obtain⟨h1,h2,h3,_⟩:=so;have h1:i < 1:=h1;have h2:j < 1:=h2;omega
   | like i j a l=>
    obtain⟨h1,h2,h3,_⟩:=so;have h1:i < 1:=h1;have h2:j < 1:=h2;omega
  have:=List.countP_le_length (p:=aG.isCx) (l:=r);unfold j0;rw [List.countP_cons,List.countP_cons,hb]
  show r.countP aG.isCx+0+0<=5
  omega
theorem Wf.take {ms:List aG} (hw:Wf ms) (k:Nat):Wf (ms.take k):=λj s h=>by
 have hj:j < k:=by
  have:=(MX.mp h).1;rw [List.length_take] at this;omega
 rw [List.getElem?_take_of_lt hj] at h;rw [List.take_take,Nat.min_eq_left (by omega)]
 exact hw j s h
set_option maxHeartbeats 4000000
theorem Hk {P:Np} {w:Nr} {K:Fg} {mg:Str->Nm Nk} {base:Nt} {x:Str} {n:Nat} {FX:mH} {F:cr} (c:nO P w K mg base x n FX) (h:∀ ds S k,F ds S k->FX ds S k (λ_ _=>False)):aZ P w K mg base x n F:=by
 obtain⟨f,fd,ps,F1,h1,h2,h3⟩:=c.ex;refine⟨f,fd,ps,⟨λvs H Q E hs=>?_,λA outer s H args us vs Q E hr e0 hb hv hs=>?_⟩,h1,h2,h3⟩
 ·obtain⟨ds,S,k,i,hS,hF,hk⟩:=hs;exact F1.len vs H Q (λ_ _ _=>False) ⟨ds,S,k,λ_ _=>False,i,hS,h _ _ _ hF,hk,λ_ _ _ _ z=>z.elim⟩
 ·obtain⟨ds,S,k,i,hS,hF,hk⟩:=hs;refine codeAny_mono (F1.run A outer s H args us vs Q (λ_ _ _=>False) hr e0 hb hv ⟨ds,S,k,λ_ _=>False,i,hS,h _ _ _ hF,hk,λ_ _ _ _ z=>z.elim⟩) λr s' hq=>?_
  cases r with
  | ok u=>cases u <;> exact hq
  | error e=>
   obtain⟨_,_,_,_,_,_,_,_,_,_,_,_,_,z⟩:=hq;exact z.elim
theorem uL.pts_of {os:List (Nm Rat)} {ms:List aG} {t:Tl} {ps:List Pt} (h:uL os [] 0 0 ms t) (hst:vY os ms ps):t=.pts ps:=by
 have r:=hst.run .nil;rw [MJ] at r;exact h.one r
theorem uL.fld_of {os:List (Nm Rat)} {ms pre post:List aG} {s:aG} {t:Tl} {ps:List Pt} (h:uL os [] 0 0 ms t) (em:ms=pre++s::post) (hst:vY os pre ps) (jf:JF ps s):t=.fld:=by
 subst em;exact h.one (hst.run (.fld jf))
theorem uL.stk_of {os:List (Nm Rat)} {ms pre post:List aG} {s:aG} {t:Tl} {ps:List Pt} (h:uL os [] 0 0 ms t) (em:ms=pre++s::post) (hst:vY os pre ps) (js:JS ps s):t=.stk pre.length:=by
 subst em;exact h.one (hst.run (.stk js))
def wE:cr:=λds S k=>∃ (ms:List aG) (os:List (Nm Rat)) (ps:List Pt),ds=[MD ms,.tup (os.map wK)]/\Wf ms/\ms.length<=7/\j0 ms<=5/\os.length=ij ms/\(∀ o∈os,pF o)/\uL os [] 0 0 ms (.pts ps)/\∀ S' q,bV S S'->S q=none->S' q=some (.lst (ps.map gP))->k (.ref q) S'
theorem Af {P:Np} {w:Nr} {K:Fg} {mg:Str->Nm Nk} {base:Nt} {az aV aM:Nl} (iq:nO P w K mg base "stand" 42 (sC az aV aM)):aZ P w K mg base "stand" 42 wE:=by
 refine Hk iq λds S k h=>?_
 obtain⟨ms,os,ps,rfl,hw,hl,hc,ho,hd,hr,w⟩:=h;refine⟨ms,os,rfl,hw,hl,hc,ho,hd,λpre s post ps' em hst jf S' e=>?_,λpre s post ps' em hst js S' e=>?_,λps' S' q hst hok e hq h1=>?_⟩
 ·cases hr.fld_of em hst jf
 ·cases hr.stk_of em hst js
 ·cases hr.pts_of hst;exact w S' q e hq h1
theorem gs:av ["call","found","e"] ["call"] (am gY):=ej
theorem pB {aM:Nl} {cells:List (Nl×Nz)} (Fn:FN K "_law_stuck_at" gY f fd) (il:mg "Stuck"=some (.ref aM)) (lE:PySem.W.exmOne K (.ref aM) (.ref aM)=some true) (ss_Stuck:L2.sj K aM=true):
  rQ cells P w K mg base cW 44 f fd ["call"] (cY K (HX aM 43 P w K mg base cells)):=by
 refine Fn.okP gs (λds S k h=>?_) (λcdv A outer s H E hr hce=>⟨_,(ag (aq (i:=1) gs.nd cO) (ag (xJ (j:=0) (i:=2) (ix:=1) ss_Stuck hce (hr.mono (Mp _)) (λ_=>hr.hd) rfl rfl rfl rfl (.inl rfl) rfl il gs.nd rfl rfl rfl (.inl rfl)) (ai (ar (aj 1))))),λds S k h=>?_⟩)
 ·obtain⟨_,_,rfl,_⟩:=h
  rfl
 ·obtain⟨g,φ,rfl,hg,he⟩:=h;exact⟨g,φ,rfl,hg,lE,he⟩
def xy:Rat:=⟨1,2,by decide,by decide⟩
theorem LD:Bt 60000000 9:=(show Bt 4 9 by decide).mono (by decide)
theorem Ls {p:Rat} (hp:Sz 4 p/\0 < p):Sz 8 (p*9)/\0 < p*9:=⟨hp.1.mul (n:=4) ⟨by decide,by decide⟩,MR hp.2 (by decide)⟩
def qH:cr:=λds S k=>∃ a:Nl,ds=[.ref a]/\sL S a/\∀ ms S',Wf ms->ms.length<=7->j0 ms<=5->Dr a S S'->k (MD ms) S'
theorem kP:av ["state","steps","squares"] ["state"] (am lG):=ej
theorem wq (Fn:FN K "_law_four" lG f fd) (aX:aZ P w K mg base "_law_small" 35 ic) (cJ:aZ P w K mg base "_law_above" 35 kL) (aw:aZ P w K mg base "_law_times" 35 b8) (aC:aZ P w K mg base "_law_take" 1 dE) (c_:mg "tuple"=none):
  aU P w K mg base cW 36 f fd ["state"] (cY K qH):=by
 refine Fn.okJ kP (λds S k h=>?_) (λcdv A outer s H E hr=>⟨_,(ag (aq (i:=1) kP.nd (cb (aa (au (aa bZ (aa (dq aX hr (aB 0 ac)) (aa (dq aX hr (aB 0 ac)) ac)))) (aa (au (aa bZ (aa (dq aX hr (aB 0 ac)) (aa (dq aX hr (aB 0 ac)) ac)))) ac)))) (ag (bf (eH (aj 1) (au (aa bZ (aa ah (aa (dq cJ hr (aB 0 ac)) ac)))))) (ag (aq (i:=2) kP.nd (cb (aa (dq aw hr (aa (dq cJ hr (aB 0 ac)) (aa (au (aa ah (aa ah ac))) ac))) (aa (dq aw hr (aa (dq cJ hr (aB 0 ac)) (aa (au (aa ah (aa ah ac))) ac))) ac)))) (ag (bf (eH (aj 1) (au (aa bZ (aa ah (aa ah (aa (aO 2) (aa (aO 2) (aa (dq aC hr (aB 0 (aa ah ac))) ac))))))))) (ag (bf (eH (aj 1) (au (aa bZ (aa ah (aa ah (aa (aO 2) (aa (aO 2) (aa (dq aC hr (aB 0 (aa ah ac))) ac))))))))) (ag (bf (eH (aj 1) (au (aa bZ (aa ah (aa (bh cj (cb (aa ah (aa ah (aa ah ac)))) (dq aC hr (aB 0 (aa ah ac))) Zf) (aa (au (aa ah (aa ah ac))) (aa (bh cj (cb (aa (au (aa ah (aa ah ac))) (aa (dq aX hr (aB 0 ac)) ac))) (dq aC hr (aB 0 (aa ah ac))) Zf) ac)))))))) (ag (bf (eH (aj 1) (bh cj (cb (aa (au (aa bZ (aa ah (aa ah (aa (au (aa ah (aa ah ac))) (aa (au (aa ah (aa ah ac))) (aa ah ac))))))) (aa (au (aa bZ (aa ah (aa ah (aa (au (aa ah (aa ah ac))) (aa (au (aa ah (aa ah ac))) ac)))))) ac))) (dq aC hr (aB 0 (aa ah ac))) Zf))) (ai (ar (oS wm rfl c_ jH (aa (EJ.or (EA (aj 1) jQ (jM (aH dF ah (dq aC hr (aB 0 (aa ah ac)))))) (DD (aj 1) jQ (jM (aH dF ah (dq aC hr (aB 0 (aa ah ac))))))) ac))))))))))),λds S k h=>?_⟩)
 ·obtain⟨_,rfl,_⟩:=h
  rfl
 ·obtain⟨a,rfl,hS,w⟩:=h;refine⟨a,rfl,hS,λx1 S1 hx1 d1=>⟨a,rfl,d1.1,λy1 S2 hy1 d2=>⟨a9,a,rfl,d2.1,λx2 S3 hx2 d3=>⟨a,rfl,d3.1,λy2 S4 hy2 d4=>⟨a9,a9,λq hq=>?_⟩⟩⟩⟩⟩
  have qa:=d4.1.ne hq;have D4:=(d1.trans (d2.trans (d3.trans d4))).trans (Dr.new (o:=.lst [(aG.fix x1 y1).d,(aG.fix x2 y2).d]) d4.1 hq);have h4:put S4 q (.lst [(aG.fix x1 y1).d,(aG.fix x2 y2).d]) q=some (.lst [(aG.fix x1 y1).d,(aG.fix x2 y2).d]):=ak;have hqS:S q=none:=by
   cases e:S q with
   | none=>rfl
   | some o=>
    have:=d4.2 q o qa (d3.2 q o qa (d2.2 q o qa (d1.2 q o qa e)));rw [hq] at this;cases this
  show oQ _ _ _ _ (put S4 q (.lst [(aG.fix x1 y1).d,(aG.fix x2 y2).d]))
  generalize put S4 q (.lst [(aG.fix x1 y1).d,(aG.fix x2 y2).d])=T4 at D4 h4 ⊢
  refine⟨⟨_,h4⟩,a,rfl,D4.1,λl S5 hl d5=>⟨a9,_,d5.2 q _ qa h4,ly (by show 2 < 300; decide),?_⟩⟩
  have D5:=(D4.trans d5).put (o:=.lst [(aG.fix x1 y1).d,(aG.fix x2 y2).d,(aG.crank 0 l).d]) hqS qa;have h5:put S5 q (.lst [(aG.fix x1 y1).d,(aG.fix x2 y2).d,(aG.crank 0 l).d]) q=some (.lst [(aG.fix x1 y1).d,(aG.fix x2 y2).d,(aG.crank 0 l).d]):=ak
  show oQ _ _ _ _ (put S5 q (.lst [(aG.fix x1 y1).d,(aG.fix x2 y2).d,(aG.crank 0 l).d]))
  generalize put S5 q (.lst [(aG.fix x1 y1).d,(aG.fix x2 y2).d,(aG.crank 0 l).d])=T5 at D5 h5 ⊢
  refine⟨a,rfl,D5.1,λs S6 hs d6=>⟨a9,_,_,_,_,_,rfl,ax s 9,hs.1.num.mono (by decide),hs.1.den.mono (by decide),LD,Dt,bW s 9,a,rfl,d6.1,λt S7 ht d7=>⟨a9,_,_,_,_,_,rfl,ax t 9,ht.1.num.mono (by decide),ht.1.den.mono (by decide),LD,Dt,bW t 9,a9,λp hp=>?_⟩⟩⟩
  obtain⟨ss',s0⟩:=Ls hs;obtain⟨st,t0⟩:=Ls ht;generalize s*9=s at*
  generalize t*9=t at*
  have pa:=d7.1.ne hp;have D7:=(D5.trans (d6.trans d7)).trans (Dr.new (o:=.lst [fr s,fr t]) d7.1 hp);have h7:put S7 p (.lst [fr s,fr t]) q=some (.lst [(aG.fix x1 y1).d,(aG.fix x2 y2).d,(aG.crank 0 l).d]):=bV.new hp _ _ (d7.2 q _ qa (d6.2 q _ qa h5));have p7:put S7 p (.lst [fr s,fr t]) p=some (.lst [fr s,fr t]):=ak;have pq:p≠q:=λz=>by
   have:=d7.2 q _ qa (d6.2 q _ qa h5);rw [<- z,hp] at this;cases this
  generalize put S7 p (.lst [fr s,fr t])=T7 at D7 h7 p7 ⊢
  refine⟨⟨_,h7⟩,_,_,p7,rfl,_,_,p7,rfl,a,2,rfl,by decide,by decide,D7.1,λv S8 v0 v1 d8=>⟨a9,_,d8.2 q _ qa h7,ly (by show 3 < 300; decide),?_⟩⟩
  have D8:=(D7.trans d8).put (o:=.lst [(aG.fix x1 y1).d,(aG.fix x2 y2).d,(aG.crank 0 l).d,(aG.pair 2 1 s t v).d]) hqS qa;have h8:put S8 q (.lst [(aG.fix x1 y1).d,(aG.fix x2 y2).d,(aG.crank 0 l).d,(aG.pair 2 1 s t v).d]) q=some (.lst [(aG.fix x1 y1).d,(aG.fix x2 y2).d,(aG.crank 0 l).d,(aG.pair 2 1 s t v).d]):=ak;have p8:put S8 q (.lst [(aG.fix x1 y1).d,(aG.fix x2 y2).d,(aG.crank 0 l).d,(aG.pair 2 1 s t v).d]) p=some (.lst [fr s,fr t]):=by rw [bw pq]; exact d8.2 p _ pa p7
  show oQ _ _ _ _ (put S8 q (.lst [(aG.fix x1 y1).d,(aG.fix x2 y2).d,(aG.crank 0 l).d,(aG.pair 2 1 s t v).d]))
  generalize put S8 q (.lst [(aG.fix x1 y1).d,(aG.fix x2 y2).d,(aG.crank 0 l).d,(aG.pair 2 1 s t v).d])=T8 at D8 h8 p8 ⊢
  refine⟨⟨_,h8⟩,_,_,p8,rfl,_,_,p8,rfl,a,2,rfl,by decide,by decide,D8.1,λu S9 u0 u1 d9=>⟨a9,_,d9.2 q _ qa h8,ly (by show 4 < 300; decide),?_⟩⟩
  have D9:=(D8.trans d9).put (o:=.lst [(aG.fix x1 y1).d,(aG.fix x2 y2).d,(aG.crank 0 l).d,(aG.pair 2 1 s t v).d,(aG.pair 2 1 s t u).d]) hqS qa;have h9:put S9 q (.lst [(aG.fix x1 y1).d,(aG.fix x2 y2).d,(aG.crank 0 l).d,(aG.pair 2 1 s t v).d,(aG.pair 2 1 s t u).d]) q=some (.lst [(aG.fix x1 y1).d,(aG.fix x2 y2).d,(aG.crank 0 l).d,(aG.pair 2 1 s t v).d,(aG.pair 2 1 s t u).d]):=ak
  show oQ _ _ _ _ (put S9 q (.lst [(aG.fix x1 y1).d,(aG.fix x2 y2).d,(aG.crank 0 l).d,(aG.pair 2 1 s t v).d,(aG.pair 2 1 s t u).d]))
  generalize put S9 q (.lst [(aG.fix x1 y1).d,(aG.fix x2 y2).d,(aG.crank 0 l).d,(aG.pair 2 1 s t v).d,(aG.pair 2 1 s t u).d])=T9 at D9 h9 ⊢
  refine⟨⟨_,h9⟩,a9,λp1 hp1=>⟨a,3,rfl,by decide,by decide,(D9.1.new hp1),λr1 Sa r10 r11 da=>?_⟩⟩
  have a1:=da.2 p1 _ (D9.1.ne hp1) ak;obtain⟨c,hc,hm⟩:=kT (ds:=[.int 4,.int 2,.int 1]) r10 r11;have hc2:∃ c':Nat,c=.int (c':Nat)/\c' < 5/\c'≠3:=by
   simp only [Mt,ME,or_false] at hm;rcases hm with rfl | rfl | rfl
   ·exact⟨4,rfl,by decide,by decide⟩
   ·exact⟨2,rfl,by decide,by decide⟩
   ·exact⟨1,rfl,by decide,by decide⟩
  obtain⟨c',rfl,c5,c3⟩:=hc2;have Da:=D9.trans ((Dr.new D9.1 hp1).trans da);have ha:=da.2 q _ qa (bV.new hp1 _ _ h9);refine⟨_,_,a1,hc,a9,a9,a,rfl,Da.1,λz Sb hz db=>⟨a9,λp2 hp2=>⟨a,2,rfl,by decide,by decide,db.1.new hp2,λr2 Sc r20 r21 dc=>?_⟩⟩⟩
  have a2:=dc.2 p2 _ (db.1.ne hp2) ak;obtain⟨e,he,hme⟩:=kT (ds:=[fr 0,fr z]) r20 r21;have he2:∃ e':Rat,e=fr e'/\Sz 4 e':=by
   simp only [Mt,ME,or_false] at hme;rcases hme with rfl | rfl
   ·exact⟨0,rfl,Sz.zero.mono (by decide)⟩
   ·exact⟨z,rfl,hz.1⟩
  obtain⟨e',rfl,se⟩:=he2;have Dc:=Da.trans (db.trans ((Dr.new db.1 hp2).trans dc));have hcq:=dc.2 q _ qa (bV.new hp2 _ _ (db.2 q _ qa ha));refine⟨_,_,a2,he,a9,_,hcq,ly (by show 5 < 300; decide),?_⟩
  have De:=Dc.put (o:=.lst [(aG.fix x1 y1).d,(aG.fix x2 y2).d,(aG.crank 0 l).d,(aG.pair 2 1 s t v).d,(aG.pair 2 1 s t u).d,(aG.like 3 c' xy e').d]) hqS qa;have hE:put Sc q (.lst [(aG.fix x1 y1).d,(aG.fix x2 y2).d,(aG.crank 0 l).d,(aG.pair 2 1 s t v).d,(aG.pair 2 1 s t u).d,(aG.like 3 c' xy e').d]) q=some (.lst [(aG.fix x1 y1).d,(aG.fix x2 y2).d,(aG.crank 0 l).d,(aG.pair 2 1 s t v).d,(aG.pair 2 1 s t u).d,(aG.like 3 c' xy e').d]):=ak
  show oQ _ _ _ _ (put Sc q (.lst [(aG.fix x1 y1).d,(aG.fix x2 y2).d,(aG.crank 0 l).d,(aG.pair 2 1 s t v).d,(aG.pair 2 1 s t u).d,(aG.like 3 c' xy e').d]))
  generalize put Sc q (.lst [(aG.fix x1 y1).d,(aG.fix x2 y2).d,(aG.crank 0 l).d,(aG.pair 2 1 s t v).d,(aG.pair 2 1 s t u).d,(aG.like 3 c' xy e').d])=T10 at De hE ⊢
  refine⟨⟨_,hE⟩,a9,a9,a9,a9,a9,a9,a9,λp3 hp3=>⟨a,2,rfl,by decide,by decide,De.1.new hp3,λr3 Sd r30 r31 dd=>?_⟩⟩
  have a3:=dd.2 p3 _ (De.1.ne hp3) ak;obtain⟨g,hg,hmg⟩:=kT (ds:=[(aG.pair 5 0 9 4 0).d,(aG.like 5 3 2 1).d]) r30 r31;have hg2:∃ m:aG,g=m.d/\(m=.pair 5 0 9 4 0\/m=.like 5 3 2 1):=by
   simp only [Mt,ME,or_false] at hmg;rcases hmg with rfl | rfl
   ·exact⟨_,rfl,.inl rfl⟩
   ·exact⟨_,rfl,.inr rfl⟩
  obtain⟨m,rfl,hm2⟩:=hg2;have Dd:=De.trans ((Dr.new De.1 hp3).trans dd);have hdq:=dd.2 q _ qa (bV.new hp3 _ _ hE);refine⟨_,_,a3,hg,_,hdq,ly (by show 6 < 300; decide),?_⟩
  have Df:=Dd.put (o:=.lst ([aG.fix x1 y1,aG.fix x2 y2,aG.crank 0 l,aG.pair 2 1 s t v,aG.pair 2 1 s t u,aG.like 3 c' xy e',m].map aG.d)) hqS qa;have hf:put Sd q (.lst ([aG.fix x1 y1,aG.fix x2 y2,aG.crank 0 l,aG.pair 2 1 s t v,aG.pair 2 1 s t u,aG.like 3 c' xy e',m].map aG.d)) q=some (.lst ([aG.fix x1 y1,aG.fix x2 y2,aG.crank 0 l,aG.pair 2 1 s t v,aG.pair 2 1 s t u,aG.like 3 c' xy e',m].map aG.d)):=ak
  show oQ _ _ _ _ (put Sd q (.lst ([aG.fix x1 y1,aG.fix x2 y2,aG.crank 0 l,aG.pair 2 1 s t v,aG.pair 2 1 s t u,aG.like 3 c' xy e',m].map aG.d)))
  generalize put Sd q (.lst ([aG.fix x1 y1,aG.fix x2 y2,aG.crank 0 l,aG.pair 2 1 s t v,aG.pair 2 1 s t u,aG.like 3 c' xy e',m].map aG.d))=T11 at Df hf ⊢
  have wf:Wf [aG.fix x1 y1,aG.fix x2 y2,aG.crank 0 l,aG.pair 2 1 s t v,aG.pair 2 1 s t u,aG.like 3 c' xy e',m]:=by
   have f1:Wf [aG.fix x1 y1]:=Wf.nil.snoc (show iK [] (.fix x1 y1) from⟨hx1.1.mono (by decide),hy1.1.mono (by decide)⟩)
   have f2:Wf [aG.fix x1 y1,aG.fix x2 y2]:=f1.snoc (show iK [_] (.fix x2 y2) from⟨hx2.1.mono (by decide),hy2.1.mono (by decide)⟩)
   have f3:Wf [aG.fix x1 y1,aG.fix x2 y2,aG.crank 0 l]:=f2.snoc (show iK [_,_] (.crank 0 l) from⟨⟨x1,y1,rfl⟩,hl.1,hl.2⟩)
   have f4:Wf [aG.fix x1 y1,aG.fix x2 y2,aG.crank 0 l,aG.pair 2 1 s t v]:=f3.snoc (show iK [_,_,_] (.pair 2 1 s t v) from⟨(by show 2 < 3; decide),(by show 1 < 3; decide),by decide,ss',st,s0,t0,by omega⟩)
   have f5:Wf [aG.fix x1 y1,aG.fix x2 y2,aG.crank 0 l,aG.pair 2 1 s t v,aG.pair 2 1 s t u]:=f4.snoc (show iK [_,_,_,_] (.pair 2 1 s t u) from⟨(by show 2 < 4; decide),(by show 1 < 4; decide),by decide,ss',st,s0,t0,by omega⟩)
   have f6:Wf [aG.fix x1 y1,aG.fix x2 y2,aG.crank 0 l,aG.pair 2 1 s t v,aG.pair 2 1 s t u,aG.like 3 c' xy e']:=f5.snoc (show iK [_,_,_,_,_] (.like 3 c' xy e') from⟨(by show 3 < 5; decide),c5,Ne.symm c3,⟨by decide,by decide⟩,se⟩)
   refine f6.snoc (s:=m) ?_;rcases hm2 with rfl | rfl
   ·exact⟨(by show 5 < 6; decide),(by show 0 < 6; decide),by decide,⟨by decide,by decide⟩,⟨by decide,by decide⟩,by decide,by decide,.inl rfl⟩
   ·exact⟨(by show 5 < 6; decide),(by show 3 < 6; decide),by decide,⟨by decide,by decide⟩,⟨by decide,by decide⟩⟩
  have cx:j0 [aG.fix x1 y1,aG.fix x2 y2,aG.crank 0 l,aG.pair 2 1 s t v,aG.pair 2 1 s t u,aG.like 3 c' xy e',m]<=5:=by
   rcases hm2 with rfl | rfl
   ·show 4<=5; decide
   ·show 4<=5; decide
  have ln:[aG.fix x1 y1,aG.fix x2 y2,aG.crank 0 l,aG.pair 2 1 s t v,aG.pair 2 1 s t u,aG.like 3 c' xy e',m].length=7:=rfl;generalize [aG.fix x1 y1,aG.fix x2 y2,aG.crank 0 l,aG.pair 2 1 s t v,aG.pair 2 1 s t u,aG.like 3 c' xy e',m]=ms at*
  refine .inr ⟨a,4,rfl,by decide,by decide,Df.1,λn Sg n0 n1 dg=>?_⟩
  obtain⟨n,rfl⟩:=Int.eq_ofNat_of_zero_le n0;have hgq:=dg.2 q _ qa hf;refine Ea (m:=((4+n:Nat):Int)) (by omega) ⟨_,hgq,λp4 hp4=>?_⟩
  rw [JM (show 4+n<=ms.length by omega)]
  exact⟨_,ak,w (ms.take (4+n)) _ (wf.take _) (by rw [List.length_take]; omega) (M1 (List.take_sublist _ ms).countP_le cx) ((Df.trans dg).trans (Dr.new dg.1 hp4))⟩
set_option maxHeartbeats 4000000
abbrev Iw:Str:="_law_right"++".<locals>."++"<lambda>"
abbrev tb:DO:=.tbl λH ps=>qJ H Iw ps
theorem wW {n:Nat} {S:DH} {q p:Nl} {ps:List Pt} (l:ps.length<=7) (h1:S q=some (.lst (ps.map gP))) (h2:S p=some (.lst (ps.map gP))):iP (n+5) S (.ref q) (.ref p):=
 .inr ⟨.lst,(ps.map gP,some q),(ps.map gP,some p),.inr rfl,by show HY (S q)=_; rw [h1]; rfl,by show HY (S p)=_; rw [h2]; rfl,by simp only [aS]; rw [h1],by simp only [aS]; rw [h2],rfl,by rw [Mq]; omega,λi x y a b=>by
  have e:some x=some y:=a.symm.trans b;cases e;obtain⟨p,_,rfl⟩:=List.mem_map.mp (List.mem_of_getElem? a);exact oz (oz rj rj) (oz rj rj)⟩
theorem uD {α:Type} {f g:α->D} {all:List α} {S:DH} {p:Nl} {ok:DH->Prop} {bd:DB} {k:DK} {L1:Lo} (hp:S p=none) (hok:∀ S',bV S S'->ok S')
  (hbd:∀ (x:α) (S':DH) (k':Nm D->DH->Prop),x∈all->bV S S'->(∀ S2,bV S' S2->k' (some (g x)) S2)->bd (some (f x)::L1) S' k'):
  ∀ (r:List α) (acc:List D) (l0:Nm D) (S1:DH),bV S S1->S1 p=some (.lst acc)->(∀ x∈r,x∈all)->acc.length+r.length<=100->(∀ S',bV S S'->S' p=some (.lst (acc++r.map g))->k (.ref p) S')->dH ok p (jn 0) bd k (r.map f) acc (l0::L1) S1
 | [],acc,l0,S1,e,h1,_,_,w=>⟨hok _ e,w _ e (by rw [h1]; simp)⟩
 | x::r,acc,l0,S1,e,h1,hr,hl,w=>by
  have hl:acc.length+(r.length+1)<=100:=hl;refine⟨hok _ e,hbd x _ _ (hr x Mv) e λS2 e2=>⟨e2 _ _ h1,ly (by omega),?_⟩⟩
  exact uD hp hok hbd r _ _ _ ((e.trans e2).put hp) ak (λy hy=>hr y (Mw _ hy)) (by rw [MI]; show acc.length+1+r.length<=100; omega) λS' e h=>w S' e (by rw [h,List.append_assoc]; rfl)
theorem uL.len {os:List (Nm Rat)} {ps:List Pt} {c k:Nat} {ms:List aG} {t:Tl} (h:uL os ps c k ms t):∀ ps',t=.pts ps'->ps'.length=ps.length+ms.length:=by
 induction h with
 | nil=>intro ps' e; cases e; rfl
 | step _ _ ih=>
  intro ps' e;have:=ih ps' e;simp only [MI,MB,List.length_nil] at this ⊢;omega
 | fld _=>intro ps' e; cases e
 | stk _=>intro ps' e; cases e
theorem K':vN 5<=7000000:=by decide
def oP (pT:Nl):cr:=λds S k=>∃ (ms:List aG) (os:List (Nm Rat)),ds=[MD ms,.tup (os.map wK)]/\Wf ms/\ms.length<=7/\j0 ms<=5/\os.length=ij ms/\(∀ o∈os,pF o)/\S pT=some tb/\∀ S',bV S S'->k (.bl true) S'
theorem eZ:av ["machine","drives","word","due","found","points"] ["machine","drives"] (am kR):=ej
theorem ul {mM az aV aM b7:Nl} (Fn:FN K "_law_right" kR f fd) (ky:aZ P w K mg base "_law_stand" 38 pf) (oV:aZ P w K mg base "stand" 42 wE) (kO:aZ P w K mg base "_law_shown" 36 ox) (gO:aZ P w K mg base "_law_same" 8 (dj 8)) (iu:uj P w K mg base "_law_refused" 44 (Aw [(1,az),(4,aM)] 43 P w K mg base)) (g_:uj P w K mg base "_law_stuck_at" 44 (HX aM 43 P w K mg base)) (iq:nO P w K mg base "stand" 42 (sC az aV aM)) (Di:mg "int"=none) (hfc:fd.code=.ref mM) (hCd:PySem.W.CodeHd base mM b7) (hBl:lC mg base):
  aU P w K mg base cW 45 f fd ["machine","drives"] (cY K (oP b7)):=by
 refine Fn.okC hfc eZ (λds S k h=>?_) (λA outer s H E hr=>⟨_,(ag (gL (dq ky hr (aB 0 (aB 1 ac))) (eQ (n:=2) rfl (aY (aJ (i:=2) eZ.nd) (aY (aJ (i:=3) eZ.nd) dy)))) (ag (aE (aA (BC hr) (aj 2) bZ (aD _)) (ag (aq (i:=4) eZ.nd (dq oV hr (aB 0 (aB 1 ac)))) (ag (mm (iv:=5) eZ.nd rfl (kM (N:=["joint"]) (cap:=[none]) rfl rfl rfl rfl trivial rfl rfl trivial) (aj 3) (λ_ _ _ _=>(aJ (i:=0) (show List.Nodup (["joint"]:List Str) from by decide +kernel))) (λ_ _ _ _=>(dq kO hr (aB 0 ac)))) (ag (aE (f_ (cV (dq gO hr (aB 4 (aB 5 ac))))) (ai (ar oy)) aL) (ag (bf (F2 (aj 4))) (ai (ar (dq gO hr (aa (dq oV hr (aB 0 (aB 1 ac))) (aB 5 ac))))))))) aL) (ag (aE (aA (Ir hr) (Ez rfl rfl iu (hr.mono (by decide)) rfl hCd hBl rfl (Bm (N:=["machine","drives"]) (cap:=[some 0,some 1]) rfl rfl rfl rfl rfl rfl ⟨rfl,rfl,trivial⟩ (λ_=>rfl) rfl ⟨⟨rfl,.inl rfl⟩,⟨rfl,.inl rfl⟩,trivial⟩) (λ_ _ _=>rfl) (λg H ex A outer s cv hr=>(wz iq (hr.mono (by decide)) rfl (aB 0 (aB 1 ac))))) (bh cj (cb (aa (cb (aa ah ac)) (aa (cb (aa ah ac)) ac))) (oS Ip rfl Di GH (aa (qA (BC hr) (aj 2) bZ (aD _)) ac)) Zf) (aD _)) (ai (ar oy)) aL) (ai (ar (JO (qA (BC hr) (aj 2) bZ (aD _)) (yy (dq gO hr (aa (Hd rfl rfl g_ (hr.mono (by decide)) rfl hCd hBl rfl (Bm (N:=["machine","drives"]) (cap:=[some 0,some 1]) rfl rfl rfl rfl rfl rfl ⟨rfl,rfl,trivial⟩ (λ_=>rfl) rfl ⟨⟨rfl,.inl rfl⟩,⟨rfl,.inl rfl⟩,trivial⟩) (λ_ _ _=>rfl) (λg H ex A outer s cv hr=>(wz iq (hr.mono (by decide)) rfl (aB 0 (aB 1 ac))))) (aB 3 ac)))))))))),λds S k h=>?_⟩)
 ·obtain⟨_,_,rfl,_⟩:=h
  rfl
 ·obtain⟨ms,os,rfl,hw,hl,hc,ho,hd,hT,w⟩:=h;refine⟨ms,os,rfl,hw,hl,hc,ho,hd,λt d S1 hr lt e1=>?_⟩
  cases t with
  | pts ps=>
   obtain⟨q,js,rfl,hq,ep,hj⟩:=lt;have lps:ps.length<=7:=by
    have:=hr.len ps rfl;have:ps.length=0+ms.length:=this;omega
   refine⟨(_,none),rfl,rfl,rfl,true,rfl,n9 (λ_=>?_) (λz=>by cases z)⟩
   refine⟨ms,os,ps,rfl,hw,hl,hc,ho,hd,hr,λS2 q2 e2 n2 h2=>?_⟩
   have lj:js.length<=7:=by rw [<- ep,Mq] at lps; exact lps
   refine⟨(js.map JD,some q),by simp only [aS]; rw [e2 _ _ hq],λp hp=>?_⟩
   refine uD (f:=JD) (g:=λj=>gP (jP j)) (all:=js) hp (λS' e=>e _ _ (e2 _ _ hq)) (λj S' k' hm e z=>?_) js [] none _ (bV.new hp) ak (λ_ h=>h) (by show 0+js.length<=100; omega) λS3 e3 h3=>?_
   ·have ok:=(hj j hm).ok;exact⟨j,rfl,ok.su.mono K',ok.sx.mono K',ok.sy.mono K',λS4 e4=>z S4 e4⟩
   have h3:S3 p=some (.lst (ps.map gP)):=by rw [h3,List.nil_append,<- ep,List.map_map]; rfl
   have h23:=e3 _ _ h2;refine⟨wW (n:=3) lps h23 h3,λS4 e4=>nc (λz=>by cases z) (λ_=>?_)⟩
   have pq:p≠q2:=λz=>by rw [<- z,hp] at h2; cases h2
   refine⟨_,e4 _ _ h23,?_⟩;have E4:bV S1 (put S4 q2 (.lst [])):=((e2.trans e3).trans e4).put n2;have h5:put S4 q2 (.lst []) p=some (.lst (ps.map gP)):=by rw [bw pq]; exact e4 _ _ h3
   generalize put S4 q2 (.lst [])=T at E4 h5 ⊢
   refine⟨ms,os,ps,rfl,hw,hl,hc,ho,hd,hr,λS5 q5 e5 n5 h6=>?_⟩
   exact⟨wW (n:=3) lps h6 (e5 _ _ h5),λS6 e6=>w S6 (((e1.trans E4).trans e5).trans e6)⟩
  | fld=>
   have lt:d=_:=lt;subst lt;refine⟨(_,none),rfl,rfl,rfl,false,rfl,n9 (λz=>by cases z) (λ_=>?_)⟩
   refine⟨e1 _ _ hT,λg hg=>⟨g,1,_,rfl,ak,Mv,λS4=>⟨ms,os,rfl,hw,hl,hc,ho,hd,λpre s post ps' em hst jf S5 e5=>⟨rfl,e5⟩,λpre s post ps' em hst js S5 e5=>(by cases hr.stk_of em hst js),λps' S5 q5 hst _ _ _ _=>(by cases hr.pts_of hst)⟩,λp S4 e4 hp=>?_⟩⟩
   refine⟨a9,λp1 hp1=>⟨a9,λp2 hp2=>⟨a9,λp3 hp3=>?_⟩⟩⟩
   have A:=bV.new (o:=.lst [.ref p1,.ref p2]) hp3 _ _ (bV.new (o:=.lst [.int 4]) hp2 _ _ (bV.new (o:=.lst [.int 1]) hp1 _ _ (ak (S:=S4) (a:=p) (o:=.lst [.int 1]))));have B:=bV.new (o:=.lst [.ref p1,.ref p2]) hp3 _ _ (bV.new (o:=.lst [.int 4]) hp2 _ _ (ak (a:=p1) (o:=.lst [.int 1])));have X:=((bV.new (o:=.lst [.int 1]) hp).trans (bV.new (o:=.lst [.int 1]) hp1)).trans ((bV.new (o:=.lst [.int 4]) hp2).trans (bV.new (o:=.lst [.ref p1,.ref p2]) hp3));refine⟨false,rfl,_,_,ak,rfl,[.int 1],[.int 1],true,A,B,rfl,rfl,nc (λz=>by cases z) (λ_=>?_)⟩
   exact⟨true,rfl,w _ (e1.trans ((bV.new hg).trans (bV.trans e4 X)))⟩
  | stk n=>
   have lt:d=_:=lt;subst lt;refine⟨(_,none),rfl,rfl,rfl,false,rfl,n9 (λz=>by cases z) (λ_=>?_)⟩
   refine⟨e1 _ _ hT,λg hg=>⟨g,4,_,rfl,ak,Mw _ Mv,λS4=>⟨ms,os,rfl,hw,hl,hc,ho,hd,λpre s post ps' em hst jf S5 e5=>(by cases hr.fld_of em hst jf),λpre s post ps' em hst js S5 e5=>⟨rfl,e5⟩,λps' S5 q5 hst _ _ _ _=>(by cases hr.pts_of hst)⟩,λp S4 e4 hp=>?_⟩⟩
   refine⟨a9,λp1 hp1=>⟨a9,λp2 hp2=>⟨a9,λp3 hp3=>?_⟩⟩⟩
   have A:=bV.new (o:=.lst [.ref p1,.ref p2]) hp3 _ _ (bV.new (o:=.lst [.int 4]) hp2 _ _ (bV.new (o:=.lst [.int 1]) hp1 _ _ (ak (S:=S4) (a:=p) (o:=.lst [.int 4]))));have B:=bV.new (o:=.lst [.ref p1,.ref p2]) hp3 _ _ (ak (a:=p2) (o:=.lst [.int 4]));have X:=((bV.new (o:=.lst [.int 4]) hp).trans (bV.new (o:=.lst [.int 1]) hp1)).trans ((bV.new (o:=.lst [.int 4]) hp2).trans (bV.new (o:=.lst [.ref p1,.ref p2]) hp3));refine⟨true,rfl,_,_,ak,rfl,[.int 4],[.int 4],true,A,B,rfl,rfl,nc (λz=>by cases z) (λ_=>?_)⟩
   have EX:=e1.trans ((bV.new hg).trans (bV.trans e4 X));generalize put (put (put (put S4 p _) p1 _) p2 _) p3 _=T at EX ⊢;refine⟨false,rfl,EX _ _ hT,λg2 hg2=>⟨g2,rfl,ak,λS8 e8=>?_⟩⟩
   have e78:bV T S8:=λb o h=>e8 b o (λz=>by rw [z,hg2] at h; cases h) (bV.new hg2 _ _ h)
   refine⟨ms,os,rfl,hw,hl,hc,ho,hd,λpre s post ps' em hst jf S5 e5=>(by cases hr.fld_of em hst jf),λpre s post ps' em hst js S5 e5=>?_,λps' S5 q5 hst _ _ _ _=>(by cases hr.pts_of hst)⟩
   have en:=hr.stk_of em hst js;injection en with en
   subst en;exact⟨rfl,_,rfl,tH (n:=7),λSa ea=>w Sa ((EX.trans e78).trans (bV.trans e5 ea))⟩
set_option maxHeartbeats 4000000
theorem AE {S:DH} {q:Nl} {ds:List D} {g:DG} {b:DS} {M:oY} {L:Lo} (hq:S q=none) (h:∀ S',bV S S'->S' q=some (.lst ds)->hV (dG (ds,some q)) g b M ds L S'):∃ p,aS (put S q (.lst ds)) (.ref q)=some p/\hV (dG p) g b M p.1 L (put S q (.lst ds)):=
 ⟨(ds,some q),by simp only [aS]; rw [ak],h _ (bV.new hq) ak⟩
def Kx (d:D):Prop:=∃ ms:List aG,d=MD ms/\Wf ms/\ms.length<=7/\j0 ms<=5
def xm (pT:Nl):cr:=λds S k=>∃ ns:List Int,ds=[.rl (List.map D.int ns)]/\ns.length<=63/\S pT=some tb/\∀ S',k (.bl true) S'
theorem sO:av ["script","k","state","machine","turn"] ["script"] (am A3):=ej
theorem G3 {b7:Nl} (Fn:FN K "law" A3 f fd) (kN:aZ P w K mg base "_law_state" 2 o_) (lR:aZ P w K mg base "_law_four" 36 qH) (iR:aZ P w K mg base "_law_machine" 37 mo) (ke:aZ P w K mg base "_law_right" 45 (oP b7)) (jj:aZ P w K mg base "_law_drives" 36 mJ) (dW:mg "range"=none) (C4:mg "max"=none) (BD:mg "min"=none) (dP:mg "len"=none):
  aU P w K mg base cW 46 f fd ["script"] (cY K (xm b7)):=by
 refine Fn.okJ sO (λds S k h=>?_) (λcdv A outer s H E hr=>⟨_,(ag (pV PassesOwn.never rfl rfl dW (aa (aQ Jd rfl C4 GW (aa ah (aa (aQ J3 rfl BD Hq (aa (aQ jp rfl dP jD (aB 0 ac)) (aa ah ac))) ac))) ac) (aJ (i:=1) sO.nd) (ag (aq (i:=2) sO.nd (dq kN hr (aB 0 (aB 1 ac)))) (ai (gw PassesOwn.never rfl (cb (aa (dq iR hr (aB 2 ac)) (aa (dq lR hr (aB 2 ac)) ac))) (aJ (i:=3) sO.nd) (ai (pV PassesOwn.never rfl rfl dW (aa ah ac) (aJ (i:=4) sO.nd) (ai (aE (f_ (cV (dq ke hr (aB 3 (aa (dq jj hr (aB 2 (aB 3 ac))) ac))))) (ai (ar oy)) aL)))))))) (ai (ar oy))),λds S k h=>?_⟩)
 ·obtain⟨_,rfl,_⟩:=h
  rfl
 ·obtain⟨ns,rfl,hl,hT,w⟩:=h;have hb:∀ z:Int,0<=z->z<=63->-(2 ^ 62)<=z/\z < 2 ^ 62:=λz _ _=>by omega
  refine⟨hb _ (by split <;> (try split) <;> omega) (by rw [Mq]; split <;> (try split) <;> omega),?_⟩
  refine wI (P:=λd=>∃ i:Int,d=.int i/\0<=i) (λL S'=>(∃ r1 r2 r3 r4,L=[some (.rl (List.map D.int ns)),r1,r2,r3,r4])/\S' b7=some tb) (λ_ _ _=>trivial) ?_ (λL S' _=>w S') _ ?_ _ _ ⟨⟨_,_,_,_,rfl⟩,hT⟩
  ·rintro d L S1 Nx ⟨i,rfl,hi⟩ ⟨⟨r1,r2,r3,r4,rfl⟩,hT1⟩ hN;refine⟨ns,i,rfl,hi,λp n0 b hp hnb=>?_⟩
   have pT:b7≠p:=λz=>by rw [z,hp] at hT1; cases hT1
   have hS:sL (put S1 p (.lst [.int n0,.bl b])) p:=⟨n0,b,ak,hnb⟩;have t1:put S1 p (.lst [.int n0,.bl b]) b7=some tb:=by rw [bw pT]; exact hT1
   generalize put S1 p (.lst [.int n0,.bl b])=T1 at hS t1 ⊢
   refine⟨p,rfl,hS,λms1 S2 hw1 _ l1 f1 d2=>⟨p,rfl,d2.1,λms2 S3 hw2 l2 c2 d3=>⟨a9,λq hq=>AE hq λT7 e7 h7=>?_⟩⟩⟩
   have qp:=d3.1.ne hq;have t7:=e7 _ _ (d3.2 _ _ pT (d2.2 _ _ pT t1));have s7:=(Dr.ext d3.1 e7).1;have hall:∀ d∈[MD ms1,MD ms2],Kx d:=λd hd=>by
    simp only [Mt,ME,or_false] at hd;rcases hd with rfl | rfl
    ·exact⟨ms1,rfl,hw1,l1,LO hw1 l1 f1⟩
    ·exact⟨ms2,rfl,hw2,l2,c2⟩
   refine gh (λrr L S'=>(∃ a1 a3 a4,L=[some (.rl (List.map D.int ns)),a1,some (.ref p),a3,a4])/\sL S' p/\S' q=some (.lst [MD ms1,MD ms2])/\S' b7=some tb/\∀ d∈rr,Kx d) ?_ ?_ ?_ _ _ _ ⟨⟨_,_,_,rfl⟩,s7,h7,t7,hall⟩
   ·rintro r L S' ⟨_,_,h,_⟩;exact h
   ·rintro d rr L S' N1 ⟨⟨a1,a3,a4,rfl⟩,sk,hq',ht,hm⟩ hN1;obtain⟨ms,rfl,hw,l7,c5⟩:=hm _ Mv;have tl:∀ d∈rr,Kx d:=λd hd=>hm d (Mw _ hd)
    refine⟨⟨by decide,by decide⟩,?_⟩
    refine gh (λ_ L S'=>(∃ a1 a4,L=[some (.rl (List.map D.int ns)),a1,some (.ref p),some (MD ms),a4])/\sL S' p/\S' q=some (.lst [MD ms1,MD ms2])/\S' b7=some tb) (λ_ _ _ _=>trivial) ?_ ?_ _ _ _ ⟨⟨_,_,rfl⟩,sk,hq',ht⟩
    ·rintro d r2 L S4 N2 ⟨⟨a1,a4,rfl⟩,sk4,hq4,ht4⟩ hN2;refine⟨p,ms,rfl,sk4,l7,λos S5 ho hd d5=>⟨ms,os,rfl,hw,l7,c5,ho,hd,d5.2 _ _ pT ht4,λS6 e6=>nc (λz=>by cases z) (λ_=>?_)⟩⟩
     exact hN2 _ _ ⟨⟨_,_,rfl⟩,(Dr.ext d5.1 e6).1,e6 _ _ (d5.2 _ _ qp hq4),e6 _ _ (d5.2 _ _ pT ht4)⟩
    ·rintro L S4 ⟨⟨a1,a4,rfl⟩,sk4,hq4,ht4⟩;exact hN1 _ _ ⟨⟨_,_,_,rfl⟩,sk4,hq4,ht4,tl⟩
   ·rintro L S' ⟨⟨a1,a3,a4,rfl⟩,_,_,ht,_⟩;exact hN _ _ ⟨⟨_,_,_,_,rfl⟩,ht⟩
  ·intro d hd;obtain⟨z,_,rfl⟩:=List.mem_map.mp hd;exact⟨_,rfl,by omega⟩
theorem Dy (pT:Nl) (ns:List Int) (h:ns.length<=63):xm pT [.rl (List.map D.int ns)] (C9 [(pT,Iw)]) (λd _=>d=.bl true):=⟨ns,rfl,h,by simp [C9],λ_=>rfl⟩
end My
def PySem.W.Fast.tw12820688261501049744:Unit:=()
def PySem.W.Fast.tw10487139818292648757:Unit:=()
def PySem.W.Fast.tw3187012679781633876:Unit:=()
def PySem.W.Fast.tw13220722250009296959:Unit:=()
def PySem.W.Fast.tw10671857440941862963:Unit:=()
def PySem.W.Fast.tw17749671058267281922:Unit:=()
def PySem.W.Fast.tw12293078623908234138:Unit:=()
def PySem.W.Fast.tw1864139253287551395:Unit:=()
def PySem.W.Fast.tw15445494939746816193:Unit:=()
def PySem.W.Fast.tw5272814219255727240:Unit:=()
def PySem.W.Fast.tw6452178858493776831:Unit:=()
def PySem.W.Fast.tw11620229417743638480:Unit:=()
def PySem.W.Fast.tw17751773303507826223:Unit:=()
def PySem.W.Fast.tw6631538369647720243:Unit:=()
def PySem.W.Fast.tw18035628461863871285:Unit:=()
def PySem.W.Fast.tw11384950902610177419:Unit:=()
def PySem.W.Fast.tw13894055616169014720:Unit:=()
def PySem.W.Fast.tw15351392234082125123:Unit:=()
def PySem.W.Fast.tw1925055712193489777:Unit:=()
def PySem.W.Fast.tw8226810797815782990:Unit:=()
def PySem.W.Fast.tw3663885348085413789:Unit:=()
def PySem.W.Fast.tw15483913151374281338:Unit:=()
def PySem.W.Fast.tw4381926114355678114:Unit:=()
def PySem.W.Fast.tw11070187776008887786:Unit:=()
def PySem.W.Fast.tw4568465618692465121:Unit:=()
def PySem.W.Fast.tw6861835735940061411:Unit:=()
def PySem.W.Fast.tw14761599630341243307:Unit:=()
def PySem.W.Fast.tw17937860836764881064:Unit:=()
def PySem.W.Fast.tw1093013257819421660:Unit:=()
def PySem.W.Fast.tw15705329749077516157:Unit:=()
def PySem.W.Fast.tw7234873144368788919:Unit:=()
def PySem.W.Fast.tw14750651242667449584:Unit:=()
def PySem.W.Fast.tw4684981121298388604:Unit:=()
def PySem.W.Fast.tw2241866475489691160:Unit:=()
def PySem.W.Fast.tw1419434505229340895:Unit:=()
def PySem.W.Fast.tw4940265830699338508:Unit:=()
def PySem.W.Fast.tw7255228002531996669:Unit:=()
def PySem.W.Fast.tw8406404951475763054:Unit:=()
def PySem.W.Fast.tw7031096921237105675:Unit:=()
def PySem.W.Fast.tw11127789355684180498:Unit:=()
def PySem.W.Fast.tw4150667764939547871:Unit:=()
def PySem.W.Fast.tw11863964180455705801:Unit:=()
def PySem.W.Fast.tw3425189142783935204:Unit:=()
def PySem.W.Fast.tw11941558659272148999:Unit:=()
def PySem.W.Fast.tw985309411461406532:Unit:=()
def PySem.W.Fast.tw3350598052553444446:Unit:=()
def PySem.W.Fast.tw1761081784156425029:Unit:=()
def PySem.W.Fast.tw1770186109436053417:Unit:=()
def PySem.W.Fast.tw8148559072894313625:Unit:=()
def PySem.W.Fast.tw3686928839288447077:Unit:=()
def PySem.W.Fast.tw1399461194913460522:Unit:=()
def PySem.W.Fast.tw1283438616111930900:Unit:=()
def PySem.W.Fast.tw953913191485439709:Unit:=()
def PySem.W.Fast.tw17848424988902320275:Unit:=()
def PySem.W.Fast.tw3454249307161935896:Unit:=()
def PySem.W.Fast.tw14719514370252106911:Unit:=()
def PySem.W.Fast.tw17087728266376240943:Unit:=()
def PySem.W.Fast.tw17695434133360981314:Unit:=()
def PySem.W.Fast.tw13848719497376934941:Unit:=()
def PySem.W.Fast.tw8366795095684560334:Unit:=()
def PySem.W.Fast.tw9405004627952691498:Unit:=()
def PySem.W.Fast.tw14388610084511737338:Unit:=()
def PySem.W.Fast.tw10676182800677430383:Unit:=()
def PySem.W.Fast.tw17733211116277598251:Unit:=()
def PySem.W.Fast.tw16836067068590852033:Unit:=()
def PySem.W.Fast.tw398320969767418031:Unit:=()
def PySem.W.Fast.tw15955397351540203251:Unit:=()
def PySem.W.Fast.tw12780686344744832804:Unit:=()
def PySem.W.Fast.tw2550022824816726078:Unit:=()
def PySem.W.Fast.tw7395182734298566412:Unit:=()
def PySem.W.Fast.tw8009928158435121294:Unit:=()
def PySem.W.Fast.tw4064837758262715901:Unit:=()
def PySem.W.Fast.tw3625910759266670251:Unit:=()
def PySem.W.Fast.tw16407866124323766615:Unit:=()
def PySem.W.Fast.tw169768065248097978:Unit:=()
def PySem.W.Fast.tw13011716771121065211:Unit:=()
def PySem.W.Fast.tw14425509992368576396:Unit:=()
def PySem.W.Fast.tw1711603537941686249:Unit:=()
def PySem.W.Fast.tw13520400313169047747:Unit:=()
def PySem.W.Fast.tw15429036905022206855:Unit:=()
def PySem.W.Fast.tw4570771511445717087:Unit:=()
def PySem.W.Fast.tw6948571332721300898:Unit:=()
def PySem.W.Fast.tw8023427099227251215:Unit:=()
def PySem.W.Fast.tw18254836464914853657:Unit:=()
def PySem.W.Fast.tw6303491072667390948:Unit:=()
def PySem.W.Fast.tw12565218017790447554:Unit:=()
def PySem.W.Fast.tw17747919616952970911:Unit:=()
def PySem.W.Fast.tw4950626382292519544:Unit:=()
def PySem.W.Fast.tw16845029115923206819:Unit:=()
def PySem.W.Fast.tw13903957542664343891:Unit:=()
namespace My
open PySem PySem.Spec PyProof.Rows L2 DL HM
set_option maxHeartbeats 4000000
theorem Gw {l:PySem.W.OpenLaw} {w:Nr} {K:Fg} {h:Nt} {mg:Str->Nm Nk} {fa:Nl} (X:K.In h) (G:h.Ns mainGlobals mg) (hfa:mg "law"=some (.ref fa))
  {f1 f2 f3 f4 f5 f6 f7 f8 f9 f10 f11 f12 f13 f14 f15 f16 f17 f18 f19 f20 f21 f22 f23 f24 f25 f26 f27 f28 f29 f30 f31 f32 f33 f34 f35 f36 f37 f38 f39 f40 f41 f42 f43 f44 f45 f46 f47 f48 f49 f50 f51 f52 f53 f54 f55 f56 f57 f58 f59 f60 f61 f62 f63 f64 f65 f66 f67 f68 f69 f70 f71:Nl} {cd1 cd2 cd3 cd4 cd5 cd6 cd7 cd8 cd9 cd10 cd11 cd12 cd13 cd14 cd15 cd16 cd17 cd18 cd19 cd20 cd21 cd22 cd23 cd24 cd25 cd26 cd27 cd28 cd29 cd30 cd31 cd32 cd33 cd34 cd35 cd36 cd37 cd38 cd39 cd40 cd41 cd42 cd43 cd44 cd45 cd46 cd47 cd48 cd49 cd50 cd51 cd52 cd53 cd54 cd55 cd56 cd57 cd58 cd59 cd60 cd61 cd62 cd63 cd64 cd65 cd66 cd67 cd68 cd69 cd70 cd71:Nk}
  {sZ:Nl} {z_:Nm Nl} {An:Nv (Nm Nk)} {AT:Nat} {zF Ak:Tok}
  {BS:Nl} {FY:Nm Nl} {HG:Nv (Nm Nk)} {JK:Nat} {Hl GD:Tok}
  {gF:Nl}
  {kA:Nl}
  {az:Nl}
  {eB:Nl}
  {fA:Nl}
  {aM:Nl}
  {aV:Nl}
  {io:Nl}
  {k_:Nl}
  {iy:Nl}
  {fi_Stuck:Nl} {cdi_Stuck:Nk}
  (d1:DI K "common_divisor" gz f1 cd1)
  (d2:DI K "ratio" vx f2 cd2)
  (d3:DI K "plus" yx f3 cd3)
  (d4:DI K "minus" vO f4 cd4)
  (d5:DI K "times" vi f5 cd5)
  (d6:DI K "over" xB f6 cd6)
  (d7:DI K "negative" nW f7 cd7)
  (d8:DI K "without_sign" iV f8 cd8)
  (d9:DI K "whole_root" kY f9 cd9)
  (d10:DI K "square_root_or_none" dU f10 cd10)
  (d11:DI K "root_in" qC f11 cd11)
  (d12:DI K "is_plain" m7 f12 cd12)
  (d13:DI K "with_sign_of" ir f13 cd13)
  (d14:DI K "made" xK f14 cd14)
  (d15:DI K "field_base" j6 f15 cd15)
  (d16:DI K "share" wa f16 cd16)
  (d17:DI K "joined" sh f17 cd17)
  (d18:DI K "root_negative" gZ f18 cd18)
  (d19:DI K "root_plus" lS f19 cd19)
  (d20:DI K "root_minus" kH f20 cd20)
  (d21:DI K "root_times" ka f21 cd21)
  (d22:DI K "way_between" jk f22 cd22)
  (d23:DI K "plain_point" jw f23 cd23)
  (d24:DI K "place_of" ni f24 cd24)
  (d25:DI K "plain_way" lM f25 cd25)
  (d26:DI K "product_of_ways" fR f26 cd26)
  (d27:DI K "moved" vZ f27 cd27)
  (d28:DI K "moved_by_root" gT f28 cd28)
  (d29:DI K "both_moved" kQ f29 cd29)
  (d30:DI K "square_of_unlike" dJ f30 cd30)
  (d31:DI K "one_field" mh f31 cd31)
  (d32:DI K "ask_one_field" fj f32 cd32)
  (d33:DI K "circles_meet" fT f33 cd33)
  (d34:DI K "direction_of" iO f34 cd34)
  (d35:DI K "crank_end" lQ f35 cd35)
  (d36:DI K "is_plain_point" gE f36 cd36)
  (d37:DI K "pair_point" ib f37 cd37)
  (d38:DI K "like_at" mD f38 cd38)
  (d39:DI K "_law_cell_at" iQ f39 cd39)
  (d40:DI K "_law_state" kK f40 cd40)
  (d41:DI K "_law_take" l_ f41 cd41)
  (d42:DI K "_law_divisor" iA f42 cd42)
  (d43:DI K "_law_ratio" j9 f43 cd43)
  (d44:DI K "_law_times" jZ f44 cd44)
  (d45:DI K "_law_small" kE f45 cd45)
  (d46:DI K "_law_plus" lY f46 cd46)
  (d47:DI K "_law_minus" kI f47 cd47)
  (d48:DI K "_law_over" mj f48 cd48)
  (d49:DI K "_law_both_plus" gy f49 cd49)
  (d50:DI K "_law_both_minus" fO f50 cd50)
  (d51:DI K "_law_above" kl f51 cd51)
  (d52:DI K "_law_two_joints" fX f52 cd52)
  (d53:DI K "_law_next_step" gu f53 cd53)
  (d54:DI K "_law_machine" iG f54 cd54)
  (d55:DI K "stand" rm f55 cd55)
  (d56:DI K "_law_known_root" fM f56 cd56)
  (d57:DI K "_law_pair_times" gf f57 cd57)
  (d58:DI K "_law_joint" kB f58 cd58)
  (d59:DI K "_law_shown" km f59 cd59)
  (d60:DI K "_law_pair_joint" gm f60 cd60)
  (d61:DI K "_law_crank_joint" fu f61 cd61)
  (d62:DI K "_law_one_root" gX f62 cd62)
  (d63:DI K "_law_like_joint" f' f63 cd63)
  (d64:DI K "_law_stand" kb f64 cd64)
  (d65:DI K "_law_same" jd f65 cd65)
  (d66:DI K "_law_refused" iJ f66 cd66)
  (d67:DI K "_law_drives" jv f67 cd67)
  (d68:DI K "_law_stuck_at" gY f68 cd68)
  (d69:DI K "_law_four" lG f69 cd69)
  (d70:DI K "_law_right" kR f70 cd70)
  (d71:DI K "law" A3 f71 cd71)
  (jm:cd70=.ref 619)
  (pP:PySem.W.nsIn K mainGlobals "NOUGHT"=some (some (.ref sZ))) (qe:K.lookup sZ=some ⟨.type "tuple",z_,.seq #[.int 0 zF,.int 1 Ak] AT,An⟩)
  (xZ:PySem.W.nsIn K mainGlobals "ONE"=some (some (.ref BS))) (yh:K.lookup BS=some ⟨.type "tuple",FY,.seq #[.int 1 Hl,.int 1 GD] JK,HG⟩)
  (lF:PySem.W.nsIn K mainGlobals "RodError"=some (some (.ref gF)))
  (qB:PySem.W.nsIn K mainGlobals "NoRoot"=some (some (.ref kA)))
  (nR:PySem.W.nsIn K mainGlobals "NoField"=some (some (.ref az)))
  (jt:PySem.W.nsIn K mainGlobals "NoQuotient"=some (some (.ref eB)))
  (jY:PySem.W.nsIn K mainGlobals "NoMachine"=some (some (.ref fA)))
  (rW:PySem.W.nsIn K mainGlobals "Stuck"=some (some (.ref aM)))
  (p0:PySem.W.nsIn K mainGlobals "NoMeet"=some (some (.ref aV)))
  (nU:PySem.W.nsIn K mainGlobals "BadNote"=some (some (.ref io)))
  (pw:PySem.W.nsIn K mainGlobals "NoName"=some (some (.ref k_)))
  (na:PySem.W.nsIn K mainGlobals "NoCurve"=some (some (.ref iy)))
  (kZ:PySem.W.excIn K az [.type "ValueError",.type "Exception",.type "BaseException",.type "object"] "ValueError.__new__"=true)
  (mv:PySem.W.excIn K aV [.type "ValueError",.type "Exception",.type "BaseException",.type "object"] "ValueError.__new__"=true)
  (ei_Stuck:EI K [.type "ValueError",.type "Exception",.type "BaseException",.type "object"] "Stuck.__init__" "step" yJ aM fi_Stuck cdi_Stuck)
  (ng:PySem.W.findIn K (.ref az) "__getattribute__"=some (some (.builtin "BaseException.__getattribute__")))
  (nA:PySem.W.findIn K (.ref az) "__getattr__"=some none)
  (nI:PySem.W.findIn K (.ref az) "__class__"=some (some (.builtin "object.__class__")))
  (ny:PySem.W.subIn K (.ref az) (.type "BaseException")=some true)
  (nV:PySem.W.subIn K (.ref az) (.type "object")=some true)
  (nh:(PySem.W.clsIn K az).isSome=true)
  (nM:PySem.W.kitOne K (.ref az) (.type "ValueError")=some true)
  (nX:PySem.W.exmOne K (.ref az) (.ref gF)=some true)
  (lN:PySem.W.kitOne K (.ref az) (.ref eB)=some false)
  (lP:PySem.W.kitOne K (.ref az) (.ref az)=some true)
  (lD:PySem.W.kitOne K (.ref az) (.ref kA)=some false)
  (l9:PySem.W.kitOne K (.ref az) (.ref aV)=some false)
  (l':PySem.W.kitOne K (.ref az) (.ref aM)=some false)
  (lX:PySem.W.kitOne K (.ref az) (.ref fA)=some false)
  (mf:PySem.W.kitOne K (.ref az) (.ref iy)=some false)
  (lB:PySem.W.kitOne K (.ref az) (.ref k_)=some false)
  (lO:PySem.W.kitOne K (.ref az) (.ref io)=some false)
  (tw:PySem.W.findIn K (.ref aM) "__getattribute__"=some (some (.builtin "BaseException.__getattribute__")))
  (tv:PySem.W.findIn K (.ref aM) "__getattr__"=some none)
  (rP:PySem.W.findIn K (.ref aM) "__class__"=some (some (.builtin "object.__class__")))
  (rM:PySem.W.subIn K (.ref aM) (.type "BaseException")=some true)
  (tJ:PySem.W.subIn K (.ref aM) (.type "object")=some true)
  (rN:(PySem.W.clsIn K aM).isSome=true)
  (rL:PySem.W.kitOne K (.ref aM) (.type "ValueError")=some true)
  (rE:PySem.W.exmOne K (.ref aM) (.ref gF)=some true)
  (qu:PySem.W.kitOne K (.ref aM) (.ref eB)=some false)
  (qt:PySem.W.kitOne K (.ref aM) (.ref az)=some false)
  (ql:PySem.W.kitOne K (.ref aM) (.ref kA)=some false)
  (p6:PySem.W.kitOne K (.ref aM) (.ref aV)=some false)
  (pM:PySem.W.kitOne K (.ref aM) (.ref aM)=some true)
  (pJ:PySem.W.kitOne K (.ref aM) (.ref fA)=some false)
  (pS:PySem.W.kitOne K (.ref aM) (.ref iy)=some false)
  (pQ:PySem.W.kitOne K (.ref aM) (.ref k_)=some false)
  (pC:PySem.W.kitOne K (.ref aM) (.ref io)=some false)
  (lE:PySem.W.exmOne K (.ref aM) (.ref aM)=some true)
  (ss_Stuck:L2.sj K aM=true)
  (jV:PySem.W.exmOne K (.ref aV) (.ref aV)=some true)
  (hTr:l.prog.given.tree=none)
  (BB:PySem.W.nsIn K mainGlobals "abs"=some none) (Bw:PySem.W.nsIn K mainGlobals "zip"=some none) (Dl:PySem.W.nsIn K mainGlobals "len"=some none) (wk:PySem.W.nsIn K mainGlobals "range"=some none) (mi:PySem.W.nsIn K mainGlobals "enumerate"=some none) (vA:PySem.W.nsIn K mainGlobals "tuple"=some none) (lg:PySem.W.nsIn K mainGlobals "isinstance"=some none) (yp:PySem.W.nsIn K mainGlobals "list"=some none) (CK:PySem.W.nsIn K mainGlobals "all"=some none) (xN:PySem.W.nsIn K mainGlobals "bool"=some none) (kv:PySem.W.nsIn K mainGlobals "ValueError"=some none) (CV:PySem.W.nsIn K mainGlobals "int"=some none) (A4:PySem.W.nsIn K mainGlobals "max"=some none) (B3:PySem.W.nsIn K mainGlobals "min"=some none):
  ∃ fd:FuncData,(∀ (s:Nj) (v:Nk),BindsTo s fd ⟨[v],[]⟩ [("script",v)])/\∀ base:Nt,K.In base->base.Ns mainGlobals mg->lC mg base->PySem.W.CodeAll [(619,617)] base->aU l.prog w K mg base cW 46 fa fd ["script"] (cY K (xm 617)):=by
 have e:=hfa.symm.trans (PySem.W.mg_of X G d71.a);cases e;have jJ:=M5 X G BB;have oo:=M5 X G Bw;have dP:=M5 X G Dl;have dW:=M5 X G wk;have c9:=M5 X G mi;have c_:=M5 X G vA;have aK:=M5 X G lg;have lK:=M5 X G yp;have uB:=M5 X G CK;have m_:=M5 X G xN;have j5:=M5 X G kv;have Di:=M5 X G CV;have C4:=M5 X G A4;have BD:=M5 X G B3;have mY:=PySem.W.mg_of X G lF;have tK:=PySem.W.mg_of X G qB;have eS:=PySem.W.mg_of X G nR;have ko:=PySem.W.mg_of X G jt;have lL:=PySem.W.mg_of X G jY;have il:=PySem.W.mg_of X G rW;have gn:=PySem.W.mg_of X G p0;have qv:=PySem.W.mg_of X G nU;have rH:=PySem.W.mg_of X G pw;have pL:=PySem.W.mg_of X G na;have qi_Stuck:CD K mg "Stuck" aM:=ei_Stuck.err il PySem.F.excBase_ValueError PySem.F.store_ValueError A0 ⟨_,_,_,_,rfl⟩ (by rw [typeLookup_type,builtinLookup_eq_fast]; kernel_rfl)
 have bH:tZ K mg "NOUGHT" [0,1]:=⟨sZ,_,_,_,PySem.W.mg_of X G pP,qe,rfl,rfl,MF rfl,.cons ⟨_,rfl⟩ (.cons ⟨_,rfl⟩ (.nil))⟩
 have xg:tZ K mg "ONE" [1,1]:=⟨BS,_,_,_,PySem.W.mg_of X G xZ,yh,rfl,rfl,MF rfl,.cons ⟨_,rfl⟩ (.cons ⟨_,rfl⟩ (.nil))⟩
 have hR:∀ j C,(j,C)∈[(1,az),(4,aM)]->Jo K (.ref gF) [eB,az,kA,aV,aM,fA,iy,k_,io] j C:=by
  intro j C hm;simp only [Mt,ME,or_false,Prod.mk.injEq] at hm;rcases hm with ⟨rfl,rfl⟩ | ⟨rfl,rfl⟩
  ·exact⟨⟨ng,nA,nI,ny,nV,nh⟩,Iy lN lP lD l9 l' lX mf lB lO,nM,nX,by decide⟩
  ·exact⟨⟨tw,tv,rP,rM,tJ,rN⟩,Iy qu qt ql p6 pM pJ pS pQ pC,rL,rE,by decide⟩
 obtain⟨fd,Fn,hc,hb⟩:=d71.fn;refine⟨fd,hb,λbase _ _ hBl hCA=>?_⟩
 have r9:PySem.W.CodeHd base 619 617:=hCA.1;have zb:Bs l.prog w base:=.mk;have gH:=d1.own zb X G λ_ F _=>o7 F jJ
 have fm:=d2.own zb X G λ_ F _=>CW F gH hBl hTr
 have bU:=d3.own zb X G λ_ F _=>EK F fm
 have dL:=d4.own zb X G λ_ F _=>AU F fm
 have bc:=d5.own zb X G λ_ F _=>B4 F fm
 have dS:=d6.own zb X G λ_ F _=>Eb F fm
 have bb:=d7.own zb X G λ_ F _=>w_ F
 have a_:=d8.own zb X G λ_ F _=>q_ F jJ
 have kG:=d9.own zb X G λ_ F _=>uq F hBl hTr
 have cU:=d10.own zb X G λ_ F _=>kD F kG
 have eO:=d11.own zb X G λ_ F _=>x9 F cU
 have ba:=d12.own zb X G λ_ F _=>w6 F
 have bn:=d13.own zb X G λ_ F _=>qU F bb
 have yD:=d14.own zb X G λ_ F _=>DW F eO a_ bU bn bH
 have eR:=d15.own zb X G λ_ F _=>uf F a_ ba
 have je:=d16.own zb X G λ_ F _=>Cq F ba eO dS a_ bn bH
 have jK:=d17.own zb X G λ_ F _=>Aa F bc bn
 have gR:=d18.own zb X G λ_ F _=>pG F bb
 have bT:=d19.own zb X G λ_ F _=>vL F eR bU je jK
 have ci:=d20.own zb X G λ_ F _=>uu F bT gR
 have bO:=d21.own zb X G λ_ F _=>ub F eR je bU bc jK
 have dR:=d22.own zb X G λ_ F _=>sI F ci
 have bv:=d23.own zb X G λ_ F _=>tM F bH
 have cS:=d24.own zb X G λ_ F _=>xl F
 have fD:=d25.own zb X G λ_ F _=>vT F dL
 have cn:=d26.own zb X G λ_ F _=>nq F bU bc
 have hZ:=d27.own zb X G λ_ F _=>Cr F bU bc
 have ff:=d28.own zb X G λ_ F _=>qf F bc yD bn oo
 have eN:=d29.own zb X G λ_ F _=>ua F bv bb ff
 have fx:=d30.own zb X G λ_ F _=>mG F cn
 have eX:=d30.ownX zb X G λ_ F=>lH F cn gn mv
 have fE:=d31.own zb X G λ_ F _=>v_ F ba eO dS a_
 have gW:=d32.own zb X G λ_ F _=>qj F ba fE
 have gC:=d32.ownX zb X G λ_ F=>pe F fE ba eS kZ
 have BH:=d33.own zb X G λ_ F _=>qO F cS fD fx dS bU dL bc eN bb hZ
 have g6:=d33.ownX zb X G λ_ F=>pH F eN bb hZ dL bc dS bU fD cS eX
 have iz:=d34.own zb X G λ_ F _=>qN F bb bc bU dS dL bH xg
 have fF:=d35.own zb X G λ_ F _=>vo F bv hZ iz cS
 have bS:=d36.own zb X G λ_ F _=>oX F ba
 have kh:=d37.own zb X G λ_ F _=>ut F bS dP
 have jB:=d37.ownX zb X G λ_ F=>tm F bS g6 dP il qi_Stuck gn mv eS kZ jV
 have pZ:=d38.own zb X G λ_ F _=>xR F gW dR ci bO bT bH
 have nY:=d38.ownX zb X G λ_ F=>xi F bT bO ci dR gC bH
 have iM:=d39.own zb X G λ_ F _=>qT F dP
 have kN:=d40.own zb X G λ_ F _=>uw F iM
 have aC:=d41.own zb X G λ_ F _=>vm F
 have iF:=d42.own zb X G λ_ F _=>qM F jJ
 have aW:=d43.own zb X G λ_ F _=>t5 F iF hBl hTr
 have aw:=d44.own zb X G λ_ F _=>t6 F aW
 have aX:=d45.own zb X G λ_ F _=>t_ F aW aC
 have aR:=d46.own zb X G λ_ F _=>vn F aW
 have bo:=d47.own zb X G λ_ F _=>uo F aW
 have ck:=d48.own zb X G λ_ F _=>vX F aW
 have dB:=d49.own zb X G λ_ F _=>oU F aR
 have di:=d50.own zb X G λ_ F _=>nu F bo
 have cJ:=d51.own zb X G λ_ F _=>t9 F aW aC
 have fL:=d52.own zb X G λ_ F _=>nJ F aC
 have gr:=d53.own zb X G λ_ F _=>oG F aC aX cJ fL aw dP dW
 have iR:=d54.own zb X G λ_ F _=>qV F aC gr dW
 have J9:=d55.own zb X G λ_ F _=>A6 F bv fF kh pZ c9
 have iq:=d55.ownX zb X G λ_ F=>zC F bv fF jB nY c9
 have bC:=d56.own zb X G λ_ F _=>nN F
 have cm:=d57.own zb X G λ_ F _=>nF F aR aw
 have eU:=d58.own zb X G λ_ F _=>ud F bC aR aw
 have kO:=d59.own zb X G λ_ F _=>ux F aw jJ c_
 have fU:=d60.own zb X G λ_ F _=>nH F bo aR aw ck eU
 have fy:=d61.own zb X G λ_ F _=>mE F aR aw ck bo
 have g9:=d62.own zb X G λ_ F _=>p_ F ck bC aw
 have fZ:=d63.own zb X G λ_ F _=>m8 F g9 di cm dB eU
 have ky:=d64.own zb X G λ_ F _=>uh F fy fU fZ c9
 have gO:=d65.own zb X G λ_ F _=>ow F (PySem.W.mg_of X G d65.a) (F.binds λ_ _ _ _ _ _ us hl=>match us,hl with | [_,_],_=>rfl) aK lK c_ dP uB oo m_ 8
 have iu:=d66.ownR (F:=Aw [(1,az),(4,aM)] 43 l.prog w K mg base) zb X G λ_ F cells=>ra F aK j5 dW mY tK eS ko lL il gn qv rH pL hR
 have jj:=d67.own zb X G λ_ F _=>sD F aX aC c_
 have oV:=Af iq;have g_:=d68.ownR (F:=HX aM 43 l.prog w K mg base) zb X G λ_ F cells=>pB F il lE ss_Stuck
 have lR:=d69.own zb X G λ_ F _=>wq F aX cJ aw aC c_
 have ke:=d70.own zb X G λ_ F hc=>ul F ky oV kO gO iu g_ iq Di (hc.trans jm) r9 hBl
 exact G3 Fn kN lR iR ke jj dW C4 BD dP
theorem walk {l:PySem.W.OpenLaw} {q:Np} {loose:List Str} {XP:(Str->Nm Nk)->Nt->Prop} {YP:Nr->Nt->Prop} {d:DefRec} {K:Params->Fg} (himp:importsNone q=true) (hn:l.most=some 63) (hdf:d.params.defaults=[])
  (hY:∀ (w:Nr) (h:Nt),YP w h->(K w.params).In h)
  (hnK:∀ w:Nr,PySem.W.noTabs (K w.params)=true) (hT:∀ (w:Nr) (h:Nt),YP w h->PySem.W.TabsAt [(619,617)] h)
  (F:∀ (w:Nr) (mg:Str->Nm Nk) (fa:Nl) (h:Nt),(K w.params).In h->h.Ns mainGlobals mg->mg d.name=some (.ref fa)->
   ∃ fd:FuncData,(∀ (s:Nj) (u:Nk),BindsTo s fd ⟨[u],[]⟩ [("script",u)])/\∀ base:Nt,(K w.params).In base->base.Ns mainGlobals mg->lC mg base->PySem.W.CodeAll [(619,617)] base->aU l.prog w (K w.params) mg base cW 46 fa fd ["script"] (cY (K w.params) (xm 617))):
  PySem.W.WalkO q loose XP YP l.row.toRowW d [] (λf vs=>PySem.call f vs):=
 L2.BU (n:=63) (k:=46) (x:="script") (CX:=λ_=>cW) (sp:=λw=>cY (K w.params) (xm 617)) himp hn (by decide) hdf ⟨rfl,by decide,by decide⟩ hY hnK hT F
  (λw H a ns hl ho hS=>DL.Eg (tq:=[(617,"_law_right"++".<locals>."++"<lambda>")]) ho hS (by simp) (Dy 617 ns hl)) λ_ _ _ _ _ z=>z
end My
open PySem PySem.W PyProof.Rows
set_option maxRecDepth 100000 in
set_option maxHeartbeats 0 in
theorem PySem.Challenge.cw_hingedraw_k42_stands_holds : PySem.Challenge.rw_hingedraw_k42_stands.Holds := by
 w_on; o_law; k_head; (case hw=>w_witness2)
 k_fill
 refine My.walk (l := PySem.Challenge.rw_hingedraw_k42_stands) ?imp rfl rfl (λw h Y => PySem.W.km_in_of Y) ?nK ?xs ?F
 case imp=>kernel_rfl
 case nK=>intro w; kernel_rfl
 case xs=>intro w h Y; exact List.forall_mem_cons.mpr ⟨⟨PySem.W.codeHd_of_K (c:=619) (P:=617) (PySem.W.km_in_of Y) (by kernel_rfl),PySem.W.km_tabs_of Y 617 (by simp)⟩,λ_ h=>nomatch h⟩
 case F=>
  intro w mg fa h KX G hmg;refine' My.Gw KX G hmg ?d1 ?d2 ?d3 ?d4 ?d5 ?d6 ?d7 ?d8 ?d9 ?d10 ?d11 ?d12 ?d13 ?d14 ?d15 ?d16 ?d17 ?d18 ?d19 ?d20 ?d21 ?d22 ?d23 ?d24 ?d25 ?d26 ?d27 ?d28 ?d29 ?d30 ?d31 ?d32 ?d33 ?d34 ?d35 ?d36 ?d37 ?d38 ?d39 ?d40 ?d41 ?d42 ?d43 ?d44 ?d45 ?d46 ?d47 ?d48 ?d49 ?d50 ?d51 ?d52 ?d53 ?d54 ?d55 ?d56 ?d57 ?d58 ?d59 ?d60 ?d61 ?d62 ?d63 ?d64 ?d65 ?d66 ?d67 ?d68 ?d69 ?d70 ?d71 ?jm ?pP ?qe ?xZ ?yh ?lF ?qB ?nR ?jt ?jY ?rW ?p0 ?nU ?pw ?na ?kZ ?mv ?ei_Stuck ?ng ?nA ?nI ?ny ?nV ?nh ?nM ?nX ?lN ?lP ?lD ?l9 ?l' ?lX ?mf ?lB ?lO ?tw ?tv ?rP ?rM ?tJ ?rN ?rL ?rE ?qu ?qt ?ql ?p6 ?pM ?pJ ?pS ?pQ ?pC ?lE ?ss_Stuck ?jV ?hTr ?BB ?Bw ?Dl ?wk ?mi ?vA ?lg ?yp ?CK ?xN ?kv ?CV ?A4 ?B3
  case d1 | d2 | d3 | d4 | d5 | d6 | d7 | d8 | d9 | d10 | d11 | d12 | d13 | d14 | d15 | d16 | d17 | d18 | d19 | d20 | d21 | d22 | d23 | d24 | d25 | d26 | d27 | d28 | d29 | d30 | d31 | d32 | d33 | d34 | d35 | d36 | d37 | d38 | d39 | d40 | d41 | d42 | d43 | d44 | d45 | d46 | d47 | d48 | d49 | d50 | d51 | d52 | d53 | d54 | d55 | d56 | d57 | d58 | d59 | d60 | d61 | d62 | d63 | d64 | d65 | d66 | d67 | d68 | d69 | d70 | d71=>refine' ⟨?a,.mk ?l,?e,?k⟩; (case a=>k_is); (case l=>k_is); (case e=>k_is); (case k=>k_is)
  (case jm=>exact rfl)
  (case pP=>k_is)
  (case qe=>k_is)
  (case xZ=>k_is)
  (case yh=>k_is)
  (case lF=>k_is)
  (case qB=>k_is)
  (case nR=>k_is)
  (case jt=>k_is)
  (case jY=>k_is)
  (case rW=>k_is)
  (case p0=>k_is)
  (case nU=>k_is)
  (case pw=>k_is)
  (case na=>k_is)
  (case kZ=>kernel_rfl)
  (case mv=>kernel_rfl)
  (case ei_Stuck=>refine' ⟨?b,.mk ?l,?e,?k,?i⟩; (case b=>k_is); (case l=>k_is); (case e=>k_is); (case k=>k_is); (case i=>kernel_rfl))
  (case ng=>k_is)
  (case nA=>k_is)
  (case nI=>k_is)
  (case ny=>k_is)
  (case nV=>k_is)
  (case nh=>kernel_rfl)
  (case nM=>kernel_rfl)
  (case nX=>kernel_rfl)
  (case lN=>kernel_rfl)
  (case lP=>kernel_rfl)
  (case lD=>kernel_rfl)
  (case l9=>kernel_rfl)
  (case l'=>kernel_rfl)
  (case lX=>kernel_rfl)
  (case mf=>kernel_rfl)
  (case lB=>kernel_rfl)
  (case lO=>kernel_rfl)
  (case tw=>k_is)
  (case tv=>k_is)
  (case rP=>k_is)
  (case rM=>k_is)
  (case tJ=>k_is)
  (case rN=>kernel_rfl)
  (case rL=>kernel_rfl)
  (case rE=>kernel_rfl)
  (case qu=>kernel_rfl)
  (case qt=>kernel_rfl)
  (case ql=>kernel_rfl)
  (case p6=>kernel_rfl)
  (case pM=>kernel_rfl)
  (case pJ=>kernel_rfl)
  (case pS=>kernel_rfl)
  (case pQ=>kernel_rfl)
  (case pC=>kernel_rfl)
  (case lE=>kernel_rfl)
  (case ss_Stuck=>kernel_rfl)
  (case jV=>kernel_rfl)
  (case hTr=>exact rfl)
  (case BB=>k_is)
  (case Bw=>k_is)
  (case Dl=>k_is)
  (case wk=>k_is)
  (case mi=>k_is)
  (case vA=>k_is)
  (case lg=>k_is)
  (case yp=>k_is)
  (case CK=>k_is)
  (case xN=>k_is)
  (case kv=>k_is)
  (case CV=>k_is)
  (case A4=>k_is)
  (case B3=>k_is)
