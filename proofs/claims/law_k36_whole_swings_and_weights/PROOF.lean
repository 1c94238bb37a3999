import PyProof.Rows.All
import Wide.All
import OpenK.AllK
import Wide.FinOn
import Lean
import PyProof.EqAt
import PyProof.EqKinds
import PyProof.TupleCall
import PySem.Challenge.RW_hingedraw_k36_whole_swings_and_weights
set_option compiler.extract_closed false
set_option genSizeOfSpec false
set_option Elab.async false
set_option linter.all false
set_option maxRecDepth 100000
set_option Elab.async false
set_option linter.all false
set_option maxRecDepth 100000
theorem Zf {α β γ:Sort _} {f:α->β->γ}:∀ a b,f a b=f a b:=λ_ _=>rfl
section
open PySem PySem.Spec PyProof.Rows
abbrev gt:=@wpAny_bind
abbrev Co:=@Heap.get?_push_of_some
abbrev Cp:=@wpAny_pure
abbrev Cq:=@Heap.get?_push_size
abbrev Cr:=@Rat.intCast_mul
abbrev Cs:=@Heap.lt_size
abbrev Ct:=@Nat.le_refl
abbrev Cu:=@List.mem_map
abbrev Cv:=@List.length_map
abbrev Cw:=@Bool.false_ne_true
abbrev Cy:=@List.size_toArray
abbrev Cz:=@List.mem_cons
abbrev CA:=@Nat.ne_of_lt
abbrev CB:=@List.mem_cons_self
abbrev CC:=@List.mem_cons_of_mem
abbrev CD:=@Nat.lt_of_lt_of_le
abbrev CF:=@List.mem_append_right
abbrev CG:=@List.map_cons
abbrev CH:=@List.length_cons
abbrev CI:=@List.not_mem_nil
abbrev CJ:=@Nat.le_of_ble_eq_true
abbrev CK:=@List.length_append
abbrev CL:=@List.append_nil
abbrev CM:=@wpAny_setField_rec
abbrev CN:=@wpAny_holding
abbrev CO:=@List.getElem?_eq_getElem
abbrev CP:=@wpAny_newObj_type
abbrev CQ:=@List.getElem?_map
abbrev CS:=@Option.some.inj
abbrev CT:=@wpAny_seqItems
abbrev CU:=@List.getD_eq_getElem?_getD
abbrev CV:=@Rat.divInt_eq_div
abbrev CW:=@List.getElem?_eq_some_iff
abbrev CY:=@wpAny_field
abbrev CZ:=@Nat.le_trans
abbrev C0:=@Bool.and_eq_true
abbrev C3:=@List.map_map
abbrev C7:=@PySem.mem_of_lookup
abbrev C8:=@List.nodup_cons
abbrev C9:=@PySem.W.mg_none_of
abbrev C_:=@wpAny_call_entry
abbrev Da:=@Int.fmod_nonneg_of_pos
abbrev Db:=@List.drop_eq_getElem_cons
abbrev Dc:=@decide_eq_false
abbrev Dd:=@Nat.zero_le
abbrev De:=@Nat.lt_irrefl
abbrev Df:=@Heap.size_push
abbrev Dg:=@List.all_eq_true
abbrev Dh:=@List.mem_range
abbrev Di:=@Int.natAbs_mul
abbrev Dj:=@wpAny_callSpecial?_slot
abbrev Dk:=@Int.toNat_natCast
abbrev Dl:=@Array.length_toList
abbrev Dm:=@List.getElem_mem
abbrev Dn:=@Int.fmod_lt_of_pos
abbrev Do:=@Bool.false_eq_true
abbrev Dp:=@Option.isSome_iff_exists
abbrev Dq:=@List.length_eq_zero_iff
abbrev Ds:=@Heap.SameBut.update
end
section
open PySem PySem.Spec
abbrev Dt:=Shared
abbrev Du:=Value
abbrev Dv:=Addr
abbrev Dw:=Option
abbrev Dx:=Expr
abbrev Dy:=Program
abbrev Dz:=Around
abbrev DC:=World
abbrev DD:=Heap
abbrev DF:=Stmt
abbrev DJ:=Array
abbrev DM:=Bool
abbrev DN:=String
abbrev DP:=Obj
end
namespace L2
open PySem PySem.Spec PyProof.Rows
abbrev mZ:=Sum Int Str
def wQ:mZ->Du->DM
 | .inl k,v=>Value.isInt k v
 | .inr x,v=>Value.isStrOf x v
def AM (w:DC):mZ->Int
 | .inl k=>hashInt k
 | .inr x=>hashStr w x
theorem bq:∀ {k:mZ} {v:Du},wQ k v=true->(∃ i t,k=Sum.inl i/\v=Value.int i t)\/(∃ x t,k=Sum.inr x/\v=Value.str x t)
 | .inl i,v,h=>by
  obtain⟨t,e⟩:=Value.isInt_shape (k:=i) (v:=v) h;exact .inl ⟨i,t,rfl,e⟩
 | .inr x,v,h=>by
  obtain⟨t,e⟩:=Value.isStrOf_shape (x:=x) (v:=v) h;exact .inr ⟨x,t,rfl,e⟩
theorem yr (a b:Int):decide ((Sum.inl a:mZ)=Sum.inl b)=(a == b):=by
 by_cases e:a=b
 ·subst e; simp
 ·have h:¬ (Sum.inl a:mZ)=Sum.inl b:=λq=>e (Sum.inl.inj q)
  rw [Dc h];exact(beq_eq_false_iff_ne.mpr e).symm
theorem xZ (a b:Str):decide ((Sum.inr a:mZ)=Sum.inr b)=decide (a=b):=by
 by_cases e:a=b
 ·subst e; simp
 ·have h:¬ (Sum.inr a:mZ)=Sum.inr b:=λq=>e (Sum.inr.inj q)
  rw [Dc h,Dc e]
theorem xV (a:Int) (b:Str):decide ((Sum.inl a:mZ)=Sum.inr b)=false:=Dc (λq=>nomatch q)
theorem xT (a:Str) (b:Int):decide ((Sum.inr a:mZ)=Sum.inl b)=false:=Dc (λq=>nomatch q)
def qj (prog:Dy) (w:DC):PySem.KeyKind prog w mZ where
 is:=wQ
 hash:=AM w
 inj:=λv a b ha hb=>by
  rcases bq ha with ⟨i,t,rfl,rfl⟩ | ⟨x,t,rfl,rfl⟩
  ·rcases bq hb with ⟨j,u,rfl,e⟩ | ⟨y,u,rfl,e⟩
   ·injection e with e1 _; rw [e1]
   ·exact nomatch e
  ·rcases bq hb with ⟨j,u,rfl,e⟩ | ⟨y,u,rfl,e⟩
   ·exact nomatch e
   ·injection e with e1 _; rw [e1]
 byValue:=λk v h=>by
  rcases bq h with ⟨i,t,rfl,rfl⟩ | ⟨x,t,rfl,rfl⟩ <;> rfl
 pyHash:=λhv h=>by
  rcases bq hv with ⟨i,t,rfl,rfl⟩ | ⟨x,t,rfl,rfl⟩
  ·exact wpAny_pyHash_int h
  ·exact wpAny_pyHash_str h
 eqBool:=λhu hv h=>by
  rcases bq hu with ⟨i,t,rfl,rfl⟩ | ⟨x,t,rfl,rfl⟩
  ·rcases bq hv with ⟨j,u,rfl,rfl⟩ | ⟨y,u,rfl,rfl⟩
   ·rw [yr] at h; exact wpAny_eqBool_int h
   ·rw [xV] at h; exact SeqAt.EqAt.int_str i t y u _ _ _ _ h
  ·rcases bq hv with ⟨j,u,rfl,rfl⟩ | ⟨y,u,rfl,rfl⟩
   ·rw [xT] at h; exact SeqAt.EqAt.str_int x t j u _ _ _ _ h
   ·rw [xZ] at h; exact wpAny_eqBool_str h
 «strs»:=λk x t v h=>by
  rcases bq h with ⟨i,u,rfl,e⟩ | ⟨y,u,rfl,e⟩
  ·exact nomatch e
  ·injection e with e1 _
   subst e1;cases v <;> rfl
inductive V where
 | non | bl (b:DM) | int (i:Int) | str (x:Str) | byt (b:DJ UInt8) | flt (b:UInt64) | ref (a:Dv) | ty (n:DN)
 deriving DecidableEq
def aS:V->Du->Prop
 | .non,u=>u=Value.none
 | .bl b,u=>u=Value.bool b
 | .int i,u=>∃ t,u=Value.int i t
 | .str x,u=>∃ t,u=Value.str x t
 | .byt b,u=>∃ t,u=Value.bytes b t
 | .flt b,u=>∃ t,u=Value.float b t
 | .ref a,u=>u=Value.ref a
 | .ty n,u=>u=Value.type n
abbrev aF:List V->List Du->Prop:=Paired aS
theorem aF.length {xs:List V} {us:List Du} (r:aF xs us):xs.length=us.length:=Paired.length r
theorem aF.get:∀ {xs:List V} {us:List Du} {i:Nat} {x:V},aF xs us->xs[i]?=some x->∃ u,us[i]?=some u/\aS x u
 | _,_,_,_,.nil,e=>by simp at e
 | _,_,0,_,.cons r _,e=>by simp at e; subst e; exact⟨_,rfl,r⟩
 | _,_,i+1,x,.cons _ t,e=>by
  obtain⟨u,h1,h2⟩:=aF.get (i:=i) (x:=x) t (by simpa using e)
  exact⟨u,by simpa using h1,h2⟩
theorem aF.set {x:V} {u:Du} (r:aS x u):∀ {xs:List V} {us:List Du} (i:Nat),aF xs us->aF (xs.set i x) (us.set i u)
 | _,_,_,.nil=>.nil
 | _,_,0,.cons _ t=>.cons r t
 | _,_,i+1,.cons q t=>.cons q (aF.set r i t)
theorem aF.append:∀ {xs ys:List V} {us ws:List Du},aF xs us->aF ys ws->aF (xs++ys) (us++ws)
 | _,_,_,_,.nil,s=>s
 | _,_,_,_,.cons r t,s=>.cons r (aF.append t s)
theorem aF.take:∀ {xs:List V} {us:List Du} (n:Nat),aF xs us->aF (xs.take n) (us.take n)
 | _,_,0,_=>.nil
 | _,_,_+1,.nil=>.nil
 | _,_,n+1,.cons r t=>.cons r (aF.take n t)
theorem aF.drop:∀ {xs:List V} {us:List Du} (n:Nat),aF xs us->aF (xs.drop n) (us.drop n)
 | _,_,0,r=>r
 | _,_,_+1,.nil=>.nil
 | _,_,n+1,.cons _ t=>aF.drop n t
def zE:Dw V->Dw Du->Prop
 | some v,some u=>aS v u
 | none,none=>True
 | _,_=>False
def KV {κ:Type}:List (κ×V)->List (κ×Du)->Prop:=Paired fun(p:κ×V) (q:κ×Du)=>p.1=q.1/\aS p.2 q.2
def kV:mZ->V
 | .inl i=>.int i
 | .inr x=>.str x
inductive HO where
 | lst (xs:List V)
 | tup (xs:List V)
 | dK (kvs:List (mZ×V)) | dT (kvs:List (List mZ×V))
 | set (S:Int->DM) (n:Nat)
 | ins (C dx:Dv) (fs:List (Str×V))
 | own (x:Dv)
 | xd (fs:List (Str×V))
 | met (f x:Dv)
 | rng (lo hi:Int)
 | frz (o:DP) (u:HO)
 | tbl (ps:DJ Du)
 | ext (φ:DD->Prop)
abbrev Hp:=Dv->Dw HO
def aZ (H:Hp) (a:Dv) (o:HO):Hp:=λb=>if b=a then some o else H b
theorem br {H:Hp} {a:Dv} {o:HO}:aZ H a o a=some o:=by unfold aZ; rw [if_pos rfl]
theorem az {H:Hp} {a b:Dv} {o:HO} (h:b≠a):aZ H a o b=H b:=by unfold aZ; rw [if_neg h]
theorem bi {H:Hp} {a b:Dv} {o:HO} (h:H a=some o) (h':H b=none):a≠b:=by
 intro e; subst e; rw [h] at h'; cases h'
section
variable (P:Dy) (w:DC)
def cU (H:Hp) (h:DD) (a:Dv):HO->Prop
 | .lst xs=>xs.length<=sizeLine/\∃ (its:List Du) (n:Nat),aF xs its/\h.get? a=some {cls:=.type "list",data:=.seq its.toArray n}
 | .tup xs=>xs.length<=sizeLine/\∃ its:List Du,aF xs its/\IsTup h a its.toArray
 | .dK kvs=>kvs.length<=sizeLine/\(a == sysModules)=false/\∃ vs,KV kvs vs/\h.DictOf (qj P w) a vs
 | .dT kvs=>kvs.length<=sizeLine/\(a == sysModules)=false/\∃ xs:List (List mZ×Dv×Du),
   Paired (λ(p:List mZ×V) (q:List mZ×Dv×Du)=>p.1=q.1/\H q.2.1=some (.tup (p.1.map kV))/\aS p.2 q.2.2) kvs xs/\
   ∃ o es ep,h.get? a=some o/\o.ExactDict/\o.data=.dict es ep/\es.toList=xs.map (entryOfKey (tupleKind (qj P w)))/\(xs.map (·.1)).Nodup
 | .set S n=>h.SetOf (intKind P w) a S n
 | .ins C dx fs=>H dx=some (.own a)/\fs.length<=1000/\dx≠a/\h.get? a=some (PySem.W.instObj C dx)/\
   ∃ mA,h.Ns1 dx mA/\(∀ f,zE (fs.lookup f) (mA f))/\PySem.Within mA (fs.map (·.1))
 | .own _=>∃ o,h.get? a=some o
 | .xd fs=>∃ mA,h.Ns1 a mA/\∀ f,zE (fs.lookup f) (mA f)
 | .rng lo hi=>∃ t u v,h.get? a=some {cls:=.type "range",data:=.fields #[.int lo t,.int hi u,.int 1 v]}
 | .frz o u=>h.get? a=some o/\cU H h a u
 | .tbl ps=>h.get? a=some {cls:=.none,data:=.fields ps}
 | .met f x=>h.get? a=some (PySem.W.methodObj (.ref f) (.ref x))
 | .ext φ=>φ h/\(∃ o,h.get? a=some o)/\∀ h1 h2:DD,φ h1->(∀ o,h1.get? a=some o->h2.get? a=some o)->φ h2
def jd (H:Hp) (h:DD):Prop:=∀ a o,H a=some o->cU P w H h a o
end
section
variable {P:Dy} {w:DC} {H H':Hp} {h h':DD} {a:Dv} {o:HO}
theorem cU.lt (x:cU P w H h a o):a < h.objs.size:=by
 cases o with
 | lst xs=>obtain⟨_,_,_,_,e⟩:=x; exact Cs e
 | tup xs=>obtain⟨_,_,_,p⟩:=x; exact p.lt
 | dK kvs=>obtain⟨_,_,_,_,o,_,_,e,_⟩:=x; exact Cs e
 | dT kvs=>obtain⟨_,_,_,_,o,_,_,e,_⟩:=x; exact Cs e
 | set S n=>obtain⟨o,_,_,_,e,_⟩:=x; exact Cs e
 | ins C dx fs=>obtain⟨_,_,_,e,_⟩:=x; exact Cs e
 | own y=>obtain⟨_,e⟩:=x; exact Cs e
 | xd fs=>obtain⟨_,⟨_,_,_,e,_⟩,_⟩:=x; exact Cs e
 | rng lo hi=>obtain⟨_,_,_,e⟩:=x; exact Cs e
 | frz ob u=>obtain⟨e,_⟩:=x; exact Cs e
 | tbl ps=>exact Cs (show h.get? a=some _ from x)
 | met f y=>exact Cs (show h.get? a=some _ from x)
 | ext φ=>obtain⟨_,⟨_,e⟩,_⟩:=x; exact Cs e
theorem Paired.mapP {α β:Type} {F G:α->β->Prop}:∀ {l₁:List α} {l₂:List β},Paired F l₁ l₂->(∀ a b,F a b->G a b)->Paired G l₁ l₂
 | _,_,.nil,_=>.nil
 | _,_,.cons r t,f=>.cons (f _ _ r) (Paired.mapP t f)
theorem cU.stay (x:cU P w H h a o) (k:∀ b u,(b=a\/H b=some (.own a))->h.get? b=some u->h'.get? b=some u)
  (ho:∀ b,H b=some (.own a)->H' b=some (.own a)) (ht:∀ b xs,H b=some (.tup xs)->H' b=some (.tup xs)):cU P w H' h' a o:=by
 induction o with
 | lst xs=>obtain⟨z,its,n,r,e⟩:=x; exact⟨z,its,n,r,k _ _ (.inl rfl) e⟩
 | tup xs=>obtain⟨z,its,r,ob,e,c⟩:=x; exact⟨z,its,r,ob,k _ _ (.inl rfl) e,c⟩
 | dK kvs=>obtain⟨z,y,vs,r,ob,es,ep,e,c⟩:=x; exact⟨z,y,vs,r,ob,es,ep,k _ _ (.inl rfl) e,c⟩
 | dT kvs=>
  obtain⟨z,y,xs,r,ob,es,ep,e,c⟩:=x;exact⟨z,y,xs,Paired.mapP r λp q z=>⟨z.1,ht _ _ z.2.1,z.2.2⟩,ob,es,ep,k _ _ (.inl rfl) e,c⟩
 | set S n=>obtain⟨ob,es,ep,t,e,c⟩:=x; exact⟨ob,es,ep,t,k _ _ (.inl rfl) e,c⟩
 | ins C dx fs=>
  obtain⟨d,z,ne,e,mA,⟨od,es,ep,e2,c⟩,r⟩:=x;exact⟨ho _ d,z,ne,k _ _ (.inl rfl) e,mA,⟨od,es,ep,k _ _ (.inr d) e2,c⟩,r⟩
 | own y=>obtain⟨ob,e⟩:=x; exact⟨ob,k _ _ (.inl rfl) e⟩
 | xd fs=>obtain⟨mA,⟨od,es,ep,e,c⟩,r⟩:=x; exact⟨mA,⟨od,es,ep,k _ _ (.inl rfl) e,c⟩,r⟩
 | rng lo hi=>obtain⟨t,u,v,e⟩:=x; exact⟨t,u,v,k _ _ (.inl rfl) e⟩
 | frz ob u ih=>obtain⟨e,q⟩:=x; exact⟨k _ _ (.inl rfl) e,ih q⟩
 | tbl ps=>
  have e:h.get? a=some {cls:=.none,data:=.fields ps}:=x
  show h'.get? a=some {cls:=.none,data:=.fields ps}
  exact k a _ (.inl rfl) e
 | met f y=>
  have e:h.get? a=some (PySem.W.methodObj (.ref f) (.ref y)):=x
  show h'.get? a=some (PySem.W.methodObj (.ref f) (.ref y))
  exact k a _ (.inl rfl) e
 | ext φ=>obtain⟨p,⟨o,e⟩,st⟩:=x; exact⟨st _ _ p λo q=>k _ _ (.inl rfl) q,⟨o,k _ _ (.inl rfl) e⟩,st⟩
theorem jd.lt (x:jd P w H h) (e:H a=some o):a < h.objs.size:=(x a o e).lt
theorem jd.fresh (x:jd P w H h) (e:h.objs.size<=a):H a=none:=by
 cases q:H a with
 | none=>rfl
 | some u=>exact absurd (CD (x.lt q) e) (De _)
theorem jd.kept (x:jd P w H h) (k:∀ b u,h.get? b=some u->h'.get? b=some u):jd P w H h':=λa o e=>
 (x a o e).stay (λb u _ q=>k b u q) (λ_ q=>q) λ_ _ q=>q
theorem jd.laid (x:jd P w H h) (k:∀ b u,h.get? b=some u->h'.get? b=some u) (hp:h.objs.size<=a) (new:cU P w (aZ H a o) h' a o):jd P w (aZ H a o) h':=λb u e=>by
 have hn:=x.fresh hp
 by_cases hb:b=a
 ·subst hb; rw [br] at e; cases e; exact new
 ·rw [az hb] at e;exact(x b u e).stay (λc v _ q=>k c v q) (λc q=>by rw [az (bi q hn)]; exact q) λc xs q=>by rw [az (bi q hn)]; exact q
end
def Rd (H:Hp) (a:Dv) (u:HO):Prop:=H a=some u\/∃ o,H a=some (.frz o u)
theorem Rd.ok {P:Dy} {w:DC} {H:Hp} {h:DD} {a:Dv} {u:HO} (r:Rd H a u) (x:jd P w H h):cU P w H h a u:=by
 rcases r with r | ⟨o,r⟩
 ·exact x a u r
 ·obtain⟨_,q⟩:=x a _ r;exact q
def AG:Dw HO->Prop
 | some (.lst _)=>True
 | some (.dK _)=>True
 | some (.dT _)=>True
 | some (.set _ _)=>True
 | some (.ins _ _ _)=>True
 | some (.ext _)=>True
 | _=>False
section
variable {P:Dy} {w:DC} {H:Hp} {h h':DD} {x e:Dv} {o':HO}
theorem jd.write (ok:jd P w H h) (mu:AG (H x)) (he:e=x\/H e=some (.own x)) (k:∀ b u,b≠e->h.get? b=some u->h'.get? b=some u) (heo:∃ u,h'.get? e=some u)
  (new:cU P w (aZ H x o') h' x o'):jd P w (aZ H x o') h':=λb u q=>by
 have nown:∀ c y,H c=some (.own y)->c≠x:=λc y r z=>by subst z; rw [r] at mu; exact mu
 have ntup:∀ c xs,H c=some (.tup xs)->c≠x:=λc xs r z=>by subst z; rw [r] at mu; exact mu
 by_cases hb:b=x
 ·subst hb; rw [br] at q; cases q; exact new
 ·rw [az hb] at q
  by_cases hbe:b=e
  ·have q':H b=some (.own x):=by
    rcases he with z | z
    ·exact absurd (hbe.trans z) hb
    ·rw [hbe]; exact z
   rw [q] at q'; cases q'
   obtain⟨v,hv⟩:=heo;exact⟨v,by rw [hbe]; exact hv⟩
  ·refine(ok b u q).stay (λc v hc r=>k c v ?_ r) (λc r=>by rw [az (nown c b r)]; exact r) λc xs r=>by rw [az (ntup c xs r)]; exact r
   rcases hc with rfl | hc
   ·exact hbe
   ·rintro rfl;rcases he with z | z
    ·exact nown c b hc z
    ·rw [hc] at z; cases z; exact hb rfl
end
structure Un (fs ex:List Dv) (H H':Hp) (h h':DD):Prop where
 keep:∀ b o,h.get? b=some o->H b=none->b∉fs->b∉ex->h'.get? b=some o
 slot:∀ b o,h.get? b=some o->H b=none->b∈fs->b∉ex->∃ sl,h'.get? b=some {o with slots:=sl}
 free:∀ b o,h.get? b=some o->H b=none->b∉ex->H' b=none
 there:∀ b o,h.get? b=some o->b∉ex->∃ o',h'.get? b=some o'
 tups:∀ b xs,H b=some (.tup xs)->H' b=some (.tup xs)
 frzs:∀ b o u,H b=some (.frz o u)->H' b=some (.frz o u)
 tbls:∀ b ps,H b=some (.tbl ps)->∃ more,H' b=some (.tbl (ps++more))
section
variable {fs fs' ex ex':List Dv} {H H1 H2:Hp} {h h1 h2 h':DD} {a x e:Dv} {o:HO}
theorem Un.any (u:Un fs ex H H1 h h1) {b:Dv} {ob:DP} (q:h.get? b=some ob) (n:H b=none) (hx:b∉ex):∃ sl,h1.get? b=some {ob with slots:=sl}:=by
 by_cases hb:b∈fs
 ·exact u.slot b ob q n hb hx
 ·exact⟨ob.slots,u.keep b ob q n hb hx⟩
theorem Un.trans (a:Un fs ex H H1 h h1) (b:Un fs ex H1 H2 h1 h2):Un fs ex H H2 h h2 where
 keep:=λc ob q n hc hx=>b.keep c ob (a.keep c ob q n hc hx) (a.free c ob q n hx) hc hx
 slot:=λc ob q n hc hx=>by
  obtain⟨sl,e1⟩:=a.slot c ob q n hc hx;obtain⟨sl',e2⟩:=b.slot c _ e1 (a.free c ob q n hx) hc hx;exact⟨sl',e2⟩
 free:=λc ob q n hx=>by
  obtain⟨o',e1⟩:=a.there c ob q hx;exact b.free c o' e1 (a.free c ob q n hx) hx
 there:=λc ob q hx=>by
  obtain⟨o',e1⟩:=a.there c ob q hx;exact b.there c o' e1 hx
 tups:=λc xs q=>b.tups c xs (a.tups c xs q)
 frzs:=λc ob xs q=>b.frzs c ob xs (a.frzs c ob xs q)
 tbls:=λc ps q=>by
  obtain⟨m1,e1⟩:=a.tbls c ps q;obtain⟨m2,e2⟩:=b.tbls c _ e1;exact⟨m1++m2,by rw [e2,Array.append_assoc]⟩
theorem Un.kept (k:∀ b u,h.get? b=some u->h'.get? b=some u):Un fs ex H H h h':=
 ⟨λb ob q _ _ _=>k b ob q,λb ob q _ _ _=>⟨ob.slots,k b ob q⟩,λ_ _ _ n _=>n,λb ob q _=>⟨ob,k b ob q⟩,λ_ _ q=>q,λ_ _ _ q=>q,λ_ ps q=>⟨#[],by rw [q]; simp⟩⟩
theorem Un.refl:Un fs ex H H h h:=Un.kept λ_ _ q=>q
theorem Un.laid (k:∀ b u,h.get? b=some u->h'.get? b=some u) (hp:h.objs.size<=a) (hn:H a=none):Un fs ex H (aZ H a o) h h' where
 keep:=λb u q _ _ _=>k b u q
 slot:=λb u q _ _ _=>⟨u.slots,k b u q⟩
 free:=λb u q n _=>by rw [az (CA (CD (Cs q) hp))]; exact n
 there:=λb u q _=>⟨u,k b u q⟩
 tups:=λb xs q=>by rw [az (bi q hn)]; exact q
 frzs:=λb u xs q=>by rw [az (bi q hn)]; exact q
 tbls:=λb ps q=>⟨#[],by rw [az (bi q hn),q]; simp⟩
theorem Un.write (mu:AG (H x)) (he:e=x\/H e=some (.own x)) (k:∀ b u,b≠e->h.get? b=some u->h'.get? b=some u) (heo:∃ u,h'.get? e=some u):Un fs ex H (aZ H x o) h h':=by
 have hx:∀ b,H b=none->b≠x:=λb n z=>by subst z; rw [n] at mu; exact mu
 have hb:∀ b,H b=none->b≠e:=λb n z=>by
  subst z;rcases he with r | r
  ·exact hx b n r
  ·rw [n] at r; cases r
 have hm:∀ b u,H b=some u->¬ AG (some u)->b≠x:=λb u q nm z=>by subst z; rw [q] at mu; exact nm mu
 refine⟨λb u q n _ _=>k b u (hb b n) q,λb u q n _ _=>⟨u.slots,k b u (hb b n) q⟩,λb u q n _=>by rw [az (hx b n)]; exact n,λb u q _=>?_,
  λb xs q=>by rw [az (hm b _ q λz=>z)]; exact q,λb u xs q=>by rw [az (hm b _ q λz=>z)]; exact q,λb ps q=>⟨#[],by rw [az (hm b _ q λz=>z),q]; simp⟩⟩
 by_cases hbe:b=e
 ·subst hbe; exact heo
 ·exact⟨u,k b u hbe q⟩
end
def AD (h:DD) (H:Hp):List Dv:=(List.range h.objs.size).filter λa=>(H a).isSome
def mQ (h:DD) (H:Hp):DD:=PySem.W.hideAll h (AD h H)
theorem rL (h:DD) (H:Hp):(mQ h H).objs.size=h.objs.size:=PySem.W.hideAll_size _ _
theorem sx {h:DD} {H:Hp} {b:Dv} {o:DP} (e:h.get? b=some o) (n:H b=none):(mQ h H).get? b=some o:=
 PySem.W.hideAll_get _ e λhm=>by
  have q:(H b).isSome=true:=(List.mem_filter.mp hm).2;rw [n] at q; simp at q
theorem uU {h:DD} {H:Hp} {b:Dv} {o:DP} (e:(mQ h H).get? b=some o):h.get? b=some o/\H b=none:=by
 have e':h.get? b=some o:=PySem.W.of_hideAll (AD h H) e;refine⟨e',?_⟩;cases q:H b with
 | none=>rfl
 | some x=>
  have hm:b∈AD h H:=List.mem_filter.mpr ⟨Dh.mpr (Cs e'),by simp [q]⟩
  have z:(mQ h H).get? b=none:=PySem.W.hideAll_none (AD h H) hm;rw [z] at e; cases e
def vM (g h:DD) (L:Dv):List (Dv×DP):=(List.range h.objs.size).filterMap λa=>if a=L\/(g.get? a).isSome=true then none else(h.get? a).map λo=>(a,o)
def bn (g h:DD) (L d:Dv):List (Dv×DP):=(vM g h L).filter λp=>decide (p.1≠d)
structure Mod (K:PySem.W.Frag) (mg:Str->Dw Du) (base:DD):Prop where
 kin:K.In base
 glob:base.Ns mainGlobals mg
 blt:∃ mb,base.Ns builtinsNs mb/\∀ x:Str,x≠"__name__"->mb x=bootBuiltins x
 nolimit:base.NoLimit
structure Cx where
 prog:Dy
 w:DC
 K:PySem.W.Frag
 mg:Str->Dw Du
 base:DD
 A:Dz
 N:List Str
 s₀:Dt
 H₀:Hp
 env:Env
 outer:List Env
 stack:List Env
 ex:List Dv
 fn:Str->DM
 calm:DM
 pn:List (Dv×DP)
 xe:Du->Dt->Prop
def m8 (l:List Env):List Dv:=l.filterMap (·.frame)
abbrev Cx.fs (X:Cx):List Dv:=m8 X.outer
def Ah (sc:Scope) (x:Str):Prop:=sc.names.lookup x=some .local\/sc.names.lookup x=some .cell\/sc.names.lookup x=some .free
def yz (sc:Scope) (x:Str):Prop:=sc.names.lookup x=some .local\/sc.names.lookup x=some .cell
def AS (env:Env) (h:DD) (m:Str->Dw Du) (x:Str) (u:Du):Prop:=
 (env.kindOf x=some .local/\m x=some u)\/((env.kindOf x=some .cell\/env.kindOf x=some .free)/\∃ c,env.cells.lookup x=some c/\h.IsCell c (some u))
structure Cx.Ok (X:Cx):Prop where
 mod:Mod X.K X.mg X.base
 kind:X.env.scope.kind=.function
 glob:X.env.globals=mainGlobals
 blt:X.env.builtins=builtinsNs
 above:X.s₀.heap.objs.size<=X.env.locals
 inj:∀ x y c,X.env.cells.lookup x=some c->X.env.cells.lookup y=some c->x=y
 has:∀ x,(X.env.kindOf x=some .cell\/X.env.kindOf x=some .free)->∃ c,X.env.cells.lookup x=some c
 cab:∀ x c,X.fn x=true->X.env.cells.lookup x=some c->X.s₀.heap.objs.size<=c
 hd:X.calm=true->X.A.handled=none
 frames:X.A.frames=some X.stack
 stk:X.stack=X.outer\/(X.stack=X.env::X.outer/\X.env.frame=some X.env.locals)
 exf:∀ b∈X.ex,b≠X.env.locals/\∀ x c,X.env.cells.lookup x=some c->c≠b
 bs:∀ b o,X.base.get? b=some o->X.s₀.heap.get? b=some o/\X.H₀ b=none
 bsz:X.base.objs.size<=X.s₀.heap.objs.size
 noex:∀ b o,X.base.get? b=some o->b∉X.ex
 exfs:∀ b∈X.ex,b∉X.fs
 funs:X.s₀.heap.FunFrames X.base X.outer
 frf:∀ b∈X.fs,X.H₀ b=none
structure aw (X:Cx) (DQ:List (Dv×DP)) (σ:List (Dw V)) (H:Hp) (s:Dt):Prop where
 ok:X.Ok
 os:s.os=X.s₀.os
 bare:AllBare s.gens
 base:Un X.fs X.ex X.H₀ H X.s₀.heap s.heap
 loc:∃ m,s.heap.Ns X.env.locals m/\∀ (i:Nat) (x:Str) (v:V),X.N[i]?=some x->σ[i]?=some (some v)->Ah X.env.scope x->∃ u,aS v u/\AS X.env s.heap m x u
 cell:∀ x c,X.env.cells.lookup x=some c->∃ v,s.heap.IsCell c v
 free:H X.env.locals=none
 freeC:∀ x c,X.env.cells.lookup x=some c->H c=none
 pin:∀ p∈X.pn++DQ,s.heap.get? p.1=some p.2/\H p.1=none/\p.1≠X.env.locals/\p.1∉X.fs/\∀ v,p.2.data≠.cell v
 hok:jd X.prog X.w H s.heap
 len:σ.length=X.N.length
section
variable {X:Cx} {DQ:List (Dv×DP)} {σ:List (Dw V)} {H H':Hp} {s:Dt} {h':DD}
theorem Cx.Ok.nofr (ok:X.Ok) {b:Dv} {o:DP} (e:X.base.get? b=some o):b∉X.fs:=λhb=>by
 have:=(ok.funs.mem hb).1;rw [e] at this; cases this
theorem aw.bs (I:aw X DQ σ H s):∀ b o,X.base.get? b=some o->s.heap.get? b=some o/\H b=none:=λb o e=>
 ⟨I.base.keep b o (I.ok.bs b o e).1 (I.ok.bs b o e).2 (I.ok.nofr e) (I.ok.noex b o e),I.base.free b o (I.ok.bs b o e).1 (I.ok.bs b o e).2 (I.ok.noex b o e)⟩
theorem aw.bk (I:aw X DQ σ H s):∀ b o,X.base.get? b=some o->s.heap.get? b=some o:=λb o e=>(I.bs b o e).1
theorem aw.mod (I:aw X DQ σ H s):Mod X.K X.mg X.base:=I.ok.mod
theorem aw.kIn (I:aw X DQ σ H s):X.K.In s.heap:=I.ok.mod.kin.keeps I.bk
theorem aw.lt (I:aw X DQ σ H s):X.env.locals < s.heap.objs.size:=let ⟨_,hn,_⟩:=I.loc; hn.lt
theorem aw.sz (I:aw X DQ σ H s):X.s₀.heap.objs.size<=s.heap.objs.size:=CZ I.ok.above (Nat.le_of_lt I.lt)
theorem aw.nofs (I:aw X DQ σ H s) {a:Dv} (h:s.heap.objs.size<=a):a∉X.fs:=λhb=>by
 obtain⟨_,o,ho,_⟩:=I.ok.funs.mem hb;exact absurd (CD (Cs ho) (CZ I.sz h)) (De _)
theorem aw.cne (I:aw X DQ σ H s):∀ x c,X.env.cells.lookup x=some c->c≠X.env.locals:=λx c e z=>by
 obtain⟨v,o,ho,hd⟩:=I.cell x c e;obtain⟨m,⟨o',es,ep,ho',hd',_⟩,_⟩:=I.loc;rw [z,ho'] at ho; cases ho; rw [hd'] at hd; cases hd
theorem aw.funs (I:aw X DQ σ H s):s.heap.FunFrames X.base X.outer:=by
 have all:∀ (l:List Env),(∀ b∈m8 l,b∈X.fs)->X.s₀.heap.FunFrames X.base l->s.heap.FunFrames X.base l:=by
  intro l
  induction l with
  | nil=>intro _ _; trivial
  | cons env r ih=>
   intro hs hl;obtain⟨hk,⟨L,o,hf,hn,ho,hd⟩,hr⟩:=hl;have hL:L∈X.fs:=hs L (by unfold m8; rw [List.filterMap_cons,hf]; exact CB)
   obtain⟨sl,e⟩:=I.base.slot L o ho (I.ok.frf L hL) hL λz=>I.ok.exfs L z hL
   exact⟨hk,⟨L,_,hf,hn,e,hd⟩,ih (λb hb=>hs b (by unfold m8; rw [List.filterMap_cons,hf]; exact CC _ hb)) hr⟩
 exact all X.outer (λ_ hb=>hb) I.ok.funs
theorem aw.stack (I:aw X DQ σ H s):s.heap.FunFrames X.base X.stack:=by
 rcases I.ok.stk with e | ⟨e,hf⟩
 ·rw [e]; exact I.funs
 ·rw [e];obtain⟨m,hn,_⟩:=I.loc;refine .cons (by rw [I.ok.kind]; decide) hf hn ?_ I.funs
  exact Heap.get?_none_of_le (CZ I.ok.bsz I.ok.above)
theorem aw.stkSub (I:aw X DQ σ H s):∀ b∈m8 X.stack,b∈X.env.locals::X.fs:=λb hb=>by
 rcases I.ok.stk with e | ⟨e,hf⟩
 ·rw [e] at hb; exact CC _ hb
 ·rw [e] at hb;unfold m8 at hb;rw [List.filterMap_cons,hf] at hb;exact hb
theorem aw.stkFree (I:aw X DQ σ H s):∀ b∈m8 X.stack,H b=none:=λb hb=>by
 rcases Cz.mp (I.stkSub b hb) with e | hb
 ·rw [e]; exact I.free
 ·obtain⟨_,o,ho,_⟩:=I.ok.funs.mem hb;exact I.base.free b o ho (I.ok.frf b hb) λz=>I.ok.exfs b z hb
theorem aw.step {g':DJ GenState} {t':Nat} {d':Drawn} {ch:List Dv} (I:aw X DQ σ H s)
  (hch:∀ b∈ch,(b∈X.ex\/X.s₀.heap.objs.size<=b)/\b≠X.env.locals/\(∀ x c,X.env.cells.lookup x=some c->c≠b)/\∀ p∈X.pn++DQ,p.1≠b)
  (keep:∀ b o,b≠X.env.locals->b∉X.fs->b∉ch->s.heap.get? b=some o->H b=none->h'.get? b=some o)
  (slot:∀ b o,b≠X.env.locals->b∈X.fs->b∉ch->s.heap.get? b=some o->H b=none->∃ sl,h'.get? b=some {o with slots:=sl}) (free:∀ b o,b∉ch->s.heap.get? b=some o->H b=none->H' b=none)
  (there:∀ b o,b∉ch->s.heap.get? b=some o->∃ o',h'.get? b=some o')
  (tups:∀ b xs,H b=some (.tup xs)->H' b=some (.tup xs)) (frzs:∀ b o u,H b=some (.frz o u)->H' b=some (.frz o u)) (tbls:∀ b ps,H b=some (.tbl ps)->∃ more,H' b=some (.tbl (ps++more)))
  (ns:∀ m,s.heap.Ns X.env.locals m->h'.Ns X.env.locals m) (hok:jd X.prog X.w H' h') (hg:AllBare g'):
  aw X DQ σ H' {s with heap:=h',gens:=g',drawn:=d',toks:=t'}:=by
 have neL:∀ b o,X.s₀.heap.get? b=some o->b≠X.env.locals:=λb o e=>CA (CD (Cs e) I.ok.above)
 have neC:∀ b o,X.s₀.heap.get? b=some o->b∉X.ex->b∉ch:=λb o e hx hb=>by
  rcases(hch b hb).1 with z | z
  ·exact hx z
  ·exact absurd (CD (Cs e) z) (De _)
 have cellK:∀ x c,X.env.cells.lookup x=some c->∀ v,s.heap.IsCell c v->h'.IsCell c v:=λx c e v ⟨o,ho,hd⟩=>by
  have nch:c∉ch:=λz=>(hch c z).2.2.1 x c e rfl
  by_cases hc:c∈X.fs
  ·obtain⟨sl,q⟩:=slot c o (I.cne x c e) hc nch ho (I.freeC x c e);exact⟨_,q,hd⟩
  ·exact⟨o,keep c o (I.cne x c e) hc nch ho (I.freeC x c e),hd⟩
 refine⟨I.ok,I.os,hg,⟨λb o e n hb hx=>?_,λb o e n hb hx=>?_,λb o e n hx=>?_,λb o e hx=>?_,λb xs e=>tups b xs (I.base.tups b xs e),λb o xs e=>frzs b o xs (I.base.frzs b o xs e),λb ps e=>?_⟩,?_,λx c e=>?_,?_,λx c e=>?_,λp hp=>?_,hok,I.len⟩
 ·exact keep b o (neL b o e) hb (neC b o e hx) (I.base.keep b o e n hb hx) (I.base.free b o e n hx)
 ·obtain⟨sl,e1⟩:=I.base.slot b o e n hb hx;obtain⟨sl',e2⟩:=slot b _ (neL b o e) hb (neC b o e hx) e1 (I.base.free b o e n hx);exact⟨sl',e2⟩
 ·obtain⟨o',e1⟩:=I.base.there b o e hx;exact free b o' (neC b o e hx) e1 (I.base.free b o e n hx)
 ·obtain⟨o',e1⟩:=I.base.there b o e hx;exact there b o' (neC b o e hx) e1
 ·obtain⟨m1,e1⟩:=I.base.tbls b ps e;obtain⟨m2,e2⟩:=tbls b _ e1;exact⟨m1++m2,by rw [e2,Array.append_assoc]⟩
 ·obtain⟨m,hn,hl⟩:=I.loc;refine⟨m,ns m hn,λi x v e1 e2 e3=>?_⟩
  obtain⟨u,r,l⟩:=hl i x v e1 e2 e3;refine⟨u,r,?_⟩;rcases l with l | ⟨k,c,e,z⟩
  ·exact .inl l
  ·exact .inr ⟨k,c,e,cellK x c e _ z⟩
 ·obtain⟨v,z⟩:=I.cell x c e;exact⟨v,cellK x c e v z⟩
 ·obtain⟨m,⟨o,_,_,ho,_⟩,_⟩:=I.loc;exact free _ o (λz=>(hch _ z).2.1 rfl) ho I.free
 ·obtain⟨v,o,ho,hd⟩:=I.cell x c e;exact free c o (λz=>(hch c z).2.2.1 x c e rfl) ho (I.freeC x c e)
 ·obtain⟨e,n,ne,nf,d⟩:=I.pin p hp;have nch:p.1∉ch:=λz=>(hch p.1 z).2.2.2 p hp rfl
  exact⟨keep p.1 p.2 ne nf nch e n,free p.1 p.2 nch e n,ne,nf,d⟩
theorem aw.un {t':Nat} (I:aw X DQ σ H s) (u:Un X.fs [] H H' s.heap h') (hok:jd X.prog X.w H' h'):aw X DQ σ H' {s with heap:=h',toks:=t'}:=by
 obtain⟨m,⟨o,es,ep,ho,r⟩,_⟩:=id I.loc;obtain⟨sl,hL⟩:=u.any ho I.free (by simp)
 exact I.step (g':=s.gens) (d':=s.drawn) (ch:=[]) (λ_ z=>nomatch z) (λb o _ hb _ e n=>u.keep b o e n hb (by simp)) (λb o _ hb _ e n=>u.slot b o e n hb (by simp)) (λb o _ e n=>u.free b o e n (by simp)) (λb o _ e=>u.there b o e (by simp)) u.tups u.frzs u.tbls (λm' hm=>by
  obtain⟨o',es',ep',ho',r'⟩:=hm;rw [ho] at ho'; cases ho'
  exact⟨_,es',ep',hL,r'⟩) hok I.bare
theorem aw.call {g':DJ GenState} {t':Nat} {d':Drawn} {ch:List Dv} (I:aw X DQ σ H s) (u:Un (m8 X.stack) ch H H' s.heap h') (hok:jd X.prog X.w H' h') (hg:AllBare g')
  (hch:∀ b∈ch,(b∈X.ex\/X.s₀.heap.objs.size<=b)/\b≠X.env.locals/\(∀ x c,X.env.cells.lookup x=some c->c≠b)/\∀ p∈X.pn++DQ,p.1≠b):
  aw X DQ σ H' {s with heap:=h',gens:=g',drawn:=d',toks:=t'}:=by
 obtain⟨m,⟨o,es,ep,ho,r⟩,_⟩:=id I.loc;obtain⟨sl,hL⟩:=u.any ho I.free λz=>(hch _ z).2.1 rfl
 exact I.step (ch:=ch) hch (λb o hL hb hc e n=>u.keep b o e n (λz=>(Cz.mp (I.stkSub b z)).elim hL hb) hc) (λb o _ _ hc e n=>u.any e n hc) (λb o hc e n=>u.free b o e n hc) (λb o hc e=>u.there b o e hc) u.tups u.frzs u.tbls (λm' hm=>by
  obtain⟨o',es',ep',ho',r'⟩:=hm;rw [ho] at ho'; cases ho'
  exact⟨_,es',ep',hL,r'⟩) hok hg
theorem aw.turned {t':Nat} {it:Dv} (I:aw X DQ σ H s) (k:∀ b o,b≠it->s.heap.get? b=some o->h'.get? b=some o) (hn:H it=none) (hL:it≠X.env.locals)
  (h1:it∈X.ex\/X.s₀.heap.objs.size<=it) (h2:∀ x c,X.env.cells.lookup x=some c->c≠it) (h3:∀ p∈X.pn++DQ,p.1≠it):aw X DQ σ H {s with heap:=h',toks:=t'}:=by
 have nit:∀ b u,H b=some u->b≠it:=λb u e z=>by rw [z,hn] at e; cases e
 refine I.step (g':=s.gens) (d':=s.drawn) (ch:=[it]) (λb hb=>?_) (λb o _ _ hc e _=>k b o (λz=>hc (by simp [z])) e) (λb o _ _ hc e _=>⟨o.slots,k b o (λz=>hc (by simp [z])) e⟩) (λ_ _ _ _ n=>n)
  (λb o hc e=>⟨o,k b o (λz=>hc (by simp [z])) e⟩) (λ_ _ e=>e) (λ_ _ _ e=>e) (λb ps e=>⟨#[],by rw [e]; simp⟩) (λm hm=>?_) (λb u e=>?_) I.bare
 ·have e:b=it:=by simpa using hb
  subst e;exact⟨h1,hL,h2,h3⟩
 ·obtain⟨o,es,ep,ho,r⟩:=hm;exact⟨o,es,ep,k _ o (Ne.symm hL) ho,r⟩
 ·refine(I.hok b u e).stay (λc v hc q=>k c v ?_ q) (λ_ q=>q) λ_ _ q=>q
  rcases hc with z | z
  ·rw [z]; exact nit b u e
  ·exact nit c _ z
theorem aw.tok (I:aw X DQ σ H s) (t:Nat):aw X DQ σ H {s with toks:=t}:=I.un (h':=s.heap) (t':=t) Un.refl I.hok
theorem aw.kept {t':Nat} (I:aw X DQ σ H s) (k:∀ b u,s.heap.get? b=some u->h'.get? b=some u):aw X DQ σ H {s with heap:=h',toks:=t'}:=I.un (Un.kept k) (I.hok.kept k)
theorem aw.laid {a:Dv} {o:HO} {t':Nat} (I:aw X DQ σ H s) (k:∀ b u,s.heap.get? b=some u->h'.get? b=some u) (hp:s.heap.objs.size<=a) (new:cU X.prog X.w (aZ H a o) h' a o):
  aw X DQ σ (aZ H a o) {s with heap:=h',toks:=t'}:=I.un (Un.laid k hp (I.hok.fresh hp)) (I.hok.laid k hp new)
theorem aw.write {x e:Dv} {o:HO} {t':Nat} (I:aw X DQ σ H s) (mu:AG (H x)) (he:e=x\/H e=some (.own x)) (k:∀ b u,b≠e->s.heap.get? b=some u->h'.get? b=some u) (heo:∃ u,h'.get? e=some u)
  (new:cU X.prog X.w (aZ H x o) h' x o):aw X DQ σ (aZ H x o) {s with heap:=h',toks:=t'}:=I.un (Un.write mu he k heo) (I.hok.write mu he k heo new)
theorem aw.pins_of {pins':List (Dv×DP)} (I:aw X DQ σ H s) (h:∀ p∈pins',s.heap.get? p.1=some p.2/\H p.1=none/\p.1≠X.env.locals/\p.1∉X.fs/\∀ v,p.2.data≠.cell v):aw X pins' σ H s:=
 ⟨I.ok,I.os,I.bare,I.base,I.loc,I.cell,I.free,I.freeC,λp hp=>(List.mem_append.mp hp).elim (λz=>I.pin p (List.mem_append_left _ z)) (h p),I.hok,I.len⟩
theorem ni {N:List Str} (hN:N.Nodup) {i j:Nat} {x:Str} (a:N[i]?=some x) (b:N[j]?=some x):i=j:=by
 obtain⟨h1,e1⟩:=CW.mp a;obtain⟨h2,e2⟩:=CW.mp b;exact(List.getElem_inj hN).mp (e1.trans e2.symm)
theorem q5 {M:Model} {A:Dz} {E:Du->Dt->Prop} {i:Nat} {x:Str} {v:V} {u:Du} {Q:Unit->Dt->Prop} (I:aw X DQ σ H s) (hN:X.N.Nodup) (hi:X.N[i]?=some x) (hx:yz X.env.scope x) (r:aS v u)
  (h:∀ s',aw X DQ (σ.set i (some v)) H s'->(∃ a,Heap.SameBut a s.heap s'.heap/\(a=X.env.locals\/X.env.cells.lookup x=some a))->Q () s') (hf:X.fn x=true\/X.env.scope.names.lookup x=some .local:=by first | exact .inl rfl | exact .inr rfl | assumption):wpAny M A (storeName X.env x u) Q E s:=by
 obtain⟨m,hn,hl⟩:=id I.loc;have hcls:(X.env.scope.kind == .class || (X.env.scope.kind == .module && X.env.locals != X.env.globals))=false:=by rw [I.ok.kind]; rfl
 have hiσ:i < σ.length:=by rw [I.len]; exact(CW.mp hi).1
 have cne:=I.cne;have tracked:∀ {a:Dv} {h':DD},(∃ o,s.heap.get? a=some o/\H a=none)->Heap.SameBut a s.heap h'->jd X.prog X.w H h':=λ{a h'} ha hs b ob e=>by
  obtain⟨_,_,hfree⟩:=ha;refine(I.hok b ob e).stay (λc w' hc q=>(hs.2 c ?_).trans q) (λ_ q=>q) λ_ _ q=>q
  rintro rfl;rcases hc with rfl | hc
  ·rw [hfree] at e; cases e
  ·rw [hfree] at hc; cases hc
 rcases hx with hk | hk
 ·refine wpAny_storeName_local hk hn (λh' hn' hs=>?_) hcls
  obtain⟨oL,_,_,hoL,_⟩:=id hn;refine h _ ⟨I.ok,I.os,I.bare,⟨λb o e n hb hx=>?_,λb o e n hb hx=>?_,I.base.free,λb o e hx=>?_,I.base.tups,I.base.frzs,I.base.tbls⟩,⟨_,hn',λj y v' e1 e2 e3=>?_⟩,λy c e=>?_,I.free,I.freeC,λp hp=>?_,tracked ⟨oL,hoL,I.free⟩ hs,by simpa using I.len⟩ ⟨_,hs,.inl rfl⟩
  ·exact(hs.2 b (CA (CD (Cs e) I.ok.above))).trans (I.base.keep b o e n hb hx)
  ·obtain⟨sl,e1⟩:=I.base.slot b o e n hb hx;exact⟨sl,(hs.2 b (CA (CD (Cs e) I.ok.above))).trans e1⟩
  ·obtain⟨o',e1⟩:=I.base.there b o e hx;exact⟨o',(hs.2 b (CA (CD (Cs e) I.ok.above))).trans e1⟩
  ·by_cases hj:j=i
   ·subst hj;rw [hi] at e1; cases e1
    rw [List.getElem?_set_self hiσ] at e2;cases e2;exact⟨u,r,.inl ⟨hk,by simp⟩⟩
   ·rw [List.getElem?_set_ne (Ne.symm hj)] at e2;obtain⟨u',r',q⟩:=hl j y v' e1 e2 e3;refine⟨u',r',?_⟩;rcases q with ⟨k,e⟩ | ⟨k,c,e,z⟩
    ·refine .inl ⟨k,?_⟩;have:y≠x:=λe=>hj (ni hN e1 (e▸hi))
     simp [this,e]
    ·exact .inr ⟨k,c,e,z.sameBut hs (cne y c e)⟩
  ·obtain⟨w',z⟩:=I.cell y c e;exact⟨w',z.sameBut hs (cne y c e)⟩
  ·obtain⟨e,n,ne,nf,d⟩:=I.pin p hp;exact⟨(hs.2 p.1 ne).trans e,n,ne,nf,d⟩
 ·have hfn:X.fn x=true:=by
   rcases hf with z | z
   ·exact z
   ·rw [z] at hk; cases hk
  obtain⟨c,hc⟩:=I.ok.has x (.inl hk);obtain⟨w',z⟩:=I.cell x c hc;refine wpAny_storeName_cell I.ok.kind hk hc z (λh' hc' hs=>?_)
  obtain⟨oc,hoc,hocd⟩:=id z;refine h {s with heap:=h'} ⟨I.ok,I.os,I.bare,⟨λb o e n hb hx=>?_,λb o e n hb hx=>?_,I.base.free,λb o e hx=>?_,I.base.tups,I.base.frzs,I.base.tbls⟩,⟨m,hn.sameBut hs (Ne.symm (cne x c hc)),λj y v' e1 e2 e3=>?_⟩,λy c' e=>?_,I.free,I.freeC,λp hp=>?_,tracked ⟨oc,hoc,I.freeC x c hc⟩ hs,by simpa using I.len⟩ ⟨c,hs,.inr hc⟩
  ·exact(hs.2 b (CA (CD (Cs e) (I.ok.cab x c hfn hc)))).trans (I.base.keep b o e n hb hx)
  ·obtain⟨sl,e1⟩:=I.base.slot b o e n hb hx;exact⟨sl,(hs.2 b (CA (CD (Cs e) (I.ok.cab x c hfn hc)))).trans e1⟩
  ·obtain⟨o',e1⟩:=I.base.there b o e hx;exact⟨o',(hs.2 b (CA (CD (Cs e) (I.ok.cab x c hfn hc)))).trans e1⟩
  ·by_cases hj:j=i
   ·subst hj;rw [hi] at e1; cases e1
    rw [List.getElem?_set_self hiσ] at e2;cases e2;exact⟨u,r,.inr ⟨.inl hk,c,hc,hc'⟩⟩
   ·rw [List.getElem?_set_ne (Ne.symm hj)] at e2;obtain⟨u',r',q⟩:=hl j y v' e1 e2 e3;refine⟨u',r',?_⟩;rcases q with q | ⟨k,c',e,z'⟩
    ·exact .inl q
    ·refine .inr ⟨k,c',e,z'.sameBut hs ?_⟩;rintro rfl;exact hj (ni hN e1 (I.ok.inj _ _ _ e hc▸hi))
  ·by_cases hcc:c'=c
   ·subst hcc; exact⟨_,hc'⟩
   ·obtain⟨w2,z2⟩:=I.cell y c' e;exact⟨w2,z2.sameBut hs hcc⟩
  ·obtain⟨e,n,ne,nf,d⟩:=I.pin p hp;refine⟨(hs.2 p.1 ?_).trans e,n,ne,nf,d⟩;intro q;rw [q,hoc] at e;have q':oc=p.2:=CS e;exact d w' (by rw [<- q']; exact hocd)
theorem gQ {M:Model} {A:Dz} {E:Du->Dt->Prop} {i:Nat} {x:Str} {v:V} {u:Du} {Q:Unit->Dt->Prop} (I:aw X DQ σ H s) (hN:X.N.Nodup) (hi:X.N[i]?=some x) (hx:yz X.env.scope x) (r:aS v u)
  (h:∀ s',aw X DQ (σ.set i (some v)) H s'->Q () s') (hf:X.fn x=true\/X.env.scope.names.lookup x=some .local:=by first | exact .inl rfl | exact .inr rfl | assumption):wpAny M A (storeName X.env x u) Q E s:=
 q5 I hN hi hx r (λs' I' _=>h s' I') hf
theorem aw.call' {s':Dt} {ch:List Dv} (I:aw X DQ σ H s) (ho:s'.os=s.os) (u:Un (m8 X.stack) ch H H' s.heap s'.heap) (hok:jd X.prog X.w H' s'.heap) (hg:AllBare s'.gens)
  (hch:∀ b∈ch,(b∈X.ex\/X.s₀.heap.objs.size<=b)/\b≠X.env.locals/\(∀ x c,X.env.cells.lookup x=some c->c≠b)/\∀ p∈X.pn++DQ,p.1≠b):aw X DQ σ H' s':=by
 obtain⟨h',g',d',t',o'⟩:=s';have e:o'=s.os:=ho;subst e;exact I.call (g':=g') (t':=t') (d':=d') u hok hg hch
end
abbrev XK:=Du->Dw Dv->Hp->Prop
abbrev St:=List (Dw V)
abbrev VK:=V->Hp->Prop
abbrev TE:=St->Hp->VK->Prop
abbrev TT:=St->Hp->(DM->Hp->Prop)->Prop
abbrev TA:=St->Hp->(List V->Hp->Prop)->Prop
structure kC where
 nx:St->Hp->Prop
 rt:VK
 bk:St->Hp->Prop:=λ_ _=>False
 ct:St->Hp->Prop:=λ_ _=>False
abbrev TS:=kC->St->Hp->Prop
def EP (X:Cx) (DQ:List (Dv×DP)) (σ:St) (Q:VK) (u:Du) (s':Dt):Prop:=∃ v H',aw X DQ σ H' s'/\aS v u/\Q v H'
def TP (X:Cx) (DQ:List (Dv×DP)) (σ:St) (Q:DM->Hp->Prop) (b:DM) (s':Dt):Prop:=∃ H',aw X DQ σ H' s'/\Q b H'
def AP (X:Cx) (DQ:List (Dv×DP)) (σ:St) (Q:List V->Hp->Prop) (us:List Du) (s':Dt):Prop:=∃ vs H',aw X DQ σ H' s'/\aF vs us/\Q vs H'
def SP (X:Cx) (DQ:List (Dv×DP)) (D:kC) (f:Flow) (s':Dt):Prop:=
 match f with
 | .next=>∃ σ' H',aw X DQ σ' H' s'/\D.nx σ' H'
 | .brk=>∃ σ' H',aw X DQ σ' H' s'/\D.bk σ' H'
 | .cont=>∃ σ' H',aw X DQ σ' H' s'/\D.ct σ' H'
 | .ret u=>∃ v σ' H',aw X DQ σ' H' s'/\aS v u/\D.rt v H'
def PE (X:Cx) (e:Dx) (t:TE):Prop:=
 ∀ (DQ:List (Dv×DP)) (s:Dt) (σ:St) (H:Hp) (Q:VK),aw X DQ σ H s->t σ H Q->wpAny (model X.prog X.w) X.A (eval e X.env) (EP X DQ σ Q) X.xe s
def PT (X:Cx) (e:Dx) (t:TT):Prop:=
 ∀ (DQ:List (Dv×DP)) (s:Dt) (σ:St) (H:Hp) (Q:DM->Hp->Prop),aw X DQ σ H s->t σ H Q->wpAny (model X.prog X.w) X.A (isTrue e X.env (eval e X.env)) (TP X DQ σ Q) X.xe s
def PW (X:Cx) (e:Dx) (t:TT):Prop:=
 ∀ (whole:Sem Du) (DQ:List (Dv×DP)) (s:Dt) (σ:St) (H:Hp) (Q:DM->Hp->Prop),aw X DQ σ H s->t σ H Q->wpAny (model X.prog X.w) X.A (isTrue e X.env whole) (TP X DQ σ Q) X.xe s
theorem PW.pt {X:Cx} {e:Dx} {t:TT} (h:PW X e t):PT X e t:=h _
def PA (X:Cx) (es:List Dx) (t:TA):Prop:=
 ∀ (pos:Pos) (DQ:List (Dv×DP)) (s:Dt) (σ:St) (H:Hp) (Q:List V->Hp->Prop),aw X DQ σ H s->t σ H Q->wpAny (model X.prog X.w) X.A (spliced (backTo pos (starEach es X.env))) (AP X DQ σ Q) X.xe s
def PS (X:Cx) (st:DF) (t:TS):Prop:=
 ∀ (DQ:List (Dv×DP)) (s:Dt) (σ:St) (H:Hp) (D:kC),aw X DQ σ H s->t D σ H->wpAny (model X.prog X.w) X.A (exec st X.env) (SP X DQ D) X.xe s
def lE (X:Cx) (st:List DF) (t:TS):Prop:=
 ∀ (DQ:List (Dv×DP)) (s:Dt) (σ:St) (H:Hp) (D:kC),aw X DQ σ H s->t D σ H->wpAny (model X.prog X.w) X.A (execs st X.env) (SP X DQ D) X.xe s
theorem bw {α:Type} {t:Sem α} {Q Q':α->Dt->Prop} {M:Model} {A:Dz} {E:Du->Dt->Prop} {s:Dt} (h:wpAny M A t Q E s) (hQ:∀ a s,Q a s->Q' a s):wpAny M A t Q' E s:=wpAny_mono h hQ λ_ _ x=>x
section
variable {X:Cx}
def AI (i:Nat):TE:=fun σ H Q=>∃ v,σ[i]?=some (some v)/\Q v H
def tC (v:V):TE:=λ_ H Q=>Q v H
theorem xn {i:Nat} {x:Str} {pos:Pos} (hN:X.N[i]?=some x) (hv:Ah X.env.scope x) (hd:(x == ("__debug__":Str))=false:=by decide) (hcd:(x == ("__classdict__":Str))=false:=by decide):PE X (.Name x pos) (AI i):=by
 intro DQ s σ H Q I h;obtain⟨v,e,h⟩:=h;obtain⟨m,hn,hl⟩:=I.loc;obtain⟨u,r,l⟩:=hl i x v hN e hv;have fin:EP X DQ σ Q u s:=⟨v,H,I,r,h⟩;rcases l with ⟨hk,hm⟩ | ⟨hk,c,hc,hcell⟩
 ·exact wpAny_Name (wpAny_loadName_local I.ok.kind hk hn hm fin) hd
 ·rcases hk with hk | hk
  ·exact wpAny_Name (wpAny_loadName_cell I.ok.kind hk hc hcell fin) hd
  ·exact wpAny_Name (wpAny_loadName_free I.ok.kind hk hc hcell fin hcd) hd
theorem yq {i j pos}:PE X (.Constant (.int i) j pos) (tC (.int i)):=λ_ _ _ H _ I h=>wpAny_Constant_int ⟨.int i,H,I.tok _,⟨_,rfl⟩,h⟩
theorem zr {b j pos}:PE X (.Constant (.bool b) j pos) (tC (.bl b)):=λ_ _ _ H _ I h=>Constant_bool ⟨.bl b,H,I,rfl,h⟩
theorem wR {j pos}:PE X (.Constant .none j pos) (tC .non):=λ_ _ _ H _ I h=>Constant_none ⟨.non,H,I,rfl,h⟩
theorem xP {x j pos}:PE X (.Constant (.str x) j pos) (tC (.str x)):=λ_ _ _ H _ I h=>Calls.Constant_str ⟨.str x,H,I.tok _,⟨_,rfl⟩,h⟩
def Gl (X:Cx) (x:Str):Prop:=X.env.kindOf x=some .globalImplicit
theorem qv {E:Du->Dt->Prop} {DQ:List (Dv×DP)} {s:Dt} {σ:St} {H:Hp} {x:Str} {u:Du} {pos:Pos} {Q:Du->Dt->Prop} (I:aw X DQ σ H s) (hg:Gl X x) (hm:X.mg x=some u) (h:Q u s)
  (hd:(x == ("__debug__":Str))=false:=by decide):wpAny (model X.prog X.w) X.A (eval (.Name x pos) X.env) Q E s:=
 Calls.Name_function_global I.ok.kind hg (Calls.loadGlobal_global (by rw [I.ok.glob]; exact I.mod.glob.keeps I.bk) hm h) hd
theorem iK {E:Du->Dt->Prop} {DQ:List (Dv×DP)} {s:Dt} {σ:St} {H:Hp} {x:Str} {u:Du} {pos:Pos} {Q:Du->Dt->Prop} (I:aw X DQ σ H s) (hg:Gl X x) (hm:X.mg x=none) (hv:bootBuiltins x=some u) (h:Q u s)
  (hn:x≠"__name__":=by decide) (hd:(x == ("__debug__":Str))=false:=by decide):wpAny (model X.prog X.w) X.A (eval (.Name x pos) X.env) Q E s:=by
 obtain⟨mb,h1,h2⟩:=I.mod.blt;exact Calls.Name_function_global I.ok.kind hg (Calls.loadGlobal_builtin (by rw [I.ok.glob]; exact I.mod.glob.keeps I.bk) hm (by rw [I.ok.blt]; exact h1.keeps I.bk) ((h2 x hn).trans hv) h) hd
theorem ql {x:Str} {v:V} {u:Du} {pos:Pos} (hg:Gl X x) (hm:X.mg x=some u) (r:aS v u) (hd:(x == ("__debug__":Str))=false:=by decide):PE X (.Name x pos) (tC v):=
 λ_ _ _ H _ I h=>qv I hg hm ⟨v,H,I,r,h⟩ hd
variable {a b:Dx} {ta tb:TE} {pos:Pos}
def tB (t:TE):TT:=fun σ H Q=>t σ H λx H1=>∃ c,x=.bl c/\Q c H1
theorem yg {e:Dx} {t:TE} (h:PE X e t) (he:∀ whole,isTrue e X.env whole=(do let v <- whole; standAt e.pos; holding [v] (truthy v)):=by intro _; rfl):PT X e (tB t):=by
 intro DQ s σ H Q I hw;refine isTrue_plain (bw (h DQ s σ H _ I hw) λv s1 ⟨x,H1,I1,r1,q1⟩=>?_) (he _)
 obtain⟨d,rfl,q⟩:=q1;cases r1;exact wpAny_truthy_bool ⟨H1,I1,q⟩
variable {tA tB':TT} {bn:List Dx}
def Bw (t u:TT):TT:=fun σ H Q=>t σ H λc H1=>if c=true then u σ H1 Q else Q false H1
def BY (t u:TT):TT:=fun σ H Q=>t σ H λc H1=>if c=true then Q true H1 else u σ H1 Q
theorem vp (ha:PT X a tA):PW X (.BoolOp .And [a] pos) tA:=by
 intro wh DQ s σ H Q I h;refine isTrue_and (bw (ha DQ s σ H Q I h) λc s1 e=>?_)
 cases c with
 | true=>exact isTrue_and_nil e
 | false=>exact e
theorem yp (ha:PT X a tA):PW X (.BoolOp .Or [a] pos) tA:=by
 intro wh DQ s σ H Q I h;refine isTrue_or (bw (ha DQ s σ H Q I h) λc s1 e=>?_)
 cases c with
 | false=>exact isTrue_or_nil e
 | true=>exact e
theorem ym (ha:PT X a tA) (hb:PW X (.BoolOp .And (b::bn) pos) tB'):PW X (.BoolOp .And (a::b::bn) pos) (Bw tA tB'):=by
 intro wh DQ s σ H Q I h;refine isTrue_and (bw (ha DQ s σ H _ I h) λc s1 z9=>?_)
 obtain⟨H1,I1,q1⟩:=z9;cases c with
 | true=>exact hb wh DQ s1 σ H1 Q I1 q1
 | false=>exact⟨H1,I1,q1⟩
theorem y9 (ha:PT X a tA) (hb:PW X (.BoolOp .Or (b::bn) pos) tB'):PW X (.BoolOp .Or (a::b::bn) pos) (BY tA tB'):=by
 intro wh DQ s σ H Q I h;refine isTrue_or (bw (ha DQ s σ H _ I h) λc s1 z9=>?_)
 obtain⟨H1,I1,q1⟩:=z9;cases c with
 | true=>exact⟨H1,I1,q1⟩
 | false=>exact hb wh DQ s1 σ H1 Q I1 q1
end
def dO (K:PySem.W.Frag) (H:Hp) (a:Dv) (xs:List V):Prop:=
 Rd H a (.lst xs)\/
  ∃ (o:DP) (its:DJ Du) (n:Nat),K.lookup a=some o/\o.cls=.type "list"/\o.dict=none/\o.data=.seq its n/\its.size<=sizeLine/\aF xs its.toList
def e_ (K:PySem.W.Frag) (H:Hp) (a:Dv) (xs:List V):Prop:=
 Rd H a (.tup xs)\/
  ∃ (o:DP) (its:DJ Du) (n:Nat),K.lookup a=some o/\o.cls=.type "tuple"/\o.data=.seq its n/\its.size<=sizeLine/\aF xs its.toList
def Ba:Du->Dw V
 | .none=>some .non
 | .bool b=>some (.bl b)
 | .int i _=>some (.int i)
 | .str x _=>some (.str x)
 | .bytes b _=>some (.byt b)
 | .float b _=>some (.flt b)
 | .ref a=>some (.ref a)
 | .type n=>some (.ty n)
 | _=>none
theorem aS.abs {x:V} {u:Du} (r:aS x u):Ba u=some x:=by
 cases x with
 | non=>cases r; rfl
 | bl _=>cases r; rfl
 | int _=>obtain⟨t,rfl⟩:=r; rfl
 | str _=>obtain⟨t,rfl⟩:=r; rfl
 | byt _=>obtain⟨t,rfl⟩:=r; rfl
 | flt _=>obtain⟨t,rfl⟩:=r; rfl
 | ref _=>cases r; rfl
 | ty _=>cases r; rfl
theorem aS.inj {x y:V} {u:Du} (r:aS x u) (q:aS y u):x=y:=CS (r.abs.symm.trans q.abs)
theorem aF.inj:∀ {xs ys:List V} {us:List Du},aF xs us->aF ys us->xs=ys
 | _,_,_,.nil,.nil=>rfl
 | _,_,_,.cons r t,.cons r' t'=>by rw [r.inj r',aF.inj t t']
section
variable {X:Cx} {DQ:List (Dv×DP)} {σ:St} {H:Hp} {s:Dt} {a:Dv} {xs ys:List V}
theorem dO.of {K:PySem.W.Frag} (h:H a=some (.lst xs)):dO K H a xs:=.inl (.inl h)
theorem e_.of {K:PySem.W.Frag} (h:H a=some (.tup xs)):e_ K H a xs:=.inl (.inl h)
theorem aw.list (I:aw X DQ σ H s) (h:dO X.K H a xs):∃ its:List Du,aF xs its/\PlainL s.heap a its.toArray/\xs.length<=sizeLine:=by
 rcases h with h | ⟨o,its,n,hk,hc,hd,hs,hz,r⟩
 ·obtain⟨z,its,n,r,e⟩:=h.ok I.hok;exact⟨its,r,⟨_,n,e,rfl,rfl,rfl⟩,z⟩
 ·refine⟨its.toList,r,⟨o,n,I.kIn a o hk,hc,hd,by simpa using hs⟩,?_⟩
  have e:=r.length;simp only [Dl] at e;omega
theorem aw.tuple (I:aw X DQ σ H s) (h:e_ X.K H a xs):∃ its:List Du,aF xs its/\IsTup s.heap a its.toArray/\xs.length<=sizeLine:=by
 rcases h with h | ⟨o,its,n,hk,hc,hs,hz,r⟩
 ·obtain⟨z,its,r,p⟩:=h.ok I.hok;exact⟨its,r,p,z⟩
 ·refine⟨its.toList,r,⟨o,I.kIn a o hk,hc,n,by simpa using hs⟩,?_⟩
  have e:=r.length;simp only [Dl] at e;omega
theorem aw.list_inj (I:aw X DQ σ H s) (h:dO X.K H a xs) (h':dO X.K H a ys):xs=ys:=by
 obtain⟨its,r,⟨o,n,e,_,_,d⟩,_⟩:=I.list h;obtain⟨its',r',⟨o',n',e',_,_,d'⟩,_⟩:=I.list h';rw [e] at e'; cases e'
 rw [d] at d';injection d' with d1 _
 have:its=its':=by simpa using congrArg Array.toList d1
 subst this;exact r.inj r'
theorem aw.tuple_inj (I:aw X DQ σ H s) (h:e_ X.K H a xs) (h':e_ X.K H a ys):xs=ys:=by
 obtain⟨its,r,⟨o,e,_,n,d⟩,_⟩:=I.tuple h;obtain⟨its',r',⟨o',e',_,n',d'⟩,_⟩:=I.tuple h';rw [e] at e'; cases e'
 rw [d] at d';injection d' with d1 _
 have:its=its':=by simpa using congrArg Array.toList d1
 subst this;exact r.inj r'
end
abbrev Cx.wish (X:Cx) (E:Du->Dt->Prop):Cx:={X with xe:=E}
abbrev Cx.nox (X:Cx):Cx:=X.wish λ_ _=>False
theorem Cx.Ok.wish {X:Cx} (ok:X.Ok) (E:Du->Dt->Prop):(X.wish E).Ok:=
 ⟨ok.mod,ok.kind,ok.glob,ok.blt,ok.above,ok.inj,ok.has,ok.cab,ok.hd,ok.frames,ok.stk,ok.exf,ok.bs,ok.bsz,ok.noex,ok.exfs,ok.funs,ok.frf⟩
theorem Cx.Ok.unwish {X:Cx} {E:Du->Dt->Prop} (ok:(X.wish E).Ok):X.Ok:=
 ⟨ok.mod,ok.kind,ok.glob,ok.blt,ok.above,ok.inj,ok.has,ok.cab,ok.hd,ok.frames,ok.stk,ok.exf,ok.bs,ok.bsz,ok.noex,ok.exfs,ok.funs,ok.frf⟩
section
variable {X:Cx} {DQ:List (Dv×DP)} {σ:St} {H:Hp} {s:Dt} {E:Du->Dt->Prop}
theorem aw.wish (I:aw X DQ σ H s) (E:Du->Dt->Prop):aw (X.wish E) DQ σ H s:=⟨I.ok.wish E,I.os,I.bare,I.base,I.loc,I.cell,I.free,I.freeC,I.pin,I.hok,I.len⟩
theorem aw.unwish (I:aw (X.wish E) DQ σ H s):aw X DQ σ H s:=⟨I.ok.unwish,I.os,I.bare,I.base,I.loc,I.cell,I.free,I.freeC,I.pin,I.hok,I.len⟩
theorem SP.unwish {D:kC} {f:Flow} {s':Dt} (h:SP (X.wish E) DQ D f s'):SP X DQ D f s':=by
 cases f with
 | next=>obtain⟨σ',H',I,q⟩:=h; exact⟨σ',H',I.unwish,q⟩
 | brk=>obtain⟨σ',H',I,q⟩:=h; exact⟨σ',H',I.unwish,q⟩
 | cont=>obtain⟨σ',H',I,q⟩:=h; exact⟨σ',H',I.unwish,q⟩
 | ret u=>obtain⟨v,σ',H',I,r,q⟩:=h; exact⟨v,σ',H',I.unwish,r,q⟩
theorem lE.nox {st:List DF} {t:TS} (h:lE X.nox st t):lE X st t:=λDQ s σ H D I hw=>
 wpAny_mono (h DQ s σ H D (I.wish _) hw) (λ_ _ q=>q.unwish) λ_ _ z=>False.elim z
end
section
variable {X:Cx} {st:DF} {bn:List DF} {t u:TS} {e:Dx} {te:TE} {pos:Pos}
def y6:TS:=λD σ H=>D.nx σ H
def zR (t u:TS):TS:=λD σ H=>t {D with nx:=u D} σ H
theorem vG:lE X [] y6:=λ_ _ σ H _ I h=>wpAny_execs_nil ⟨σ,H,I,h⟩
theorem ui (h1:PS X st t) (h2:lE X bn u):lE X (st::bn) (zR t u):=by
 intro DQ s σ H D I h;refine wpAny_execs_cons (bw (h1 DQ s σ H {D with nx:=u D} I h) λf s1 q=>?_)
 cases f with
 | next=>
  obtain⟨σ',H',I',q⟩:=q;exact h2 DQ s1 σ' H' D I' q
 | ret v=>exact q
 | brk=>exact q
 | cont=>exact q
theorem vB (h1:PS X st t):lE X [st] t:=by
 intro DQ s σ H D I h;refine wpAny_execs_cons (bw (h1 DQ s σ H D I h) λf s1 q=>?_)
 cases f with
 | next=>exact wpAny_execs_nil q
 | ret v=>exact q
 | brk=>exact q
 | cont=>exact q
theorem aw.quiet {DQ:List (Dv×DP)} {σ:St} {H:Hp} {s:Dt} (I:aw X DQ σ H s):interactive X.env=false:=by simp [interactive,I.ok.kind]
def yO (te:TE):TS:=λD σ H=>te σ H λ_ H1=>D.nx σ H1
theorem vI (he:PE X e te) (hs:swapsWith e none pos.line X.env=pure false:=by rfl):PS X (.Expr e pos) (yO te):=by
 intro DQ s σ H D I h;exact wpAny_Expr_any (bw (he DQ s σ H _ I h) λv s1 z9=>by obtain⟨x,H1,I1,r1,q1⟩:=z9; exact⟨σ,H1,I1,q1⟩) I.quiet hs
def A3 (te:TE):TS:=λD σ H=>te σ H D.rt
theorem xI (he:PE X e te):PS X (.Return (some e) pos) (A3 te):=by
 intro DQ s σ H D I h;exact wpAny_Return_some (bw (he DQ s σ H _ I h) λv s1 z9=>by obtain⟨x,H1,I1,r1,q1⟩:=z9; exact⟨x,σ,H1,I1,r1,q1⟩)
def Bb (c:TT) (t u:TS):TS:=λD σ H=>c σ H λb H1=>if b=true then t D σ H1 else u D σ H1
theorem Aq {c:Dx} {a b:List DF} {tc:TT} (hc:PT X c tc) (ha:lE X a t) (hb:lE X b u):PS X (.If c a b pos) (Bb tc t u):=by
 intro DQ s σ H D I h;refine wpAny_If (bw (hc DQ s σ H _ I h) λd s1 z9=>?_)
 obtain⟨H1,I1,q1⟩:=z9;cases d with
 | true=>exact ha DQ s1 σ H1 D I1 q1
 | false=>exact hb DQ s1 σ H1 D I1 q1
def yj:TS:=λ_ _ _=>False
theorem uz:PS X st yj:=λ_ _ _ _ _ _ h=>h.elim
end
abbrev TG:=V->St->Hp->(St->Hp->Prop)->Prop
abbrev sB:=List V->St->Hp->(St->Hp->Prop)->Prop
def PG (X:Cx) (target:Dx) (t:TG):Prop:=
 ∀ (DQ:List (Dv×DP)) (s:Dt) (σ:St) (H:Hp) (v:V) (u:Du) (Q:St->Hp->Prop),aw X DQ σ H s->aS v u->t v σ H Q->
  wpAny (model X.prog X.w) X.A (assign target X.env u) (λ_ s'=>∃ σ' H',aw X DQ σ' H' s'/\Q σ' H') X.xe s
def rT (X:Cx) (ts:List Dx) (t:sB):Prop:=
 ∀ (DQ:List (Dv×DP)) (s:Dt) (σ:St) (H:Hp) (vs:List V) (us:List Du) (Q:St->Hp->Prop),aw X DQ σ H s->aF vs us->t vs σ H Q->
  wpAny (model X.prog X.w) X.A (assignInOrder ((assignEach ts X.env).map (·.2)) us) (λ_ s'=>∃ σ' H',aw X DQ σ' H' s'/\Q σ' H') X.xe s
abbrev xE:=V->V->V->Hp->(Hp->Prop)->Prop
def zk (X:Cx) (t:xE):Prop:=
 ∀ (DQ:List (Dv×DP)) (s:Dt) (σ:St) (H:Hp) (o i v:V) (ov iv u:Du) (Q:Hp->Prop),aw X DQ σ H s->aS o ov->aS i iv->aS v u->t o i v H Q->
  wpAny (model X.prog X.w) X.A (setItem ov iv u) (λ_ s'=>∃ H',aw X DQ σ H' s'/\Q H') X.xe s
section
variable {X:Cx} {pos:Pos}
def kN (i:Nat):TG:=λv σ H Q=>Q (σ.set i (some v)) H
theorem qH {i:Nat} {x:Str} (hN:X.N.Nodup) (hi:X.N[i]?=some x) (hx:yz X.env.scope x) (hf:X.fn x=true\/X.env.scope.names.lookup x=some .local:=by first | exact .inl rfl | exact .inr rfl | assumption):PG X (.Name x pos) (kN i):=by
 intro DQ s σ H v u Q I r h;exact wpAny_assign_Name (gQ I hN hi hx r (λs' I'=>⟨_,H,I',h⟩) hf)
def A6:sB:=λvs σ H Q=>vs=[]/\Q σ H
def Ak (t:TG) (u:sB):sB:=λvs σ H Q=>∃ v r,vs=v::r/\t v σ H fun σ' H'=>u r σ' H' Q
theorem vy:rT X [] A6:=by
 intro DQ s σ H vs us Q I r h;obtain⟨e,h⟩:=h;subst e;cases r;exact assignInOrder_nil ⟨σ,H,I,h⟩
theorem sr {e:Dx} {es:List Dx} {t:TG} {u:sB} (h1:PG X e t) (h2:rT X es u)
  (hs:(assignEach (e::es) X.env).map (·.2)=assign e X.env::(assignEach es X.env).map (·.2):=by rfl):rT X (e::es) (Ak t u):=by
 intro DQ s σ H vs us Q I r h;obtain⟨v,vr,e1,h⟩:=h;subst e1;cases r with
 | cons r rr=>
  rw [hs];refine assignInOrder_cons (bw (h1 DQ s σ H _ _ _ I r h) λ_ s1 z9=>?_)
  obtain⟨σ1,H1,I1,q1⟩:=z9;exact h2 DQ s1 σ1 H1 _ _ Q I1 rr q1
def Bm (K:PySem.W.Frag) (n:Nat) (t:sB):TG:=λv σ H Q=>∃ a xs,v=.ref a/\e_ K H a xs/\xs.length=n/\t xs σ H Q
theorem xa {es:List Dx} {k:Nat} {t:sB} {n:Nat} (hc:X.calm=true) (h:rT X es t)
  (hn:(assignEach es X.env).length=n:=by rfl) (hst:(assignEach es X.env).findIdx? (·.1)=none:=by rfl):PG X (.Tuple es k pos) (Bm X.K n t):=by
 intro DQ s σ H v u Q I r hw;obtain⟨a,xs,e1,hq,hl,hw⟩:=hw;subst e1;cases r;obtain⟨its,rv,ht,hz⟩:=I.tuple hq;refine assign_Tuple_tuple (I.ok.hd hc) ht (by simp [hn,<- hl,rv.length]) hst λh' hx=>?_
 have I1:aw X DQ σ H {s with heap:=h'}:=I.kept (t':=s.toks) λb o e=>hx b o (CA (Cs e)) e
 exact h DQ _ σ H xs _ Q I1 (by simpa using rv) hw
def BC (to ti:TE) (t:xE):TG:=λv σ H Q=>to σ H λo H1=>ti σ H1 λi H2=>t o i v H2 λH3=>Q σ H3
theorem xO {o i:Dx} {to ti:TE} {t:xE} (ho:PE X o to) (hi:PE X i ti) (hs:zk X t)
  (ha:∀ v,assign (.Subscript o i pos) X.env v=(do
   let ov <- holding [v] (eval o X.env)
   let iv <- holding [v,ov] (eval i X.env)
   standAt pos
   holding [v,ov,iv] (setItem ov iv v)
   release [v,ov,iv] []):=by intro _; rfl):PG X (.Subscript o i pos) (BC to ti t):=by
 intro DQ s σ H v u Q I r h;rw [ha];refine gt (CN (bw (ho DQ s σ H _ I h) λov s1 z9=>?_))
 obtain⟨x,H1,I1,r1,q1⟩:=z9;refine gt (CN (bw (hi DQ s1 σ H1 _ I1 q1) λiv s2 z9=>?_))
 obtain⟨y,H2,I2,r2,q2⟩:=z9;refine gt (wpAny_standAt (gt (CN (bw (hs DQ s2 σ H2 x y v ov iv u _ I2 r1 r2 r q2) λ_ s3 z9=>?_))))
 obtain⟨H3,I3,q3⟩:=z9;exact wpAny_release ⟨σ,H3,I3,q3⟩
def vZ (te:TE) (g:TG):TS:=λD σ H=>te σ H λx H1=>g x σ H1 D.nx
theorem x6 {tg e:Dx} {te:TE} {g:TG} (he:PE X e te) (hg:PG X tg g) (hs:swapsWithSole [tg] e pos.line X.env=pure false:=by rfl) (hw:swappedStores [tg] e X.env=pure none:=by rfl)
  (h1:(assignEach [tg] X.env).map (·.2)=[assign tg X.env]:=by rfl):PS X (.Assign [tg] e pos) (vZ te g):=by
 intro DQ s σ H D I h;refine wpAny_Assign_stores (bw (he DQ s σ H _ I h) λv s1 ⟨x,H1,I1,r1,q1⟩=>?_) hs hw
 rw [h1];exact bw (hg DQ s1 σ H1 x v _ I1 r1 q1) λ_ s2 q=>q
theorem yh {i:Nat} {x:Str} {e:Dx} {te:TE} {pos':Pos} (hN:X.N.Nodup) (hi:X.N[i]?=some x) (hx:yz X.env.scope x) (he:PE X e te) (hs:swapsWith e (some (.Name x pos')) pos.line X.env=pure false:=by rfl) (hf:X.fn x=true\/X.env.scope.names.lookup x=some .local:=by first | exact .inl rfl | exact .inr rfl | assumption):
  PS X (.Assign [.Name x pos'] e pos) (vZ te (kN i)):=by
 intro DQ s σ H D I h;refine wpAny_Assign_Name (bw (he DQ s σ H _ I h) λv s1 ⟨y,H1,I1,r1,q1⟩=>?_) hs
 exact gQ I1 hN hi hx r1 (λs2 I2=>⟨_,H1,I2,q1⟩) hf
def BI (i j:Nat) (ta:TA):TS:=λD σ H=>ta σ H λvs H1=>∃ v w,vs=[v,w]/\D.nx ((σ.set i (some v)).set j (some w)) H1
theorem w9 {i j:Nat} {x y:Str} {a b:Dx} {ta:TA} {px py pt:Pos} {kt k2 pt2} (hc:X.calm=true) (hN:X.N.Nodup) (hi:X.N[i]?=some x) (hj:X.N[j]?=some y) (hij:i≠j)
  (hx:X.env.scope.names.lookup x=some .local) (hy:X.env.scope.names.lookup y=some .local) (ha:PA X [a,b] ta)
  (hw:swappedStores [.Tuple [.Name x px,.Name y py] kt pt] (.Tuple [a,b] k2 pt2) X.env=pure (some [x,y]))
  (hs:swapsWithSole [.Tuple [.Name x px,.Name y py] kt pt] (.Tuple [a,b] k2 pt2) pos.line X.env=pure false:=by rfl):
  PS X (.Assign [.Tuple [.Name x px,.Name y py] kt pt] (.Tuple [a,b] k2 pt2) pos) (BI i j ta):=by
 intro DQ s σ H D I h;rw [exec_Assign_arm];refine gt (wpAny_standAt ?_);rw [hs];refine gt (Cp ?_);rw [if_neg (by decide)]
 refine gt (Tuple_ (bw (ha _ DQ s σ H _ I h) λus s1 z9=>?_))
 obtain⟨vs,H1,I1,r1,q1⟩:=z9;obtain⟨v,w,e1,q1⟩:=q1;subst e1;obtain⟨u1,u2,rfl,rv,rw'⟩:∃ u1 u2,us=[u1,u2]/\aS v u1/\aS w u2:=by
  cases r1 with
  | cons p q=>
   cases q with
   | cons p' q'=>
    cases q';exact⟨_,_,rfl,p,p'⟩
 refine CP ?_ (by show 2<=sizeLine; decide)
 have I2:aw X DQ σ H1 {s1 with heap:=s1.heap.push {cls:=.type "tuple",data:=.seq [u1,u2].toArray}}:=I1.kept (t':=s1.toks) λb o e=>Co _ e
 rw [hw];refine gt (Cp ?_)
 show wpAny (model X.prog X.w) X.A (do rule "assign.swapped-stores"; let items <- unpackItems (.ref s1.heap.objs.size) 2 none; assignInOrder [λv=>bindName X.env y v,λv=>bindName X.env x v] items.reverse; pure Flow.next) _ _ _
 refine gt (wpAny_rule (gt (unpackItems_tuple (items:=#[u1,u2]) (I.ok.hd hc) (IsTup.new s1.heap _) λh' hx'=>?_)))
 have I3:=I2.kept (h':=h') (t':=s1.toks) λb o e=>hx' b o (CA (Cs e)) e
 show wpAny _ _ (assignInOrder [λv=>bindName X.env y v,λv=>bindName X.env x v] [u2,u1] >>= λ_=>pure Flow.next) _ _ _
 refine gt (assignInOrder_cons (wpAny_bindName (gQ I3 hN hj (.inl hy) rw' (λs2 I4=>?_) (.inr hy))))
 refine assignInOrder_cons (wpAny_bindName (gQ I4 hN hi (.inl hx) rv (λs3 I5=>assignInOrder_nil (Cp ?_)) (.inr hx)))
 rw [List.set_comm _ _ (Ne.symm hij)] at I5;exact⟨_,H1,I5,q1⟩
def xo (c:TT) (tb:TS):TS:=λD σ H=>∃ W:Nat->St->Hp->Prop,(∃ m,W m σ H)/\∀ m σ H,W m σ H->
 c σ H λb H1=>if b=true then ∃ N:St->Hp->Prop,(∀ σ' H',N σ' H'->∃ m',m' < m/\W m' σ' H')/\tb {D with nx:=N,ct:=N,bk:=D.nx} σ H1 else D.nx σ H1
theorem r_ {c:Dx} {body:List DF} {tc:TT} {tb:TS} (hp:PassesOwn (model X.prog X.w) X.A X.env X.xe) (hc:PT X c tc) (hb:lE X body tb):PS X (.While c body [] pos) (xo tc tb):=by
 intro DQ s σ H D I h;obtain⟨W,⟨m0,w0⟩,turn⟩:=h;refine wpAny_While (codeAny_whileLoop (λn s'=>∃ σ' H',aw X DQ σ' H' s'/\W n σ' H') ?_ m0 ⟨σ,H,I,w0⟩)
 rintro n s1 ⟨σ1,H1,I1,w1⟩;refine wpAny_passesOwn hp (bw (hc DQ s1 σ1 H1 _ I1 (turn n σ1 H1 w1)) λb s2 z9=>?_)
 obtain⟨H2,I2,q2⟩:=z9;cases b with
 | true=>
  obtain⟨N,hN,q2⟩:=q2;rw [if_pos rfl];refine wpAny_passesOwn hp (bw (hb DQ s2 σ1 H2 _ I2 q2) λf s3 q3=>?_)
  cases f with
  | next=>
   obtain⟨σ3,H3,I3,n3⟩:=q3;obtain⟨m',hm,w3⟩:=hN σ3 H3 n3;exact⟨m',hm,σ3,H3,I3,w3⟩
  | cont=>
   obtain⟨σ3,H3,I3,n3⟩:=q3;obtain⟨m',hm,w3⟩:=hN σ3 H3 n3;exact⟨m',hm,σ3,H3,I3,w3⟩
  | brk=>exact q3
  | ret v=>exact q3
 | false=>
  rw [if_neg Cw];exact wpAny_execs_nil ⟨σ1,H2,I2,q2⟩
end
structure It where
 go:Nat->Hp->Prop
 yld:Nat->Hp->V->Hp->Prop
 stop:Nat->Hp->Prop
def ja (X:Cx) (DQ:List (Dv×DP)) (H:Hp) (b:Dv):Prop:=
 H b=none/\b≠X.env.locals/\b∉X.fs/\(b∈X.ex\/X.s₀.heap.objs.size<=b)/\(∀ x c,X.env.cells.lookup x=some c->c≠b)/\∀ p∈X.pn++DQ,p.1≠b
theorem aw.fpOk {X:Cx} {DQ:List (Dv×DP)} {σ:St} {H H':Hp} {s:Dt} {b:Dv} (I:aw X DQ σ H s) (hb:s.heap.objs.size<=b) (hn:H' b=none):ja X DQ H' b:=by
 refine⟨hn,Nat.ne_of_gt (CD I.lt hb),I.nofs hb,.inr (CZ I.sz hb),λx c e z=>?_,λp hp z=>?_⟩
 ·obtain⟨v,q⟩:=I.cell x c e;exact absurd (CD q.lt (by rw [z]; exact hb)) (De _)
 ·exact absurd (CD (Cs (I.pin p hp).1) (by rw [z]; exact hb)) (De _)
structure qM (P:Dy) (w:DC) (K:PySem.W.Frag) (tg:Dx) (J:It) (fp:List Dv) (it:Dv) (tn:Nat->DD->Prop):Prop where
 mem:it∈fp
 obj:∀ i h,tn i h->∀ b∈fp,∃ o,h.get? b=some o/\∀ v,o.data≠.cell v
 keep:∀ i h h',tn i h->(∀ b∈fp,∀ o,h.get? b=some o->h'.get? b=some o)->tn i h'
 item:∀ (X:Cx),X.prog=P->X.w=w->X.K=K->X.calm=true->∀ (i:Nat) (DQ:List (Dv×DP)) (s:Dt) (σ:St) (H:Hp) (E:Du->Dt->Prop),aw X DQ σ H s->(∀ b∈fp,ja X DQ H b)->tn i s.heap->J.go i H->
  wpAny (model P w) X.A (pyNext (.ref it)) (λr s1=>∃ u,r=some u/\
   wpAny (model P w) X.A (letOwnedTupleGo tg (.ref it) u) (λ_ s2=>∃ x H',aw X DQ σ H' s2/\aS x u/\J.yld i H x H'/\tn (i+1) s2.heap/\∀ b∈fp,H' b=none) E s1) E s
 done:∀ (X:Cx),X.prog=P->X.w=w->X.K=K->X.calm=true->∀ (i:Nat) (DQ:List (Dv×DP)) (s:Dt) (σ:St) (H:Hp) (E:Du->Dt->Prop),aw X DQ σ H s->(∀ b∈fp,ja X DQ H b)->tn i s.heap->J.stop i H->
  wpAny (model P w) X.A (pyNext (.ref it)) (λr s1=>r=none/\aw X DQ σ H s1) E s
 self:∀ (A:Dz) (i:Nat) (s:Dt) (Q:Du->Dt->Prop) (E:Du->Dt->Prop),tn i s.heap->Q (.ref it) s->wpAny (model P w) A (pyIter (.ref it)) Q E s
abbrev TI:=St->Hp->(It->Hp->Prop)->Prop
def BK (X:Cx) (DQ:List (Dv×DP)) (σ:St) (tg:Dx) (R:It->Hp->Prop) (itv:Du) (s2:Dt):Prop:=
 ∃ (it:Dv) (fp:List Dv) (tn:Nat->DD->Prop) (J:It) (H':Hp),itv=.ref it/\aw X DQ σ H' s2/\qM X.prog X.w X.K tg J fp it tn/\tn 0 s2.heap/\(∀ b∈fp,ja X DQ H' b)/\R J H'
def PI (X:Cx) (tg iter:Dx) (wi:TI):Prop:=
 ∀ (DQ:List (Dv×DP)) (s:Dt) (σ:St) (H:Hp) (R:It->Hp->Prop),aw X DQ σ H s->wi σ H R->
  wpAny (model X.prog X.w) X.A (eval iter X.env) (λv s1=>wpAny (model X.prog X.w) X.A (pyIter v) (BK X DQ σ tg R) X.xe s1) X.xe s
theorem sU {M:Model} {A:Dz} {E:Du->Dt->Prop} {s:Dt} {tg:Dx} {it:Dv} {u:Du} {o:DP} {n:DN} {vs:DJ Du} {Q:Unit->Dt->Prop} (ho:s.heap.get? it=some o) (hc:o.cls=.type n) (hd:o.data=.fields vs)
  (hn:["enumerate","zip","dict_itemiterator","dict_reverseitemiterator","odict_iterator","itertools.zip_longest","itertools.pairwise"].contains n=false) (hQ:Q () s):wpAny M A (letOwnedTupleGo tg (.ref it) u) Q E s:=by
 unfold letOwnedTupleGo;cases tg <;> first
  | exact Cp hQ
  | (cases u <;> first
    | exact Cp hQ
    | (refine gt (wpAny_load ho ?_)
       rw [hc,hd]
       show wpAny M A (if (["enumerate","zip","dict_itemiterator","dict_reverseitemiterator","odict_iterator","itertools.zip_longest","itertools.pairwise"].contains n && vs[0]? == some (rawInt _))=true then _ else _) Q E s
       rw [if_neg (by intro h; rw [hn,Bool.false_and] at h; cases h)]
       exact Cp hQ))
def yH (K:PySem.W.Frag) (a:Dv):It:=
 ⟨λi H=>∃ xs x,dO K H a xs/\xs[i]?=some x,λi H x H'=>H'=H/\∀ xs,dO K H a xs->xs[i]?=some x,λi H=>∃ xs,dO K H a xs/\xs.length<=i⟩
def Av (K:PySem.W.Frag) (a:Dv):It:=
 ⟨λi H=>∃ xs x,e_ K H a xs/\xs[i]?=some x,λi H x H'=>H'=H/\∀ xs,e_ K H a xs->xs[i]?=some x,λi H=>∃ xs,e_ K H a xs/\xs.length<=i⟩
def vi (lo:Int) (n:Nat):It:=⟨λi _=>i < n,λi H x H'=>H'=H/\x=.int (lo+i),λi _=>n<=i⟩
theorem rC {P:Dy} {w:DC} {K:PySem.W.Frag} {tg:Dx} (a it:Dv):qM P w K tg (yH K a) [it] it (λi h=>h.IsListIter it a i) where
 mem:=by simp
 obj:=λi h st b hb=>by
  have e:b=it:=by simpa using hb
  subst e;obtain⟨o,e,c,d⟩:=st;exact⟨o,e,λv z=>by rw [d] at z; cases z⟩
 keep:=λi h h' st k=>st.at λo e=>k it (by simp) o e
 item:=by
  intro X hP hw hK hc i DQ s σ H E I hf st hg;subst hP hw hK;obtain⟨xs,x,hq,hx⟩:=hg;obtain⟨its,rv,p,hz⟩:=I.list hq;obtain⟨u,hu,ru⟩:=rv.get hx;obtain⟨f0,f1,f2,f3,f4,f5⟩:=hf it (by simp)
  refine wpAny_pyNext_list_item st p.isList (x:=u) (by simpa using hu) λh' st' sb=>?_
  have I1:aw X DQ σ H {s with heap:=h'}:=I.turned (t':=s.toks) (λb o hb e=>(sb.2 b hb).trans e) f0 f1 f3 f4 f5
  obtain⟨o,e,c,d⟩:=id st';exact⟨u,rfl,sU (s:={s with heap:=h'}) e c d (by decide) ⟨x,H,I1,ru,⟨rfl,λys hy=>by rw [I.list_inj hy hq]; exact hx⟩,st',λb hb=>(hf b hb).1⟩⟩
 done:=by
  intro X hP hw hK hc i DQ s σ H E I hf st hg;subst hP hw hK;obtain⟨xs,hq,hx⟩:=hg;obtain⟨its,rv,p,hz⟩:=I.list hq;obtain⟨f0,f1,f2,f3,f4,f5⟩:=hf it (by simp)
  have hl:=rv.length;exact wpAny_pyNext_list_end (I.ok.hd hc) st p.isList (by simp; omega) λh' eb=>⟨rfl,I.turned (t':=s.toks) (λb o hb e=>eb b o hb e) f0 f1 f3 f4 f5⟩
 self:=λ_ _ _ _ _ st h=>wpAny_pyIter_listiter st h
theorem oT {P:Dy} {w:DC} {K:PySem.W.Frag} {tg:Dx} (a it:Dv):qM P w K tg (Av K a) [it] it (λi h=>h.IsTupleIter it a i) where
 mem:=by simp
 obj:=λi h st b hb=>by
  have e:b=it:=by simpa using hb
  subst e;obtain⟨o,e,c,d⟩:=st;exact⟨o,e,λv z=>by rw [d] at z; cases z⟩
 keep:=λi h h' st k=>st.at λo e=>k it (by simp) o e
 item:=by
  intro X hP hw hK hc i DQ s σ H E I hf st hg;subst hP hw hK;obtain⟨xs,x,hq,hx⟩:=hg;obtain⟨its,rv,p,hz⟩:=I.tuple hq;obtain⟨u,hu,ru⟩:=rv.get hx;obtain⟨f0,f1,f2,f3,f4,f5⟩:=hf it (by simp)
  refine wpAny_pyNext_tuple_item st (show s.heap.IsTuple a its.toArray from p) (x:=u) (by simpa using hu) λh' st' sb=>?_
  have I1:aw X DQ σ H {s with heap:=h'}:=I.turned (t':=s.toks) (λb o hb e=>(sb.2 b hb).trans e) f0 f1 f3 f4 f5
  obtain⟨o,e,c,d⟩:=id st';exact⟨u,rfl,sU (s:={s with heap:=h'}) e c d (by decide) ⟨x,H,I1,ru,⟨rfl,λys hy=>by rw [I.tuple_inj hy hq]; exact hx⟩,st',λb hb=>(hf b hb).1⟩⟩
 done:=by
  intro X hP hw hK hc i DQ s σ H E I hf st hg;subst hP hw hK;obtain⟨xs,hq,hx⟩:=hg;obtain⟨its,rv,p,hz⟩:=I.tuple hq;obtain⟨f0,f1,f2,f3,f4,f5⟩:=hf it (by simp)
  have hl:=rv.length;exact wpAny_pyNext_tuple_end (I.ok.hd hc) st (show s.heap.IsTuple a its.toArray from p) (by simp; omega) λh' eb=>⟨rfl,I.turned (t':=s.toks) (λb o hb e=>eb b o hb e) f0 f1 f3 f4 f5⟩
 self:=λ_ _ _ _ _ st h=>wpAny_pyIter_tupleiter st h
theorem oE {P:Dy} {w:DC} {K:PySem.W.Frag} {tg:Dx} (it:Dv) (lo:Int) (n:Nat):qM P w K tg (vi lo n) [it] it (λi h=>IsRangeIter h it (lo+(i:Nat)*1) ((n:Int) - (i:Nat)) 1) where
 mem:=by simp
 obj:=λi h st b hb=>by
  have e:b=it:=by simpa using hb
  subst e;exact⟨_,st,λv z=>by
   have z':Data.fields _=Data.cell v:=z;cases z'⟩
 keep:=λi h h' st k=>k it (by simp) _ st
 item:=by
  intro X hP hw hK hc i DQ s σ H E I hf st hg;subst hP hw hK;obtain⟨f0,f1,f2,f3,f4,f5⟩:=hf it (by simp)
  have W:=Walks.range (prog:=X.prog) (w:=X.w) (I.ok.hd hc) it lo 1 n;refine W.item i s _ _ hg st λv h' tk hv st' kk=>?_
  obtain⟨t,rfl⟩:=hv;have I1:aw X DQ σ H {s with heap:=h',toks:=tk}:=I.turned (λb o hb e=>kk b o (by simpa using hb) e) f0 f1 f3 f4 f5
  refine⟨_,rfl,sU (s:={s with heap:=h',toks:=tk}) (n:="range_iterator") st' rfl rfl (by decide) ⟨.int (lo+i),H,I1,⟨t,?_⟩,⟨rfl,rfl⟩,st',λb hb=>(hf b hb).1⟩⟩
  rw [Int.mul_one]
 done:=by
  intro X hP hw hK hc i DQ s σ H E I hf st hg;subst hP hw hK;obtain⟨f0,f1,f2,f3,f4,f5⟩:=hf it (by simp)
  exact wpAny_pyNext_range_end (I.ok.hd hc) st (by have:n<=i:=hg; omega) λh' eb=>⟨rfl,I.turned (t':=s.toks) (λb o hb e=>eb b o hb e) f0 f1 f3 f4 f5⟩
 self:=λ_ _ _ _ _ st h=>wpAny_pyIter_rangeiter st h
section
variable {X:Cx} {tg:Dx}
theorem nu {DQ:List (Dv×DP)} {σ:St} {H:Hp} {s:Dt} {R:It->Hp->Prop} {E:Du->Dt->Prop} {lo hi:Int} {t u v:Tok} {tk:Nat} (I:aw X DQ σ H s) (h1:-(2 ^ 62)<=lo) (h2:lo < 2 ^ 62) (h3:-(2 ^ 62)<=hi) (h4:hi < 2 ^ 62)
  (q:R (vi lo (hi - lo).toNat) H):wpAny (model X.prog X.w) X.A (pyIter (.ref s.heap.objs.size)) (BK X DQ σ tg R) E {s with heap:=s.heap.push {cls:=.type "range",data:=.fields #[.int lo t,.int hi u,.int 1 v]},toks:=tk}:=by
 refine wpAny_pyIter_range (IsRange.new ..) (small_one h1 h2 h3 h4) ?_;have I1:aw X DQ σ H {s with heap:=s.heap.push {cls:=.type "range",data:=.fields #[.int lo t,.int hi u,.int 1 v]},toks:=tk}:=I.kept λb o e=>Co _ e
 refine⟨(s.heap.push {cls:=.type "range",data:=.fields #[.int lo t,.int hi u,.int 1 v]}).objs.size,[(s.heap.push {cls:=.type "range",data:=.fields #[.int lo t,.int hi u,.int 1 v]}).objs.size],_,_,H,rfl,
  I1.kept (t':=tk) λb o e=>Co _ e,oE _ lo (hi - lo).toNat,?_,λb hb=>?_,q⟩
 ·have e1:lo+((0:Nat):Int)*1=lo:=by simp
  have e2:(((hi - lo).toNat:Nat):Int) - ((0:Nat):Int)=Builtin.Range.rangeSize lo hi 1:=by rw [rangeSize_one]; split <;> omega
  show IsRangeIter _ _ (lo+((0:Nat):Int)*1) ((((hi - lo).toNat:Nat):Int) - ((0:Nat):Int)) 1
  rw [e1,e2];exact Cq _ rfl
 ·have e:b=(s.heap.push {cls:=.type "range",data:=.fields #[.int lo t,.int hi u,.int 1 v]}).objs.size:=by simpa using hb
  subst e;exact I1.fpOk (Ct _) (I1.hok.fresh (Ct _))
def Ae (ta:TA):TI:=fun σ H R=>ta σ H λvs H1=>∃ j:Int,vs=[.int j]/\-(2 ^ 62)<=j/\j < 2 ^ 62/\R (vi 0 j.toNat) H1
def yQ (ta:TA):TI:=fun σ H R=>ta σ H λvs H1=>∃ i j:Int,vs=[.int i,.int j]/\(-(2 ^ 62)<=i/\i < 2 ^ 62/\-(2 ^ 62)<=j/\j < 2 ^ 62)/\R (vi i (j - i).toNat) H1
theorem fX {a:Dx} {ta:TA} {p pos:Pos} (hg:Gl X "range") (hm:X.mg "range"=none) (ha:PA X [a] ta) (hs:starEach [a] X.env=[(false,eval a X.env)]:=by rfl):PI X tg (.Call (.Name "range" p) [a] [] pos) (Ae ta):=by
 intro DQ s σ H R I h;refine Call_ (iK I hg hm boot_range (PyProof.Rows.callWith_type1 (bw (ha pos DQ s σ H _ I h) λus s1 ⟨vs,H1,I1,r1,q1⟩=>?_) hs rfl))
 obtain⟨j,e,q1,q2,q⟩:=q1;subst e;cases r1 with
 | cons r rr=>
  cases rr;obtain⟨t,rfl⟩:=r;exact call_range_1 (nu I1 (by omega) (by omega) q1 q2 (by simpa using q))
theorem lJ {a b:Dx} {ta:TA} {p pos:Pos} (hg:Gl X "range") (hm:X.mg "range"=none) (ha:PA X [a,b] ta) (hs:starEach [a,b] X.env=[(false,eval a X.env),(false,eval b X.env)]:=by rfl) (hs2:starEach [b] X.env=[(false,eval b X.env)]:=by rfl):
  PI X tg (.Call (.Name "range" p) [a,b] [] pos) (yQ ta):=by
 intro DQ s σ H R I h;refine Call_ (iK I hg hm boot_range (PyProof.Rows.callWith_type1 (bw (ha pos DQ s σ H _ I h) λus s1 ⟨vs,H1,I1,r1,q1⟩=>?_) (by rw [hs,hs2]) (by rw [hs2]; rfl)))
 obtain⟨i,j,e,⟨q1,q2,q3,q4⟩,q⟩:=q1;subst e;cases r1 with
 | cons r rr=>
  cases rr with
  | cons r' rr=>
   cases rr;obtain⟨t,rfl⟩:=r;obtain⟨t',rfl⟩:=r';exact call_range_2 (nu I1 q1 q2 q3 q4 q)
def Br (wi:TI) (g:TG) (tb:TS):TS:=λD σ H=>wi σ H λJ H1=>∃ W:Nat->Nat->St->Hp->Prop,(∃ m,W 0 m σ H1)/\∀ i m σ H,W i m σ H->
 (J.stop i H/\D.nx σ H)\/(J.go i H/\∃ N:St->Hp->Prop,(∀ σ' H',N σ' H'->∃ m',m' < m/\W (i+1) m' σ' H')/\∀ x H',J.yld i H x H'->g x σ H' fun σ2 H2=>tb {D with nx:=N,ct:=N,bk:=D.nx} σ2 H2)
def jE (fp:List Dv) (h:DD):List (Dv×DP):=fp.filterMap λb=>(h.get? b).map λo=>(b,o)
theorem bO {fp:List Dv} {h:DD} {b:Dv} {o:DP} (hb:b∈fp) (e:h.get? b=some o):(b,o)∈jE fp h:=List.mem_filterMap.mpr ⟨b,hb,by rw [e]; rfl⟩
theorem re {fp:List Dv} {h:DD} {p:Dv×DP} (hp:p∈jE fp h):p.1∈fp/\h.get? p.1=some p.2:=by
 obtain⟨b,hb,e⟩:=List.mem_filterMap.mp hp;cases q:h.get? b with
 | none=>rw [q] at e; cases e
 | some o=>
  rw [q] at e;have e':(b,o)=p:=CS e;subst e';exact⟨hb,q⟩
theorem aw.pinned {DQ:List (Dv×DP)} {σ:St} {H:Hp} {s:Dt} {fp:List Dv} (I:aw X DQ σ H s) (hf:∀ b∈fp,ja X DQ H b) (ho:∀ b∈fp,∃ o,s.heap.get? b=some o/\∀ v,o.data≠.cell v):aw X (DQ++jE fp s.heap) σ H s:=
 I.pins_of λp hp=>(List.mem_append.mp hp).elim (λz=>I.pin p (CF _ z)) λz=>by
  obtain⟨hb,e⟩:=re z;obtain⟨f0,f1,f2,_⟩:=hf p.1 hb;obtain⟨o,e',d⟩:=ho p.1 hb;rw [e] at e'; cases e'
  exact⟨e,f0,f1,f2,d⟩
theorem aw.unpinned {DQ pl:List (Dv×DP)} {σ:St} {H:Hp} {s:Dt} (I:aw X (DQ++pl) σ H s):aw X DQ σ H s:=I.pins_of λp hp=>I.pin p (CF _ (List.mem_append_left _ hp))
theorem j_ {iter:Dx} {body:List DF} {wi:TI} {g:TG} {tb:TS} {pos:Pos} (hp:PassesOwn (model X.prog X.w) X.A X.env X.xe) (hc:X.calm=true) (hi:PI X tg iter wi) (hg:PG X tg g) (hb:lE X body tb)
  (hs:∀ x,foldedSetIterable iter X.env x=pure x:=by intro _; rfl):PS X (.For tg iter body [] pos) (Br wi g tb):=by
 intro DQ s σ H D I h;refine wpAny_For (bw (hi DQ s σ H _ I h) λv s1 h1=>bw h1 λitv s2 h2=>?_) hs
 obtain⟨it,fp,tn,J,H2,e,I2,T,st2,f2,W,⟨m0,w0⟩,turn⟩:=h2;subst e;have stat:∀ {H':Hp},(∀ b∈fp,H' b=none)->∀ b∈fp,ja X DQ H' b:=λhn b hb=>⟨hn b hb,(f2 b hb).2⟩
 refine codeAny_forLoop_any (λn s'=>∃ i σ' H',aw X DQ σ' H' s'/\tn i s'.heap/\(∀ b∈fp,H' b=none)/\W i n σ' H') ?_ m0 ⟨0,σ,H2,I2,st2,λb hb=>(f2 b hb).1,w0⟩
 rintro n s3 ⟨i,σ3,H3,I3,st3,fr3,w3⟩;rcases turn i n σ3 H3 w3 with ⟨stop,qn⟩ | ⟨go,N,hN,step⟩
 ·refine wpAny_passesOwn hp (bw (T.done X rfl rfl rfl hc i DQ s3 σ3 H3 X.xe I3 (stat fr3) st3 stop) λr s4 z9=>?_)
  obtain⟨hr,I4⟩:=z9;subst hr;exact wpAny_execs_nil ⟨σ3,H3,I4,qn⟩
 ·refine wpAny_passesOwn hp (bw (T.item X rfl rfl rfl hc i DQ s3 σ3 H3 X.xe I3 (stat fr3) st3 go) λr s4 z9=>?_)
  obtain⟨u,hr,h4⟩:=z9;subst hr;refine wpAny_passesOwn hp (bw h4 λ_ s5 z9=>?_)
  obtain⟨x,H5,I5,r5,y5,st5,fr5⟩:=z9;have I5':=I5.pinned (stat fr5) (T.obj _ _ st5);refine wpAny_passesOwn hp (bw (hg _ s5 σ3 H5 x u _ I5' r5 (step x H5 y5)) λ_ s6 z9=>?_)
  obtain⟨σ6,H6,I6,q6⟩:=z9;refine wpAny_passesOwn hp (bw (hb _ s6 σ6 H6 _ I6 q6) λf s7 q7=>?_)
  have again:∀ {σ7:St} {H7:Hp},aw X (DQ++jE fp s5.heap) σ7 H7 s7->N σ7 H7->∃ m,m < n/\∃ i σ' H',aw X DQ σ' H' s7/\tn i s7.heap/\(∀ b∈fp,H' b=none)/\W i m σ' H':=λ{σ7 H7} I7 n7=>by
   obtain⟨m',hm,w7⟩:=hN σ7 H7 n7;refine⟨m',hm,i+1,σ7,H7,I7.unpinned,T.keep _ _ _ st5 λb hb o e=>(I7.pin (b,o) (CF _ (CF _ (bO hb e)))).1,λb hb=>?_,w7⟩
   obtain⟨o,e,d⟩:=T.obj _ _ st5 b hb;exact(I7.pin (b,o) (CF _ (CF _ (bO hb e)))).2.1
  cases f with
  | next=>obtain⟨σ7,H7,I7,n7⟩:=q7; exact again I7 n7
  | cont=>obtain⟨σ7,H7,I7,n7⟩:=q7; exact again I7 n7
  | brk=>obtain⟨σ7,H7,I7,q7⟩:=q7; exact⟨σ7,H7,I7.unpinned,q7⟩
  | ret v=>obtain⟨x7,σ7,H7,I7,r7,q7⟩:=q7; exact⟨x7,σ7,H7,I7.unpinned,r7,q7⟩
end
abbrev R2:=V->V->Hp->VK->Prop
def cP (X:Cx) (f:Du->Du->Sem Du) (r:R2):Prop:=
 ∀ (DQ:List (Dv×DP)) (s:Dt) (σ:St) (H:Hp) (x y:V) (v u:Du) (Q:VK),aw X DQ σ H s->aS x v->aS y u->r x y H Q->
  wpAny (model X.prog X.w) X.A (f v u) (EP X DQ σ Q) X.xe s
def yL (X:Cx) (f:Du->Sem Du) (r:V->Hp->VK->Prop):Prop:=
 ∀ (DQ:List (Dv×DP)) (s:Dt) (σ:St) (H:Hp) (x:V) (v:Du) (Q:VK),aw X DQ σ H s->aS x v->r x H Q->
  wpAny (model X.prog X.w) X.A (f v) (EP X DQ σ Q) X.xe s
def bS (X:Cx) (f:Du) (r:List V->Hp->VK->Prop):Prop:=
 ∀ (DQ:List (Dv×DP)) (s:Dt) (σ:St) (H:Hp) (xs:List V) (us:List Du) (Q:VK),aw X DQ σ H s->aF xs us->r xs H Q->
  wpAny (model X.prog X.w) X.A (call f us) (EP X DQ σ Q) X.xe s
def yM (r:R2) (ta tb:TE):TE:=fun σ H Q=>ta σ H λx H1=>tb σ H1 λy H2=>r x y H2 Q
def B7 (r:V->Hp->VK->Prop) (ta:TE):TE:=fun σ H Q=>ta σ H λx H1=>r x H1 Q
def rI (C:Int->Int->Prop) (g:Int->Int->V):R2:=λx y H Q=>∃ i j,x=.int i/\y=.int j/\C i j/\Q (g i j) H
def wH (g:Int->Int->V):R2:=λx y H Q=>∃ i j,x=.int i/\y=.int j/\Q (g i j) H
def rU (g:Int->V):V->Hp->VK->Prop:=λx H Q=>∃ i,x=.int i/\Q (g i) H
section
variable {X:Cx} {a b c:Dx} {ta tb tc:TE} {pos:Pos}
theorem xu (ha:PE X a ta) (hb:PE X b tb) {DQ:List (Dv×DP)} {s:Dt} {σ:St} {H:Hp} {R:V->V->Hp->Prop} (I:aw X DQ σ H s)
  (h:ta σ H λx H1=>tb σ H1 λy H2=>R x y H2) {Q:Du->Dt->Prop} {f:Du->Du->Sem Du}
  (hf:∀ v u s2 x y H2,aw X DQ σ H2 s2->aS x v->aS y u->R x y H2->wpAny (model X.prog X.w) X.A (f v u) Q X.xe s2):
  wpAny (model X.prog X.w) X.A (eval a X.env) (λv s₁=>wpAny (model X.prog X.w) X.A (eval b X.env) (λu s₂=>wpAny (model X.prog X.w) X.A (f v u) Q X.xe s₂) X.xe s₁) X.xe s:=by
 refine bw (ha DQ s σ H _ I h) λv s1 z9=>?_
 obtain⟨x,H1,I1,r1,q1⟩:=z9;refine bw (hb DQ s1 σ H1 _ I1 q1) λu s2 z9=>?_
 obtain⟨y,H2,I2,r2,q2⟩:=z9;exact hf v u s2 x y H2 I2 r1 r2 q2
theorem yX {op:Operator} {r:R2} (ho:cP X (binaryOp op) r) (ha:PE X a ta) (hb:PE X b tb):PE X (.BinOp a op b pos) (yM r ta tb):=by
 intro DQ s σ H Q I h;exact wpAny_BinOp (xu ha hb I h λv u s2 x y H2 I2 rx ry q=>ho DQ s2 σ H2 x y v u Q I2 rx ry q)
theorem yU {op:UnaryOp} {r:V->Hp->VK->Prop} (ho:yL X (unaryOp op) r) (ha:PE X a ta):PE X (.UnaryOp op a pos) (B7 r ta):=by
 intro DQ s σ H Q I h;exact UnaryOp_ (bw (ha DQ s σ H _ I h) λv s1 z9=>by obtain⟨x,H1,I1,r1,q1⟩:=z9; exact ho DQ s1 σ H1 x v Q I1 r1 q1)
theorem AA {f:Du->Du->Sem Du} {C:Int->Int->Prop} {g:Int->Int->Int}
  (rule:∀ (i j:Int) (t u:Tok) (s:Dt) (Q:Du->Dt->Prop) (E:Du->Dt->Prop),C i j->Q (.int (g i j) s.toks) {s with toks:=s.toks+1}->wpAny (model X.prog X.w) X.A (f (.int i t) (.int j u)) Q E s):
  cP X f (rI C λi j=>.int (g i j)):=by
 intro DQ s σ H x y v u Q I rx ry h;obtain⟨i,j,rfl,rfl,hc,q⟩:=h;obtain⟨t,rfl⟩:=rx;obtain⟨t',rfl⟩:=ry;exact rule i j t t' s _ _ hc ⟨.int (g i j),H,I.tok _,⟨_,rfl⟩,q⟩
theorem Ap {f:Du->Du->Sem Du} {g:Int->Int->Int}
  (rule:∀ (i j:Int) (t u:Tok) (s:Dt) (Q:Du->Dt->Prop) (E:Du->Dt->Prop),Q (.int (g i j) s.toks) {s with toks:=s.toks+1}->wpAny (model X.prog X.w) X.A (f (.int i t) (.int j u)) Q E s):
  cP X f (wH λi j=>.int (g i j)):=by
 intro DQ s σ H x y v u Q I rx ry h;obtain⟨i,j,rfl,rfl,q⟩:=h;obtain⟨t,rfl⟩:=rx;obtain⟨t',rfl⟩:=ry;exact rule i j t t' s _ _ ⟨.int (g i j),H,I.tok _,⟨_,rfl⟩,q⟩
theorem w5 {f:Du->Du->Sem Du} {g:Int->Int->DM}
  (rule:∀ (i j:Int) (t u:Tok) (s:Dt) (Q:Du->Dt->Prop) (E:Du->Dt->Prop),Q (.bool (g i j)) s->wpAny (model X.prog X.w) X.A (f (.int i t) (.int j u)) Q E s):
  cP X f (wH λi j=>.bl (g i j)):=by
 intro DQ s σ H x y v u Q I rx ry h;obtain⟨i,j,rfl,rfl,q⟩:=h;obtain⟨t,rfl⟩:=rx;obtain⟨t',rfl⟩:=ry;exact rule i j t t' s _ _ ⟨.bl (g i j),H,I,rfl,q⟩
def yf (i j:Int):Prop:=0<=j/\j<=1000000/\i.natAbs < 2 ^ 64
theorem xQ:cP X (binaryOp .Add) (wH λi j=>.int (i+j)):=Ap λ_ _ _ _ _ _ _ q=>add_int q
theorem yu:cP X (binaryOp .Sub) (wH λi j=>.int (i - j)):=Ap λ_ _ _ _ _ _ _ q=>sub_int q
theorem vE:cP X (binaryOp .Mod) (rI (λ_ j=>j≠0) λi j=>.int (i.fmod j)):=AA λ_ _ _ _ _ _ _ hc q=>mod_int' hc q
theorem yv:cP X (binaryOp .Pow) (rI yf λi j=>.int (i ^ j.toNat)):=AA λ_ _ _ _ _ _ _ hc q=>pow_int_small hc.1 hc.2.1 hc.2.2 q
theorem BZ {f:Du->Sem Du} {g:Int->Int}
  (rule:∀ (i:Int) (t:Tok) (s:Dt) (Q:Du->Dt->Prop) (E:Du->Dt->Prop),Q (.int (g i) s.toks) {s with toks:=s.toks+1}->wpAny (model X.prog X.w) X.A (f (.int i t)) Q E s):
  yL X f (rU λi=>.int (g i)):=by
 intro DQ s σ H x v Q I rx h;obtain⟨i,rfl,q⟩:=h;obtain⟨t,rfl⟩:=rx;exact rule i t s _ _ ⟨.int (g i),H,I.tok _,⟨_,rfl⟩,q⟩
theorem x_:yL X (unaryOp .USub) (rU λi=>.int (-i)):=BZ λ_ _ _ _ _ q=>neg_int q
end
def xb:V->V->DM
 | .non,.non=>true | .non,.int _=>true | .int _,.non=>true | .non,.bl _=>true | .bl _,.non=>true | .non,.str _=>true | .str _,.non=>true
 | .int _,.int _=>true | .bl _,.bl _=>true | .str _,.str _=>true | .byt _,.byt _=>true
 | .int _,.str _=>true | .str _,.int _=>true | .bl _,.str _=>true | .str _,.bl _=>true
 | _,_=>false
def Ck:R2:=λx y H Q=>xb x y=true/\Q (.bl (decide (x=y))) H
def Ch:R2:=λx y H Q=>xb x y=true/\Q (.bl (!decide (x=y))) H
theorem qI {i j:Int}:decide (V.int i=V.int j)=(i == j):=by
 rw [Bool.eq_iff_iff];simp
theorem uA {i j:DM}:decide (V.bl i=V.bl j)=(i == j):=by
 rw [Bool.eq_iff_iff];simp
theorem qy {i j:Str}:decide (V.str i=V.str j)=(i == j):=by
 rw [Bool.eq_iff_iff];simp
theorem pX {i j:DJ UInt8}:decide (V.byt i=V.byt j)=(i.toList == j.toList):=by
 rw [Bool.eq_iff_iff];cases i;cases j;simp
section
variable {X:Cx} {a b c:Dx} {ta tb tc:TE} {pos:Pos}
theorem aN {DQ:List (Dv×DP)} {σ:St} {H:Hp} {s:Dt} {Q:VK} {k k':DM} (I:aw X DQ σ H s) (q:Q (.bl k) H) (e:k=k'):EP X DQ σ Q (.bool k') s:=by
 subst e;exact⟨.bl k,H,I,rfl,q⟩
theorem yR:cP X (compareOp .Eq) Ck:=by
 intro DQ s σ H x y v u Q I rx ry h;obtain⟨hs,q⟩:=h;cases x with
 | non=>
  cases rx;cases y with
  | non=>cases ry; exact PySem.EqNone.eq_none_none (aN I q (by simp))
  | bl j=>cases ry; exact PySem.EqNone.eq_none_bool (aN I q (by simp))
  | int j=>obtain⟨t',rfl⟩:=ry; exact PySem.EqNone.eq_none_int (aN I q (by simp))
  | str j=>obtain⟨t',rfl⟩:=ry; exact PySem.EqNone.eq_none_str (aN I q (by simp))
  | _=>exact absurd (show false=true from hs) Cw
 | bl i=>
  cases rx;cases y with
  | non=>cases ry; exact PySem.EqNone.eq_bool_none (aN I q (by simp))
  | bl j=>cases ry; exact eq_bool (aN I q uA)
  | str j=>obtain⟨t',rfl⟩:=ry; exact PySem.EqMixed.eq_bool_str (aN I q (by simp))
  | _=>exact absurd (show false=true from hs) Cw
 | int i=>
  obtain⟨t,rfl⟩:=rx;cases y with
  | non=>cases ry; exact PySem.EqNone.eq_int_none (aN I q (by simp))
  | int j=>obtain⟨t',rfl⟩:=ry; exact eq_int (aN I q qI)
  | str j=>obtain⟨t',rfl⟩:=ry; exact PySem.EqMixed.eq_int_str (aN I q (by simp))
  | _=>exact absurd (show false=true from hs) Cw
 | str i=>
  obtain⟨t,rfl⟩:=rx;cases y with
  | non=>cases ry; exact PySem.EqNone.eq_str_none (aN I q (by simp))
  | bl j=>cases ry; exact PySem.EqMixed.eq_str_bool (aN I q (by simp))
  | int j=>obtain⟨t',rfl⟩:=ry; exact PySem.EqMixed.eq_str_int (aN I q (by simp))
  | str j=>obtain⟨t',rfl⟩:=ry; exact eq_str (aN I q qy)
  | _=>exact absurd (show false=true from hs) Cw
 | byt i=>
  obtain⟨t,rfl⟩:=rx;cases y with
  | byt j=>obtain⟨t',rfl⟩:=ry; exact PySem.W.eq_bytes (aN I q pX)
  | _=>exact absurd (show false=true from hs) Cw
 | _=>cases y <;> exact absurd (show false=true from hs) Cw
theorem zK:cP X (compareOp .NotEq) Ch:=by
 intro DQ s σ H x y v u Q I rx ry h;obtain⟨hs,q⟩:=h;cases x with
 | non=>
  cases rx;cases y with
  | non=>cases ry; exact PySem.EqNone.ne_none_none (aN I q (by simp))
  | bl j=>cases ry; exact PySem.EqNone.ne_none_bool (aN I q (by simp))
  | int j=>obtain⟨t',rfl⟩:=ry; exact PySem.EqNone.ne_none_int (aN I q (by simp))
  | str j=>obtain⟨t',rfl⟩:=ry; exact PySem.EqNone.ne_none_str (aN I q (by simp))
  | _=>exact absurd (show false=true from hs) Cw
 | bl i=>
  cases rx;cases y with
  | non=>cases ry; exact PySem.EqNone.ne_bool_none (aN I q (by simp))
  | bl j=>cases ry; exact ne_bool (aN I q (congrArg not uA))
  | str j=>obtain⟨t',rfl⟩:=ry; exact PySem.EqMixed.ne_bool_str (aN I q (by simp))
  | _=>exact absurd (show false=true from hs) Cw
 | int i=>
  obtain⟨t,rfl⟩:=rx;cases y with
  | non=>cases ry; exact PySem.EqNone.ne_int_none (aN I q (by simp))
  | int j=>obtain⟨t',rfl⟩:=ry; exact ne_int (aN I q (congrArg not qI))
  | str j=>obtain⟨t',rfl⟩:=ry; exact PySem.EqMixed.ne_int_str (aN I q (by simp))
  | _=>exact absurd (show false=true from hs) Cw
 | str i=>
  obtain⟨t,rfl⟩:=rx;cases y with
  | non=>cases ry; exact PySem.EqNone.ne_str_none (aN I q (by simp))
  | bl j=>cases ry; exact PySem.EqMixed.ne_str_bool (aN I q (by simp))
  | int j=>obtain⟨t',rfl⟩:=ry; exact PySem.EqMixed.ne_str_int (aN I q (by simp))
  | str j=>obtain⟨t',rfl⟩:=ry; exact ne_str (aN I q (congrArg not qy))
  | _=>exact absurd (show false=true from hs) Cw
 | byt i=>
  obtain⟨t,rfl⟩:=rx;cases y with
  | byt j=>obtain⟨t',rfl⟩:=ry; exact PySem.W.ne_bytes (aN I q (congrArg not pX))
  | _=>exact absurd (show false=true from hs) Cw
 | _=>cases y <;> exact absurd (show false=true from hs) Cw
theorem zw:cP X (compareOp .Lt) (wH λi j=>.bl (decide (i < j))):=w5 λ_ _ _ _ _ _ _ q=>lt_int q
theorem zF:cP X (compareOp .Gt) (wH λi j=>.bl (decide (j < i))):=w5 λ_ _ _ _ _ _ _ q=>gt_int q
theorem y3:cP X (compareOp .GtE) (wH λi j=>.bl (decide (j<=i))):=w5 λ_ _ _ _ _ _ _ q=>ge_int q
theorem vF:cP X (compareOp .IsNot) (λx y H Q=>y=.non/\Q (.bl (!decide (x=.non))) H):=by
 intro DQ s σ H x y v u Q I rx ry h;obtain⟨rfl,q⟩:=h;cases ry;refine isnot_none_gen (aN I q ?_);cases x <;> first
  | (cases rx; rfl)
  | (obtain ⟨t,rfl⟩:=rx; rfl)
theorem aC (b:Dx) {op:CmpOp} (h:op≠.In:=by decide) (h2:op≠.NotIn:=by decide):behindInMarks op b=false:=by
 have e1:(op == CmpOp.In)=false:=by cases op <;> first | rfl | exact absurd rfl h
 have e2:(op == CmpOp.NotIn)=false:=by cases op <;> first | rfl | exact absurd rfl h2
 cases b <;> simp [behindInMarks,e1,e2]
theorem vT {op:CmpOp} {r:R2} (ho:cP X (compareOp op) r) (ha:PE X a ta) (hb:PE X b tb) (hm:behindInMarks op b=false):PE X (.Compare a [op] [b] pos) (yM r ta tb):=by
 intro DQ s σ H Q I h;exact wpAny_Compare1 (xu ha hb I h λv u s2 x y H2 I2 rx ry q=>ho DQ s2 σ H2 x y v u Q I2 rx ry q) hm
def wf (t:TE):TT:=fun σ H Q=>t σ H λx H'=>∃ k,x=.bl k/\Q k H'
theorem uY {op:CmpOp} {r:R2} (ho:cP X (compareOp op) r) (ha:PE X a ta) (hb:PE X b tb) (hm:behindInMarks op b=false):PT X (.Compare a [op] [b] pos) (wf (yM r ta tb)):=by
 intro DQ s σ H Q I h;refine wpAny_isTrue_Compare1 (bw (ha DQ s σ H _ I h) λv s1 ⟨x,H1,I1,r1,q1⟩=>bw (hb DQ s1 σ H1 _ I1 q1) λu s2 ⟨y,H2,I2,r2,q2⟩=>
  bw (ho DQ s2 σ H2 x y v u _ I2 r1 r2 q2) λc s3 ⟨z,H3,I3,r3,k,e,q3⟩=>?_) hm
 subst e;cases r3;exact wpAny_truthy_bool ⟨H3,I3,q3⟩
theorem mJ:(sizeLine:Nat) < 2 ^ 63:=by rw [sizeLine_eq]; decide
theorem oV:cP X (binaryOp .Add) (λx y H Q=>∃ i j,x=.str i/\y=.str j/\i.length+j.length<=sizeLine/\Q (.str (i++j)) H):=by
 intro DQ s σ H x y v u Q I rx ry h;obtain⟨i,j,rfl,rfl,hz,q⟩:=h;obtain⟨t,rfl⟩:=rx;obtain⟨t',rfl⟩:=ry;exact add_str (λt' tk=>⟨.str (i++j),H,I.tok _,⟨_,rfl⟩,q⟩) hz
theorem nJ {x:V} {us:List Du} (r:aF [x] us):∃ u,us=[u]/\aS x u:=by
 cases r with
 | cons r1 r2=>cases r2; exact⟨_,rfl,r1⟩
theorem wI {x y:V} {us:List Du} (r:aF [x,y] us):∃ u w',us=[u,w']/\aS x u/\aS y w':=by
 cases r with
 | cons r1 r2=>
  cases r2 with
  | cons r3 r4=>cases r4; exact⟨_,_,rfl,r1,r3⟩
theorem sQ:bS X (.builtin "abs") (λxs H Q=>∃ i,xs=[.int i]/\Q (.int (if i < 0 then -i else i)) H):=by
 intro DQ s σ H xs us Q I r h;obtain⟨i,rfl,q⟩:=h;obtain⟨u,rfl,t,rfl⟩:=nJ r;exact call_abs_int λu tk=>⟨.int (if i < 0 then -i else i),H,I.tok _,⟨_,rfl⟩,q⟩
theorem ra (hc:X.calm=true):bS X (.builtin "max") (λxs H Q=>∃ i j,xs=[.int i,.int j]/\Q (.int (if j > i then j else i)) H):=by
 intro DQ s σ H xs us Q I r h;obtain⟨i,j,rfl,q⟩:=h;obtain⟨u,w',rfl,⟨t,rfl⟩,⟨t',rfl⟩⟩:=wI r;refine max_two_ints (I.ok.hd hc) λh' tk k=>⟨_,H,I.kept k,?_,q⟩
 by_cases hj:j > i
 ·rw [if_pos hj,if_pos hj]; exact⟨_,rfl⟩
 ·rw [if_neg hj,if_neg hj]; exact⟨_,rfl⟩
theorem rF (hc:X.calm=true):bS X (.builtin "min") (λxs H Q=>∃ i j,xs=[.int i,.int j]/\Q (.int (if j < i then j else i)) H):=by
 intro DQ s σ H xs us Q I r h;obtain⟨i,j,rfl,q⟩:=h;obtain⟨u,w',rfl,⟨t,rfl⟩,⟨t',rfl⟩⟩:=wI r;refine min_two_ints (I.ok.hd hc) λh' tk k=>⟨_,H,I.kept k,?_,q⟩
 by_cases hj:j < i
 ·rw [if_pos hj,if_pos hj]; exact⟨_,rfl⟩
 ·rw [if_neg hj,if_neg hj]; exact⟨_,rfl⟩
end
structure cw (k:Nat) (A:Dz):Prop where
 hd:A.handled=none
 dp:A.depth+3*k+5 < recursionLimit
 un:A.units+16*k+200 < cLine
theorem cw.mono {j k:Nat} {A:Dz} (r:cw k A) (h:j<=k):cw j A:=⟨r.hd,by have:=r.dp; omega,by have:=r.un; omega⟩
theorem cw.deeper {k:Nat} {A:Dz} (r:cw (k+1) A) (env:Env):cw k (A.deeper env):=
 ⟨r.hd,by have:=r.dp; show A.depth+1+3*k+5 < _; omega,by have:=r.un; show A.units+3+16*k+200 < _; omega⟩
theorem cw.depth {k:Nat} {A:Dz} (r:cw k A):A.depth < recursionLimit:=by have:=r.dp; omega
theorem cw.units {k:Nat} {A:Dz} (r:cw k A):A.units+64 < cLine:=by have:=r.un; omega
def Bf:TA:=λ_ H Q=>Q [] H
def zY (ta:TE) (tr:TA):TA:=fun σ H Q=>ta σ H λx H1=>tr σ H1 λxs H2=>Q (x::xs) H2
section
variable {X:Cx} {e:Dx} {es:List Dx} {te:TE} {t:TA} {pos:Pos}
theorem fE:PA X [] Bf:=λ_ _ _ _ H Q I h=>Calls.spliced_nil ⟨[],H,I,.nil,h⟩
theorem cV (ha:PE X e te) (hr:PA X es t) (hs:starEach (e::es) X.env=(false,eval e X.env)::starEach es X.env:=by rfl):PA X (e::es) (zY te t):=by
 intro pos DQ s σ H Q I h;rw [hs]
 show wpAny _ _ (spliced ((false,eval e X.env)::backTo pos (starEach es X.env))) _ _ s
 refine Calls.spliced_cons (bw (ha DQ s σ H _ I h) λu s1 z9=>?_)
 obtain⟨x,H1,I1,r1,q1⟩:=z9;exact bw (hr pos DQ s1 σ H1 _ I1 q1) λus s2 z9=>by obtain⟨xs,H2,I2,r2,q2⟩:=z9; exact⟨x::xs,H2,I2,.cons r1 r2,q2⟩
def Bk (t:TA):TE:=fun σ H Q=>t σ H λxs H1=>xs.length<=sizeLine/\∀ p,H1 p=none->Q (.ref p) (aZ H1 p (.tup xs))
def AV (t:TA):TE:=fun σ H Q=>t σ H λxs H1=>xs.length<=sizeLine/\∀ p,H1 p=none->Q (.ref p) (aZ H1 p (.lst xs))
theorem xX {x1} (h:PA X es t):PE X (.Tuple es x1 pos) (Bk t):=by
 intro DQ s σ H Q I hq;refine wpAny_Tuple_spliced (bw (h pos DQ s σ H _ I hq) λus s1 ⟨xs,H1,I1,r,z,q⟩=>⟨by rw [<- r.length]; exact z,?_⟩)
 have hf:H1 s1.heap.objs.size=none:=I1.hok.fresh (Ct _);refine⟨.ref s1.heap.objs.size,aZ H1 s1.heap.objs.size (.tup xs),I1.laid (t':=s1.toks) (λb u e=>Co _ e) (Ct _) ?_,rfl,q _ hf⟩
 exact⟨z,us,r,⟨_,Cq _ rfl,rfl,_,rfl⟩⟩
theorem xF (h:PA X es t):PE X (.List es pos) (AV t):=by
 intro DQ s σ H Q I hq;refine wpAny_List_spliced (bw (h pos DQ s σ H _ I hq) λus s1 ⟨xs,H1,I1,r,z,q⟩=>⟨by rw [<- r.length]; exact z,?_⟩)
 have hf:H1 s1.heap.objs.size=none:=I1.hok.fresh (Ct _);refine⟨.ref s1.heap.objs.size,aZ H1 s1.heap.objs.size (.lst xs),I1.laid (t':=s1.toks) (λb u e=>Co _ e) (Ct _) ?_,rfl,q _ hf⟩
 exact⟨z,us,0,r,Cq _ rfl⟩
end
abbrev Sp:=List V->Hp->VK->XK->Prop
abbrev uM:=List Env->Hp->Dt->XK->Du->Dt->Prop
structure vX (P:Dy) (w:DC) (K:PySem.W.Frag) (mg:Str->Dw Du) (base:DD) (A:Dz) (outer:List Env) (s:Dt) (H:Hp):Prop where
 frames:A.frames=some outer
 mod:Mod K mg base
 bs:∀ b o,base.get? b=some o->s.heap.get? b=some o/\H b=none
 bsz:base.objs.size<=s.heap.objs.size
 funs:s.heap.FunFrames base outer
 frf:∀ b∈m8 outer,H b=none
 hok:jd P w H s.heap
 bare:AllBare s.gens
def CE (outer:List Env) (P:Dy) (w:DC) (H:Hp) (s:Dt) (Q:VK) (u:Du) (s':Dt):Prop:=
 ∃ v H',s'.os=s.os/\AllBare s'.gens/\Un (m8 outer) [] H H' s.heap s'.heap/\jd P w H' s'.heap/\aS v u/\Q v H'
def CR (CX:uM) (outer:List Env) (P:Dy) (w:DC) (H:Hp) (s:Dt) (Q:VK) (E:XK) (r:Result) (s':Dt):Prop:=
 match r with
 | .ok (.ret u)=>CE outer P w H s Q u s'
 | .ok _=>False
 | .error e=>CX outer H s E e s'
structure aW (P:Dy) (w:DC) (K:PySem.W.Frag) (mg:Str->Dw Du) (base:DD) (CX:uM) (k:Nat) (f:Dv) (fd:FuncData) (ps:List Str) (sp:Sp):Prop where
 len:∀ vs H Q E,sp vs H Q E->vs.length=ps.length
 run:∀ (A:Dz) (outer:List Env) (s:Dt) (H:Hp) (args:Args) (us:List Du) (vs:List V) (Q:VK) (E:XK),cw k A->vX P w K mg base A outer s H->BindsTo s fd args (ps.zip us)->aF vs us->sp vs H Q E->
  codeAny (model P w) A (.call (.ref f) args) (CR CX outer P w H s Q E) s
section
variable {X:Cx} {DQ:List (Dv×DP)} {σ:St} {H:Hp} {s s':Dt}
theorem aw.env0 (I:aw X DQ σ H s):vX X.prog X.w X.K X.mg X.base X.A X.stack s H:=
 ⟨I.ok.frames,I.ok.mod,I.bs,CZ I.ok.bsz I.sz,I.stack,I.stkFree,I.hok,I.bare⟩
theorem aw.after {Q:VK} {u:Du} (I:aw X DQ σ H s) (h:CE X.stack X.prog X.w H s Q u s'):EP X DQ σ Q u s':=by
 obtain⟨v,H',os,bare,un,hok,r,q⟩:=h;obtain⟨hh,g,d,t,os'⟩:=s';obtain rfl:os'=s.os:=os;exact⟨v,H',I.call (h':=hh) (g':=g) (d':=d) (t':=t) (ch:=[]) un hok bare (λb z=>absurd z (by simp)),r,q⟩
end
def zi (sp:Sp) (dvs:List V) (E:XK) (t:TA):TE:=fun σ H Q=>t σ H λvs H1=>sp (vs++dvs) H1 Q E
def ko (K:PySem.W.Frag) (fd:FuncData) (ps:List Str) (ds:List Du):Prop:=
 ∀ (s:Dt) (us:List Du),K.In s.heap->(us++ds).length=ps.length->BindsTo s fd ⟨us,[]⟩ (ps.zip (us++ds))
theorem ko.all {K:PySem.W.Frag} {fd:FuncData} {ps:List Str} (h:∀ us:List Du,us.length=ps.length->bindArgs fd ⟨us,[]⟩=pure (ps.zip us)):ko K fd ps []:=λs us _ hl=>by
 rw [CL] at hl ⊢;exact .of_eq (h us hl)
def o8 (CX:uM) (X:Cx) (E:XK):Prop:=∀ (DQ:List (Dv×DP)) (σ:St) (H:Hp) (s:Dt) (e:Du) (s':Dt),aw X DQ σ H s->CX X.stack H s E e s'->X.xe e s'
section
variable {X:Cx} {CX:uM} {k:Nat} {f C:Dv} {fd:FuncData} {ps:List Str} {sp:Sp} {dvs:List V} {ds:List Du} {E:XK} {x m:Str} {p pos apos:Pos} {e o:Dx} {es:List Dx} {ta:TE} {t:TA}
theorem xg {DQ:List (Dv×DP)} {σ:St} {H:Hp} {s:Dt} {Q:VK} {us:List Du} {vs:List V} (F:aW X.prog X.w X.K X.mg X.base CX k f fd ps sp) (hr:cw k X.A) (hb:ko X.K fd ps ds) (hd:aF dvs ds) (hx:o8 CX X E)
  (I:aw X DQ σ H s) (r:aF vs us) (h:sp (vs++dvs) H Q E):wpAny (model X.prog X.w) X.A (call (.ref f) us) (EP X DQ σ Q) X.xe s:=by
 have r2:aF (vs++dvs) (us++ds):=r.append hd;have hl:(us++ds).length=ps.length:=by rw [<- r2.length]; exact F.len _ _ _ _ h
 refine wpAny_call (codeAny_mono (F.run X.A X.stack s H ⟨us,[]⟩ (us++ds) (vs++dvs) Q E hr I.env0 (hb s us I.kIn hl) r2 h) λr s' hq=>?_)
 cases r with
 | error e=>exact hx DQ σ H s e s' I hq
 | ok fl=>
  cases fl with
  | ret u=>exact I.after hq
  | next=>exact False.elim hq
  | brk=>exact False.elim hq
  | cont=>exact False.elim hq
theorem vW (F:aW X.prog X.w X.K X.mg X.base CX k f fd ps sp) (hr:cw k X.A) (hg:Gl X x) (hm:X.mg x=some (.ref f)) (hk:PySem.W.keepIn X.K (.ref f)=true) (hb:ko X.K fd ps ds) (hd:aF dvs ds) (hx:o8 CX X E)
  (ha:PA X (e::es) t) (hdb:(x == ("__debug__":Str))=false:=by decide) (he:starEach (e::es) X.env=(false,eval e X.env)::starEach es X.env:=by rfl) (hpl:(backTo pos (starEach es X.env)).any (·.1)=false:=by rfl):
  PE X (.Call (.Name x p) (e::es) [] pos) (zi sp dvs E t):=by
 intro DQ s σ H Q I h;refine wpAny_Call_Name_kw (qv I hg hm ?_ hdb);refine PySem.W.callWith_K (h₀:=X.base) I.ok.mod.kin hk (bw (ha pos DQ s σ H _ I h) λus s1 ⟨vs,H1,I1,r,q⟩=>⟨I1.kIn,?_⟩) he hpl
 exact xg F hr hb hd hx I1 r q
end
structure aq (N P:List Str) (sc:Scope):Prop where
 kind:sc.kind=.function
 co:sc.isCoroutine=false
 gen:sc.isGenerator=false
 nd:N.Nodup
 pre:N.take P.length=P
 par:∀ x∈P,sc.names.lookup x=some .local\/sc.names.lookup x=some .cell
 nofree:∀ y∈sc.names,y.2≠.free
theorem dY {N P:List Str} {sc:Scope} (a:sc.kind=.function:=by rfl) (b:sc.isCoroutine=false:=by rfl) (c:sc.isGenerator=false:=by rfl) (d:N.Nodup:=by decide +kernel) (e:N.take P.length=P:=by rfl) (f:∀ x∈P,sc.names.lookup x=some .local\/sc.names.lookup x=some .cell:=by decide +kernel) (g:∀ y∈sc.names,y.2≠.free:=by decide +kernel):aq N P sc:=⟨a,b,c,d,e,f,g⟩
theorem k_ {kindOf:Str->Dw NameKind} {x:Str}:∀ {binds:List (Str×Du)} {m:Str->Dw Du},(∀ v,(x,v)∉binds)->bindL kindOf binds m x=m x
 | [],_,_=>rfl
 | (n,v)::r,m,h=>by
  unfold bindL;rw [k_ λw hw=>h w (CC _ hw)]
  split
  ·have:x≠n:=by rintro rfl; exact h v CB
   simp [this]
  ·rfl
theorem kY {kindOf:Str->Dw NameKind} {x:Str}:∀ {binds:List (Str×Du)} {m:Str->Dw Du},(∀ v,(x,v)∉binds)->bindC kindOf binds m x=m x
 | [],_,_=>rfl
 | (n,v)::r,m,h=>by
  unfold bindC;rw [kY λw hw=>h w (CC _ hw)]
  split
  ·rfl
  ·have:x≠n:=by rintro rfl; exact h v CB
   simp [this]
theorem lD {kindOf:Str->Dw NameKind} {x:Str} {v:Du}:∀ {P:List Str} {vs:List Du} {i:Nat} {m:Str->Dw Du},P.Nodup->P[i]?=some x->vs[i]?=some v->kindOf x=some .local->
  bindL kindOf (P.zip vs) m x=some v
 | [],_,_,_,_,h,_,_=>by simp at h
 | _::_,[],_,_,_,_,h,_=>by simp at h
 | p::P,w::vs,0,m,nd,h1,h2,hk=>by
  simp at h1 h2; subst h1; subst h2
  show bindL kindOf ((p,w)::P.zip vs) m p=_
  unfold bindL;rw [k_ λv hv=>(C8.mp nd).1 (List.of_mem_zip hv).1,if_pos hk]
  simp
 | p::P,w::vs,i+1,m,nd,h1,h2,hk=>by
  show bindL kindOf ((p,w)::P.zip vs) m x=_
  unfold bindL;exact lD (i:=i) (C8.mp nd).2 (by simpa using h1) (by simpa using h2) hk
theorem lH {kindOf:Str->Dw NameKind} {x:Str} {v:Du}:∀ {P:List Str} {vs:List Du} {i:Nat} {m:Str->Dw Du},P.Nodup->P[i]?=some x->vs[i]?=some v->kindOf x≠some .local->
  bindC kindOf (P.zip vs) m x=some v
 | [],_,_,_,_,h,_,_=>by simp at h
 | _::_,[],_,_,_,_,h,_=>by simp at h
 | p::P,w::vs,0,m,nd,h1,h2,hk=>by
  simp at h1 h2; subst h1; subst h2
  show bindC kindOf ((p,w)::P.zip vs) m p=_
  unfold bindC;rw [kY λv hv=>(C8.mp nd).1 (List.of_mem_zip hv).1,if_neg hk]
  simp
 | p::P,w::vs,i+1,m,nd,h1,h2,hk=>by
  show bindC kindOf ((p,w)::P.zip vs) m x=_
  unfold bindC;exact lH (i:=i) (C8.mp nd).2 (by simpa using h1) (by simpa using h2) hk
def start (N:List Str) (vs:List V):St:=vs.map some++List.replicate (N.length - vs.length) none
def nX (CX:uM) (P:Dy) (w:DC) (K:PySem.W.Frag) (mg:Str->Dw Du) (base:DD) (N:List Str) (DR:Str) (scope:Scope) (f:Dv) (cd:Du) (A:Dz) (outer:List Env) (s:Dt) (H:Hp) (E:XK):Cx where
 prog:=P
 w:=w
 K:=K
 mg:=mg
 base:=base
 A:=A.deeper (envOfC DR scope s.heap.objs.size f cd)
 N:=N
 s₀:=s
 H₀:=H
 env:=envOfC DR scope s.heap.objs.size f cd
 outer:=outer
 stack:=envOfC DR scope s.heap.objs.size f cd::outer
 ex:=[]
 calm:=true
 fn:=λ_=>true
 pn:=[]
 xe:=λe s'=>wpAny (model P w) (A.deeper (envOfC DR scope s.heap.objs.size f cd)) (leaving (envOfC DR scope s.heap.objs.size f cd) e) (λ_ s''=>CX outer H s E e s'') (λe' s''=>CX outer H s E e' s'') s'
theorem oh {sc:Scope} {n:Nat} {x:Str} (h:sc.names.lookup x=some .cell):∃ c,(cellsFrom n sc.names []).lookup x=some c:=by
 have q:=PySem.W.cellsFrom_some sc.names n [] (.inl h);exact Dp.mp q
theorem qP {CX:uM} {P:Dy} {w:DC} {K:PySem.W.Frag} {mg:Str->Dw Du} {base:DD} {N ps:List Str} {DR:Str} {scope:Scope} {f:Dv} {cd:Du} {A:Dz} {outer:List Env} {s s1:Dt} {H:Hp} {E:XK} {us:List Du} {vs:List V}
  (S:aq N ps scope) (hd:A.handled=none) (e0:vX P w K mg base A outer s H) (hl:vs.length=ps.length) (r:aF vs us)
  (x:InCallC s s.heap.objs.size (bindL (envOfC DR scope s.heap.objs.size f cd).kindOf (ps.zip us) λ_=>none) (cellsFrom (s.heap.objs.size+1) scope.names []) (bindC (envOfC DR scope s.heap.objs.size f cd).kindOf (ps.zip us) λ_=>none) s1):
  aw (nX CX P w K mg base N DR scope f cd A outer s H E) [] (start N vs) H s1:=by
 have hpl:ps.length<=N.length:=by have:=congrArg List.length S.pre; rw [List.length_take] at this; omega
 obtain⟨h1,tk,rfl,hk⟩:=x.done;have noA:∀ b:Dv,b∉(nX CX P w K mg base N DR scope f cd A outer s H E).ex:=λb z=>absurd (show b∈([]:List Dv) from z) (by simp)
 refine⟨⟨e0.mod,S.kind,rfl,rfl,Ct _,λy z c h1 h2=>?_,λy hy=>?_,λy c _ h=>?_,λ_=>hd,Around.frames_deeper e0.frames,.inr ⟨rfl,rfl⟩,λb z=>absurd z (noA b),e0.bs,e0.bsz,λb _ _=>noA b,λb z=>absurd z (noA b),e0.funs,e0.frf⟩,
  rfl,e0.bare,Un.kept hk,⟨_,x.toInCall.ns,λi y v h1 h2 h3=>?_⟩,λy c h=>⟨_,x.cell y c h⟩,e0.hok.fresh (Ct _),λy c h=>?_,λp hp=>absurd (show p∈([]:List (Dv×DP)) from hp) (by simp),e0.hok.kept hk,?_⟩
 ·exact name_of_addr x.apart (C7 h1) (C7 h2)
 ·have hy:scope.names.lookup y=some .cell\/scope.names.lookup y=some .free:=hy;rcases hy with hy | hy
  ·exact oh hy
  ·exact absurd rfl (S.nofree _ (C7 hy))
 ·exact Nat.le_of_lt (x.above y c (C7 h))
 ·have hi:i < vs.length:=by
   unfold start at h2
   by_cases hi:i < vs.length
   ·exact hi
   ·rw [List.getElem?_append_right (by simpa using hi)] at h2
    rw [List.getElem?_replicate] at h2
    split at h2 <;> cases h2
  have ha:vs[i]?=some v:=by
   unfold start at h2;rw [List.getElem?_append_left (by simpa using hi),CQ] at h2
   cases e:vs[i]? with
   | none=>rw [e] at h2; cases h2
   | some a=>rw [e] at h2; cases h2; rfl
  obtain⟨u,hu,rv⟩:=r.get ha;have hp:ps[i]?=some y:=by
   rw [<- S.pre,List.getElem?_take_of_lt (by omega)]; exact h1
  have ndP:ps.Nodup:=by rw [<- S.pre]; exact S.nd.sublist (List.take_sublist _ _)
  refine⟨u,rv,?_⟩;rcases S.par y (List.mem_of_getElem? hp) with k | k
  ·exact .inl ⟨k,lD ndP hp hu k⟩
  ·obtain⟨c,e⟩:=oh (n:=s.heap.objs.size+1) k;refine .inr ⟨.inl k,c,e,?_⟩;have q:=x.cell y c e;rw [lH ndP hp hu (by show scope.names.lookup y≠_; rw [k]; decide)] at q
   exact q
 ·exact e0.hok.fresh (Nat.le_of_lt (x.above y c (C7 h)))
 ·unfold start
  show _=N.length
  rw [CK,Cv,List.length_replicate];omega
theorem As {CX:uM} {P:Dy} {w:DC} {K:PySem.W.Frag} {mg:Str->Dw Du} {base:DD} {k:Nat} {f:Dv} {name DR:Str} {params:Arguments} {body:List DF} {scope:Scope} {dV kV doc pm cdv ct oc:Du} {an od:Dw Dv}
  {osl:DJ (Dw Du)} {N ps:List Str} {sp:Sp} (lk:K.lookup f=some ⟨oc,od,.func (PySem.W.fnOf name DR params body scope dV kV doc pm an cdv ct),osl⟩) (hcd:PySem.W.codeIn K cdv DR=true) (S:aq N ps scope)
  (len:∀ vs H Q E,sp vs H Q E->vs.length=ps.length)
  (hbody:∀ (A:Dz) (outer:List Env) (s:Dt) (H:Hp) (vs:List V) (Q:VK) (E:XK),cw k (A.deeper (envOfC DR scope s.heap.objs.size f cdv))->sp vs H Q E->
   ∃ t,lE (nX CX P w K mg base N DR scope f cdv A outer s H E) body t/\t {nx:=λ_ H'=>Q .non H',rt:=Q} (start N vs) H):
  aW P w K mg base CX (k+1) f (PySem.W.fnOf name DR params body scope dV kV doc pm an cdv ct) ps sp:=by
 refine⟨len,λA outer s H args us vs Q E hr e0 hb r hsp=>?_⟩
 have hl:=len _ _ _ _ hsp;have KX:K.In s.heap:=e0.mod.kin.keeps λb o e=>(e0.bs b o e).1
 have lim:s.heap.NoLimit:=e0.mod.nolimit.keeps λb o e=>(e0.bs b o e).1
 have hkind:∀ y∈ps.zip us,scope.names.lookup y.1=some .local\/(scope.names.lookup y.1=some .cell/\((cellsFrom (s.heap.objs.size+1) scope.names []).lookup y.1).isSome=true):=λ⟨n,v⟩ hy=>by
  rcases S.par n (List.of_mem_zip hy).1 with q | q
  ·exact .inl q
  ·exact .inr ⟨q,PySem.W.cellsFrom_some _ _ _ (.inl q)⟩
 refine codeAny_call_function hr.depth (KX _ _ lk) rfl S.co S.gen rfl (PySem.W.codeRec_of KX hcd) (hb _ _ _ _ ?_);refine wpAny_newFunctionEnv_cells S.kind hkind λenv he s1 x=>?_
 subst he;refine⟨lim.keeps x.toInCall.keep,codeAny_func ?_⟩;obtain⟨t,ht,hq⟩:=hbody A outer s H vs Q E (hr.deeper _) hsp;have I:aw (nX CX P w K mg base N DR scope f cdv A outer s H E) [] (start N vs) H s1:=qP S hr.hd e0 hl r x;refine wpAny_mono (ht [] s1 (start N vs) H _ I hq) (λfl s' hs=>?_) λe s' hs=>hs
 have fin:∀ {σ':St} {H':Hp} {v:V} {u:Du},aw (nX CX P w K mg base N DR scope f cdv A outer s H E) [] σ' H' s'->aS v u->Q v H'->CE outer P w H s Q u s':=
  λ{σ' H' v u} J rv q=>⟨v,H',J.os,J.bare,J.base,J.hok,rv,q⟩
 cases fl with
 | ret u=>
  obtain⟨v,σ',H',J,rv,q⟩:=hs;exact fin J rv q
 | next=>
  obtain⟨σ',H',J,q⟩:=hs;exact fin (v:=V.non) (u:=Value.none) J rfl q
 | brk=>
  obtain⟨_,_,_,q⟩:=hs;exact False.elim q
 | cont=>
  obtain⟨_,_,_,q⟩:=hs;exact False.elim q
section
variable {X:Cx} {x:Str} {p pos:Pos} {e:Dx} {es:List Dx} {t:TA} {id T:DN} {r:List V->Hp->VK->Prop}
def Bn (r:List V->Hp->VK->Prop) (t:TA):TE:=fun σ H Q=>t σ H λvs H1=>r vs H1 Q
theorem nQ (hc:bS X (.builtin id) r) (hg:Gl X x) (hm:X.mg x=none) (hv:bootBuiltins x=some (.builtin id)) (ha:PA X (e::es) t) (hn:x≠"__name__":=by decide) (hdb:(x == ("__debug__":Str))=false:=by decide)
  (he:starEach (e::es) X.env=(false,eval e X.env)::starEach es X.env:=by rfl) (hpl:(backTo pos (starEach es X.env)).any (·.1)=false:=by rfl):PE X (.Call (.Name x p) (e::es) [] pos) (Bn r t):=by
 intro DQ s σ H Q I h;refine wpAny_Call_Name_kw (iK I hg hm hv ?_ hn hdb);exact PyProof.Rows.callWith_builtin1 (bw (ha pos DQ s σ H _ I h) λus s1 z9=>by obtain⟨vs,H1,I1,r1,q1⟩:=z9; exact hc DQ s1 σ H1 vs us Q I1 r1 q1) he hpl
theorem lA (hc:bS X (.type T) r) (hg:Gl X x) (hm:X.mg x=none) (hv:bootBuiltins x=some (.type T)) (ha:PA X (e::es) t) (hn:x≠"__name__":=by decide) (hdb:(x == ("__debug__":Str))=false:=by decide)
  (he:starEach (e::es) X.env=(false,eval e X.env)::starEach es X.env:=by rfl) (hpl:(backTo pos (starEach es X.env)).any (·.1)=false:=by rfl):PE X (.Call (.Name x p) (e::es) [] pos) (Bn r t):=by
 intro DQ s σ H Q I h;refine wpAny_Call_Name_kw (iK I hg hm hv ?_ hn hdb);exact PyProof.Rows.callWith_type1 (bw (ha pos DQ s σ H _ I h) λus s1 z9=>by obtain⟨vs,H1,I1,r1,q1⟩:=z9; exact hc DQ s1 σ H1 vs us Q I1 r1 q1) he hpl
end
end L2
namespace HT
open PySem PyProof.Rows
section
variable {prog:Dy} {w:DC} {A:Dz} {E:Du->Dt->Prop} {s:Dt}
theorem uS {t b:Dv} {vs ws:List Du} {Q:Du->Dt->Prop} (ht:IsTup s.heap t vs.toArray) (hb:IsTup s.heap b ws.toArray) (hv:vs≠[])
  (h1:ws=[]->Q (.ref t) s) (h2:ws≠[]->Q (.ref s.heap.objs.size) {s with heap:=s.heap.push {cls:=.type "tuple",data:=.seq (vs++ws).toArray}})
  (hsz:vs.length+ws.length<=sizeLine):wpAny (model prog w) A (binaryOp .Add (.ref t) (.ref b)) Q E s:=by
 obtain⟨⟨cls,dd,data,sl⟩,ho,hc,n,hd⟩:=id ht;obtain⟨⟨cls2,dd2,data2,sl2⟩,ho2,hc2,n2,hd2⟩:=id hb;simp only at hc hd hc2 hd2
 subst hc hd hc2 hd2;have e:vs.toArray++ws.toArray=(vs++ws).toArray:=by simp
 by_cases hw:ws=[]
 ·exact concat_meets ⟨_,ho,rfl⟩ ⟨_,ho2,rfl⟩ noFill_tuple_add seq_tuple_add PySem.F.slot_tuple_add PySem.F.entry_tuple_add (PySem.F.args_tuple_add_2 _ _)
   (tuple_addW1 t b vs.toArray ws.toArray n n2 dd dd2 sl sl2 (by simpa using hv) (by simp [hw])) ⟨ho,ho2,h1 hw⟩
 ·refine concat_meets ⟨_,ho,rfl⟩ ⟨_,ho2,rfl⟩ noFill_tuple_add seq_tuple_add PySem.F.slot_tuple_add PySem.F.entry_tuple_add (PySem.F.args_tuple_add_2 _ _)
   (tuple_addW2 t b vs.toArray ws.toArray n n2 dd dd2 sl sl2 (by simpa using hv) (by simpa using hw) (by rw [Cy,Cy]; exact hsz)) ⟨ho,ho2,?_⟩
  rw [e];exact h2 hw
def bM (n d:Nat):Dw Int->Nat
 | none=>d
 | some v=>if v < 0 then(v+(n:Int)).toNat else min v.toNat n
theorem xG (n d:Nat) (hd:d<=n) (o:Dw Int):bM n d o<=n:=by
 cases o with
 | none=>exact hd
 | some v=>
  show(if v < 0 then(v+(n:Int)).toNat else min v.toNat n)<=n
  by_cases hv:v < 0
  ·rw [if_pos hv]; omega
  ·rw [if_neg hv]; exact Nat.min_le_right _ _
theorem qc (v:Int) (n d:Nat):(if v < 0 then max (v+(n:Int)) 0 else min v (n:Int))=((bM n d (some v):Nat):Int):=by
 show(if v < 0 then max (v+(n:Int)) 0 else min v (n:Int))=(((if v < 0 then(v+(n:Int)).toNat else min v.toNat n):Nat):Int)
 by_cases hv:v < 0
 ·simp only [if_pos hv]; omega
 ·simp only [if_neg hv]; omega
theorem oP (lo hi:Dw Int) (n:Nat):Builtin.Slice.sliceAdjust lo hi 1 (n:Int)=(((bM n 0 lo:Nat):Int),((bM n n hi:Nat):Int)):=by
 have h1:¬ ((1:Int) < 0):=by omega
 unfold Builtin.Slice.sliceAdjust;simp only [h1,if_false];refine Prod.ext ?_ ?_
 ·cases lo with
  | none=>rfl
  | some v=>exact qc v n 0
 ·cases hi with
  | none=>rfl
  | some v=>exact qc v n n
theorem pH (i j:Nat):Builtin.Slice.slicePlaces (i:Int) (j:Int) 1=j - i:=by
 unfold Builtin.Slice.slicePlaces;have h1:(1:Int) > 0:=by omega
 simp only [h1,if_true,Int.ediv_one]
 split <;> omega
theorem kc {v:Du} {o:Dw Int} {Q:Dw Int->Dt->Prop} (p:IsPart v o) (h:Q o s):wpAny (model prog w) A (Builtin.Slice.slicePartIndex v) Q E s:=by
 cases p with
 | none=>exact slicePart_none h
 | int i t=>exact slicePart_int h
theorem eF {sl:Dv} {vl vu:Du} {lo hi:Dw Int} {n:Nat} {Q:Int×Int×Nat->Dt->Prop} (hs:s.heap.IsSliceOf sl vl vu .none) (pl:IsPart vl lo) (pu:IsPart vu hi)
  (h:Q (((bM n 0 lo:Nat):Int),1,bM n n hi - bM n 0 lo) s):wpAny (model prog w) A (Builtin.Slice.sliceApplied (.ref sl) (pure (n:Int))) Q E s:=by
 obtain⟨os,hos,hcs,hds⟩:=id hs;unfold Builtin.Slice.sliceApplied Builtin.Slice.sliceFields;refine gt (gt (CY hos hds (x:=vl) rfl (gt (CY hos hds (x:=vu) rfl (gt (CY hos hds (x:=.none) rfl (Cp ?_)))))));refine gt (slicePart_none ?_)
 show wpAny _ _ (if ((1:Int) == 0)=true then _ else _) _ _ s
 rw [if_neg (by decide)]
 refine gt (kc pl (gt (kc pu (gt (Cp ?_)))))
 show wpAny _ _ (match Builtin.Slice.sliceAdjust lo hi 1 (n:Int) with | (lo,hi)=>pure (lo,(1:Int),Builtin.Slice.slicePlaces lo hi 1)) _ _ s
 rw [oP lo hi n]
 show wpAny _ _ (pure (((bM n 0 lo:Nat):Int),(1:Int),Builtin.Slice.slicePlaces ((bM n 0 lo:Nat):Int) ((bM n n hi:Nat):Int) 1)) _ _ s
 rw [pH];exact Cp h
theorem tq (xs:DJ Du) (i k:Nat):((List.range k).filterMap fun(m:Nat)=>xs[((i:Int)+(m:Int)*1).toNat]?).toArray=((xs.toList.drop i).take k).toArray:=by
 have e:(λ(m:Nat)=>xs[((i:Int)+(m:Int)*1).toNat]?)=λm=>xs[i+m]?:=by
  funext m
  have:((i:Int)+(m:Int)*1).toNat=i+m:=by omega
  rw [this]
 rw [e];have:=pick_run xs i k;rw [List.filterMap_map] at this;have e2:((λx=>xs[x]?) ∘ λx=>i+x)=λm=>xs[i+m]?:=rfl
 rw [e2] at this;rw [this]
theorem gN {t sl:Dv} {items:DJ Du} {vl vu:Du} {lo hi:Dw Int} {Q:Du->Dt->Prop} (ht:IsTup s.heap t items) (hs:s.heap.IsSliceOf sl vl vu .none) (pl:IsPart vl lo) (pu:IsPart vu hi)
  (hw:¬ (bM items.size 0 lo=0/\bM items.size items.size hi=items.size))
  (h:Q (.ref s.heap.objs.size) {s with heap:=s.heap.push {cls:=.type "tuple",data:=.seq ((items.toList.drop (bM items.size 0 lo)).take (bM items.size items.size hi - bM items.size 0 lo)).toArray}})
  (hsz:items.size<=sizeLine):wpAny (model prog w) A (getItem (.ref t) (.ref sl)) Q E s:=by
 have htake:sizeOk (.seq ((items.toList.drop (bM items.size 0 lo)).take (bM items.size items.size hi - bM items.size 0 lo)).toArray):=by
  show((items.toList.drop (bM items.size 0 lo)).take (bM items.size items.size hi - bM items.size 0 lo)).toArray.size<=sizeLine
  rw [Cy,List.length_take,List.length_drop,Dl];omega
 have hj:bM items.size items.size hi<=items.size:=xG _ _ (Ct _) hi;obtain⟨os,hos,hcs,hds⟩:=id hs;have hTs:s.TypeIs (.ref sl) "slice":=⟨os,hos,hcs⟩
 unfold getItem
 try with_reducible refine CN ?_
 first | refine gt (Cp ?_) | skip
 refine gt (wpAny_sequenceKey ht.typeIs (by decide) ?_)
 refine gt (Dj (name:=Str.ofString "__getitem__") ht.typeIs PyProof.Rows.slot_tuple_getitem
  (C_ PyProof.Rows.slot_tuple_getitem ht.typeIs entry_tuple_getitem ?_ (args_tuple_getitem _ _)))
 show wpAny _ _ (Builtin.Tuple.tupleItemsOf (.ref t) >>= _) _ _ s
 refine gt (tupleItemsOf_ ht ?_);refine gt (wpAny_typeOf hTs ?_);rw [if_pos (by decide)]
 refine gt (eF hs pl pu ?_);have hno:¬ ((((bM items.size 0 lo:Nat):Int) == 0 && (1:Int) == 1 && (bM items.size items.size hi - bM items.size 0 lo) == items.size)=true):=by
  intro q;rw [C0,C0] at q;have q1:((bM items.size 0 lo:Nat):Int)=0:=eq_of_beq q.1.1;have q2:bM items.size items.size hi - bM items.size 0 lo=items.size:=eq_of_beq q.2;exact hw ⟨by omega,by omega⟩
 show wpAny _ _ (if (((bM items.size 0 lo:Nat):Int) == 0 && (1:Int) == 1 && (bM items.size items.size hi - bM items.size 0 lo) == items.size)=true then _ else _) _ _ s
 rw [if_neg hno,tq]
 first
  | exact gt (m:=Builtin.Tuple.tupleExact _) (CP (Cp ⟨_,rfl,Cp h⟩) htake)
  | exact gt (m:=Builtin.Tuple.tupleExact _) (CP (gt (Cp (Cp ⟨_,rfl,Cp h⟩))) htake)
  | exact gt (gt (m:=Builtin.Tuple.tupleExact _) (CP (Cp (Cp ⟨_,rfl,Cp h⟩)) htake))
  | exact gt (gt (m:=Builtin.Tuple.tupleExact _) (CP (Cp ⟨_,rfl,Cp h⟩) htake))
end
end HT
namespace L2
open PySem PySem.Spec PyProof.Rows
abbrev TO:=St->Hp->(Dw Int->Hp->Prop)->Prop
def PO (X:Cx) (e:Dw Dx) (t:TO):Prop:=
 ∀ (DQ:List (Dv×DP)) (s:Dt) (σ:St) (H:Hp) (Q:Dw Int->Hp->Prop),aw X DQ σ H s->t σ H Q->
  wpAny (model X.prog X.w) X.A (evalPart e X.env) (λu s'=>∃ o H',aw X DQ σ H' s'/\IsPart u o/\Q o H') X.xe s
def vn:TO:=λ_ H Q=>Q none H
def zt (t:TE):TO:=fun σ H Q=>t σ H λx H1=>∃ i,x=.int i/\Q (some i) H1
section
variable {X:Cx} {e:Dx} {te:TE} {lo hi:Dw Dx} {tl th:TO} {pos p2:Pos}
theorem vx:PO X none vn:=by
 intro DQ s σ H Q I h;rw [evalPart_none];exact Cp ⟨none,H,I,.none,h⟩
theorem v5 (h:PE X e te):PO X (some e) (zt te):=by
 intro DQ s σ H Q I hw;rw [evalPart_some];refine bw (h DQ s σ H _ I hw) λu s1 z9=>?_
 obtain⟨x,H1,I1,r1,q1⟩:=z9;obtain⟨i,rfl,q⟩:=q1;obtain⟨t,rfl⟩:=r1;exact⟨some i,H1,I1,.int i t,q⟩
def uL (X:Cx) (r:V->Dw Int->Dw Int->Hp->VK->Prop):Prop:=
 ∀ (DQ:List (Dv×DP)) (s:Dt) (σ:St) (H:Hp) (x:V) (v vl vu:Du) (lo hi:Dw Int) (sl:Dv) (Q:VK),aw X DQ σ H s->aS x v->s.heap.IsSliceOf sl vl vu .none->IsPart vl lo->IsPart vu hi->r x lo hi H Q->
  ∃ T id,typeLookup (.type T) "__getitem__"=pure (some (.builtin id))/\s.TypeIs v T/\wpAny (model X.prog X.w) X.A (getItem v (.ref sl)) (EP X DQ σ Q) X.xe s
theorem uL.or {r r':V->Dw Int->Dw Int->Hp->VK->Prop} (h:uL X r) (h':uL X r'):uL X (λx lo hi H Q=>r x lo hi H Q\/r' x lo hi H Q):=by
 intro DQ s σ H x v vl vu lo hi sl Q I rx hs pl pu q;rcases q with q | q
 ·exact h DQ s σ H x v vl vu lo hi sl Q I rx hs pl pu q
 ·exact h' DQ s σ H x v vl vu lo hi sl Q I rx hs pl pu q
def Ce (r:V->Dw Int->Dw Int->Hp->VK->Prop) (te:TE) (tl th:TO):TE:=fun σ H Q=>te σ H λx H1=>tl σ H1 λl H2=>th σ H2 λu H3=>r x l u H3 Q
theorem nv {r:V->Dw Int->Dw Int->Hp->VK->Prop} (hr:uL X r) (he:PE X e te) (hl:PO X lo tl) (hu:PO X hi th):PE X (.Subscript e (.Slice lo hi none p2) pos) (Ce r te tl th):=by
 intro DQ s σ H Q I h;refine Subscript_ (bw (he DQ s σ H _ I h) λv s1 z9=>?_)
 obtain⟨x,H1,I1,r1,q1⟩:=z9;refine wpAny_Slice (bw (hl DQ s1 σ H1 _ I1 q1) λvl s2 ⟨l,H2,I2,pl,q2⟩=>bw (hu DQ s2 σ H2 _ I2 q2) λvu s3 z9=>?_)
 obtain⟨u,H3,I3,pu,q3⟩:=z9;rw [evalPart_none];refine Cp ?_;have I4:aw X DQ σ H3 {s3 with heap:=s3.heap.push {cls:=.type "slice",data:=.fields #[vl,vu,.none]}}:=I3.kept (t':=s3.toks) λb ob q=>Co _ q
 obtain⟨T,id,hT,ht,hg⟩:=hr DQ {s3 with heap:=s3.heap.push {cls:=.type "slice",data:=.fields #[vl,vu,.none]}} σ H3 x v vl vu l u s3.heap.objs.size Q I4 r1 (Heap.IsSliceOf.new ..) pl pu q3
 show wpAny (model X.prog X.w) X.A (subscriptTail e (.Slice lo hi none p2) v (.ref s3.heap.objs.size)) (EP X DQ σ Q) X.xe {s3 with heap:=s3.heap.push {cls:=.type "slice",data:=.fields #[vl,vu,.none]}}
 exact tail_any (ops:=[.ref s3.heap.objs.size,v]) ht hT hg (by with_unfolding_all rfl)
def jb (xs:List V) (lo hi:Dw Int):List V:=(xs.drop (HT.bM xs.length 0 lo)).take (HT.bM xs.length xs.length hi - HT.bM xs.length 0 lo)
theorem i4 (xs:List V) (lo hi:Dw Int):(jb xs lo hi).length<=xs.length:=by
 unfold jb;rw [List.length_take,List.length_drop];omega
def AN (K:PySem.W.Frag):V->Dw Int->Dw Int->Hp->VK->Prop:=λx lo hi H Q=>∃ a xs,x=.ref a/\e_ K H a xs/\
 ¬ (HT.bM xs.length 0 lo=0/\HT.bM xs.length xs.length hi=xs.length)/\∀ p,H p=none->Q (.ref p) (aZ H p (.tup (jb xs lo hi)))
theorem sZ:uL X (AN X.K):=by
 intro DQ s σ H x v vl vu lo hi sl Q I rx hs pl pu h;obtain⟨a,xs,rfl,hx,hw,q⟩:=h;cases rx;obtain⟨its,r,ht,hz⟩:=I.tuple hx;have hlen:its.toArray.size=xs.length:=by rw [Cy]; exact r.length.symm
 refine⟨"tuple",_,PyProof.Rows.slot_tuple_getitem.lookup,ht.typeIs,?_⟩
 refine HT.gN ht hs pl pu (by rw [hlen]; exact hw) ?_ (by rw [hlen]; exact hz)
 rw [hlen];refine⟨.ref s.heap.objs.size,_,I.laid (t':=s.toks) (o:=.tup (jb xs lo hi)) (λb ob q=>Co _ q) (Ct _) ?_,rfl,q _ (I.hok.fresh (Ct _))⟩
 exact⟨CZ (i4 xs lo hi) hz,_,(r.drop (HT.bM xs.length 0 lo)).take (HT.bM xs.length xs.length hi - HT.bM xs.length 0 lo),IsTup.new _ _⟩
def yZ (K:PySem.W.Frag):R2:=λx y H Q=>∃ a b xs ys,x=.ref a/\y=.ref b/\e_ K H a xs/\e_ K H b ys/\xs≠[]/\xs.length+ys.length<=sizeLine/\
 (ys=[]->Q (.ref a) H)/\(ys≠[]->∀ p,H p=none->Q (.ref p) (aZ H p (.tup (xs++ys))))
theorem aF.nil_iff {xs:List V} {us:List Du} (r:aF xs us):us=[]↔xs=[]:=by
 cases r with
 | nil=>simp
 | cons _ _=>simp
theorem qD:cP X (binaryOp .Add) (yZ X.K):=by
 intro DQ s σ H x y v u Q I rx ry h;obtain⟨a,b,xs,ys,rfl,rfl,ha,hb,hx,hz,q1,q2⟩:=h;cases rx;cases ry;obtain⟨its,r1,p1,_⟩:=I.tuple ha;obtain⟨its2,r2,p2,_⟩:=I.tuple hb;refine HT.uS p1 p2 (λz=>hx (r1.nil_iff.mp z)) (λz=>⟨.ref a,H,I,rfl,q1 (r2.nil_iff.mp z)⟩) (λz=>?_) (by rw [<- r1.length,<- r2.length]; exact hz)
 refine⟨.ref s.heap.objs.size,_,I.laid (t':=s.toks) (o:=.tup (xs++ys)) (λb ob q=>Co _ q) (Ct _) ?_,rfl,q2 (λw=>z (r2.nil_iff.mpr w)) _ (I.hok.fresh (Ct _))⟩
 exact⟨by rw [CK]; exact hz,_,r1.append r2,IsTup.new _ _⟩
end
def o0 (n:Nat) (i:Int):Dw Nat:=if 0<=i then(if i < n then some i.toNat else none) else if -(n:Int)<=i then some (i+n).toNat else none
def atI {α:Type} (xs:List α) (i:Int):Dw α:=(o0 xs.length i).bind λj=>xs[j]?
theorem qb {n:Nat} {i:Int} {j:Nat} (h:o0 n i=some j):seqIndex? i n=some j/\j < n/\-(n:Int)<=i/\i < n:=by
 unfold o0 at h
 by_cases h0:0<=i
 ·rw [if_pos h0] at h
  by_cases h1:i < n
  ·rw [if_pos h1] at h;have e:i.toNat=j:=CS h;exact⟨by rw [seqIndex_of h0 h1,e],by omega,by omega,h1⟩
  ·rw [if_neg h1] at h; cases h
 ·rw [if_neg h0] at h
  by_cases h1:-(n:Int)<=i
  ·rw [if_pos h1] at h;have e:(i+n).toNat=j:=CS h;exact⟨by rw [seqIndex_neg (by omega) h1,e],by omega,h1,by omega⟩
  ·rw [if_neg h1] at h; cases h
theorem qg {α:Type} {xs:List α} {i:Int} {v:α} (h:atI xs i=some v):∃ j,seqIndex? i xs.length=some j/\xs[j]?=some v/\j < xs.length/\-(xs.length:Int)<=i/\i < xs.length:=by
 unfold atI at h;cases e:o0 xs.length i with
 | none=>rw [e] at h; cases h
 | some j=>
  rw [e] at h;obtain⟨h1,h2,h3,h4⟩:=qb e;exact⟨j,h1,h,h2,h3,h4⟩
theorem cZ {α:Type} {xs:List α} {j:Nat} {v:α} (h:xs[j]?=some v):atI xs (j:Int)=some v:=by
 have hj:j < xs.length:=(CW.mp h).1;have e:o0 xs.length (j:Int)=some j:=by
  unfold o0;rw [if_pos (by omega),if_pos (by omega)]; simp
 unfold atI; rw [e]; exact h
def pV (b:Dx):Prop:=∀ o i,subscripted b false o i=operate [o,i] (getItem o i)
def rO (X:Cx) (r:R2):Prop:=
 ∀ (value slice:Dx) (DQ:List (Dv×DP)) (s:Dt) (σ:St) (H:Hp) (x y:V) (v u:Du) (Q:VK),aw X DQ σ H s->aS x v->aS y u->r x y H Q->
  subscripted slice false v u=operate [v,u] (getItem v u)->wpAny (model X.prog X.w) X.A (subscriptTail value slice v u) (EP X DQ σ Q) X.xe s
def B9 (X:Cx) (id:DN) (r:V->List V->Hp->VK->Prop):Prop:=
 ∀ (DQ:List (Dv×DP)) (s:Dt) (σ:St) (H:Hp) (x:V) (xs:List V) (v:Du) (us:List Du) (Q:VK),aw X DQ σ H s->aS x v->aF xs us->r x xs H Q->
  wpAny (model X.prog X.w) X.A (call (.builtin id) (v::us)) (EP X DQ σ Q) X.xe s
section
variable {X:Cx} {a b:Dx} {ta tb:TE} {pos:Pos}
theorem ze {r:R2} (hr:rO X r) (ha:PE X a ta) (hb:PE X b tb) (hs:pV b):PE X (.Subscript a b pos) (yM r ta tb):=by
 intro DQ s σ H Q I h;exact Subscript_ (xu ha hb I h λv u s2 x y H2 I2 rx ry q=>hr a b DQ s2 σ H2 x y v u Q I2 rx ry q (hs _ _))
def A2 (K:PySem.W.Frag):R2:=λx y H Q=>∃ p xs i v,x=.ref p/\y=.int i/\dO K H p xs/\atI xs i=some v/\Q v H
def Bu (K:PySem.W.Frag):R2:=λx y H Q=>∃ p xs i v,x=.ref p/\y=.int i/\e_ K H p xs/\atI xs i=some v/\Q v H
theorem qA:rO X (A2 X.K):=by
 intro value slice DQ s σ H x y v u Q I rx ry h hs;obtain⟨p,xs,i,z,rfl,rfl,hq,he,q⟩:=h;cases rx;obtain⟨t,rfl⟩:=ry;obtain⟨its,r,pl,hz⟩:=I.list hq;obtain⟨j,h1,h2,h3,h4,h5⟩:=qg he;obtain⟨w,ew,rw'⟩:=r.get h2;have hl:=r.length;have hn:=mJ;have fin:EP X DQ σ Q w s:=⟨z,H,I,rw',q⟩
 by_cases h0:0<=i
 ·have hj:i.toNat=j:=by
   rw [seqIndex_of h0 h5] at h1;exact CS h1
  exact item_listR pl.isList h0 (by omega) (by rw [hj]; simpa using ew) fin hs
 ·have hj:(i+(its.toArray.size:Int)).toNat=j:=by
   rw [seqIndex_neg (by omega) h4] at h1
   rw [Cy,<- hl];exact CS h1
  exact subscriptTail_builtinR (x:=w) pl.isList.typeIs slot_list_getitem.lookup
   (wpAny_getItem_list_neg (Q:=λr s'=>r=w/\EP X DQ σ Q r s') pl.isList (by omega) (by rw [Cy] <;> omega) (by omega) (by rw [hj]; simpa using ew) ⟨rfl,fin⟩) hs
theorem xW:rO X (Bu X.K):=by
 intro value slice DQ s σ H x y v u Q I rx ry h hs;obtain⟨p,xs,i,z,rfl,rfl,hq,he,q⟩:=h;cases rx;obtain⟨t,rfl⟩:=ry;obtain⟨its,r,pl,hz⟩:=I.tuple hq;obtain⟨j,h1,h2,h3,h4,h5⟩:=qg he;obtain⟨w,ew,rw'⟩:=r.get h2;have hl:=r.length;have hn:=mJ;have fin:EP X DQ σ Q w s:=⟨z,H,I,rw',q⟩;exact subscriptTail_builtinR (x:=w) pl.typeIs slot_tuple_getitem.lookup
  (getItem_tuple (j:=j) (Q:=λr s'=>r=w/\EP X DQ σ Q r s') pl (by omega) (by omega) (by rw [Cy,<- hl]; exact h1) (by simpa using ew) ⟨rfl,fin⟩) hs
theorem ox (its:List Du) (n j:Nat) (u:Du):Obj.mapSeq (·.setIfInBounds j u) {cls:=.type "list",data:=.seq its.toArray n}={cls:=.type "list",data:=.seq (its.set j u).toArray n}:=by
 simp [Obj.mapSeq]
theorem aw.lst {DQ:List (Dv×DP)} {σ:St} {H:Hp} {s:Dt} {p:Dv} {xs:List V} (I:aw X DQ σ H s) (h:H p=some (.lst xs)):
  ∃ (its:List Du) (n:Nat),aF xs its/\s.heap.get? p=some {cls:=.type "list",data:=.seq its.toArray n}/\xs.length<=sizeLine:=by
 obtain⟨z,its,n,r,e⟩:=I.hok p _ h;exact⟨its,n,r,e,z⟩
theorem aw.lstUpd {DQ:List (Dv×DP)} {σ:St} {H:Hp} {s:Dt} {p:Dv} {xs ys:List V} {its its':List Du} {n n':Nat} {f:DP->DP} (I:aw X DQ σ H s) (h:H p=some (.lst xs))
  (ho:s.heap.get? p=some {cls:=.type "list",data:=.seq its.toArray n}) (hf:f {cls:=.type "list",data:=.seq its.toArray n}={cls:=.type "list",data:=.seq its'.toArray n'}) (r:aF ys its') (hz:ys.length<=sizeLine) (t:Nat):
  aw X DQ σ (aZ H p (.lst ys)) {s with heap:=s.heap.update p f,toks:=t}:=by
 have e:(s.heap.update p f).get? p=some {cls:=.type "list",data:=.seq its'.toArray n'}:=by
  rw [Heap.get?_update_self f ho (by rw [hf] <;> rfl),hf]
 refine I.write (x:=p) (e:=p) (by rw [h]; trivial) (.inl rfl) (λb u hb q=>(Heap.get?_update_other _ _ (Ne.symm hb)).trans q) ⟨_,e⟩ ?_
 exact⟨hz,its',n',r,e⟩
def zf:V->V->V->Hp->(Hp->Prop)->Prop:=λo i v H Q=>∃ p xs k j,o=.ref p/\i=.int k/\H p=some (.lst xs)/\o0 xs.length k=some j/\Q (aZ H p (.lst (xs.set j v)))
theorem sO:zk X zf:=by
 intro DQ s σ H o i v ov iv u Q I ro ri rv h;obtain⟨p,xs,k,j,rfl,rfl,hp,hj,q⟩:=h;cases ro;obtain⟨t,rfl⟩:=ri;obtain⟨its,n,r,ho,hz⟩:=I.lst hp;obtain⟨h1,h2,h3,h4⟩:=qb hj;have hl:=r.length;have hn:=mJ;have I':aw X DQ σ (aZ H p (.lst (xs.set j v))) {s with heap:=s.heap.update p (Obj.mapSeq (·.setIfInBounds j u))}:=
  I.lstUpd hp ho (ox its n j u) (r.set rv j) (by rw [List.length_set]; exact hz) s.toks
 by_cases h0:0<=k
 ·have hk:k.toNat=j:=by
   rw [seqIndex_of h0 h4] at h1;exact CS h1
  exact PySem.W.ki_setAt ho h0 (by omega) (by rw [Cy,<- hl]; exact h4) (by rw [hk]; exact⟨_,I',q⟩)
 ·have hk:(k+(its.toArray.size:Int)).toNat=j:=by
   rw [seqIndex_neg (by omega) h3] at h1
   rw [Cy,<- hl];exact CS h1
  exact PySem.W.ki_setBack ho (by omega) (by rw [Cy,<- hl]; exact h3) (by omega) (by rw [hk]; exact⟨_,I',q⟩)
theorem mM (lo hi:Dw Int) (n:Nat):(sliceBounds lo hi none n).1=((HT.bM n 0 lo:Nat):Int)/\(sliceBounds lo hi none n).2.1=((HT.bM n n hi:Nat):Int)/\(sliceBounds lo hi none n).2.2=1:=by
 refine⟨?_,?_,rfl⟩
 ·cases lo with
  | none=>simp [sliceBounds,HT.bM]
  | some i=>
   simp only [sliceBounds,HT.bM,Option.getD_none,show(1:Int) > 0 by decide,if_true]
   by_cases h:i < 0
   ·simp only [h,if_true] <;> omega
   ·simp only [h,if_false] <;> omega
 ·cases hi with
  | none=>simp [sliceBounds,HT.bM]
  | some i=>
   simp only [sliceBounds,HT.bM,Option.getD_none,show(1:Int) > 0 by decide,if_true]
   by_cases h:i < 0
   ·simp only [h,if_true] <;> omega
   ·simp only [h,if_false] <;> omega
theorem kG (its:List Du) (lo hi:Dw Int):slicePick its.toArray lo hi none=((its.drop (HT.bM its.length 0 lo)).take (HT.bM its.length its.length hi - HT.bM its.length 0 lo)).toArray:=by
 obtain⟨h1,h2,h3⟩:=mM lo hi its.toArray.size;unfold slicePick;rw [h1,h2,h3];simp only [sliceRange_one,pick_run,Cy] <;> rfl
def Bg (K:PySem.W.Frag):V->Dw Int->Dw Int->Hp->VK->Prop:=λx lo hi H Q=>∃ a xs,x=.ref a/\dO K H a xs/\∀ p,H p=none->Q (.ref p) (aZ H p (.lst (jb xs lo hi)))
theorem vz:uL X (Bg X.K):=by
 intro DQ s σ H x v vl vu lo hi sl Q I rx hs pl pu h;obtain⟨a,xs,rfl,hx,q⟩:=h;cases rx;obtain⟨its,r,ht,hz⟩:=I.list hx;have hlen:=r.length;refine⟨"list",_,slot_list_getitem.lookup,ht.isList.typeIs,?_⟩
 refine wpAny_getItem_list_slice ht.isList hs pl pu .none (by simp) ?_ (by rw [Cy] <;> omega)
 rw [kG,<- hlen];refine⟨.ref s.heap.objs.size,_,I.laid (t':=s.toks) (o:=.lst (jb xs lo hi)) (λb ob q=>Co _ q) (Ct _) ?_,rfl,q _ (I.hok.fresh (Ct _))⟩
 exact⟨CZ (i4 xs lo hi) hz,_,0,(r.drop (HT.bM xs.length 0 lo)).take (HT.bM xs.length xs.length hi - HT.bM xs.length 0 lo),Cq _ rfl⟩
def gx:V->DM
 | .non=>true
 | .bl _=>true
 | .int _=>true
 | .str _=>true
 | _=>false
def tt:V->V->DM
 | .non,.non=>true
 | .bl a,.bl b=>a == b
 | .bl a,.int b=>(if a then 1 else 0) == b
 | .int a,.bl b=>a == (if b then 1 else 0)
 | .int a,.int b=>a == b
 | .str a,.str b=>a == b
 | _,_=>false
theorem xf {A:Dz} {s:Dt} {y x:V} {u v:Du} (ry:aS y u) (rx:aS x v) (fy:gx y=true) (fx:gx x=true):SeqAt.EqAt A s u v (tt y x):=by
 cases y with
 | non=>
  cases ry;cases x with
  | non=>cases rx; exact SeqAt.EqAt.same _
  | bl b=>cases rx; exact SeqAt.EqAt.none_bool b
  | int b=>obtain⟨t,rfl⟩:=rx; exact SeqAt.EqAt.none_int b t
  | str b=>obtain⟨t,rfl⟩:=rx; exact SeqAt.EqAt.none_str b t
  | _=>exact absurd (show false=true from fx) Cw
 | bl a=>
  cases ry;cases x with
  | non=>cases rx; exact SeqAt.EqAt.bool_none a
  | bl b=>cases rx; exact SeqAt.EqAt.bool_bool a b
  | int b=>obtain⟨t,rfl⟩:=rx; exact SeqAt.EqAt.bool_int a b t
  | str b=>obtain⟨t,rfl⟩:=rx; exact SeqAt.EqAt.bool_str a b t
  | _=>exact absurd (show false=true from fx) Cw
 | int a=>
  obtain⟨t',rfl⟩:=ry;cases x with
  | non=>cases rx; exact SeqAt.EqAt.int_none a t'
  | bl b=>cases rx; exact SeqAt.EqAt.int_bool a t' b
  | int b=>obtain⟨t,rfl⟩:=rx; exact SeqAt.EqAt.int_int a t' b t
  | str b=>obtain⟨t,rfl⟩:=rx; exact SeqAt.EqAt.int_str a t' b t
  | _=>exact absurd (show false=true from fx) Cw
 | str a=>
  obtain⟨t',rfl⟩:=ry;cases x with
  | non=>cases rx; exact SeqAt.EqAt.str_none a t'
  | bl b=>cases rx; exact SeqAt.EqAt.str_bool a t' b
  | int b=>obtain⟨t,rfl⟩:=rx; exact SeqAt.EqAt.str_int a t' b t
  | str b=>obtain⟨t,rfl⟩:=rx; exact SeqAt.EqAt.str_str a t' b t
  | _=>exact absurd (show false=true from fx) Cw
 | _=>exact absurd (show false=true from fy) Cw
def vo (x:V) (u:Du):DM:=match u with
 | .none=>tt .non x
 | .bool b=>tt (.bl b) x
 | .int i _=>tt (.int i) x
 | .str z _=>tt (.str z) x
 | _=>false
theorem sL {x y:V} {u:Du} (r:aS y u) (f:gx y=true):vo x u=tt y x:=by
 cases y with
 | non=>cases r; rfl
 | bl b=>cases r; rfl
 | int i=>obtain⟨t,rfl⟩:=r; rfl
 | str z=>obtain⟨t,rfl⟩:=r; rfl
 | _=>exact absurd (show false=true from f) Cw
theorem lV {x:V}:∀ {xs:List V} {us:List Du},aF xs us->xs.all gx=true->us.any (vo x)=xs.any λy=>tt y x
 | _,_,.nil,_=>rfl
 | y::xs,u::us,.cons r t,f=>by
  rw [List.all_cons,C0] at f;rw [List.any_cons,List.any_cons,sL r f.1,lV t f.2]
theorem jF {A:Dz} {s:Dt} {x:V} {v:Du} (rx:aS x v) (fx:gx x=true):∀ {xs:List V} {us:List Du},aF xs us->xs.all gx=true->∀ u∈us,SeqAt.EqAt A s u v (vo x u)
 | _,_,.nil,_=>λu hu=>by cases hu
 | y::xs,u::us,.cons r t,f=>λu' hu=>by
  rw [List.all_cons,C0] at f;rcases Cz.mp hu with rfl | hu
  ·rw [sL r f.1]; exact xf r rx f.1 fx
  ·exact jF rx fx t f.2 u' hu
def oo (x:V) (xs:List V):DM:=xs.any λy=>tt y x
def BM (K:PySem.W.Frag) (neg:DM):R2:=λx y H Q=>∃ p xs,y=.ref p/\(dO K H p xs\/e_ K H p xs)/\gx x=true/\xs.all gx=true/\Q (.bl (if neg then !oo x xs else oo x xs)) H
theorem l_:cP X (compareOp .NotIn) (BM X.K true):=by
 intro DQ s σ H x y v u Q I rx ry h;obtain⟨p,xs,rfl,hq,fx,fs,q⟩:=h;cases ry;rcases hq with hq | hq
 ·obtain⟨its,r,pl,hz⟩:=I.list hq;refine SeqAt.notIn_listAt (vo x) pl.isList (λw hw=>jF rx fx r fs w (by simpa using hw)) ⟨.bl _,H,I,rfl,?_⟩
  rw [show its.toArray.any (vo x)=its.any (vo x) by simp,lV r fs]
  exact q
 ·obtain⟨its,r,pl,hz⟩:=I.tuple hq;refine SeqAt.notIn_tupleAt (vo x) pl (λw hw=>jF rx fx r fs w (by simpa using hw)) ⟨.bl _,H,I,rfl,?_⟩
  rw [show its.toArray.any (vo x)=its.any (vo x) by simp,lV r fs]
  exact q
theorem fb:bS X (.builtin "len") (λxs H Q=>∃ p ys,xs=[.ref p]/\(dO X.K H p ys\/e_ X.K H p ys)/\Q (.int ys.length) H):=by
 intro DQ s σ H xs us Q I r h;obtain⟨p,ys,rfl,hq,q⟩:=h;obtain⟨u,rfl,rx⟩:=nJ r;cases rx;have hn:=mJ;rcases hq with hq | hq
 ·obtain⟨its,r',pl,hz⟩:=I.list hq;have hlen:=r'.length;exact Calls.call_len_list pl.isList (by simp only [Cy] <;> omega) ⟨.int ys.length,H,I.tok _,⟨s.toks+1,by rw [Cy,hlen]⟩,q⟩
 ·obtain⟨its,r',pl,hz⟩:=I.tuple hq;have hlen:=r'.length;exact len_tuple pl (by simp only [Cy] <;> omega) ⟨.int ys.length,H,I.tok _,⟨s.toks+1,by rw [Cy,hlen]⟩,q⟩
theorem gn:bS X (.type "tuple") (λxs H Q=>∃ p ys,xs=[.ref p]/\((dO X.K H p ys/\∀ l,H l=none->Q (.ref l) (aZ H l (.tup ys)))\/(e_ X.K H p ys/\Q (.ref p) H))):=by
 intro DQ s σ H xs us Q I r h;obtain⟨p,ys,rfl,h⟩:=h;obtain⟨u,rfl,rx⟩:=nJ r;cases rx;rcases h with ⟨hq,q⟩ | ⟨hq,q⟩
 ·obtain⟨its,r',pl,hz⟩:=I.list hq;have hlen:=r'.length;refine call_tuple_list pl.isList (λh' kp=>?_) (by simp only [Cy] <;> omega)
  have I1:aw X DQ σ H {s with heap:=h'}:=I.kept (t':=s.toks) kp
  have I2:aw X DQ σ (aZ H h'.objs.size (.tup ys)) {s with heap:=h'.push {cls:=.type "tuple",data:=.seq its.toArray}}:=
   I1.laid (t':=s.toks) (λb o e=>Co _ e) (Ct _) (show cU X.prog X.w _ _ _ (.tup ys) from⟨hz,its,r',IsTup.new _ _⟩)
  exact⟨.ref h'.objs.size,_,I2,rfl,q _ (I1.hok.fresh (Ct _))⟩
 ·obtain⟨its,r',pl,hz⟩:=I.tuple hq;exact call_tuple_same pl ⟨.ref p,H,I,rfl,q⟩
def BL (K:PySem.W.Frag) (T:DN) (x:V) (H:Hp):Prop:=match x with
 | .str _=>T="str"
 | .int _=>T="int"
 | .ref p=>(T="list"/\∃ xs,dO K H p xs)\/(T="tuple"/\∃ o,K.lookup p=some o/\o.cls=.type "tuple"/\o.dict=none)\/
   (T="dict"/\((∃ kvs,H p=some (.dK kvs))\/∃ kvs,H p=some (.dT kvs)))\/(T="set"/\∃ S n,H p=some (.set S n))
 | _=>False
theorem xx {DQ:List (Dv×DP)} {σ:St} {H:Hp} {s:Dt} {T:DN} {x:V} {v:Du} (I:aw X DQ σ H s) (r:aS x v) (ty:BL X.K T x H):
  s.TypeIs v T/\∀ a,v=.ref a->∃ ob,s.heap.get? a=some ob/\ob.dict=none:=by
 cases x with
 | str z=>
  obtain⟨t,rfl⟩:=r;cases (show T="str" from ty)
  exact⟨typeIs_str s z t,λ_ e=>nomatch e⟩
 | int i=>
  obtain⟨t,rfl⟩:=r;cases (show T="int" from ty)
  exact⟨typeIs_int s i t,λ_ e=>nomatch e⟩
 | ref p=>
  cases r;rcases ty with ⟨rfl,xs,hq⟩ | ⟨rfl,o,hk,hc,hd⟩ | ⟨rfl,hk⟩ | ⟨rfl,S,n,hk⟩
  ·obtain⟨its,_,pl,_⟩:=I.list hq;refine⟨pl.isList.typeIs,λa e=>?_⟩
   cases e;obtain⟨o,n,e,c,hd,_⟩:=pl;exact⟨o,e,hd⟩
  ·refine⟨⟨o,I.kIn p o hk,hc⟩,λa e=>?_⟩
   cases e;exact⟨o,I.kIn _ o hk,hd⟩
  ·have z:∃ o,s.heap.get? p=some o/\o.ExactDict:=by
    rcases hk with ⟨kvs,hk⟩ | ⟨kvs,hk⟩
    ·obtain⟨_,_,_,_,o,_,_,e,ex,_⟩:=I.hok p _ hk;exact⟨o,e,ex⟩
    ·obtain⟨_,_,_,_,o,_,_,e,ex,_⟩:=I.hok p _ hk;exact⟨o,e,ex⟩
   obtain⟨o,e,ex⟩:=z;refine⟨⟨o,e,ex.1⟩,λa e2=>?_⟩
   cases e2;exact⟨o,e,ex.2.1⟩
  ·obtain⟨o,_,_,_,e,ex,_⟩:=I.hok p _ hk;refine⟨⟨o,e,ex.1⟩,λa e2=>?_⟩
   cases e2;exact⟨o,e,ex.2.1⟩
 | _=>exact False.elim ty
def Ci (K:PySem.W.Frag) (T:DN) (r:V->List V->Hp->VK->Prop) (to:TE) (t:TA):TE:=fun σ H Q=>to σ H λx H1=>BL K T x H1/\t σ H1 λxs H2=>r x xs H2 Q
variable {o e:Dx} {es:List Dx} {to:TE} {t:TA} {name:Str} {apos cpos:Pos} {T id:DN} {r:V->List V->Hp->VK->Prop}
theorem nP (pa:PlainAttrs T) (slot:Slot T name id) (hty:typeOf (.builtin id)=pure (.type "method_descriptor")) (hm:B9 X id r) (ho:PE X o to) (ha:PA X (e::es) t)
  (hbase:attributeBase o name X.env (eval o X.env)=eval o X.env:=by rfl)
  (hfew:((backTo cpos (starEach (e::es) X.env)).all (λx=>!x.1) && (backToKw cpos (keywordEach [] X.env)).all (λx=>x.1.isSome)
   && decide ((e::es).length+([]:List Keyword).length+(if ([]:List Keyword).isEmpty then 0 else 1) < 30))=true:=by rfl)
  (hline:(apos.endLine == cpos.line)=true:=by rfl) (hs:starEach (e::es) X.env=(false,eval e X.env)::starEach es X.env:=by rfl) (hplain:(backTo cpos (starEach es X.env)).any (·.1)=false:=by rfl):
  PE X (.Call (.Attribute o name apos) (e::es) [] cpos) (Ci X.K T r to t):=by
 intro DQ s σ H Q I h;refine wpAny_Call_method_late hbase hfew hline rfl (bw (ho DQ s σ H _ I h) λv s1 z9=>?_)
 obtain⟨x,H1,I1,r1,ty,q1⟩:=z9;obtain⟨h1,h2⟩:=xx I1 r1 ty;refine⟨T,id,pa,slot,hty,h1,h2,?_⟩;have hA:=ha cpos DQ s1 σ H1 _ I1 q1;rw [hs] at hA ⊢;refine Calls.callWith_builtin (by show(false || (backTo cpos (starEach es X.env)).any (·.1))=false; rw [hplain] <;> rfl) (Calls.evalArgs_plain ?_)
 exact bw hA λus s2 z9=>by obtain⟨vs,H2,I2,r2,q2⟩:=z9; exact hm DQ s2 σ H2 x vs v us Q I2 r1 r2 q2
end
def uP (X:Cx) (id:DN) (r:V->List V->Hp->VK->Prop):Prop:=
 ∀ (DQ:List (Dv×DP)) (s:Dt) (σ:St) (H:Hp) (x:V) (xs:List V) (v:Du) (us:List Du) (Q:VK),aw X DQ σ H s->aS x v->aF xs us->r x xs H Q->
  wpAny (model X.prog X.w) X.A (call (.builtin id) (v::us)) (EP X DQ σ Q) X.xe s
theorem aF.one:∀ {x:V} {us:List Du},aF [x] us->∃ u,us=[u]/\aS x u
 | _,_,.cons r .nil=>⟨_,rfl,r⟩
theorem aF.eraseIdx:∀ {xs:List V} {us:List Du} (i:Nat),aF xs us->aF (xs.eraseIdx i) (us.eraseIdx i)
 | _,_,_,.nil=>.nil
 | _,_,0,.cons _ t=>t
 | _,_,i+1,.cons r t=>.cons r (aF.eraseIdx i t)
theorem aF.rep {xs:List V} {us:List Du} (h:aF xs us):∀ k:Nat,aF (List.replicate k xs).flatten (List.replicate k us).flatten
 | 0=>.nil
 | k+1=>by
  rw [List.replicate_succ,List.replicate_succ,List.flatten_cons,List.flatten_cons];exact aF.append h (aF.rep h k)
theorem lC {α:Type}:∀ (l:List α) (i:Nat),(l.eraseIdx i).length<=l.length
 | [],_=>Ct _
 | _::_,0=>Nat.le_succ _
 | _::r,i+1=>Nat.succ_le_succ (lC r i)
theorem kK (its:List Du):∀ (k:Nat) (acc:List Du),
  List.foldl (λx1 x2=>x1++x2) acc.toArray (List.replicate k its.toArray)=(acc++(List.replicate k its).flatten).toArray
 | 0,acc=>by simp
 | k+1,acc=>by
  have e:acc.toArray++its.toArray=(acc++its).toArray:=by simp
  have e2:(acc++its)++(List.replicate k its).flatten=acc++(List.replicate (k+1) its).flatten:=by
   rw [List.replicate_succ,List.flatten_cons,List.append_assoc]
  rw [<- e2,<- kK its k (acc++its),<- e,List.replicate_succ,List.foldl_cons]
section
variable {X:Cx} {DQ:List (Dv×DP)} {σ:St} {H:Hp} {s:Dt} {l b:Dv} {xs ys zs:List V}
theorem aw.lset {its its':List Du} {n:Nat} {f:DJ Du->DJ Du} {t':Nat} (I:aw X DQ σ H s) (hH:H l=some (.lst xs))
  (e:s.heap.get? l=some {cls:=.type "list",data:=.seq its.toArray n}) (hf:f its.toArray=its'.toArray) (hv:aF ys its') (hz:ys.length<=sizeLine):
  aw X DQ σ (aZ H l (.lst ys)) {s with heap:=s.heap.update l (Obj.mapSeq f),toks:=t'}:=by
 have q:=PySem.IsL.update e f;rw [hf] at q;refine I.write (x:=l) (e:=l) (by rw [hH]; exact trivial) (.inl rfl) (λb' u hb hu=>(Heap.get?_update_other s.heap (Obj.mapSeq f) (Ne.symm hb)).trans hu) ⟨_,q⟩ ?_
 exact⟨hz,its',_,hv,q⟩
theorem aw.lnew {its:List Du} {t':Nat} (I:aw X DQ σ H s) (hv:aF ys its) (hz:ys.length<=sizeLine):
  aw X DQ σ (aZ H s.heap.objs.size (.lst ys)) {s with heap:=s.heap.push {cls:=.type "list",data:=.seq its.toArray},toks:=t'}:=
 I.laid (λ_ _ q=>Co _ q) (Ct _) ⟨hz,its,0,hv,Cq _ rfl⟩
theorem aw.fresh (I:aw X DQ σ H s):H s.heap.objs.size=none:=I.hok.fresh (Ct _)
theorem aw.lstM (I:aw X DQ σ H s) (hH:H l=some (.lst xs)):xs.length<=sizeLine/\∃ (its:List Du) (n:Nat),aF xs its/\xs.length=its.length/\s.heap.get? l=some {cls:=.type "list",data:=.seq its.toArray n}:=by
 obtain⟨z,its,n,r,e⟩:=I.hok l _ hH;exact⟨z,its,n,r,r.length,e⟩
theorem j4 {n:Nat} (h:n<=sizeLine):Builtin.List.listTooLong n=false:=by
 unfold Builtin.List.listTooLong;exact Dc (by omega)
end
section
variable {X:Cx}
def vt:V->List V->Hp->VK->Prop:=λx vs H Q=>∃ l xs y,x=.ref l/\vs=[y]/\H l=some (.lst xs)/\xs.length < sizeLine/\Q .non (aZ H l (.lst (xs++[y])))
theorem fV:uP X "list.append" vt:=by
 intro DQ s σ H x vs v us Q I rx rv h;obtain⟨l,xs,y,rfl,rfl,hH,hz,q⟩:=h;cases rx;obtain⟨u,rfl,ru⟩:=rv.one;obtain⟨z,its,n,r,hl,e⟩:=I.lstM hH;refine call_meets F.slot_list_append ⟨_,e,rfl⟩ F.entry_list_append (F.args_list_append_2 _ _) (PySem.list_append l its.toArray n u (by rw [Cy]; omega)) ⟨e,?_⟩
 refine⟨.non,_,I.lset (its':=its++[u]) hH e (by simp) (r.append (.cons ru .nil)) ?_,rfl,q⟩
 rw [CK,List.length_singleton];omega
def vJ:V->List V->Hp->VK->Prop:=λx vs H Q=>∃ l b xs zs,x=.ref l/\vs=[.ref b]/\H l=some (.lst xs)/\H b=some (.lst zs)/\xs.length+zs.length<=sizeLine/\Q .non (aZ H l (.lst (xs++zs)))
theorem k7:uP X "list.extend" vJ:=by
 intro DQ s σ H x vs v us Q I rx rv h;obtain⟨l,b,xs,zs,rfl,rfl,hH,hB,hz,q⟩:=h;cases rx;obtain⟨u,rfl,ru⟩:=rv.one;cases ru;obtain⟨z,its,n,r,hl,e⟩:=I.lstM hH;obtain⟨z2,its2,n2,r2,hl2,e2⟩:=I.lstM hB;have hsz:its.toArray.size+its2.toArray.size<=sizeLine:=by rw [Cy,Cy]; omega
 have hlong:¬ (!its.toArray.isEmpty && Builtin.List.listTooLong (its.toArray.size+its2.toArray.size))=true:=by
  rw [j4 hsz,Bool.and_false];exact Cw
 refine call_meets F.slot_list_extend ⟨_,e,rfl⟩ F.entry_list_extend (F.args_list_extend_2 _ _)
  (AutoSeq1.list_extend_list_list_0 l its.toArray n b its2.toArray n2 hlong (by rw [Cy]; omega) (by omega)) ⟨e,e2,?_⟩
 refine⟨.non,_,I.lset (its':=its++its2) hH e (by simp) (r.append r2) ?_,rfl,q⟩
 rw [CK];omega
def xS:V->List V->Hp->VK->Prop:=λx vs H Q=>∃ l xs i k y,x=.ref l/\vs=[.int i]/\H l=some (.lst xs)/\-(2 ^ 63)<=i/\i < 2 ^ 63/\seqIndex? i xs.length=some k/\xs[k]?=some y/\Q y (aZ H l (.lst (xs.eraseIdx k)))
theorem ua:uP X "list.pop" xS:=by
 intro DQ s σ H x vs v us Q I rx rv h;obtain⟨l,xs,i,k,y,rfl,rfl,hH,h1,h2,hk,hy,q⟩:=h;cases rx;obtain⟨u,rfl,ru⟩:=rv.one;obtain⟨t,rfl⟩:=ru;obtain⟨z,its,n,r,hl,e⟩:=I.lstM hH;obtain⟨w,hw,rw'⟩:=r.get hy;refine call_meets F.slot_list_pop ⟨_,e,rfl⟩ F.entry_list_pop (F.args_list_pop_2 _ _)
  (MeetsSeq.list_pop_at l its.toArray n i t k w (fitsIndex_both h1 h2) (by rw [Cy,<- hl]; exact hk) (by rw [<- Array.getElem?_toList]; exact hw) (by rw [Cy]; omega)) ⟨e,?_⟩
 refine⟨y,_,I.lset (its':=its.eraseIdx k) hH e ?_ (r.eraseIdx k) ?_,rw',q⟩
 ·show its.toArray.eraseIdxIfInBounds k=(its.eraseIdx k).toArray
  rw [List.eraseIdxIfInBounds_toArray]
 ·have:=lC xs k;omega
def AT:R2:=λx y H Q=>∃ l b xs zs,x=.ref l/\y=.ref b/\H l=some (.lst xs)/\H b=some (.lst zs)/\xs.length+zs.length<=sizeLine/\∀ p,H p=none->Q (.ref p) (aZ H p (.lst (xs++zs)))
theorem xL:cP X (binaryOp .Add) AT:=by
 intro DQ s σ H x y v u Q I rx ry h;obtain⟨l,b,xs,zs,rfl,rfl,hH,hB,hz,q⟩:=h;cases rx;cases ry;obtain⟨z,its,n,r,hl,e⟩:=I.lstM hH;obtain⟨z2,its2,n2,r2,hl2,e2⟩:=I.lstM hB;refine PySem.P.add_list e e2 ?_ (by rw [Cy,Cy]; omega)
 have ea:its.toArray++its2.toArray=(its++its2).toArray:=by simp
 rw [ea];exact⟨.ref _,_,I.lnew (t':=s.toks) (r.append r2) (by rw [CK]; omega),rfl,q _ I.fresh⟩
def AX:R2:=λx y H Q=>∃ l k xs,x=.ref l/\y=.int k/\H l=some (.lst xs)/\-(2 ^ 63)<=k/\k < 2 ^ 63/\xs.length*k.toNat<=sizeLine/\
 ∀ p,H p=none->Q (.ref p) (aZ H p (.lst (List.replicate k.toNat xs).flatten))
theorem vP {α:Type} (xs:List α) (k:Nat):(List.replicate k xs).flatten.length=k*xs.length:=by
 induction k with
 | zero=>simp
 | succ k ih=>rw [List.replicate_succ,List.flatten_cons,CK,ih,Nat.succ_mul,Nat.add_comm]
theorem x3:cP X (binaryOp .Mult) AX:=by
 intro DQ s σ H x y v u Q I rx ry h;obtain⟨l,k,xs,rfl,rfl,hH,h1,h2,hz,q⟩:=h;cases rx;obtain⟨t,rfl⟩:=ry;obtain⟨z,its,n,r,hl,e⟩:=I.lstM hH;have hlen:its.toArray.size*k.toNat<=sizeLine:=by rw [Cy,<- hl]; exact hz
 have hcap:¬ its.toArray.size*k.toNat > (2 ^ 63 - 1) / 8:=by
  have:(sizeLine:Nat)<=(2 ^ 63 - 1) / 8:=by decide
  omega
 have hfit:¬ (!Builtin.List.listFitsIndex k)=true:=by
  rw [fitsIndex_both h1 h2];exact Cw
 have hlong:¬ Builtin.List.listTooLong (its.toArray.size*k.toNat)=true:=by
  rw [j4 hlen];exact Cw
 have hnew:List.foldl (λx1 x2=>x1++x2) #[] (List.replicate (if its.toArray.isEmpty=true then 0 else k.toNat) its.toArray)=(List.replicate k.toNat its).flatten.toArray:=by
  have f0:∀ m:Nat,List.foldl (λx1 x2=>x1++x2) #[] (List.replicate m its.toArray)=(List.replicate m its).flatten.toArray:=λm=>by
   have:=kK its m [];rw [List.nil_append] at this;exact this
  rw [f0];cases its with
  | nil=>simp
  | cons a r'=>rw [if_neg (by simp)]
 refine wpAny_binaryOp_repeat_ref (T:="list") (U:="int") (by decide) ⟨_,e,rfl⟩ (λs'=>typeIs_int s' k t) noFill_list_mul F.fills_int_mul F.slot_int_rmul repeat_list F.slot_int_index.lookup
  (call_meets F.slot_int_rmul (typeIs_int s k t) F.entry_int_rmul (F.args_int_rmul_2 _ _) (int___rmul___int_list k t l its.toArray n)
   ⟨e,rfl,⟨_,e,rfl⟩,call_meets F.slot_list_mul ⟨_,e,rfl⟩ F.entry_list_mul (F.args_list_mul_2 _ _) (AutoListH.list___mul___list_int_3 l its.toArray n k t hfit hcap hlong) ⟨e,?_⟩⟩)
 rw [hnew];exact⟨.ref _,_,I.lnew (t':=s.toks) (r.rep k.toNat) (by rw [vP,Nat.mul_comm]; exact hz),rfl,q _ I.fresh⟩
end
def a_ (H:Hp) (a:Dv):Prop:=(∃ kvs,Rd H a (.dK kvs))\/∃ kvs,Rd H a (.dT kvs)
end L2
namespace Att
open PySem PySem.W PySem.Calls PyProof.Rows
theorem jh {P:Params} {h:DD}:∀ (ns:List Int) (vs:List Du),WellAll P h vs (ns.map WData.int)->IntsAre vs ns:=by
 intro ns
 induction ns with
 | nil=>
  intro vs w;rw [List.map_nil] at w;cases w;exact .nil
 | cons n ns ih=>
  intro vs w;rw [CG] at w;cases w with
  | cons a b=>
   cases a;exact .cons _ _ (ih _ b)
theorem qT {l:OpenLaw} {n:Nat} (hn:l.most=some n) {P:Params} {h:DD} {args:List WData} {vals:List Du}
  (hpre:l.row.toRowW.claim.pre args=true) (hwl:WellAll P h vals args):
  ∃ a vs ns,vals=[Value.ref a]/\args=[WData.list (ns.map WData.int)]/\h.get? a=some {cls:=.type "list",data:=.seq vs.toArray}/\IntsAre vs ns/\ns.length<=n:=by
 have hsh:WShape.hasAll [] args [.list .int]=true:=(pre_splitW hpre).1;have hc:l.pre.holds [] {args:=args}=true:=(pre_splitW hpre).2;obtain⟨d,r,rfl,h1,h2⟩:=hasAllW_cons hsh;obtain rfl:=hasAllW_nil h2;obtain⟨xs,rfl,h3⟩:=hasW_list h1;obtain⟨ns,rfl⟩:=items_int h3;have hlen:ns.length<=n:=by
  unfold OpenLaw.pre at hc;have h4:(WTm.not (.lt (.lit (.int (n:Int))) (.len (.arg 0)))).holds [] {args:=[.list (ns.map .int)]}=true:=by
   have h4:=(holds_andW hc).1;rw [hn] at h4;exact h4
  have h5:=condW_of h4 (w_not (w_lt w_lit (w_len_list (w_arg rfl))));rw [Cv] at h5;refine Nat.le_of_not_lt λq=>?_
  have q':(n:Int) < ((ns.length:Nat):Int):=by omega
  first
   | (rw [decide_eq_true q'] at h5; exact absurd h5 (by decide))
   | (simp at h5; omega)
 cases hwl with
 | cons w1 w2=>
  cases w2;cases w1 with
  | list ho hall=>exact⟨_,_,ns,rfl,rfl,ho,jh ns _ hall,hlen⟩
theorem rB (l:OpenLaw) (args:List WData):l.row.toRowW.claim.post args (.bool true) args=true:=
 postW_of (r:=l.row.toRowW) (X:=(true == true))
  (show WShape.has [] (.bool true) .bool=true by first | rfl | decide | simp [WShape.has,WShape.arms,WShape.armsAll])
  (show (WTm.eq .res (.lit (.bool true))).value [] {args:=args,res:=some (.bool true),after:=args}=some (.bool (true == true)) from w_eq_bool (w_res rfl) w_lit) rfl
theorem attach_call {l:OpenLaw} {n:Nat} {q:Dy} {loose:List Str} {XP:(Str->Dw Du)->DD->Prop} {YP:DC->DD->Prop} {d:DefRec}
  (hn:l.most=some n) (hdf:d.params.defaults=[])
  (call:∀ (w:DC) (s₀ s₁:Dt) (mg mb:Str->Dw Du) (fa:Dv) (o:DP) (pm cd doc:Du) (a:Dv) (vs:List Du) (ns:List Int),
   Ground q loose [] XP w s₀ mg mb s₁.heap->YP w s₁.heap->
   s₁.heap.get? fa=some o->o.data=.func (docDef d.name d.params d.body d.scope pm cd doc)->s₁.heap.CodeRec cd d.name->mg d.name=some (.ref fa)->
   s₁.heap.get? a=some {cls:=.type "list",data:=.seq vs.toArray}->IntsAre vs ns->ns.length<=n->s₁.gens=#[]->
   codeAny (model l.prog w) callerA (.call (.ref fa) ⟨[.ref a],[]⟩) (λr s'=>r=.ok (.ret (.bool true))/\OldK s₁.heap s'.heap/\s'.os=s₁.os/\AllBare s'.gens) s₁):
  WalkO q loose XP YP l.row.toRowW d [] (λf vs=>PySem.call f vs):=by
 intro w s₀ s₁ mg mb G Y fa o pm cd doc dV kV ho hd hcd hD hmg hg args vals as hpre hlay hrd hwl hlo;obtain rfl:dV=.none:=Dflts.none hD hdf;obtain rfl:kV=.none:=Dflts.noKw hD;obtain⟨a,vs,ns,rfl,rfl,hobj,hints,hlen⟩:=qT hn hpre hwl;refine enter_call (codeAny_mono (call w s₀ s₁ mg mb fa o pm cd doc a vs ns G Y ho (fd_plain hd) hcd hmg hobj hints hlen hg) λr s' hq=>?_)
 obtain⟨rfl,h2,h3,h4⟩:=hq;exact⟨.inl ⟨.bool true,.bool true,[],rfl,λ_=>rfl,.bool true,rB l _,λ_=>⟨List.Pairwise.nil,λ_ hm=>(nomatch hm)⟩⟩,h2,h3,h4⟩
section
variable {prog:Dy} {w:DC} {A:Dz} {E:Du->Dt->Prop} {s:Dt} {K:Frag}
def BF (h:DD) (L d:Dv):List (Dv×DP):=(List.range h.objs.size).filterMap λa=>if a=L\/a=d then none else(h.get? a).map λo=>(a,o)
end
end Att
namespace L2
open PySem PySem.Spec PyProof.Rows
theorem lB:∀ {vs:List Du} {ns:List Int},IntsAre vs ns->aF (ns.map V.int) vs
 | _,_,.nil=>.nil
 | _,_,.cons n t h=>.cons ⟨t,rfl⟩ (lB h)
def uT (H:Hp):Prop:=∀ b,H b=none\/∃ o xs,H b=some (.frz o (.lst xs))
theorem sK {P:Dy} {w:DC} {K:PySem.W.Frag} {mg mb:Str->Dw Du} {CX:uM} {k:Nat} {fa a:Dv} {fd:FuncData} {x:Str} {sp:Sp} {s₁:Dt} {vs:List Du} {ns:List Int}
  (KX:K.In s₁.heap) (hns:s₁.heap.Ns mainGlobals mg) (hb:s₁.heap.Ns builtinsNs mb) (hbb:∀ x:Str,x≠"__name__"->mb x=bootBuiltins x) (hlim:s₁.heap.NoLimit) (hg:s₁.gens=#[])
  (ha:s₁.heap.get? a=some {cls:=.type "list",data:=.seq vs.toArray}) (hi:IntsAre vs ns) (hl:ns.length<=sizeLine) (hr:cw k callerA)
  (F:∀ base:DD,K.In base->base.Ns mainGlobals mg->aW P w K mg base CX k fa fd [x] sp) (hbind:∀ (s:Dt) (u:Du),BindsTo s fd ⟨[u],[]⟩ [(x,u)])
  (hsp:∀ H:Hp,uT H->dO K H a (ns.map V.int)->sp [.ref a] H (λv _=>v=.bl true) λ_ _ _=>False)
  (hCX:∀ H e s',CX [] H s₁ (λ_ _ _=>False) e s'->False):
  codeAny (model P w) callerA (.call (.ref fa) ⟨[.ref a],[]⟩) (λr s'=>r=.ok (.ret (.bool true))/\OldK s₁.heap s'.heap/\s'.os=s₁.os/\AllBare s'.gens) s₁:=by
 have rv:=lB hi;have lenV:=hi.length;have core:∀ H:Hp,uT H->dO K H a (ns.map V.int)->jd P w H s₁.heap->(∀ b,H b≠none->b=a)->(H a≠none->K.lookup a=none)->
   codeAny (model P w) callerA (.call (.ref fa) ⟨[.ref a],[]⟩) (λr s'=>r=.ok (.ret (.bool true))/\OldK s₁.heap s'.heap/\s'.os=s₁.os/\AllBare s'.gens) s₁:=by
  intro H hO hS hok hA hK;have base_of:∀ {b:Dv} {o:DP},s₁.heap.get? b=some o->H b=none->(mQ s₁.heap H).get? b=some o:=λe n=>sx e n
  have noA:∀ {b:Dv} {o:DP} {es:DJ DictEntry} {ep:Nat},s₁.heap.get? b=some o->o.data=.dict es ep->H b=none:=λ{b o es ep} e d=>by
   cases q:H b with
   | none=>rfl
   | some u=>
    have e':b=a:=hA b (by rw [q]; simp)
    subst e';rw [ha] at e; cases e
    have d':Data.seq vs.toArray _=Data.dict es ep:=d;cases d'
  have nsK:∀ {b:Dv} {m:Str->Dw Du},s₁.heap.Ns b m->(mQ s₁.heap H).Ns b m:=λ{b m} ⟨o,es,ep,e,d,r⟩=>⟨o,es,ep,base_of e (noA e d),d,r⟩
  have hKb:K.In (mQ s₁.heap H):=λb o e=>base_of (KX b o e) (by
   cases q:H b with
   | none=>rfl
   | some u=>
    have e':b=a:=hA b (by rw [q]; simp)
    subst e';rw [hK (by rw [q]; simp)] at e; cases e)
  have hM:Mod K mg (mQ s₁.heap H):=⟨hKb,nsK hns,⟨mb,nsK hb,hbb⟩,let ⟨mc,h1,h2⟩:=hlim; ⟨mc,nsK h1,h2⟩⟩
  have e0:vX P w K mg (mQ s₁.heap H) callerA [] s₁ H:=⟨rfl,hM,λb o e=>uU e,Nat.le_of_eq (rL _ _),trivial,λb hb=>absurd (show b∈([]:List Dv) from hb) (by simp),hok,.of_eq hg⟩
  refine codeAny_mono ((F _ hKb (nsK hns)).run callerA [] s₁ H ⟨[.ref a],[]⟩ [.ref a] [.ref a] _ _ hr e0 (hbind s₁ (.ref a)) (.cons rfl .nil) (hsp H hO hS)) λr s' h=>?_
  cases r with
  | error e=>exact(hCX H e s' h).elim
  | ok fl=>
   cases fl with
   | next=>exact False.elim h
   | brk=>exact False.elim h
   | cont=>exact False.elim h
   | ret u=>
    obtain⟨v,H',os,bare,un,hok',r',q⟩:=h;have q':v=.bl true:=q;subst q';obtain rfl:u=Value.bool true:=r';refine⟨rfl,OldK.of_keep λb o e=>?_,os,bare⟩
    cases q:H b with
    | none=>exact un.keep b o e q (by intro z; exact absurd (show b∈([]:List Dv) from z) (by simp)) (by simp)
    | some u=>
     rcases hO b with z | ⟨ob,xs,z⟩
     ·rw [q] at z; cases z
     ·have z2:=un.frzs b ob _ z;obtain⟨e1,_⟩:=hok b _ z;obtain⟨e2,_⟩:=hok' b _ z2;rw [e] at e1; cases e1
      exact e2
 cases hk:K.lookup a with
 | some o=>
  have e:=KX a o hk;rw [ha] at e;cases e;refine core (λ_=>none) (λ_=>.inl rfl) (.inr ⟨_,vs.toArray,_,hk,rfl,rfl,rfl,by rw [Cy,lenV]; exact hl,by simpa using rv⟩) (λb u z=>by have z':(none:Dw HO)=some u:=z; cases z') (λb z=>absurd rfl z) λz=>absurd rfl z
 | none=>
  refine core (λb=>if b=a then some (.frz {cls:=.type "list",data:=.seq vs.toArray} (.lst (ns.map V.int))) else none) (λb=>?_) (.inl (.inr ⟨{cls:=.type "list",data:=.seq vs.toArray},if_pos rfl⟩)) (λb u z=>?_) (λb z=>?_) λ_=>hk
  ·by_cases hb:b=a
   ·exact .inr ⟨_,_,if_pos hb⟩
   ·exact .inl (if_neg hb)
  ·by_cases hb:b=a
   ·have z':=(if_pos hb).symm.trans z;cases z';subst hb;exact⟨ha,by rw [Cv]; exact hl,vs,_,rv,ha⟩
   ·have z':=(if_neg hb).symm.trans z;cases z'
  ·by_cases hb:b=a
   ·exact hb
   ·exact absurd (if_neg hb) z
abbrev Cn {K:PySem.W.Frag} {h:DD} (_:K.In h):PySem.W.Frag:=K
theorem uZ {l:PySem.W.OpenLaw} {n k:Nat} {q:Dy} {loose:List Str} {XP:(Str->Dw Du)->DD->Prop} {YP:DC->DD->Prop} {d:DefRec} {K:Params->PySem.W.Frag} {CX:DC->uM} {sp:DC->Sp} {x:Str}
  (hn:l.most=some n) (hn2:n<=sizeLine) (hdf:d.params.defaults=[]) (hr:cw k callerA)
  (hY:∀ (w:DC) (h:DD),YP w h->(K w.params).In h)
  (F:∀ (w:DC) (mg:Str->Dw Du) (fa:Dv) (h:DD),(K w.params).In h->h.Ns mainGlobals mg->mg d.name=some (.ref fa)->
   ∃ fd:FuncData,(∀ (s:Dt) (u:Du),BindsTo s fd ⟨[u],[]⟩ [(x,u)])/\
    ∀ base:DD,(K w.params).In base->base.Ns mainGlobals mg->aW l.prog w (K w.params) mg base (CX w) k fa fd [x] (sp w))
  (hsp:∀ (w:DC) (H:Hp) (a:Dv) (ns:List Int),ns.length<=n->uT H->dO (K w.params) H a (ns.map V.int)->sp w [.ref a] H (λv _=>v=.bl true) λ_ _ _=>False)
  (hCX:∀ (w:DC) (H:Hp) (s:Dt) (e:Du) (s':Dt),CX w [] H s (λ_ _ _=>False) e s'->False):
  PySem.W.WalkO q loose XP YP l.row.toRowW d [] (λf vs=>PySem.call f vs):=by
 refine Att.attach_call hn hdf λw s₀ s₁ mg mb fa o pm cd doc a vs ns G Y ho hd hcd hmg hobj hints hlen hg=>?_
 have KX:=hY w _ Y;obtain⟨fd,hb,hF⟩:=F w mg fa _ KX G.T.g hmg;exact sK KX G.T.g G.T.b G.T.builtins G.T.nolimit hg hobj hints (CZ hlen hn2) hr hF hb (λH hO hS=>hsp w H a ns hlen hO hS) λH e s'=>hCX w H s₁ e s'
def ck (s:DF):Arguments:=match s with
 | .FunctionDef _ a _ _ _ _ _ _ _ _=>a
 | _=>{posonlyargs:=[],args:=[],vararg:=none,kwonlyargs:=[],kw_defaults:=[],kwarg:=none,defaults:=[]}
def bK (s:DF):List DF:=match s with
 | .FunctionDef _ _ b _ _ _ _ _ _ _=>b
 | _=>[]
def ai (s:DF):Scope:=match s with
 | .FunctionDef _ _ _ _ _ _ sc _ _ _=>sc
 | _=>{kind:=.function,names:=[],isGenerator:=false,isCoroutine:=false}
abbrev cx:uM:=λ_ _ _ _ _ _=>False
abbrev E0:XK:=λ_ _ _=>False
theorem Ar {X:Cx}:o8 cx X E0:=λ_ _ _ _ _ _ _ h=>h.elim
structure qX (K:PySem.W.Frag) (x DR:Str) (st:DF) (f:Dv) (fd:FuncData):Prop where
 ex:∃ (oc:Du) (od:Dw Dv) (kV doc pm:Du) (an:Dw Dv) (cdv ct:Du) (osl:DJ (Dw Du)),
  fd=PySem.W.fnOf x DR (ck st) (bK st) (ai st) .none kV doc pm an cdv ct/\K.lookup f=some ⟨oc,od,.func fd,osl⟩/\PySem.W.codeIn K cdv DR=true
 kp:PySem.W.keepIn K (.ref f)=true
section
variable {P:Dy} {w:DC} {K:PySem.W.Frag} {mg:Str->Dw Du} {base:DD}
theorem qX.ok {x DR:Str} {st:DF} {f:Dv} {fd:FuncData} {N ps:List Str} {k:Nat} {sp:Sp} (F:qX K x DR st f fd) (S:aq N ps (ai st)) (len:∀ vs H Q E,sp vs H Q E->vs.length=ps.length)
  (hbody:∀ (cdv:Du) (A:Dz) (outer:List Env) (s:Dt) (H:Hp) (vs:List V) (Q:VK) (E:XK),cw k (A.deeper (envOfC DR (ai st) s.heap.objs.size f cdv))->sp vs H Q E->
   ∃ t,lE (nX cx P w K mg base N DR (ai st) f cdv A outer s H E).nox (bK st) t/\t {nx:=λ_ H'=>Q .non H',rt:=Q} (start N vs) H):aW P w K mg base cx (k+1) f fd ps sp:=by
 obtain⟨oc,od,kV,doc,pm,an,cdv,ct,osl,rfl,lk,hcd⟩:=F.ex;refine As lk hcd S len λA outer s H vs Q E hr hsp=>?_
 obtain⟨t,h,q⟩:=hbody cdv A outer s H vs Q E hr hsp;exact⟨t,h.nox,q⟩
theorem qX.binds {x DR:Str} {st:DF} {f:Dv} {fd:FuncData} {ps:List Str} (F:qX K x DR st f fd)
  (h:∀ (kV doc pm:Du) (an:Dw Dv) (cdv ct:Du) (us:List Du),us.length=ps.length->bindArgs (PySem.W.fnOf x DR (ck st) (bK st) (ai st) .none kV doc pm an cdv ct) ⟨us,[]⟩=pure (ps.zip us)):ko K fd ps []:=by
 obtain⟨oc,od,kV,doc,pm,an,cdv,ct,osl,rfl,lk,hcd⟩:=F.ex;exact .all (h kV doc pm an cdv ct)
theorem sF {x DR:Str} {st:DF} {f:Dv} {oc:Du} {od an:Dw Dv} {osl:DJ (Dw Du)} {kV doc pm cdv ct:Du} (l:K.lookup f=some ⟨oc,od,.func (PySem.W.fnOf x DR (ck st) (bK st) (ai st) .none kV doc pm an cdv ct),osl⟩)
  (c:PySem.W.codeIn K cdv DR=true) (k:PySem.W.keepIn K (.ref f)=true):qX K x DR st f (PySem.W.fnOf x DR (ck st) (bK st) (ai st) .none kV doc pm an cdv ct):=⟨⟨oc,od,kV,doc,pm,an,cdv,ct,osl,rfl,l,c⟩,k⟩
end
theorem BD {A B:Prop} (h:B):if false=true then A else B:=by
 rw [if_neg Cw];exact h
theorem Bx {A B:Prop} (h:A):if true=true then A else B:=by
 rw [if_pos rfl];exact h
end L2
set_option linter.all false
namespace HM
theorem nK (a b:Int):Int.gcd b (a.fmod b)=Int.gcd a b:=by
 have h:=Int.gcd_sub_mul_right_right b a (a.fdiv b);rw [Int.fmod_def,Int.mul_comm b,h,Int.gcd_comm]
theorem pU (a b:Int) (h:b≠0):(a.fmod b).natAbs < b.natAbs:=by
 rcases Int.lt_or_gt_of_ne h with hb | hb
 ·have e:a.fmod b=-((-a).fmod (-b)):=by rw [Int.neg_fmod_neg,Int.neg_neg]
  have h1:=Da (-a) (show 0 < -b by omega)
  have h2:=Dn (-a) (show 0 < -b by omega)
  omega
 ·have h1:=Da a hb;have h2:=Dn a hb;omega
theorem oj (a:Int):((Int.gcd a 0:Nat):Int)=if a < 0 then -a else a:=by
 rw [Int.gcd_zero_right]
 split <;> omega
def rN (t b:Int):Int:=if b < 0 then -((Int.gcd t b:Nat):Int) else((Int.gcd t b:Nat):Int)
theorem ug {t b:Int} (h:b≠0):rN t b≠0:=by
 have h1:Int.gcd t b≠0:=λe=>h (Int.gcd_eq_zero_iff.mp e).2
 unfold rN
 split <;> omega
theorem mT {t b:Int} (h:b≠0):t.fdiv (rN t b)=(Rat.divInt t b).num:=by
 have hg:((Int.gcd t b:Nat):Int) ∣ t:=Int.gcd_dvd_left t b;rw [Rat.num_divInt,Int.gcd_comm b t];unfold rN;rcases Int.lt_or_gt_of_ne h with hb | hb
 ·rw [if_pos hb,Int.sign_eq_neg_one_of_neg hb,Int.fdiv_eq_ediv_of_dvd (Int.neg_dvd.mpr hg),Int.ediv_neg,Int.neg_mul,Int.one_mul,Int.neg_ediv_of_dvd hg]
 ·rw [if_neg (by omega),Int.sign_eq_one_of_pos hb,Int.fdiv_eq_ediv_of_dvd hg,Int.one_mul]
theorem mG {t b:Int} (h:b≠0):b.fdiv (rN t b)=((Rat.divInt t b).den:Int):=by
 have hg:((Int.gcd t b:Nat):Int) ∣ b:=Int.gcd_dvd_right t b;rw [Rat.den_divInt,Int.gcd_comm b t,if_neg h];unfold rN;rcases Int.lt_or_gt_of_ne h with hb | hb
 ·rw [if_pos hb,Int.fdiv_eq_ediv_of_dvd (Int.neg_dvd.mpr hg),Int.ediv_neg,Int.natCast_ediv];rw [show ((b.natAbs:Nat):Int)=-b by omega,Int.neg_ediv_of_dvd hg]
 ·rw [if_neg (by omega),Int.fdiv_eq_ediv_of_dvd hg,Int.natCast_ediv]
  rw [show ((b.natAbs:Nat):Int)=b by omega]
theorem rP (a b:Rat):Rat.divInt (a.num*b.den+b.num*a.den) (a.den*b.den)=a+b:=by
 rw [Rat.add_def',Rat.mkRat_eq_div,CV]; simp [Rat.intCast_natCast]
theorem wX (a b:Rat):Rat.divInt (a.num*b.den - b.num*a.den) (a.den*b.den)=a - b:=by
 rw [Rat.sub_def',Rat.mkRat_eq_div,CV]; simp [Rat.intCast_natCast]
theorem oU (a b:Rat):Rat.divInt (a.num*b.num) (a.den*b.den)=a*b:=by
 rw [Rat.mul_def',Rat.mkRat_eq_div,CV]; simp [Rat.intCast_natCast]
def Bt (n:Nat) (x:Int):Prop:=x.natAbs < 2 ^ n
theorem ow {m n:Nat} (h:m<=n):2 ^ m<=2 ^ n:=Nat.pow_le_pow_right (by decide) h
theorem Bt.mono {m n:Nat} {x:Int} (h:Bt m x) (hm:m<=n):Bt n x:=CD h (ow hm)
theorem Bt.mul {m n:Nat} {x y:Int} (hx:Bt m x) (hy:Bt n y):Bt (m+n) (x*y):=by
 unfold Bt at*
 rw [Di,Nat.pow_add];exact Nat.mul_lt_mul'' hx hy
theorem Bt.neg {m:Nat} {x:Int} (hx:Bt m x):Bt m (-x):=by unfold Bt at *; omega
theorem Bt.le {m:Nat} {x y:Int} (hx:Bt m x) (h:y.natAbs<=x.natAbs):Bt m y:=Nat.lt_of_le_of_lt h hx
structure Sz (n:Nat) (q:Rat):Prop where
 num:Bt n q.num
 den:Bt n q.den
theorem Sz.mono {m n:Nat} {q:Rat} (h:Sz m q) (hm:m<=n):Sz n q:=⟨h.num.mono hm,h.den.mono hm⟩
theorem dA:∀ a b:Int,(a.fdiv b).natAbs<=a.natAbs
 | .ofNat 0,b=>by
  have e:Int.fdiv (.ofNat 0) b=0:=Int.zero_fdiv b;rw [e]; exact Dd _
 | .ofNat (k+1),.ofNat j=>Nat.div_le_self (k+1) j
 | .ofNat (k+1),.negSucc j=>Nat.succ_le_succ (Nat.div_le_self k (j+1))
 | .negSucc _,.ofNat 0=>Dd _
 | .negSucc k,.ofNat (j+1)=>Nat.succ_le_succ (Nat.div_le_self k (j+1))
 | .negSucc k,.negSucc j=>Nat.div_le_self (k+1) (j+1)
theorem Sz.divInt {n:Nat} {t b:Int} (ht:Bt n t) (hb:Bt n b) (h:b≠0):Sz n (Rat.divInt t b):=
 ⟨by rw [<- mT h]; exact ht.le (dA _ _),by rw [<- mG h]; exact hb.le (dA _ _)⟩
theorem tF (q:Rat):(q.den:Int)≠0:=by have:=q.den_nz; omega
theorem cE (p q:Rat):(p.den:Int)*q.den≠0:=Int.mul_ne_zero (tF p) (tF q)
theorem Sz.mul {m n:Nat} {a b:Rat} (ha:Sz m a) (hb:Sz n b):Sz (m+n) (a*b):=by
 rw [<- oU];exact .divInt (ha.num.mul hb.num) (ha.den.mul hb.den) (cE a b)
abbrev nD (a:Int):Int:=if a < 0 then -a else a
theorem qr (a:Int):0<=nD a:=by unfold nD; split <;> omega
theorem dP (w:Rat):(w.num:Rat)=w*(w.den:Rat):=by
 have h:=Rat.num_divInt_den w;rw [CV,Rat.intCast_natCast] at h;have hd:(w.den:Rat)≠0:=by
  have:=w.den_nz;exact λe=>this (by exact_mod_cast e)
 grind
theorem jO (w:Rat):(w.den:Rat)≠0:=by
 have:=w.den_nz;exact λe=>this (by exact_mod_cast e)
def ab (b:Rat):Rat:=if b < 0 then -b else b
def ss (b:Rat):Rat:=b*ab b
def sg (p q:Rat):Rat:=if q < 0 then -p else p
def BJ (q:Rat):Int:=if 0 < q then 1 else if q < 0 then -1 else 0
def oQ (a b u:Rat):Int:=if 0 < a*a - b*b*u then BJ a else BJ b
def Ao (b d:Rat):Rat:=if b=0 then d else b
end HM
namespace L2
open PySem PySem.Spec PyProof.Rows
theorem mI (elt target iter:Dx) (scope:Scope) (pos:Pos) (it acc:Du) (env:Env):
  compTurn (.ListComp elt [⟨target,iter,[],0⟩] scope pos) 0 it acc env=(standAt iter.pos >>= λ_=>pyNext it >>= λr=>match r with
   | none=>pure (.done .next)
   | some v=>letOwnedTupleGo target it v >>= λ_=>assign target env v >>= λ_=>
    (eval elt env >>= λx=>call (.builtin "list.append") [acc,x] >>= λ_=>pure ()) >>= λ_=>
     again (.compLoop (.ListComp elt [⟨target,iter,[],0⟩] scope pos) 0 it acc env)):=by rfl
section
variable {prog:Dy} {w:DC} {A:Dz} {R:Result->Dt->Prop} {s:Dt}
abbrev ma:Du->Dt->Prop:=λ_ _=>False
theorem tJ {α:Type} {M:Model} {A:Dz} {t:Sem α} {Q:α->Dt->Prop} {E:Du->Dt->Prop} {s:Dt} (h:wpAny M A t Q ma s):wpAny M A t Q E s:=wpAny_mono h (λ_ _ q=>q) λ_ _ z=>z.elim
theorem ii {elt target iter:Dx} {scope:Scope} {pos:Pos} {it acc:Du} {env:Env} (I:Nat->Dt->Prop)
  (turn:∀ n s,I n s->wpAny (model prog w) A (pyNext it) (λr s1=>match r with
   | none=>R (.ok .next) s1
   | some v=>wpAny (model prog w) A (letOwnedTupleGo target it v) (λ_ s2=>wpAny (model prog w) A (assign target env v) (λ_ s3=>wpAny (model prog w) A (eval elt env) (λx s4=>
     wpAny (model prog w) A (call (.builtin "list.append") [acc,x]) (λ_ s5=>∃ m,m < n/\I m s5) ma s4) ma s3) ma s2) ma s1) ma s)
  (n:Nat) (h:I n s):codeAny (model prog w) A (.compLoop (.ListComp elt [⟨target,iter,[],0⟩] scope pos) 0 it acc env) R s:=by
 refine codeAny_loop rfl I (λn s hI=>?_) n h
 show wpAny _ _ ((compTurn (.ListComp elt [⟨target,iter,[],0⟩] scope pos) 0 it acc env).onRaise (λx=>do noteFrame x env; theTreesLotGoes x)) _ _ s
 refine wpAny_noted ?_;rw [mI];refine gt (wpAny_standAt (gt (tJ (wpAny_mono (turn n s hI) (λr s1 h1=>?_) λ_ _ z=>z))))
 cases r with
 | none=>exact Cp h1
 | some v=>
  exact gt (tJ (bw h1 λ_ s2 h2=>gt (tJ (bw h2 λ_ s3 h3=>gt (gt (tJ (bw h3 λx s4 h4=>gt (tJ (bw h4 λ_ s5 h5=>Cp (Cp ⟨rfl,h5⟩))))))))))
theorem je {M:Model} {A:Dz} {E:Du->Dt->Prop} {c:Dx} {env:Env} {Q:DM->Dt->Prop} {s:Dt} (h:wpAny M A (PySem.isTrue c env (eval c env)) Q E s):
  wpAny M A (forIn [c] true λc r=>if r=true then do let ok <- PySem.isTrue c env (eval c env); pure (ForInStep.yield ok) else pure (ForInStep.yield r)) Q E s:=by
 rw [List.forIn_cons];refine gt ?_;rw [if_pos rfl];refine gt (bw h λok s1 q=>Cp ?_)
 show wpAny M A (forIn [] ok _) Q E s1
 rw [List.forIn_nil];exact Cp q
theorem ms {elt target iter c:Dx} {scope:Scope} {pos:Pos} {it acc:Du} {env:Env} (I:Nat->Dt->Prop)
  (turn:∀ n s,I n s->wpAny (model prog w) A (pyNext it) (λr s1=>match r with
   | none=>R (.ok .next) s1
   | some v=>wpAny (model prog w) A (letOwnedTupleGo target it v) (λ_ s2=>wpAny (model prog w) A (assign target env v) (λ_ s3=>wpAny (model prog w) A (isTrue c env (eval c env)) (λb s3'=>
     if b=true then wpAny (model prog w) A (eval elt env) (λx s4=>wpAny (model prog w) A (call (.builtin "list.append") [acc,x]) (λ_ s5=>∃ m,m < n/\I m s5) ma s4) ma s3'
     else ∃ m,m < n/\I m s3') ma s3) ma s2) ma s1) ma s)
  (n:Nat) (h:I n s):codeAny (model prog w) A (.compLoop (.ListComp elt [⟨target,iter,[c],0⟩] scope pos) 0 it acc env) R s:=by
 refine codeAny_loop rfl I (λn s hI=>?_) n h
 show wpAny _ _ ((compTurn (.ListComp elt [⟨target,iter,[c],0⟩] scope pos) 0 it acc env).onRaise (λx=>do noteFrame x env; theTreesLotGoes x)) _ _ s
 refine wpAny_noted ?_;rw [compTurn_list];refine gt (wpAny_standAt (gt (tJ (wpAny_mono (turn n s hI) (λr s1 h1=>?_) λ_ _ z=>z))))
 cases r with
 | none=>exact Cp h1
 | some v=>
  refine gt (tJ (bw h1 λ_ s2 h2=>gt (tJ (bw h2 λ_ s3 h3=>gt (je (tJ (bw h3 λb s3' h3'=>?_)))))))
  cases b with
  | true=>
   rw [if_pos rfl] at h3' ⊢;exact gt (gt (tJ (bw h3' λx s4 h4=>gt (tJ (bw h4 λ_ s5 h5=>Cp (Cp ⟨rfl,h5⟩))))))
  | false=>
   rw [if_neg Cw] at h3' ⊢;exact Cp ⟨rfl,h3'⟩
end
def dS (X:Cx) (scope:Scope) (cl:List (Str×Dv)) (N:List Str) (s0:Dt) (H0:Hp) (ex:List Dv) (C:Dv):Cx where
 prog:=X.prog
 w:=X.w
 K:=X.K
 mg:=X.mg
 base:=X.base
 A:=X.A
 N:=N
 s₀:=s0
 H₀:=H0
 env:=compEnvC scope cl C X.env
 outer:=X.stack
 stack:=X.stack
 ex:=ex
 fn:=λ_=>false
 calm:=X.calm
 pn:=[]
 xe:=ma
structure cg (X:Cx) (scope:Scope) (cl:List (Str×Dv)) (N:List Str) (cap:List (Dw Nat)):Prop where
 kind:scope.kind=.function
 clos:closureFor scope X.env=pure cl
 nocell:(scope.names.all λy=>y.2 != NameKind.cell)=true
 names:(scope.names.all λy=>y.2 != NameKind.local || scope.names.lookup y.1 == some NameKind.local)=true
 sub:∀ p∈cl,X.env.cells.lookup p.1=some p.2
 has:((relabel scope X.env).names.all λy=>(y.2 != NameKind.cell && y.2 != NameKind.free) || (cl.lookup y.1).isSome)=true
 len:cap.length=N.length
 caps:∀ (i j:Nat) (x:Str),cap[i]?=some (some j)->N[i]?=some x->X.N[j]?=some x/\(X.env.scope.names.lookup x=some .cell\/X.env.scope.names.lookup x=some .free)/\((relabel scope X.env).names.lookup x=some .cell\/(relabel scope X.env).names.lookup x=some .free)
def gT (cap:List (Dw Nat)) (σ:St):St:=cap.map λo=>match o with
 | some j=>(σ[j]?).join
 | none=>none
theorem qZ {cap:List (Dw Nat)} {σ:St} {i:Nat} {v:V} (h:(gT cap σ)[i]?=some (some v)):∃ j,cap[i]?=some (some j)/\σ[j]?=some (some v):=by
 unfold gT at h;rw [CQ] at h;cases e:cap[i]? with
 | none=>rw [e] at h; cases h
 | some o=>
  rw [e] at h;cases o with
  | none=>cases h
  | some j=>
   refine⟨j,rfl,?_⟩;have h:(σ[j]?).join=some v:=CS h;cases e2:σ[j]? with
   | none=>rw [e2] at h; cases h
   | some q=>rw [e2] at h; exact congrArg some h
theorem cF {X:Cx} {cl:List (Str×Dv)} (h:∀ p∈cl,X.env.cells.lookup p.1=some p.2) {x:Str} {c:Dv} (e:cl.lookup x=some c):X.env.cells.lookup x=some c:=h (x,c) (C7 e)
theorem jV {X:Cx} {scope:Scope} {cl:List (Str×Dv)} {N:List Str} {cap:List (Dw Nat)} (Sc:cg X scope cl N cap) {DQ:List (Dv×DP)} {σ:St} {H:Hp} {s:Dt} {fp:List Dv} (I:aw X DQ σ H s)
  (hf:∀ b∈fp,ja X DQ H b) (ho:∀ b∈fp,∃ o,s.heap.get? b=some o) {h1 h1':DD} {m:Str->Dw Du} {tk:Nat} {ob:DP}
  (hD:s.heap.push {cls:=.type "list",data:=.seq ([]:List Du).toArray}=h1') (hns:h1.Ns h1'.objs.size m) (hsb:Heap.SameBut h1'.objs.size (h1'.push ob) h1):
  aw (dS X scope cl N {s with heap:=h1'} (aZ H s.heap.objs.size (.lst [])) fp h1'.objs.size) [] (gT cap σ) (aZ H s.heap.objs.size (.lst [])) {s with heap:=h1,toks:=tk}/\
   Un (m8 X.stack) fp H (aZ H s.heap.objs.size (.lst [])) s.heap h1':=by
 have hC:h1'.objs.size=s.heap.objs.size+1:=by rw [<- hD,Df]
 have k1:∀ b o,s.heap.get? b=some o->h1'.get? b=some o:=λb o e=>by rw [<- hD]; exact Co _ e
 have k2:∀ b o,h1'.get? b=some o->h1.get? b=some o:=λb o e=>(hsb.2 b (CA (Cs e))).trans (Co _ e)
 have hHn:H s.heap.objs.size=none:=I.hok.fresh (Ct _);have neD:∀ b o,s.heap.get? b=some o->b≠s.heap.objs.size:=λb o e=>CA (Cs e)
 have un1:Un (m8 X.stack) fp H (aZ H s.heap.objs.size (.lst [])) s.heap h1':=Un.laid k1 (Ct _) hHn;have new:cU X.prog X.w (aZ H s.heap.objs.size (.lst [])) h1' s.heap.objs.size (.lst []):=⟨Dd _,[],0,.nil,by rw [<- hD]; exact Cq _ rfl⟩
 have hok1:jd X.prog X.w (aZ H s.heap.objs.size (.lst [])) h1':=I.hok.laid k1 (Ct _) new;have fsub:∀ b∈fp,b∉m8 X.stack:=λb hb z=>by
  obtain⟨_,f1,f2,_⟩:=hf b hb;rcases Cz.mp (I.stkSub b z) with e | e
  ·exact f1 e
  ·exact f2 e
 have cellK:∀ x c,cl.lookup x=some c->∃ v,s.heap.IsCell c v:=λx c e=>I.cell x c (cF Sc.sub e)
 refine⟨⟨⟨I.ok.mod,?_,I.ok.glob,I.ok.blt,Ct _,λx y c e1 e2=>I.ok.inj x y c (cF Sc.sub e1) (cF Sc.sub e2),λx hx=>?_,λx c z=>(by cases z),I.ok.hd,I.ok.frames,.inl rfl,λb hb=>⟨?_,λx c e=>?_⟩,λb o e=>⟨?_,?_⟩,?_,λb o e hb=>?_,fsub,?_,λb hb=>?_⟩,
  rfl,I.bare,Un.kept k2,⟨m,hns,λi x v e1 e2 e3=>?_⟩,λx c e=>?_,?_,λx c e=>?_,λp hp=>absurd hp (by simp [dS]),hok1.kept k2,?_⟩,un1⟩
 ·exact Sc.kind
 ·have hx:(relabel scope X.env).names.lookup x=some .cell\/(relabel scope X.env).names.lookup x=some .free:=hx;have ha:=Dg.mp Sc.has
  show ∃ c,cl.lookup x=some c
  rcases hx with hx | hx
  ·have:=ha _ (C7 hx);exact Dp.mp (by simpa using this)
  ·have:=ha _ (C7 hx);exact Dp.mp (by simpa using this)
 ·obtain⟨o,e⟩:=ho b hb;have:=Cs e
  show b≠h1'.objs.size
  rw [hC];exact CA (Nat.lt_succ_of_lt this)
 ·exact(hf b hb).2.2.2.2.1 x c (cF Sc.sub e)
 ·exact k1 b o (I.bk b o e)
 ·show aZ H s.heap.objs.size (.lst []) b=none
  rw [az (neD b o (I.bk b o e))];exact(I.bs b o e).2
 ·show X.base.objs.size<=h1'.objs.size
  rw [hC];exact Nat.le_succ_of_le (CZ I.ok.bsz I.sz)
 ·obtain⟨_,_,_,f3,_⟩:=hf b hb;rcases f3 with f3 | f3
  ·exact I.ok.noex b o e f3
  ·have q1:=Cs e;have q2:=I.ok.bsz;exact absurd (CD q1 (CZ q2 f3)) (De _)
 ·exact I.stack.of_keeps λb o e _=>⟨o,k1 b o e,rfl⟩
 ·show aZ H s.heap.objs.size (.lst []) b=none
  obtain⟨_,o,e,_⟩:=I.stack.mem hb;rw [az (neD b o e)];exact I.stkFree b hb
 ·obtain⟨j,c1,c2⟩:=qZ e2;obtain⟨d1,d2,d3⟩:=Sc.caps i j x c1 e1;obtain⟨m0,_,l0⟩:=I.loc;obtain⟨u,ru,lk⟩:=l0 j x v d1 c2 (d2.elim (λz=>.inr (.inl z)) λz=>.inr (.inr z))
  refine⟨u,ru,.inr ⟨d3,?_⟩⟩;rcases lk with ⟨z,_⟩ | ⟨_,c,z1,z2⟩
  ·have z:X.env.scope.names.lookup x=some .local:=z;rcases d2 with q | q <;> (rw [q] at z; cases z)
  ·have ha:=Dg.mp Sc.has;have hs:∃ c',cl.lookup x=some c':=by
    rcases d3 with q | q
    ·exact Dp.mp (by simpa using ha _ (C7 q))
    ·exact Dp.mp (by simpa using ha _ (C7 q))
   obtain⟨c',q⟩:=hs;have q2:=cF Sc.sub q;rw [z1] at q2;cases q2;obtain⟨o,e,d⟩:=z2;exact⟨c,q,o,k2 _ _ (k1 _ _ e),d⟩
 ·obtain⟨v,o,e1,d⟩:=cellK x c e;exact⟨v,o,k2 _ _ (k1 _ _ e1),d⟩
 ·show aZ H s.heap.objs.size (.lst []) h1'.objs.size=none
  rw [hC,az (Nat.succ_ne_self _)];exact I.hok.fresh (Nat.le_succ _)
 ·obtain⟨v,o,e1,d⟩:=cellK x c e
  show aZ H s.heap.objs.size (.lst []) c=none
  rw [az (neD c o e1)];exact I.freeC x c (cF Sc.sub e)
 ·show(gT cap σ).length=N.length
  unfold gT;rw [Cv];exact Sc.len
def wc (cap:List (Dw Nat)) (wi:TI) (g:TG) (te:TE):TE:=fun σ H Q=>wi σ H λJ H1=>∀ D,H1 D=none->∃ W:Nat->Nat->St->Hp->Prop,(∃ m,W 0 m (gT cap σ) (aZ H1 D (.lst [])))/\∀ i m σ' H',W i m σ' H'->
 (J.stop i H'/\Q (.ref D) H')\/(J.go i H'/\∃ N:St->Hp->Prop,(∀ σ2 H2,N σ2 H2->∃ m',m' < m/\W (i+1) m' σ2 H2)/\∀ x H2,J.yld i H' x H2->g x σ' H2 fun σ3 H3=>te σ3 H3 λv H4=>∃ ys,H4 D=some (.lst ys)/\ys.length < sizeLine/\N σ3 (aZ H4 D (.lst (ys++[v]))))
def vf (cap:List (Dw Nat)) (wi:TI) (g:TG) (tc:TT) (te:TE):TE:=fun σ H Q=>wi σ H λJ H1=>∀ D,H1 D=none->∃ W:Nat->Nat->St->Hp->Prop,(∃ m,W 0 m (gT cap σ) (aZ H1 D (.lst [])))/\∀ i m σ' H',W i m σ' H'->
 (J.stop i H'/\Q (.ref D) H')\/(J.go i H'/\∃ N:St->Hp->Prop,(∀ σ2 H2,N σ2 H2->∃ m',m' < m/\W (i+1) m' σ2 H2)/\∀ x H2,J.yld i H' x H2->g x σ' H2 fun σ3 H3=>tc σ3 H3 λb H3'=>if b=true then te σ3 H3' λv H4=>∃ ys,H4 D=some (.lst ys)/\ys.length < sizeLine/\N σ3 (aZ H4 D (.lst (ys++[v]))) else N σ3 H3')
section
variable {X:Cx} {elt tg iter c:Dx} {scope:Scope} {cl:List (Str×Dv)} {N:List Str} {cap:List (Dw Nat)} {pos:Pos} {wi:TI} {g:TG} {te:TE} {tc:TT}
theorem kq (Sc:cg X scope cl N cap) {DQ:List (Dv×DP)} {σ σ3:St} {H2 H3:Hp} {s2 s4:Dt} {fp:List Dv} {h1':DD} {C:Dv} (I2:aw X DQ σ H2 s2) (f2:∀ b∈fp,ja X DQ H2 b) {H1:Hp}
  (un3:Un (m8 X.stack) fp H2 H1 s2.heap h1') (I4:aw (dS X scope cl N {s2 with heap:=h1'} H1 fp C) [] σ3 H3 s4) {h':DD} (hC:s2.heap.objs.size<=C) (sb:Heap.SameBut C s4.heap h'):aw X DQ σ H3 {s4 with heap:=h'}:=by
 have u:Un (m8 X.stack) fp H2 H3 s2.heap s4.heap:=un3.trans I4.base;have ne:∀ b o,s2.heap.get? b=some o->b≠C:=λb o e=>CA (CD (Cs e) hC)
 have u':Un (m8 X.stack) fp H2 H3 s2.heap h':=⟨λb o e n hb hx=>(sb.2 b (ne b o e)).trans (u.keep b o e n hb hx),λb o e n hb hx=>by
   obtain⟨sl,q⟩:=u.slot b o e n hb hx;exact⟨sl,(sb.2 b (ne b o e)).trans q⟩,u.free,λb o e hx=>by
   obtain⟨o',q⟩:=u.there b o e hx;exact⟨o',(sb.2 b (ne b o e)).trans q⟩,u.tups,u.frzs,u.tbls⟩
 have hok:jd X.prog X.w H3 h':=λb ob e=>by
  refine(I4.hok b ob e).stay (λc w' hc q=>(sb.2 c ?_).trans q) (λ_ q=>q) λ_ _ q=>q
  rintro rfl;have hfree:H3 c=none:=I4.free;rcases hc with rfl | hc
  ·rw [hfree] at e; cases e
  ·rw [hfree] at hc; cases hc
 refine I2.call' (s':={s4 with heap:=h'}) (ch:=fp) I4.os u' hok I4.bare λb hb=>?_
 obtain⟨_,f1,_,f3,f4,f5⟩:=f2 b hb;exact⟨f3,f1,f4,f5⟩
theorem cY {s0:Dt} {H0:Hp} {C:Dv} {fp:List Dv} {σ:St} {H:Hp} {s:Dt} (I:aw (dS X scope cl N s0 H0 fp C) [] σ H s) (hn:∀ b∈fp,H b=none):∀ b∈fp,ja (dS X scope cl N s0 H0 fp C) [] H b:=λb hb=>
 ⟨hn b hb,(I.ok.exf b hb).1,I.ok.exfs b hb,.inl hb,(I.ok.exf b hb).2,λp hp=>absurd hp (by simp [dS])⟩
theorem jp (hc:X.calm=true) (Sc:cg X scope cl N cap) (hi:PI X tg iter wi) (hg:∀ s0 H0 ex C,PG (dS X scope cl N s0 H0 ex C) tg g) (he:∀ s0 H0 ex C,PE (dS X scope cl N s0 H0 ex C) elt te)
  (hs:∀ x,foldedSetIterable iter X.env x=pure x:=by intro _; rfl):PE X (.ListComp elt [⟨tg,iter,[],0⟩] scope pos) (wc cap wi g te):=by
 intro DQ s σ H Q I h;rw [eval_ListComp];have hcell:∀ y∈scope.names,y.2≠.cell:=λy hy=>by simpa using Dg.mp Sc.nocell y hy
 have hnames:∀ y∈scope.names,y.2=.local->scope.names.lookup y.1=some .local:=λy hy e=>by
  have:=Dg.mp Sc.names y hy;rw [e] at this
  simpa using this
 refine wpAny_comprehension_free (use:=none) rfl hs Sc.clos Sc.kind hnames (bw (hi DQ s σ H _ I h) λv s1 h1=>bw h1 λitv s2 h2=>?_)
 obtain⟨it,fp,tn,J,H2,e,I2,T,st2,f2,hW⟩:=h2;subst e;refine CP (wpAny_newFunctionEnv hcell (by intro y hy; simp at hy) (λh1 hns hsb=>?_) Sc.kind)
 obtain⟨W,⟨m0,w0⟩,turn⟩:=hW s2.heap.objs.size I2.fresh;dsimp only at hns hsb ⊢
 generalize hD:s2.heap.push {cls:=.type "list",dict:=none,data:=.seq ([]:List Du).toArray}=h1' at hns hsb ⊢
 obtain⟨I3,un3⟩:=jV (tk:=s2.toks+([]:List (Str×Du)).length) Sc I2 f2 (λb hb=>let ⟨o,e,_⟩:=T.obj 0 _ st2 b hb; ⟨o,e⟩) hD hns hsb
 have hC:s2.heap.objs.size<=h1'.objs.size:=by rw [<- hD,Df]; exact Nat.le_succ _
 have k1:∀ b o,s2.heap.get? b=some o->h1.get? b=some o:=λb o e=>by
  have e1:h1'.get? b=some o:=by rw [<- hD]; exact Co _ e
  exact(hsb.2 b (CA (Cs e1))).trans (Co _ e1)
 have st3:tn 0 h1:=T.keep 0 _ _ st2 λb _ o e=>k1 b o e
 have fr3:∀ b∈fp,(aZ H2 s2.heap.objs.size (.lst [])) b=none:=λb hb=>by
  obtain⟨o,e,_⟩:=T.obj 0 _ st2 b hb;rw [az (CA (Cs e))];exact(f2 b hb).1
 have loop:∀ s3:Dt,s3={s2 with heap:=h1,toks:=s2.toks+([]:List (Str×Du)).length}->
   codeAny (model X.prog X.w) X.A (.compLoop (.ListComp elt [⟨tg,iter,[],0⟩] scope pos) 0 (.ref it) (.ref s2.heap.objs.size) (compEnvC scope cl h1'.objs.size X.env))
    (compPost (model X.prog X.w) X.A X.xe none (EP X DQ σ Q) (.ref s2.heap.objs.size) h1'.objs.size) s3:=by
  rintro s3 rfl;refine ii (λn s'=>∃ i σ' H',aw (dS X scope cl N {s2 with heap:=h1'} (aZ H2 s2.heap.objs.size (.lst [])) fp h1'.objs.size) [] σ' H' s'/\tn i s'.heap/\(∀ b∈fp,H' b=none)/\W i n σ' H') ?_ m0 ⟨0,_,_,I3,st3,fr3,w0⟩
  rintro n s3 ⟨i,σ3,H3,I3,st3,fr3,w3⟩;rcases turn i n σ3 H3 w3 with ⟨stop,qn⟩ | ⟨go,Nn,hN,step⟩
  ·refine bw (T.done (dS X scope cl N {s2 with heap:=h1'} (aZ H2 s2.heap.objs.size (.lst [])) fp h1'.objs.size) rfl rfl rfl hc i [] s3 σ3 H3 ma I3 (cY I3 fr3) st3 stop) λr s4 z9=>?_
   obtain⟨hr,I4⟩:=z9;subst hr;obtain⟨m,hm,_⟩:=I4.loc;exact⟨m,hm,λh' sb=>⟨.ref _,H3,kq Sc I2 f2 un3 I4 hC sb,rfl,qn⟩⟩
  ·refine bw (T.item (dS X scope cl N {s2 with heap:=h1'} (aZ H2 s2.heap.objs.size (.lst [])) fp h1'.objs.size) rfl rfl rfl hc i [] s3 σ3 H3 ma I3 (cY I3 fr3) st3 go) λr s4 z9=>?_
   obtain⟨u,hr,h4⟩:=z9;subst hr;refine bw h4 λ_ s5 z9=>?_
   obtain⟨x,H5,I5,r5,y5,st5,fr5⟩:=z9;have I5':=I5.pinned (cY I5 fr5) (T.obj _ _ st5);refine bw (hg _ _ _ _ _ s5 σ3 H5 x u _ I5' r5 (step x H5 y5)) λ_ s6 z9=>?_
   obtain⟨σ6,H6,I6,q6⟩:=z9;refine bw (he _ _ _ _ _ s6 σ6 H6 _ I6 q6) λuv s7 z9=>?_
   obtain⟨v,H7,I7,r7,ys,hy,hl,q7⟩:=z9;refine bw (fV (X:=dS X scope cl N {s2 with heap:=h1'} (aZ H2 s2.heap.objs.size (.lst [])) fp h1'.objs.size) _ s7 σ6 H7 (.ref s2.heap.objs.size) [v] (.ref s2.heap.objs.size) [uv] (λ_ H8=>Nn σ6 H8) I7 rfl (.cons r7 .nil) ⟨_,ys,v,rfl,rfl,hy,hl,q7⟩) λ_ s8 z9=>?_
   obtain⟨_,H8,I8,_,n8⟩:=z9;obtain⟨m',hm,w8⟩:=hN σ6 H8 n8;refine⟨m',hm,i+1,σ6,H8,I8.unpinned,T.keep _ _ _ st5 λb hb o e=>(I8.pin (b,o) (CF _ (CF _ (bO hb e)))).1,λb hb=>?_,w8⟩
   obtain⟨o,e,d⟩:=T.obj _ _ st5 b hb;exact(I8.pin (b,o) (CF _ (CF _ (bO hb e)))).2.1
 exact codeAny_compStart_list (loop _ rfl) (T.self _ 0 _ _ _ st3 (loop _ rfl))
theorem qY (hc:X.calm=true) (Sc:cg X scope cl N cap) (hi:PI X tg iter wi) (hg:∀ s0 H0 ex C,PG (dS X scope cl N s0 H0 ex C) tg g) (hcnd:∀ s0 H0 ex C,PT (dS X scope cl N s0 H0 ex C) c tc) (he:∀ s0 H0 ex C,PE (dS X scope cl N s0 H0 ex C) elt te)
  (hs:∀ x,foldedSetIterable iter X.env x=pure x:=by intro _; rfl):PE X (.ListComp elt [⟨tg,iter,[c],0⟩] scope pos) (vf cap wi g tc te):=by
 intro DQ s σ H Q I h;rw [eval_ListComp];have hcell:∀ y∈scope.names,y.2≠.cell:=λy hy=>by simpa using Dg.mp Sc.nocell y hy
 have hnames:∀ y∈scope.names,y.2=.local->scope.names.lookup y.1=some .local:=λy hy e=>by
  have:=Dg.mp Sc.names y hy;rw [e] at this
  simpa using this
 refine wpAny_comprehension_free (use:=none) rfl hs Sc.clos Sc.kind hnames (bw (hi DQ s σ H _ I h) λv s1 h1=>bw h1 λitv s2 h2=>?_)
 obtain⟨it,fp,tn,J,H2,e,I2,T,st2,f2,hW⟩:=h2;subst e;refine CP (wpAny_newFunctionEnv hcell (by intro y hy; simp at hy) (λh1 hns hsb=>?_) Sc.kind)
 obtain⟨W,⟨m0,w0⟩,turn⟩:=hW s2.heap.objs.size I2.fresh;dsimp only at hns hsb ⊢
 generalize hD:s2.heap.push {cls:=.type "list",dict:=none,data:=.seq ([]:List Du).toArray}=h1' at hns hsb ⊢
 obtain⟨I3,un3⟩:=jV (tk:=s2.toks+([]:List (Str×Du)).length) Sc I2 f2 (λb hb=>let ⟨o,e,_⟩:=T.obj 0 _ st2 b hb; ⟨o,e⟩) hD hns hsb
 have hC:s2.heap.objs.size<=h1'.objs.size:=by rw [<- hD,Df]; exact Nat.le_succ _
 have k1:∀ b o,s2.heap.get? b=some o->h1.get? b=some o:=λb o e=>by
  have e1:h1'.get? b=some o:=by rw [<- hD]; exact Co _ e
  exact(hsb.2 b (CA (Cs e1))).trans (Co _ e1)
 have st3:tn 0 h1:=T.keep 0 _ _ st2 λb _ o e=>k1 b o e
 have fr3:∀ b∈fp,(aZ H2 s2.heap.objs.size (.lst [])) b=none:=λb hb=>by
  obtain⟨o,e,_⟩:=T.obj 0 _ st2 b hb;rw [az (CA (Cs e))];exact(f2 b hb).1
 have loop:∀ s3:Dt,s3={s2 with heap:=h1,toks:=s2.toks+([]:List (Str×Du)).length}->
   codeAny (model X.prog X.w) X.A (.compLoop (.ListComp elt [⟨tg,iter,[c],0⟩] scope pos) 0 (.ref it) (.ref s2.heap.objs.size) (compEnvC scope cl h1'.objs.size X.env))
    (compPost (model X.prog X.w) X.A X.xe none (EP X DQ σ Q) (.ref s2.heap.objs.size) h1'.objs.size) s3:=by
  rintro s3 rfl;refine ms (λn s'=>∃ i σ' H',aw (dS X scope cl N {s2 with heap:=h1'} (aZ H2 s2.heap.objs.size (.lst [])) fp h1'.objs.size) [] σ' H' s'/\tn i s'.heap/\(∀ b∈fp,H' b=none)/\W i n σ' H') ?_ m0 ⟨0,_,_,I3,st3,fr3,w0⟩
  rintro n s3 ⟨i,σ3,H3,I3,st3,fr3,w3⟩;rcases turn i n σ3 H3 w3 with ⟨stop,qn⟩ | ⟨go,Nn,hN,step⟩
  ·refine bw (T.done (dS X scope cl N {s2 with heap:=h1'} (aZ H2 s2.heap.objs.size (.lst [])) fp h1'.objs.size) rfl rfl rfl hc i [] s3 σ3 H3 ma I3 (cY I3 fr3) st3 stop) λr s4 z9=>?_
   obtain⟨hr,I4⟩:=z9;subst hr;obtain⟨m,hm,_⟩:=I4.loc;exact⟨m,hm,λh' sb=>⟨.ref _,H3,kq Sc I2 f2 un3 I4 hC sb,rfl,qn⟩⟩
  ·refine bw (T.item (dS X scope cl N {s2 with heap:=h1'} (aZ H2 s2.heap.objs.size (.lst [])) fp h1'.objs.size) rfl rfl rfl hc i [] s3 σ3 H3 ma I3 (cY I3 fr3) st3 go) λr s4 z9=>?_
   obtain⟨u,hr,h4⟩:=z9;subst hr;refine bw h4 λ_ s5 z9=>?_
   obtain⟨x,H5,I5,r5,y5,st5,fr5⟩:=z9;have I5':=I5.pinned (cY I5 fr5) (T.obj _ _ st5);refine bw (hg _ _ _ _ _ s5 σ3 H5 x u _ I5' r5 (step x H5 y5)) λ_ s6 z9=>?_
   obtain⟨σ6,H6,I6,q6⟩:=z9;have again:∀ {s8:Dt} {H8:Hp},aw (dS X scope cl N {s2 with heap:=h1'} (aZ H2 s2.heap.objs.size (.lst [])) fp h1'.objs.size) ([]++jE fp s5.heap) σ6 H8 s8->Nn σ6 H8->
     ∃ m,m < n/\∃ i σ' H',aw (dS X scope cl N {s2 with heap:=h1'} (aZ H2 s2.heap.objs.size (.lst [])) fp h1'.objs.size) [] σ' H' s8/\tn i s8.heap/\(∀ b∈fp,H' b=none)/\W i m σ' H':=λ{s8 H8} I8 n8=>by
    obtain⟨m',hm,w8⟩:=hN σ6 H8 n8;refine⟨m',hm,i+1,σ6,H8,I8.unpinned,T.keep _ _ _ st5 λb hb o e=>(I8.pin (b,o) (CF _ (CF _ (bO hb e)))).1,λb hb=>?_,w8⟩
    obtain⟨o,e,d⟩:=T.obj _ _ st5 b hb;exact(I8.pin (b,o) (CF _ (CF _ (bO hb e)))).2.1
   refine bw (hcnd _ _ _ _ _ s6 σ6 H6 _ I6 q6) λb s6' z9=>?_
   obtain⟨H6',I6',q6'⟩:=z9;cases b with
   | true=>
    rw [if_pos rfl] at q6' ⊢;refine bw (he _ _ _ _ _ s6' σ6 H6' _ I6' q6') λuv s7 z9=>?_
    obtain⟨v,H7,I7,r7,ys,hy,hl,q7⟩:=z9;refine bw (fV (X:=dS X scope cl N {s2 with heap:=h1'} (aZ H2 s2.heap.objs.size (.lst [])) fp h1'.objs.size) _ s7 σ6 H7 (.ref s2.heap.objs.size) [v] (.ref s2.heap.objs.size) [uv] (λ_ H8=>Nn σ6 H8) I7 rfl (.cons r7 .nil) ⟨_,ys,v,rfl,rfl,hy,hl,q7⟩) λ_ s8 z9=>?_
    obtain⟨_,H8,I8,_,n8⟩:=z9;exact again I8 n8
   | false=>
    rw [if_neg Cw] at q6' ⊢;exact again I6' q6'
 exact codeAny_compStart_list (loop _ rfl) (T.self _ 0 _ _ _ st3 (loop _ rfl))
end
end L2
namespace DL
open PySem PySem.Spec PyProof.Rows L2
abbrev Fg:=PySem.W.Frag
inductive Ty where
 | non | bool | int | str | tup | lst | dic | verr
def Ty.name:Ty->DN
 | .non=>"NoneType" | .bool=>"bool" | .int=>"int" | .str=>"str" | .tup=>"tuple" | .lst=>"list" | .dic=>"dict" | .verr=>"ValueError"
inductive D where
 | non | bl (b:DM) | int (i:Int) | str (x:Str) | tup (ds:List D) | rl (ds:List D) | ref (a:Dv) | ty (n:Ty)
def yF (K:Fg) (H:Hp) (a:Dv) (xs:List V):Prop:=
 (∃ o,H a=some (.frz o (.lst xs)))\/∃ (o:DP) (its:DJ Du) (n:Nat),K.lookup a=some o/\o.cls=.type "list"/\o.dict=none/\o.data=.seq its n/\its.size<=sizeLine/\aF xs its.toList
theorem yF.sq {K:Fg} {H:Hp} {a:Dv} {xs:List V} (h:yF K H a xs):dO K H a xs:=by
 rcases h with h | h
 ·exact .inl (.inr h)
 ·exact .inr h
mutual
def a_ (K:Fg) (H:Hp):D->V->Prop
 | .non,v=>v=.non
 | .bl b,v=>v=.bl b
 | .int i,v=>v=.int i
 | .str x,v=>v=.str x
 | .tup ds,v=>∃ a xs,v=.ref a/\e_ K H a xs/\IsDs K H ds xs
 | .rl ds,v=>∃ a xs,v=.ref a/\yF K H a xs/\IsDs K H ds xs
 | .ref a,v=>v=.ref a
 | .ty n,v=>v=.ty n.name
def IsDs (K:Fg) (H:Hp):List D->List V->Prop
 | [],vs=>vs=[]
 | d::ds,vs=>∃ v r,vs=v::r/\a_ K H d v/\IsDs K H ds r
end
def Bv:HO->Prop
 | .tup _=>True
 | .frz _ _=>True
 | _=>False
def Kp (H H':Hp):Prop:=∀ a o,H a=some o->Bv o->H' a=some o
theorem Kp.refl (H:Hp):Kp H H:=λ_ _ h _=>h
theorem Kp.trans {H H1 H2:Hp} (a:Kp H H1) (b:Kp H1 H2):Kp H H2:=λc o h i=>b c o (a c o h i) i
theorem Kp.tup {K:Fg} {H H':Hp} {a:Dv} {xs:List V} (k:Kp H H') (h:e_ K H a xs):e_ K H' a xs:=by
 rcases h with (h | ⟨o,h⟩) | h
 ·exact .inl (.inl (k _ _ h trivial))
 ·exact .inl (.inr ⟨o,k _ _ h trivial⟩)
 ·exact .inr h
theorem Kp.fro {K:Fg} {H H':Hp} {a:Dv} {xs:List V} (k:Kp H H') (h:yF K H a xs):yF K H' a xs:=by
 rcases h with ⟨o,h⟩ | h
 ·exact .inl ⟨o,k _ _ h trivial⟩
 ·exact .inr h
theorem Kp.new {H:Hp} {p:Dv} {o:HO} (h:H p=none):Kp H (aZ H p o):=λb u e _=>by rw [az (bi e h)]; exact e
theorem Kp.mut {H:Hp} {p:Dv} {o u:HO} (h:H p=some u) (n:¬ Bv u):Kp H (aZ H p o):=λb z e i=>by
 rw [az (λq=>by subst q; rw [h] at e; cases e; exact n i)]; exact e
mutual
theorem a_.kp {K:Fg} {H H':Hp} (k:Kp H H'):∀ {d:D} {v:V},a_ K H d v->a_ K H' d v
 | .non,_,h=>by unfold a_ at *; exact h
 | .bl _,_,h=>by unfold a_ at *; exact h
 | .int _,_,h=>by unfold a_ at *; exact h
 | .str _,_,h=>by unfold a_ at *; exact h
 | .ref _,_,h=>by unfold a_ at *; exact h
 | .ty _,_,h=>by unfold a_ at *; exact h
 | .tup ds,_,h=>by
  unfold a_ at*
  obtain⟨a,xs,e,t,r⟩:=h;exact⟨a,xs,e,k.tup t,IsDs.kp k r⟩
 | .rl ds,_,h=>by
  unfold a_ at*
  obtain⟨a,xs,e,t,r⟩:=h;exact⟨a,xs,e,k.fro t,IsDs.kp k r⟩
theorem IsDs.kp {K:Fg} {H H':Hp} (k:Kp H H'):∀ {ds:List D} {vs:List V},IsDs K H ds vs->IsDs K H' ds vs
 | [],_,h=>by unfold IsDs at *; exact h
 | d::ds,_,h=>by
  unfold IsDs at*
  obtain⟨v,r,e,h1,h2⟩:=h;exact⟨v,r,e,a_.kp k h1,IsDs.kp k h2⟩
end
section
variable {K:Fg} {H:Hp}
theorem isInt {i:Int} {v:V}:a_ K H (.int i) v↔v=.int i:=by unfold a_; exact Iff.rfl
theorem a9 {b:DM} {v:V}:a_ K H (.bl b) v↔v=.bl b:=by unfold a_; exact Iff.rfl
theorem cS {b:Str} {v:V}:a_ K H (.str b) v↔v=.str b:=by unfold a_; exact Iff.rfl
theorem bE {v:V}:a_ K H .non v↔v=.non:=by unfold a_; exact Iff.rfl
theorem a8 {a:Dv} {v:V}:a_ K H (.ref a) v↔v=.ref a:=by unfold a_; exact Iff.rfl
theorem A4 {a:Ty} {v:V}:a_ K H (.ty a) v↔v=.ty a.name:=by unfold a_; exact Iff.rfl
theorem aT {ds:List D} {v:V}:a_ K H (.tup ds) v↔∃ a xs,v=.ref a/\e_ K H a xs/\IsDs K H ds xs:=by unfold a_; exact Iff.rfl
theorem m_ {ds:List D} {v:V}:a_ K H (.rl ds) v↔∃ a xs,v=.ref a/\yF K H a xs/\IsDs K H ds xs:=by unfold a_; exact Iff.rfl
theorem di {vs:List V}:IsDs K H [] vs↔vs=[]:=by unfold IsDs; exact Iff.rfl
theorem bh {d:D} {ds:List D} {vs:List V}:IsDs K H (d::ds) vs↔∃ v r,vs=v::r/\a_ K H d v/\IsDs K H ds r:=by
 constructor
 ·intro h; unfold IsDs at h; exact h
 ·intro h; unfold IsDs; exact h
theorem IsDs.nil:IsDs K H [] []:=di.mpr rfl
theorem IsDs.cons {d:D} {ds:List D} {v:V} {vs:List V} (h1:a_ K H d v) (h2:IsDs K H ds vs):IsDs K H (d::ds) (v::vs):=bh.mpr ⟨v,vs,rfl,h1,h2⟩
theorem IsDs.length:∀ {ds:List D} {vs:List V},IsDs K H ds vs->ds.length=vs.length
 | [],_,h=>by rw [di.mp h]; rfl
 | d::ds,_,h=>by
  obtain⟨v,r,rfl,_,h2⟩:=bh.mp h;rw [CH,CH,IsDs.length h2]
theorem IsDs.get:∀ {ds:List D} {vs:List V} {i:Nat} {d:D},IsDs K H ds vs->ds[i]?=some d->∃ v,vs[i]?=some v/\a_ K H d v
 | [],_,_,_,_,e=>by simp at e
 | c::ds,_,0,d,h,e=>by
  obtain⟨v,r,rfl,h1,h2⟩:=bh.mp h;simp at e;subst e;exact⟨v,rfl,h1⟩
 | c::ds,_,i+1,d,h,e=>by
  obtain⟨v,r,rfl,h1,h2⟩:=bh.mp h;obtain⟨u,q1,q2⟩:=IsDs.get (i:=i) (d:=d) h2 (by simpa using e)
  exact⟨u,by simpa using q1,q2⟩
theorem IsDs.set:∀ {ds:List D} {vs:List V} {d:D} {v:V} (i:Nat),IsDs K H ds vs->a_ K H d v->IsDs K H (ds.set i d) (vs.set i v)
 | [],_,_,_,_,h,_=>by rw [di.mp h]; exact IsDs.nil
 | c::ds,_,d,v,0,h,hd=>by
  obtain⟨u,r,rfl,h1,h2⟩:=bh.mp h;exact IsDs.cons hd h2
 | c::ds,_,d,v,i+1,h,hd=>by
  obtain⟨u,r,rfl,h1,h2⟩:=bh.mp h;exact IsDs.cons h1 (IsDs.set i h2 hd)
theorem IsDs.append:∀ {ds es:List D} {vs us:List V},IsDs K H ds vs->IsDs K H es us->IsDs K H (ds++es) (vs++us)
 | [],_,_,_,h,h'=>by rw [di.mp h]; exact h'
 | c::ds,_,_,_,h,h'=>by
  obtain⟨u,r,rfl,h1,h2⟩:=bh.mp h;exact IsDs.cons h1 (IsDs.append h2 h')
theorem IsDs.drop:∀ {ds:List D} {vs:List V} (n:Nat),IsDs K H ds vs->IsDs K H (ds.drop n) (vs.drop n)
 | _,_,0,h=>h
 | [],_,n+1,h=>by rw [di.mp h]; exact IsDs.nil
 | c::ds,_,n+1,h=>by
  obtain⟨u,r,rfl,h1,h2⟩:=bh.mp h;exact IsDs.drop n h2
theorem IsDs.take:∀ {ds:List D} {vs:List V} (n:Nat),IsDs K H ds vs->IsDs K H (ds.take n) (vs.take n)
 | _,_,0,h=>by simpa using IsDs.nil
 | [],_,n+1,h=>by rw [di.mp h]; exact IsDs.nil
 | c::ds,_,n+1,h=>by
  obtain⟨u,r,rfl,h1,h2⟩:=bh.mp h;exact IsDs.cons h1 (IsDs.take n h2)
end
def yW (ks:List Int):Int:=reduceHash (Builtin.Tuple.tupleHashOf (ks.map hashInt))
def eT (x:List Int×Dv×Du):DictEntry:=⟨yW x.1,.ref x.2.1,x.2.2⟩
def Cb (es:DJ DictEntry) (ep:Nat):DP:={cls:=.type "dict",dict:=none,data:=.dict es ep,slots:=#[]}
def B3 (a:Dv) (xs:List (List Int×Dv×Du)) (ep:Nat):DD->Prop:=λh=>(a == sysModules)=false/\xs.length<=sizeLine/\(xs.map (·.1)).Nodup/\h.get? a=some (Cb (xs.map eT).toArray ep)
inductive AE where
 | dT (kvs:List (List Int×D)) (ep:Nat)
 | dK (kvs:List (mZ×D))
abbrev Ax (K:Fg) (H:Hp):List (List Int×D)->List (List Int×Dv×Du)->Prop:=Paired λp q=>p.1=q.1/\e_ K H q.2.1 (p.1.map V.int)/\∃ v,aS v q.2.2/\a_ K H p.2 v
def mV (K:Fg) (H:Hp) (a:Dv):AE->Prop
 | .dT kvs ep=>∃ xs,H a=some (.ext (B3 a xs ep))/\Ax K H kvs xs
 | .dK kvs=>∃ ys,H a=some (.dK ys)/\Paired (λ(p:mZ×D) (q:mZ×V)=>p.1=q.1/\a_ K H p.2 q.2) kvs ys
theorem Ax.kp {K:Fg} {H H':Hp} {kvs:List (List Int×D)} {xs:List (List Int×Dv×Du)} (r:Ax K H kvs xs) (k:Kp H H'):Ax K H' kvs xs:=
 Paired.mapP r λ_ _ z9=>by obtain⟨a,b,v,c,d⟩:=z9; exact⟨a,k.tup b,v,c,d.kp k⟩
theorem mV.there {K:Fg} {H:Hp} {a:Dv} {g:AE} (h:mV K H a g):∃ o,H a=some o/\¬ Bv o:=by
 cases g with
 | dT kvs ep=>obtain⟨xs,e,_⟩:=h; exact⟨_,e,λz=>z⟩
 | dK kvs=>obtain⟨xs,e,_⟩:=h; exact⟨_,e,λz=>z⟩
theorem mV.step {K:Fg} {H H':Hp} {a:Dv} {g:AE} (h:mV K H a g) (k:Kp H H') (s:H' a=H a):mV K H' a g:=by
 cases g with
 | dT kvs ep=>obtain⟨xs,e,r⟩:=h; exact⟨xs,s.trans e,r.kp k⟩
 | dK kvs=>obtain⟨xs,e,r⟩:=h; exact⟨xs,s.trans e,Paired.mapP r λ_ _ z=>⟨z.1,z.2.kp k⟩⟩
inductive DO where
 | lst (ds:List D)
 | dic
 | exc (C:Dv)
 | fn (φ:Hp->Prop)
 | tbl (ψ:Hp->DJ Du->Prop)
 | gen (g:AE)
abbrev DH:=Dv->Dw DO
def put (S:DH) (a:Dv) (o:DO):DH:=λb=>if b=a then some o else S b
theorem am {S:DH} {a:Dv} {o:DO}:put S a o a=some o:=by unfold put; rw [if_pos rfl]
theorem aG {S:DH} {a b:Dv} {o:DO} (h:b≠a):put S a o b=S b:=by unfold put; rw [if_neg h]
theorem mX {S:DH} {a:Dv} {o u:DO}:put (put S a o) a u=put S a u:=by funext b; unfold put; split <;> rfl
theorem tL {S:DH} {a p:Dv} {o:DO} (h:S a=some o) (h':S p=none):a≠p:=by intro e; subst e; rw [h] at h'; cases h'
def A9 (K:Fg) (H:Hp) (a:Dv):DO->Prop
 | .lst ds=>∃ xs,H a=some (.lst xs)/\IsDs K H ds xs
 | .dic=>∃ kvs,H a=some (.dK kvs)
 | .exc C=>∃ o u,H a=some (.frz o u)/\o.cls=.ref C
 | .fn φ=>(∃ o u,H a=some (.frz o u))/\∀ H',Kp H H'->φ H'
 | .tbl ψ=>∃ ps,H a=some (.tbl ps)/\∀ H',Kp H H'->ψ H' ps
 | .gen g=>mV K H a g
def Hs (K:Fg) (H:Hp) (S:DH):Prop:=∀ a o,S a=some o->A9 K H a o
section
variable {K:Fg} {H H':Hp} {S:DH} {p:Dv}
theorem Hs.lst {ds:List D} (h:Hs K H S) (e:S p=some (.lst ds)):∃ xs,H p=some (.lst xs)/\IsDs K H ds xs:=h p _ e
theorem Hs.free (h:Hs K H S) (e:H p=none):S p=none:=by
 cases q:S p with
 | none=>rfl
 | some o=>
  have z:=h p o q;cases o with
  | lst ds=>obtain⟨xs,z,_⟩:=z; rw [e] at z; cases z
  | dic=>obtain⟨xs,z⟩:=z; rw [e] at z; cases z
  | exc C=>obtain⟨_,_,z,_⟩:=z; rw [e] at z; cases z
  | fn φ=>obtain⟨⟨_,_,z⟩,_⟩:=z; rw [e] at z; cases z
  | tbl ψ=>obtain⟨_,z,_⟩:=z; rw [e] at z; cases z
  | gen g=>obtain⟨_,z,_⟩:=mV.there z; rw [e] at z; cases z
theorem Hs.step (h:Hs K H S) (k:Kp H H') (s:∀ a o,S a=some o->H' a=H a):Hs K H' S:=λa o e=>by
 have z:=h a o e;cases o with
 | lst ds=>obtain⟨xs,z,r⟩:=z; exact⟨xs,by rw [s a _ e]; exact z,r.kp k⟩
 | dic=>obtain⟨xs,z⟩:=z; exact⟨xs,by rw [s a _ e]; exact z⟩
 | exc C=>obtain⟨x,y,z,r⟩:=z; exact⟨x,y,by rw [s a _ e]; exact z,r⟩
 | fn φ=>obtain⟨⟨x,y,z⟩,r⟩:=z; exact⟨⟨x,y,by rw [s a _ e]; exact z⟩,λH2 k2=>r H2 (k.trans k2)⟩
 | tbl ψ=>obtain⟨ps,z,r⟩:=z; exact⟨ps,by rw [s a _ e]; exact z,λH2 k2=>r H2 (k.trans k2)⟩
 | gen g=>exact mV.step z k (s a _ e)
theorem Hs.new {o:HO} (h:Hs K H S) (e:H p=none):Hs K (aZ H p o) S:=h.step (Kp.new e) λa u q=>by
 rw [az]; intro z; subst z; rw [h.free e] at q; cases q
theorem Hs.newL {xs:List V} {ds:List D} (h:Hs K H S) (e:H p=none) (r:IsDs K H ds xs):Hs K (aZ H p (.lst xs)) (put S p (.lst ds)):=λa o q=>by
 by_cases z:a=p
 ·subst z;rw [am] at q;cases q;exact⟨xs,br,r.kp (Kp.new e)⟩
 ·rw [aG z] at q;exact(h.new e) a o q
theorem Hs.setL {xs ys:List V} {ds:List D} (h:Hs K H S) (e:H p=some (.lst xs)) (r:IsDs K H ds ys):Hs K (aZ H p (.lst ys)) (put S p (.lst ds)):=λa o q=>by
 have k:Kp H (aZ H p (.lst ys)):=Kp.mut e (λz=>z)
 by_cases z:a=p
 ·subst z;rw [am] at q;cases q;exact⟨ys,br,r.kp k⟩
 ·rw [aG z] at q;have w:=h a o q;cases o with
  | lst ds=>obtain⟨xs,w,r⟩:=w; exact⟨xs,by rw [az z]; exact w,r.kp k⟩
  | dic=>obtain⟨xs,w⟩:=w; exact⟨xs,by rw [az z]; exact w⟩
  | exc C=>obtain⟨x,y,w,r⟩:=w; exact⟨x,y,by rw [az z]; exact w,r⟩
  | fn φ=>obtain⟨⟨x,y,w⟩,r⟩:=w; exact⟨⟨x,y,by rw [az z]; exact w⟩,λH2 k2=>r H2 (k.trans k2)⟩
  | tbl ψ=>obtain⟨ps,w,r⟩:=w; exact⟨ps,by rw [az z]; exact w,λH2 k2=>r H2 (k.trans k2)⟩
  | gen g=>exact mV.step w k (az z)
end
abbrev Lo:=List (Dw D)
def Lc (K:Fg) (H:Hp):Lo->L2.St->Prop
 | [],σ=>σ=[]
 | none::L,σ=>∃ x r,σ=x::r/\Lc K H L r
 | some d::L,σ=>∃ v r,σ=some v::r/\a_ K H d v/\Lc K H L r
section
variable {K:Fg} {H H':Hp}
theorem Lc.kp (k:Kp H H'):∀ {L:Lo} {σ:L2.St},Lc K H L σ->Lc K H' L σ
 | [],_,h=>h
 | none::L,_,h=>by
  obtain⟨x,r,e,h⟩:=h;exact⟨x,r,e,Lc.kp k h⟩
 | some d::L,_,h=>by
  obtain⟨v,r,e,h1,h⟩:=h;exact⟨v,r,e,h1.kp k,Lc.kp k h⟩
theorem Lc.get:∀ {L:Lo} {σ:L2.St} {i:Nat} {d:D},Lc K H L σ->L[i]?=some (some d)->∃ v,σ[i]?=some (some v)/\a_ K H d v
 | [],_,_,_,_,e=>by simp at e
 | none::L,_,0,_,_,e=>by simp at e
 | some c::L,_,0,d,h,e=>by
  obtain⟨v,r,rfl,h1,h⟩:=h;simp at e;subst e;exact⟨v,rfl,h1⟩
 | none::L,_,i+1,d,h,e=>by
  obtain⟨x,r,rfl,h⟩:=h;obtain⟨u,q1,q2⟩:=Lc.get (i:=i) (d:=d) h (by simpa using e)
  exact⟨u,by simpa using q1,q2⟩
 | some c::L,_,i+1,d,h,e=>by
  obtain⟨v,r,rfl,_,h⟩:=h;obtain⟨u,q1,q2⟩:=Lc.get (i:=i) (d:=d) h (by simpa using e)
  exact⟨u,by simpa using q1,q2⟩
theorem Lc.set {d:D} {v:V} (hd:a_ K H d v):∀ {L:Lo} {σ:L2.St} (i:Nat),Lc K H L σ->Lc K H (L.set i (some d)) (σ.set i (some v))
 | [],_,_,h=>by
  have e:_=[]:=h;subst e;exact rfl
 | none::L,_,0,h=>by
  obtain⟨x,r,rfl,h⟩:=h;exact⟨v,r,rfl,hd,h⟩
 | some c::L,_,0,h=>by
  obtain⟨x,r,rfl,_,h⟩:=h;exact⟨v,r,rfl,hd,h⟩
 | none::L,_,i+1,h=>by
  obtain⟨x,r,rfl,h⟩:=h;exact⟨x,r.set i (some v),rfl,Lc.set hd i h⟩
 | some c::L,_,i+1,h=>by
  obtain⟨x,r,rfl,h1,h⟩:=h;exact⟨x,r.set i (some v),rfl,h1,Lc.set hd i h⟩
theorem Lc.none:∀ (n:Nat),Lc K H (List.replicate n .none) (List.replicate n .none)
 | 0=>rfl
 | n+1=>⟨_,_,rfl,Lc.none n⟩
theorem Lc.start:∀ {ds:List D} {vs:List V} (n:Nat),IsDs K H ds vs->Lc K H (ds.map some++List.replicate n .none) (vs.map some++List.replicate n .none)
 | [],_,n,h=>by rw [di.mp h]; exact Lc.none n
 | d::ds,_,n,h=>by
  obtain⟨v,r,rfl,h1,h2⟩:=bh.mp h;exact⟨v,_,rfl,h1,Lc.start n h2⟩
end
abbrev DK:=D->DH->Prop
abbrev DE:=Lo->DH->DK->Prop
abbrev DT:=Lo->DH->(DM->DH->Prop)->Prop
abbrev DA:=Lo->DH->(List D->DH->Prop)->Prop
structure im where
 nx:Lo->DH->Prop
 rt:DK
 bk:Lo->DH->Prop:=λ_ _=>False
 ct:Lo->DH->Prop:=λ_ _=>False
abbrev DS:=im->Lo->DH->Prop
def up (K:Fg) (g:DE):TE:=fun σ H Q=>∃ L S k,Lc K H L σ/\Hs K H S/\g L S k/\∀ d S' v H',k d S'->Kp H H'->Hs K H' S'->a_ K H' d v->Q v H'
def qU (K:Fg) (g:DT):TT:=fun σ H Q=>∃ L S k,Lc K H L σ/\Hs K H S/\g L S k/\∀ b S' H',k b S'->Kp H H'->Hs K H' S'->Q b H'
def lI (K:Fg) (g:DA):TA:=fun σ H Q=>∃ L S k,Lc K H L σ/\Hs K H S/\g L S k/\∀ ds S' vs H',k ds S'->Kp H H'->Hs K H' S'->IsDs K H' ds vs->Q vs H'
structure uK (K:Fg) (H:Hp) (M:im) (N:kC):Prop where
 nx:∀ L S σ H',M.nx L S->Kp H H'->Lc K H' L σ->Hs K H' S->N.nx σ H'
 rt:∀ d S v H',M.rt d S->Kp H H'->Hs K H' S->a_ K H' d v->N.rt v H'
 bk:∀ L S σ H',M.bk L S->Kp H H'->Lc K H' L σ->Hs K H' S->N.bk σ H'
 ct:∀ L S σ H',M.ct L S->Kp H H'->Lc K H' L σ->Hs K H' S->N.ct σ H'
theorem uK.kp {K:Fg} {H H1:Hp} {M:im} {N:kC} (r:uK K H M N) (k:Kp H H1):uK K H1 M N:=
 ⟨λL S σ H' h k'=>r.nx L S σ H' h (k.trans k'),λd S v H' h k'=>r.rt d S v H' h (k.trans k'),λL S σ H' h k'=>r.bk L S σ H' h (k.trans k'),λL S σ H' h k'=>r.ct L S σ H' h (k.trans k')⟩
def vm (K:Fg) (g:DS):TS:=λN σ H=>∃ L S M,Lc K H L σ/\Hs K H S/\g M L S/\uK K H M N
theorem PE.imp {X:Cx} {e:Dx} {t t':TE} (h:PE X e t) (i:∀ σ H Q,t' σ H Q->t σ H Q):PE X e t':=λDQ s σ H Q I q=>h DQ s σ H Q I (i σ H Q q)
theorem PT.imp {X:Cx} {e:Dx} {t t':TT} (h:PT X e t) (i:∀ σ H Q,t' σ H Q->t σ H Q):PT X e t':=λDQ s σ H Q I q=>h DQ s σ H Q I (i σ H Q q)
theorem PW.imp {X:Cx} {e:Dx} {t t':TT} (h:PW X e t) (i:∀ σ H Q,t' σ H Q->t σ H Q):PW X e t':=λw DQ s σ H Q I q=>h w DQ s σ H Q I (i σ H Q q)
theorem PA.imp {X:Cx} {e:List Dx} {t t':TA} (h:PA X e t) (i:∀ σ H Q,t' σ H Q->t σ H Q):PA X e t':=λpos DQ s σ H Q I q=>h pos DQ s σ H Q I (i σ H Q q)
theorem PS.imp {X:Cx} {e:DF} {t t':TS} (h:PS X e t) (i:∀ N σ H,t' N σ H->t N σ H):PS X e t':=λDQ s σ H Q I q=>h DQ s σ H Q I (i Q σ H q)
theorem lE.imp {X:Cx} {e:List DF} {t t':TS} (h:lE X e t) (i:∀ N σ H,t' N σ H->t N σ H):lE X e t':=λDQ s σ H Q I q=>h DQ s σ H Q I (i Q σ H q)
theorem up.go {K:Fg} {g:DE} {σ:L2.St} {H:Hp} {Q:VK} {L:Lo} {S:DH} {k:DK} (hL:Lc K H L σ) (hS:Hs K H S) (h:g L S k)
  (n:∀ d S' v H',k d S'->Kp H H'->Lc K H' L σ->Hs K H' S'->a_ K H' d v->Q v H'):up K g σ H Q:=
 ⟨L,S,k,hL,hS,h,λd S' v H' a b c e=>n d S' v H' a b (hL.kp b) c e⟩
theorem qU.go {K:Fg} {g:DT} {σ:L2.St} {H:Hp} {Q:DM->Hp->Prop} {L:Lo} {S:DH} {k:DM->DH->Prop} (hL:Lc K H L σ) (hS:Hs K H S) (h:g L S k)
  (n:∀ b S' H',k b S'->Kp H H'->Lc K H' L σ->Hs K H' S'->Q b H'):qU K g σ H Q:=
 ⟨L,S,k,hL,hS,h,λb S' H' a c e=>n b S' H' a c (hL.kp c) e⟩
theorem lI.go {K:Fg} {g:DA} {σ:L2.St} {H:Hp} {Q:List V->Hp->Prop} {L:Lo} {S:DH} {k:List D->DH->Prop} (hL:Lc K H L σ) (hS:Hs K H S) (h:g L S k)
  (n:∀ ds S' vs H',k ds S'->Kp H H'->Lc K H' L σ->Hs K H' S'->IsDs K H' ds vs->Q vs H'):lI K g σ H Q:=
 ⟨L,S,k,hL,hS,h,λd S' v H' a b c e=>n d S' v H' a b (hL.kp b) c e⟩
section
variable {X:Cx} {a b c:Dx} {ga gb gc:DE} {pos:Pos}
def v4 (i:Nat):DE:=λL S k=>match L[i]? with
 | some (some d)=>k d S
 | _=>False
def dC (d:D):DE:=λ_ S k=>k d S
theorem yB {e:Dx} {d:D} {v:V} (h:PE X e (tC v)) (hd:∀ H,a_ X.K H d v):PE X e (up X.K (dC d)):=
 PE.imp h fun σ H Q z9=>by obtain⟨L,S,k,hL,hS,h,n⟩:=z9; exact n d S v H h (Kp.refl H) hS (hd H)
def wm:Dx->DM
 | .Starred _ _=>true
 | _=>false
theorem bf {a:Dx} {es:List Dx} {env:Env} (h:wm a=false):starEach (a::es) env=(false,eval a env)::starEach es env:=by
 cases a <;> first | rfl | cases h
theorem cK {pos:Pos} {env:Env}:∀ {es:List Dx},(es.all λe=>!wm e)=true->(backTo pos (starEach es env)).any (·.1)=false
 | [],_=>rfl
 | e::es,h=>by
  rw [List.all_cons,C0] at h;rw [bf (by simpa using h.1)]
  exact cK h.2
def Bl:DA:=λ_ S k=>k [] S
def wx (g:DE) (t:DA):DA:=λL S k=>g L S λd S1=>t L S1 λds S2=>k (d::ds) S2
def A_ (t:DA):DE:=λL S k=>t L S λds S1=>ds.length<=sizeLine/\k (.tup ds) S1
def Bi (t:DA):DE:=λL S k=>t L S λds S1=>ds.length<=sizeLine/\∀ p,S1 p=none->k (.ref p) (put S1 p (.lst ds))
abbrev D2:=D->D->DH->DK->Prop
def fQ (K:Fg) (r:D2):R2:=λx y H Q=>∃ d e S k,a_ K H d x/\a_ K H e y/\Hs K H S/\r d e S k/\∀ d' S' v H',k d' S'->Kp H H'->Hs K H' S'->a_ K H' d' v->Q v H'
def yD (r:D2) (ga gb:DE):DE:=λL S k=>ga L S λx S1=>gb L S1 λy S2=>r x y S2 k
theorem mz {K:Fg} {r:D2}:∀ σ H Q,up K (yD r ga gb) σ H Q->yM (fQ K r) (up K ga) (up K gb) σ H Q:=fun σ H Q ⟨L,S,k,hL,hS,h,n⟩=>
 up.go hL hS h λd S1 v H1 h1 k1 hL1 hS1 i1=>up.go hL1 hS1 h1 λe S2 u H2 h2 k2 hL2 hS2 i2=>
  ⟨d,e,S2,k,i1.kp k2,i2,hS2,h2,λd' S' v H' q k3 z1 z2=>n d' S' v H' q (k1.trans (k2.trans k3)) z1 z2⟩
abbrev D1:=D->DH->DK->Prop
def BP (K:Fg) (r:D1):V->Hp->VK->Prop:=λx H Q=>∃ d S k,a_ K H d x/\Hs K H S/\r d S k/\∀ d' S' v H',k d' S'->Kp H H'->Hs K H' S'->a_ K H' d' v->Q v H'
def Cc (r:D1) (ga:DE):DE:=λL S k=>ga L S λx S1=>r x S1 k
def sj (g:DE):DT:=λL S k=>g L S λd S1=>match d with
 | .bl c=>k c S1
 | _=>False
theorem nL {K:Fg} {g:DE}:∀ σ H Q,qU K (sj g) σ H Q->wf (up K g) σ H Q:=fun σ H Q ⟨L,S,k,hL,hS,h,n⟩=>
 up.go hL hS h λd S1 v H1 h1 k1 hL1 hS1 i1=>by
  cases d with
  | bl c=>
   have e:=a9.mp i1;subst e;exact⟨c,rfl,n c S1 H1 h1 k1 hS1⟩
  | _=>exact(show False from h1).elim
variable {tA tB':DT} {bn:List Dx}
def zS (t u:DT):DT:=λL S k=>t L S λc S1=>if c=true then u L S1 k else k false S1
def AZ (t u:DT):DT:=λL S k=>t L S λc S1=>if c=true then k true S1 else u L S1 k
end
section
variable {X:Cx}
theorem gE {K:Fg} {H:Hp} {S:DH} {k:DK} {Q:VK} {d:D} {v:V} (n:∀ d' S' v H',k d' S'->Kp H H'->Hs K H' S'->a_ K H' d' v->Q v H') (hS:Hs K H S) (h:k d S) (i:a_ K H d v):Q v H:=n d S v H h (Kp.refl H) hS i
def Ag (C:Int->Int->Prop) (g:Int->Int->D):D2:=λd e S k=>match d,e with
 | .int i,.int j=>C i j/\k (g i j) S
 | _,_=>False
theorem v8 {f:Du->Du->Sem Du} {C:Int->Int->Prop} {g:Int->Int->D} {gV:Int->Int->V} (ho:cP X f (rI C gV)) (hg:∀ i j H,a_ X.K H (g i j) (gV i j)):cP X f (fQ X.K (Ag C g)):=by
 intro DQ s σ H x y v u Q I rx ry h;obtain⟨d,e,S,k,i1,i2,hS,r,n⟩:=h;cases d with
 | int i=>
  cases e with
  | int j=>
   have e1:=isInt.mp i1;have e2:=isInt.mp i2;subst e1;subst e2;exact ho DQ s σ H _ _ v u Q I rx ry ⟨i,j,rfl,rfl,r.1,gE n hS r.2 (hg i j H)⟩
  | _=>exact(show False from r).elim
 | _=>exact(show False from r).elim
def sS (g:Int->Int->D):D2:=λd e S k=>match d,e with
 | .int i,.int j=>k (g i j) S
 | _,_=>False
theorem pM {f:Du->Du->Sem Du} {g:Int->Int->D} {gV:Int->Int->V} (ho:cP X f (wH gV)) (hg:∀ i j H,a_ X.K H (g i j) (gV i j)):cP X f (fQ X.K (sS g)):=by
 intro DQ s σ H x y v u Q I rx ry h;obtain⟨d,e,S,k,i1,i2,hS,r,n⟩:=h;cases d with
 | int i=>
  cases e with
  | int j=>
   have e1:=isInt.mp i1;have e2:=isInt.mp i2;subst e1;subst e2;exact ho DQ s σ H _ _ v u Q I rx ry ⟨i,j,rfl,rfl,gE n hS r (hg i j H)⟩
  | _=>exact(show False from r).elim
 | _=>exact(show False from r).elim
def qp (i j:Int):Prop:=j≠0/\j.natAbs.log2 < 9000
abbrev Bj:D2:=sS λi j=>.int (i - j)
abbrev zB:D2:=Ag IntMulOk λi j=>.int (i*j)
abbrev AH:D2:=Ag qp λi j=>.int (i.fdiv j)
abbrev BE:D2:=Ag (λ_ j=>j≠0) λi j=>.int (i.fmod j)
abbrev A7:D2:=Ag yf λi j=>.int (i ^ j.toNat)
abbrev Cm:D2:=sS λi j=>.bl (decide (i < j))
abbrev B5:D2:=sS λi j=>.bl (decide (j < i))
abbrev B0:D2:=sS λi j=>.bl (decide (j<=i))
theorem i6:cP X (binaryOp .Sub) (fQ X.K Bj):=pM yu λ_ _ _=>isInt.mpr rfl
theorem bB:cP X (binaryOp .Mult) (fQ X.K zB):=v8 (C:=IntMulOk) (gV:=λi j=>.int (i*j)) (AA λ_ _ _ _ _ _ _ hc q=>mul_int q hc) λ_ _ _=>isInt.mpr rfl
theorem gk:cP X (binaryOp .FloorDiv) (fQ X.K AH):=v8 (C:=qp) (gV:=λi j=>.int (i.fdiv j)) (AA λ_ _ _ _ _ _ _ hc q=>floordiv_int hc.1 q (.inl (PyProof.noPylong_of_log2 hc.2))) λ_ _ _=>isInt.mpr rfl
theorem i8:cP X (binaryOp .Mod) (fQ X.K BE):=v8 vE λ_ _ _=>isInt.mpr rfl
theorem wK:cP X (binaryOp .Pow) (fQ X.K A7):=v8 yv λ_ _ _=>isInt.mpr rfl
theorem qO:cP X (compareOp .Lt) (fQ X.K Cm):=pM zw λ_ _ _=>a9.mpr rfl
theorem Am:cP X (compareOp .Gt) (fQ X.K B5):=pM zF λ_ _ _=>a9.mpr rfl
theorem AQ:cP X (compareOp .GtE) (fQ X.K B0):=pM y3 λ_ _ _=>a9.mpr rfl
def yN:D2:=λd e S k=>match d,e with
 | .int i,.int j=>k (.int (i+j)) S
 | .str x,.str y=>x.length+y.length<=sizeLine/\k (.str (x++y)) S
 | .tup xs,.tup ys=>xs≠[]/\ys≠[]/\xs.length+ys.length<=sizeLine/\k (.tup (xs++ys)) S
 | .ref a,.ref b=>∃ xs ys,S a=some (.lst xs)/\S b=some (.lst ys)/\xs.length+ys.length<=sizeLine/\∀ p,S p=none->k (.ref p) (put S p (.lst (xs++ys)))
 | _,_=>False
theorem iP {K:Fg} {H:Hp} {ds:List D} {vs:List V} (i:IsDs K H ds vs) (h:ds≠[]):vs≠[]:=by
 intro e;subst e;have:=i.length;exact h (Dq.mp this)
theorem dL:cP X (binaryOp .Add) (fQ X.K yN):=by
 intro DQ s σ H x y v u Q I rx ry h;obtain⟨d,e,S,k,i1,i2,hS,r,n⟩:=h;cases d with
 | int i=>
  cases e with
  | int j=>
   have e1:=isInt.mp i1;have e2:=isInt.mp i2;subst e1;subst e2;exact xQ DQ s σ H _ _ v u Q I rx ry ⟨i,j,rfl,rfl,gE n hS r (isInt.mpr rfl)⟩
  | _=>exact(show False from r).elim
 | str i=>
  cases e with
  | str j=>
   have e1:=cS.mp i1;have e2:=cS.mp i2;subst e1;subst e2;exact oV DQ s σ H _ _ v u Q I rx ry ⟨i,j,rfl,rfl,r.1,gE n hS r.2 (cS.mpr rfl)⟩
  | _=>exact(show False from r).elim
 | tup xs=>
  cases e with
  | tup ys=>
   obtain⟨a,vs,rfl,t1,j1⟩:=aT.mp i1;obtain⟨b,us,rfl,t2,j2⟩:=aT.mp i2;obtain⟨h1,h2,h3,r⟩:=r;refine qD DQ s σ H _ _ v u Q I rx ry ⟨a,b,vs,us,rfl,rfl,t1,t2,iP j1 h1,by rw [<- j1.length,<- j2.length]; exact h3,λz=>absurd z (iP j2 h2),λ_ p hp=>?_⟩
   have kp:Kp H (aZ H p (.tup (vs++us))):=Kp.new hp;exact n _ S _ _ r kp (hS.new hp) (aT.mpr ⟨p,_,rfl,e_.of br,(j1.append j2).kp kp⟩)
  | _=>exact(show False from r).elim
 | ref a=>
  cases e with
  | ref b=>
   have e1:=a8.mp i1;have e2:=a8.mp i2;subst e1;subst e2;obtain⟨xs,ys,h1,h2,h3,r⟩:=r;obtain⟨vs,q1,j1⟩:=hS.lst h1;obtain⟨us,q2,j2⟩:=hS.lst h2;refine xL DQ s σ H _ _ v u Q I rx ry ⟨a,b,vs,us,rfl,rfl,q1,q2,by rw [<- j1.length,<- j2.length]; exact h3,λp hp=>?_⟩
   exact n _ _ _ _ (r p (hS.free hp)) (Kp.new hp) (hS.newL hp (j1.append j2)) (a8.mpr rfl)
  | _=>exact(show False from r).elim
 | _=>exact(show False from r).elim
def yC:D->D->Dw DM
 | .int i,.int j=>some (decide (i=j))
 | .bl i,.bl j=>some (decide (i=j))
 | .str i,.str j=>some (decide (i=j))
 | _,_=>none
def BQ:D2:=λd e S k=>match yC d e with
 | some b=>k (.bl b) S
 | none=>False
def BO:D2:=λd e S k=>match yC d e with
 | some b=>k (.bl (!b)) S
 | none=>False
theorem wO {K:Fg} {H:Hp} {d e:D} {x y:V} {b:DM} (h:yC d e=some b) (i1:a_ K H d x) (i2:a_ K H e y):xb x y=true/\decide (x=y)=b:=by
 unfold yC at h
 split at h
 ·have e1:=isInt.mp i1;have e2:=isInt.mp i2;subst e1; subst e2
  cases h;exact⟨rfl,by simp⟩
 ·have e1:=a9.mp i1;have e2:=a9.mp i2;subst e1; subst e2
  cases h;exact⟨rfl,by simp⟩
 ·have e1:=cS.mp i1;have e2:=cS.mp i2;subst e1; subst e2
  cases h;exact⟨rfl,by simp⟩
 ·cases h
theorem BG:cP X (compareOp .Eq) (fQ X.K BQ):=by
 intro DQ s σ H x y v u Q I rx ry h;obtain⟨d,e,S,k,i1,i2,hS,r,n⟩:=h;unfold BQ at r;cases q:yC d e with
 | none=>rw [q] at r; exact r.elim
 | some b=>
  rw [q] at r;obtain⟨h1,h2⟩:=wO q i1 i2;exact yR DQ s σ H _ _ v u Q I rx ry ⟨h1,by rw [h2]; exact gE n hS r (a9.mpr rfl)⟩
theorem yY:cP X (compareOp .NotEq) (fQ X.K BO):=by
 intro DQ s σ H x y v u Q I rx ry h;obtain⟨d,e,S,k,i1,i2,hS,r,n⟩:=h;unfold BO at r;cases q:yC d e with
 | none=>rw [q] at r; exact r.elim
 | some b=>
  rw [q] at r;obtain⟨h1,h2⟩:=wO q i1 i2;exact zK DQ s σ H _ _ v u Q I rx ry ⟨h1,by rw [h2]; exact gE n hS r (a9.mpr rfl)⟩
def tV:D->DM
 | .non=>true
 | _=>false
def uo:D2:=λd e S k=>match d,e with
 | .bl c,.bl b=>k (.bl (!(c == b))) S
 | d,.non=>k (.bl (!tV d)) S
 | _,_=>False
theorem tm {K:Fg} {H:Hp} {d:D} {x:V} (i:a_ K H d x):decide (x=.non)=tV d:=by
 cases d with
 | non=>rw [bE.mp i]; rfl
 | bl b=>rw [a9.mp i]; rfl
 | int b=>rw [isInt.mp i]; rfl
 | str b=>rw [cS.mp i]; rfl
 | ref b=>rw [a8.mp i]; rfl
 | ty b=>rw [A4.mp i]; rfl
 | tup b=>obtain⟨a,xs,rfl,_⟩:=aT.mp i; rfl
 | rl b=>obtain⟨a,xs,rfl,_⟩:=m_.mp i; rfl
theorem lL:cP X (compareOp .IsNot) (fQ X.K uo):=by
 intro DQ s σ H x y v u Q I rx ry h;obtain⟨d,e,S,k,i1,i2,hS,r,n⟩:=h;unfold uo at r
 split at r
 ·rename_i c b
  have e1:=a9.mp i1;have e2:=a9.mp i2;subst e1; subst e2
  cases rx; cases ry
  exact isnot_bool ⟨.bl _,H,I,rfl,gE n hS r (a9.mpr rfl)⟩
 ·have e2:=bE.mp i2;exact vF DQ s σ H _ _ v u Q I rx ry ⟨e2,by rw [tm i1]; exact gE n hS r (a9.mpr rfl)⟩
 ·exact r.elim
def Bo:D1:=λd S k=>match d with
 | .int i=>k (.int (-i)) S
 | _=>False
theorem kO:yL X (unaryOp .USub) (BP X.K Bo):=by
 intro DQ s σ H x v Q I rx h;obtain⟨d,S,k,i1,hS,r,n⟩:=h;cases d with
 | int i=>
  have e1:=isInt.mp i1;subst e1;exact x_ DQ s σ H _ v Q I rx ⟨i,rfl,gE n hS r (isInt.mpr rfl)⟩
 | _=>exact(show False from r).elim
def m3:D2:=λd e S k=>match d,e with
 | .tup ds,.int i=>(match atI ds i with
  | some c=>k c S
  | none=>False)
 | .rl ds,.int i=>(match atI ds i with
  | some c=>k c S
  | none=>False)
 | .ref a,.int i=>(match S a with
  | some (.lst ds)=>(match atI ds i with
   | some c=>k c S
   | none=>False)
  | _=>False)
 | _,_=>False
theorem IsDs.atI {K:Fg} {H:Hp} {ds:List D} {vs:List V} {i:Int} {d:D} (r:IsDs K H ds vs) (h:atI ds i=some d):∃ v,L2.atI vs i=some v/\a_ K H d v:=by
 unfold L2.atI at h ⊢;rw [<- r.length];cases q:o0 ds.length i with
 | none=>rw [q] at h; cases h
 | some j=>
  rw [q] at h;exact r.get h
theorem yT:rO X (fQ X.K m3):=by
 intro value slice DQ s σ H x y v u Q I rx ry h hs;obtain⟨d,e,S,k,i1,i2,hS,r,n⟩:=h;cases e with
 | int i=>
  have e2:=isInt.mp i2;subst e2;cases d with
  | tup ds=>
   obtain⟨a,vs,rfl,t,j⟩:=aT.mp i1;cases q:atI ds i with
   | none=>simp only [m3,q] at r
   | some c=>
    simp only [m3,q] at r;obtain⟨w,e1,e2⟩:=j.atI q;exact xW value slice DQ s σ H _ _ v u Q I rx ry ⟨a,vs,i,w,rfl,rfl,t,e1,gE n hS r e2⟩ hs
  | rl ds=>
   obtain⟨a,vs,rfl,t,j⟩:=m_.mp i1;cases q:atI ds i with
   | none=>simp only [m3,q] at r
   | some c=>
    simp only [m3,q] at r;obtain⟨w,e1,e2⟩:=j.atI q;exact qA value slice DQ s σ H _ _ v u Q I rx ry ⟨a,vs,i,w,rfl,rfl,t.sq,e1,gE n hS r e2⟩ hs
  | ref a=>
   have e1:=a8.mp i1;subst e1;cases z:S a with
   | none=>simp only [m3,z] at r
   | some o=>
    cases o with
    | dic=>simp only [m3,z] at r
    | exc _=>simp only [m3,z] at r
    | fn _=>simp only [m3,z] at r
    | tbl _=>simp only [m3,z] at r
    | gen _=>simp only [m3,z] at r
    | lst ds=>
     obtain⟨vs,hl,j⟩:=hS.lst z;cases q:atI ds i with
     | none=>simp only [m3,z,q] at r
     | some c=>
      simp only [m3,z,q] at r;obtain⟨w,e1,e2⟩:=j.atI q;exact qA value slice DQ s σ H _ _ v u Q I rx ry ⟨a,vs,i,w,rfl,rfl,dO.of hl,e1,gE n hS r e2⟩ hs
  | _=>exact(show False from r).elim
 | _=>
  cases d <;> exact(show False from r).elim
end
abbrev bW:=List D->DH->DK->Prop
def oW (K:Fg) (r:bW):List V->Hp->VK->Prop:=λxs H Q=>∃ ds S k,IsDs K H ds xs/\Hs K H S/\r ds S k/\∀ d' S' v H',k d' S'->Kp H H'->Hs K H' S'->a_ K H' d' v->Q v H'
def kT (r:bW) (t:DA):DE:=λL S k=>t L S λds S1=>r ds S1 k
section
variable {X:Cx} {x:Str} {p pos:Pos} {e:Dx} {es:List Dx} {t:DA} {id T:DN} {r:bW}
theorem nR {K:Fg}:∀ σ H Q,up K (kT r t) σ H Q->Bn (oW K r) (lI K t) σ H Q:=fun σ H Q ⟨L,S,k,hL,hS,h,n⟩=>
 lI.go hL hS h λds S1 vs H1 h1 k1 hL1 hS1 i1=>⟨ds,S1,k,i1,hS1,h1,λd' S' v H' q k3 z1 z2=>n d' S' v H' q (k1.trans k3) z1 z2⟩
def cO (K:Fg) (F:bW):Sp:=λvs H Q _=>oW K F vs H Q
structure bH (P:Dy) (w:DC) (K:Fg) (mg:Str->Dw Du) (base:DD) (x:Str) (n:Nat) (F:bW):Prop where
 ex:∃ f fd ps,aW P w K mg base cx n f fd ps (cO K F)/\mg x=some (.ref f)/\PySem.W.keepIn K (.ref f)=true/\ko K fd ps []
theorem wS {n:Nat} {F:bW} (c:bH X.prog X.w X.K X.mg X.base x n F) (hr:cw n X.A) (hg:Gl X x) (ha:PA X (e::es) (lI X.K t)) (hdb:(x == ("__debug__":Str))=false:=by decide)
  (he:starEach (e::es) X.env=(false,eval e X.env)::starEach es X.env:=by exact bf rfl) (hpl:(backTo pos (starEach es X.env)).any (·.1)=false:=by exact cK rfl):
  PE X (.Call (.Name x p) (e::es) [] pos) (up X.K (kT F t)):=by
 obtain⟨f,fd,ps,F1,h1,h2,h3⟩:=c.ex;refine PE.imp (vW F1 hr hg h1 h2 h3 .nil Ar ha hdb he hpl) fun σ H Q z9=>?_
 obtain⟨L,S,k,hL,hS,h,n⟩:=z9;refine lI.go hL hS h λds S1 vs H1 h1 k1 hL1 hS1 i1=>?_
 show cO X.K F (vs++[]) H1 Q E0
 rw [CL];exact⟨ds,S1,k,i1,hS1,h1,λd' S' v H' q k3 z1 z2=>n d' S' v H' q (k1.trans k3) z1 z2⟩
def zU:bW:=λds S k=>match ds with
 | [.int i]=>k (.int (if i < 0 then -i else i)) S
 | _=>False
theorem eu {K:Fg} {H:Hp} {d:D} {xs:List V} (h:IsDs K H [d] xs):∃ x,xs=[x]/\a_ K H d x:=by
 obtain⟨v,r,rfl,h1,h2⟩:=bh.mp h;rw [di.mp h2];exact⟨v,rfl,h1⟩
theorem jD {K:Fg} {H:Hp} {d e:D} {xs:List V} (h:IsDs K H [d,e] xs):∃ x y,xs=[x,y]/\a_ K H d x/\a_ K H e y:=by
 obtain⟨v,r,rfl,h1,h2⟩:=bh.mp h;obtain⟨y,rfl,h3⟩:=eu h2;exact⟨v,y,rfl,h1,h3⟩
theorem sI:bS X (.builtin "abs") (oW X.K zU):=by
 intro DQ s σ H xs us Q I rs h;obtain⟨ds,S,k,i,hS,r,n⟩:=h;unfold zU at r
 split at r
 ·obtain⟨x,rfl,i1⟩:=eu i;have e1:=isInt.mp i1;subst e1;exact sQ DQ s σ H _ us Q I rs ⟨_,rfl,gE n hS r (isInt.mpr rfl)⟩
 ·exact r.elim
def yo:bW:=λds S k=>match ds with
 | [.tup xs]=>k (.int xs.length) S
 | [.rl xs]=>k (.int xs.length) S
 | [.ref a]=>(match S a with
  | some (.lst xs)=>k (.int xs.length) S
  | _=>False)
 | _=>False
theorem zJ:bS X (.builtin "len") (oW X.K yo):=by
 intro DQ s σ H xs us Q I rs h;obtain⟨ds,S,k,i,hS,r,n⟩:=h;unfold yo at r
 split at r
 ·obtain⟨x,rfl,i1⟩:=eu i;obtain⟨a,vs,rfl,t,j⟩:=aT.mp i1;exact fb DQ s σ H _ us Q I rs ⟨a,vs,rfl,.inr t,by rw [<- j.length]; exact gE n hS r (isInt.mpr rfl)⟩
 ·obtain⟨x,rfl,i1⟩:=eu i;obtain⟨a,vs,rfl,t,j⟩:=m_.mp i1;exact fb DQ s σ H _ us Q I rs ⟨a,vs,rfl,.inl t.sq,by rw [<- j.length]; exact gE n hS r (isInt.mpr rfl)⟩
 ·obtain⟨x,rfl,i1⟩:=eu i;have e1:=a8.mp i1;subst e1
  split at r
  ·rename_i z
   obtain⟨vs,hl,j⟩:=hS.lst z;exact fb DQ s σ H _ us Q I rs ⟨_,vs,rfl,.inl (dO.of hl),by rw [<- j.length]; exact gE n hS r (isInt.mpr rfl)⟩
  ·exact r.elim
 ·exact r.elim
def zG:bW:=λds S k=>match ds with
 | [.int i,.int j]=>k (.int (if j > i then j else i)) S
 | _=>False
def zL:bW:=λds S k=>match ds with
 | [.int i,.int j]=>k (.int (if j < i then j else i)) S
 | _=>False
theorem zq (hc:X.calm=true:=by rfl):bS X (.builtin "max") (oW X.K zG):=by
 intro DQ s σ H xs us Q I rs h;obtain⟨ds,S,k,i,hS,r,n⟩:=h;unfold zG at r
 split at r
 ·obtain⟨x,y,rfl,i1,i2⟩:=jD i;have e1:=isInt.mp i1;have e2:=isInt.mp i2;subst e1; subst e2
  exact ra hc DQ s σ H _ us Q I rs ⟨_,_,rfl,gE n hS r (isInt.mpr rfl)⟩
 ·exact r.elim
theorem Aa (hc:X.calm=true:=by rfl):bS X (.builtin "min") (oW X.K zL):=by
 intro DQ s σ H xs us Q I rs h;obtain⟨ds,S,k,i,hS,r,n⟩:=h;unfold zL at r
 split at r
 ·obtain⟨x,y,rfl,i1,i2⟩:=jD i;have e1:=isInt.mp i1;have e2:=isInt.mp i2;subst e1; subst e2
  exact rF hc DQ s σ H _ us Q I rs ⟨_,_,rfl,gE n hS r (isInt.mpr rfl)⟩
 ·exact r.elim
def eA (xs:List D) (lo hi:Dw Int):List D:=(xs.drop (HT.bM xs.length 0 lo)).take (HT.bM xs.length xs.length hi - HT.bM xs.length 0 lo)
abbrev wt:=Lo->DH->(Dw Int->DH->Prop)->Prop
def B4 (K:Fg) (g:wt):TO:=fun σ H Q=>∃ L S k,Lc K H L σ/\Hs K H S/\g L S k/\∀ i S' H',k i S'->Kp H H'->Hs K H' S'->Q i H'
def Ai:wt:=λ_ S k=>k none S
def zd (g:DE):wt:=λL S k=>g L S λd S1=>match d with
 | .int i=>k (some i) S1
 | _=>False
end
section
variable {X:Cx} {st:DF} {bn:List DF} {g h:DS} {e:Dx} {ge:DE} {pos:Pos}
def wo:DS:=λM L S=>M.nx L S
def xH (g h:DS):DS:=λM L S=>g {M with nx:=h M} L S
theorem vg {K:Fg}:∀ N σ H,vm K (xH g h) N σ H->zR (vm K g) (vm K h) N σ H:=λN σ H ⟨L,S,M,hL,hS,q,r⟩=>
 ⟨L,S,{M with nx:=h M},hL,hS,q,⟨λL' S' σ' H' q' k' hL' hS'=>⟨L',S',M,hL',hS',q',r.kp k'⟩,r.rt,r.bk,r.ct⟩⟩
def zy (ge:DE):DS:=λM L S=>ge L S λ_ S1=>M.nx L S1
def A1 (ge:DE):DS:=λM L S=>ge L S M.rt
def wW (c:DT) (g h:DS):DS:=λM L S=>c L S λb S1=>if b=true then g M L S1 else h M L S1
def yc:DS:=λ_ _ _=>False
def vQ (i:Nat) (ge:DE):DS:=λM L S=>ge L S λd S1=>M.nx (L.set i (some d)) S1
def Bz (i j:Nat) (ta:DA):DS:=λM L S=>ta L S λds S1=>match ds with
 | [d,e]=>M.nx ((L.set i (some d)).set j (some e)) S1
 | _=>False
abbrev DG:=D->Lo->DH->(Lo->DH->Prop)->Prop
def yA (K:Fg) (g:DG):TG:=λv σ H Q=>∃ d L S k,a_ K H d v/\Lc K H L σ/\Hs K H S/\g d L S k/\∀ L' S' σ' H',k L' S'->Kp H H'->Lc K H' L' σ'->Hs K H' S'->Q σ' H'
theorem PG.imp {e:Dx} {t t':TG} (h:PG X e t) (i:∀ v σ H Q,t' v σ H Q->t v σ H Q):PG X e t':=λDQ s σ H v u Q I rv q=>h DQ s σ H v u Q I rv (i v σ H Q q)
def fq (i:Nat):DG:=λd L S k=>k (L.set i (some d)) S
abbrev uN:=List D->Lo->DH->(Lo->DH->Prop)->Prop
def AW (K:Fg) (g:uN):sB:=λv σ H Q=>∃ d L S k,IsDs K H d v/\Lc K H L σ/\Hs K H S/\g d L S k/\∀ L' S' σ' H',k L' S'->Kp H H'->Lc K H' L' σ'->Hs K H' S'->Q σ' H'
theorem rT.imp {e:List Dx} {t t':sB} (h:rT X e t) (i:∀ v σ H Q,t' v σ H Q->t v σ H Q):rT X e t':=λDQ s σ H v u Q I rv q=>h DQ s σ H v u Q I rv (i v σ H Q q)
def wE:uN:=λds L S k=>ds=[]/\k L S
def pi (t:DG) (u:uN):uN:=λds L S k=>match ds with
 | d::r=>t d L S λL1 S1=>u r L1 S1 k
 | []=>False
def BH (ge:DE) (g:DG):DS:=λM L S=>ge L S λd S1=>g d L S1 M.nx
def wZ (c:DT) (b:DS):DS:=λM L S=>∃ W:Nat->Lo->DH->Prop,(∃ m,W m L S)/\∀ m L S,W m L S->
 c L S λt S1=>if t=true then ∃ N:Lo->DH->Prop,(∀ L' S',N L' S'->∃ m',m' < m/\W m' L' S')/\b {M with nx:=N,ct:=N,bk:=M.nx} L S1 else M.nx L S1
def dE (ok:DH->Prop) (g:DG) (b:DS) (M:im):List D->Lo->DH->Prop
 | [],L,S=>ok S/\M.nx L S
 | d::r,L,S=>ok S/\g d L S λL1 S1=>b {M with nx:=λL2 S2=>dE ok g b M r L2 S2,ct:=λL2 S2=>dE ok g b M r L2 S2,bk:=M.nx} L1 S1
theorem ie {K:Fg} {ok:DH->Prop} {gg:DG} {b:DS} {M:im} {ds:List D} {L:Lo} {S:DH} {N:kC} {σ:L2.St} {H:Hp} {J:It} (hL:Lc K H L σ) (hS:Hs K H S) (h:dE ok gg b M ds L S) (r:uK K H M N)
  (hgo:∀ i d S1 H1,ds[i]?=some d->Kp H H1->Hs K H1 S1->ok S1->J.go i H1/\∀ x H',J.yld i H1 x H'->H'=H1/\a_ K H1 d x)
  (hst:∀ S1 H1,Kp H H1->Hs K H1 S1->ok S1->J.stop ds.length H1):
  ∃ W:Nat->Nat->L2.St->Hp->Prop,(∃ m,W 0 m σ H)/\∀ i m σ H,W i m σ H->
   (J.stop i H/\N.nx σ H)\/(J.go i H/\∃ N':L2.St->Hp->Prop,(∀ σ' H',N' σ' H'->∃ m',m' < m/\W (i+1) m' σ' H')/\∀ x H',J.yld i H x H'->yA K gg x σ H' fun σ2 H2=>vm K b {N with nx:=N',ct:=N',bk:=N.nx} σ2 H2):=by
 refine⟨λi m σ1 H1=>m=ds.length - i/\i<=ds.length/\∃ L1 S1,Lc K H1 L1 σ1/\Hs K H1 S1/\Kp H H1/\dE ok gg b M (ds.drop i) L1 S1,⟨ds.length,by simp,Dd _,L,S,hL,hS,Kp.refl H,h⟩,?_⟩
 rintro i m σ1 H1 ⟨rfl,hi,L1,S1,hL1,hS1,k1,w1⟩
 by_cases hlt:i < ds.length
 ·have e:ds.drop i=ds[i]::ds.drop (i+1):=Db hlt;rw [e] at w1;obtain⟨o1,w1⟩:=w1;obtain⟨g1,y1⟩:=hgo i ds[i] S1 H1 (by simp [hlt]) k1 hS1 o1
  refine .inr ⟨g1,fun σ' H'=>i+1<=ds.length/\∃ L' S',Lc K H' L' σ'/\Hs K H' S'/\Kp H H'/\dE ok gg b M (ds.drop (i+1)) L' S',fun σ' H' z9=>by obtain⟨q1,q2⟩:=z9; exact⟨ds.length - (i+1),by omega,rfl,q1,q2⟩,λx H' y=>?_⟩
  obtain⟨rfl,ix⟩:=y1 x H' y;refine⟨ds[i],L1,S1,_,ix,hL1,hS1,w1,λL2 S2 σ2 H2 q k2 hL2 hS2=>⟨L2,S2,_,hL2,hS2,q,?_⟩⟩
  have r2:=r.kp (k1.trans k2);exact⟨λL3 S3 σ3 H3 q3 k3 hL3 hS3=>⟨hlt,L3,S3,hL3,hS3,(k1.trans k2).trans k3,q3⟩,r2.rt,r2.nx,λL3 S3 σ3 H3 q3 k3 hL3 hS3=>⟨hlt,L3,S3,hL3,hS3,(k1.trans k2).trans k3,q3⟩⟩
 ·have e:i=ds.length:=by omega
  subst e;rw [List.drop_length] at w1;obtain⟨o1,w1⟩:=w1;exact .inl ⟨hst S1 H1 k1 hS1 o1,r.nx L1 S1 σ1 H1 w1 k1 hL1 hS1⟩
def ar (S:DH):D->Dw (List D×Dw Dv)
 | .tup ds=>some (ds,none)
 | .rl ds=>some (ds,none)
 | .ref a=>(match S a with
  | some (.lst ds)=>some (ds,some a)
  | _=>none)
 | _=>none
def bT:List D×Dw Dv->DH->Prop
 | (_,none)=>λ_=>True
 | (ds,some a)=>λS=>S a=some (.lst ds)
def BA (K:Fg) (t:TE):TI:=fun σ H R=>t σ H λx H1=>∃ a,x=.ref a/\(((∃ xs,dO K H1 a xs)/\R (yH K a) H1)\/((∃ xs,e_ K H1 a xs)/\R (Av K a) H1))
theorem oG {tg l:Dx} {tl:TE} (hl:PE X l tl):PI X tg l (BA X.K tl):=by
 intro DQ s σ H R I h;refine bw (hl DQ s σ H _ I h) λv s1 z9=>?_
 obtain⟨x,H1,I1,r1,q1⟩:=z9;obtain⟨a,e,q1⟩:=q1;subst e;cases r1;rcases q1 with ⟨⟨xs,hq⟩,q⟩ | ⟨⟨xs,hq⟩,q⟩
 ·obtain⟨its,rv,p,hz⟩:=I1.list hq;refine wpAny_pyIter_list p.isList ?_;refine⟨s1.heap.objs.size,[s1.heap.objs.size],_,_,H1,rfl,I1.kept (t':=s1.toks) λb o e=>Co _ e,rC a _,⟨_,Cq _ rfl,rfl,rfl⟩,λb hb=>?_,q⟩
  have e:b=s1.heap.objs.size:=by simpa using hb
  subst e;exact I1.fpOk (Ct _) (I1.hok.fresh (Ct _))
 ·obtain⟨its,rv,p,hz⟩:=I1.tuple hq;refine wpAny_pyIter_tuple (show s1.heap.IsTuple a its.toArray from p) ?_
  refine⟨s1.heap.objs.size,[s1.heap.objs.size],_,_,H1,rfl,I1.kept (t':=s1.toks) λb o e=>Co _ e,oT a _,⟨_,Cq _ rfl,rfl,rfl⟩,λb hb=>?_,q⟩
  have e:b=s1.heap.objs.size:=by simpa using hb
  subst e;exact I1.fpOk (Ct _) (I1.hok.fresh (Ct _))
def zv (ta:DA) (g:DG) (b:DS):DS:=λM L S=>ta L S λds S1=>match ds with
 | [.int n]=>(-(2 ^ 62)<=n/\n < 2 ^ 62)/\dE (λ_=>True) g b M ((List.range n.toNat).map λi=>D.int (i:Nat)) L S1
 | _=>False
end
section
variable {P:Dy} {w:DC} {K:Fg} {mg:Str->Dw Du} {base:DD}
theorem _root_.L2.qX.okD {x DR:Str} {st:DF} {f:Dv} {fd:FuncData} {N ps:List Str} {k:Nat} {F:bW} (Fn:qX K x DR st f fd) (Sc:aq N ps (ai st)) (len:∀ ds S k,F ds S k->ds.length=ps.length)
  (hbody:∀ (cdv:Du) (A:Dz) (outer:List Env) (s:Dt) (H:Hp) (E:XK),cw k (A.deeper (envOfC DR (ai st) s.heap.objs.size f cdv))->
   ∃ g,lE (nX cx P w K mg base N DR (ai st) f cdv A outer s H E).nox (bK st) (vm K g)/\
    ∀ ds S k,F ds S k->g {nx:=λ_ S'=>k .non S',rt:=k} (ds.map some++List.replicate (N.length - ps.length) none) S):aW P w K mg base cx (k+1) f fd ps (cO K F):=by
 refine Fn.ok Sc (λvs H Q E h=>?_) (λcdv A outer s H vs Q E hr h=>?_)
 ·obtain⟨ds,S,k,i,_,q,_⟩:=h;rw [<- i.length];exact len ds S k q
 ·obtain⟨g,hg,q⟩:=hbody cdv A outer s H E hr;obtain⟨ds,S,k',i,hS,h,n⟩:=h;refine⟨_,hg,ds.map some++List.replicate (N.length - ps.length) none,S,_,?_,hS,q ds S k' h,?_⟩
  ·unfold L2.start;rw [<- i.length,len ds S k' h];exact Lc.start _ i
  ·exact⟨λL S' σ H' h1 k1 _ hS'=>n _ S' _ H' h1 k1 hS' (bE.mpr rfl),λd S' v H' h1 k1 hS' i1=>n d S' v H' h1 k1 hS' i1,λ_ _ _ _ h1=>h1.elim,λ_ _ _ _ h1=>h1.elim⟩
theorem bH.mk' {x DR:Str} {st:DF} {f:Dv} {fd:FuncData} {ps:List Str} {n:Nat} {F:bW} (Fn:qX K x DR st f fd) (h:aW P w K mg base cx n f fd ps (cO K F)) (hm:mg x=some (.ref f)) (hb:ko K fd ps []):bH P w K mg base x n F:=
 ⟨f,fd,ps,h,hm,Fn.kp,hb⟩
end
end DL
namespace DL
open PySem PySem.Spec PyProof.Rows L2 HM
theorem xN {K:Fg} {H:Hp} {a:Dv} {ns:List Int} {F:bW} {E:XK} (ho:uT H) (hS:dO K H a (ns.map V.int)) (h:F [.rl (ns.map D.int)] (λ_=>none) (λd _=>d=.bl true)):cO K F [.ref a] H (λv _=>v=.bl true) E:=by
 refine⟨[.rl (ns.map D.int)],λ_=>none,λd _=>d=.bl true,IsDs.cons (m_.mpr ⟨a,ns.map V.int,rfl,?_,?_⟩) IsDs.nil,λa o e=>(by cases e),h,λd' S' v H' e _ _ i=>?_⟩
 ·rcases hS with (h1 | h1) | h1
  ·rcases ho a with z | ⟨o,xs,z⟩
   ·rw [z] at h1; cases h1
   ·rw [z] at h1; cases h1
  ·exact .inl h1
  ·exact .inr h1
 ·clear h hS
  induction ns with
  | nil=>exact IsDs.nil
  | cons n ns ih=>exact IsDs.cons (isInt.mpr rfl) ih
 ·subst e;exact a9.mp i
theorem gO {m n:Nat} {x y:Int} (hx:Bt m x) (hy:Bt n y) (h:m+n<=134217728:=by decide):IntMulOk x y:=IntMulOk.of_le (intBits_le_iff.mpr hx) (intBits_le_iff.mpr hy) h
theorem rM {m:Nat} {y:Int} (h0:y≠0) (hy:Bt m y) (h:m<=9000:=by decide):qp x y:=⟨h0,(Nat.log2_lt (by omega)).mpr (hy.mono h)⟩
def pr (a b:Int):D:=.tup [.int a,.int b]
def fr (q:Rat):D:=pr q.num (q.den:Int)
end DL
namespace DL
theorem pG {x:D} {r:List D}:L2.atI (x::r) 0=some x:=L2.cZ (j:=0) rfl
theorem AY {x y:D} {r:List D}:L2.atI (x::y::r) 1=some y:=L2.cZ (j:=1) rfl
theorem zN {n:Nat}:L2.o0 (n+1) 0=some 0:=by
 unfold L2.o0;rw [if_pos (by decide),if_pos (by omega)]
 rfl
end DL
namespace DL
open PySem PySem.Spec PyProof.Rows L2
def u_:D->D->Dw DM
 | .int i,.int j=>some (i == j)
 | .bl i,.bl j=>some (i == j)
 | .str i,.str j=>some (i == j)
 | .non,.non=>some true
 | .non,.int _=>some false
 | .int _,.non=>some false
 | .non,.bl _=>some false
 | .bl _,.non=>some false
 | .bl a,.int j=>some ((if a then 1 else 0) == j)
 | .int i,.bl b=>some (i == (if b then 1 else 0))
 | _,_=>none
def eY (f:D->D->Dw DM):List D->List D->Dw DM
 | [],[]=>some true
 | [],_::_=>some false
 | _::_,[]=>some false
 | x::xs,y::ys=>match f x y,eY f xs ys with
  | some a,some b=>some (a && b)
  | _,_=>none
def fW:Nat->D->D->Dw DM
 | 0,d,e=>u_ d e
 | n+1,.tup xs,.tup ys=>eY (fW n) xs ys
 | _+1,d,e=>u_ d e
theorem jW (n:Nat) (d e:D):fW (n+1) d e=(match d,e with | .tup xs,.tup ys=>eY (fW n) xs ys | d,e=>u_ d e):=by
 cases d <;> cases e <;> rfl
def eD (f:D->D->Dw DM):List D->List D->Nat->DM
 | x::_,y::_,0=>(f x y).getD false
 | _::xs,_::ys,j+1=>eD f xs ys j
 | _,_,_=>false
theorem tG (e:Nat->DM) (m:Nat):(List.range (m+1)).all e=(e 0 && (List.range m).all λj=>e (j+1)):=by
 rw [List.range_succ_eq_map,List.all_cons,List.all_map]
 rfl
theorem h9 {f:D->D->Dw DM}:∀ {xs ys:List D} {b:DM},eY f xs ys=some b->((List.range (min xs.length ys.length)).all (eD f xs ys) && xs.length == ys.length)=b
 | [],[],b,h=>by unfold eY at h; cases h; rfl
 | [],_::_,b,h=>by unfold eY at h; cases h; simp
 | _::_,[],b,h=>by unfold eY at h; cases h; simp
 | x::xs,y::ys,b,h=>by
  unfold eY at h
  split at h
  ·rename_i a c e1 e2
   cases h;have ih:=h9 e2;rw [CH,CH,Nat.succ_min_succ,tG];have e3:eD f (x::xs) (y::ys) 0=a:=by unfold eD; rw [e1]; rfl
   rw [e3,Bool.and_assoc];have e4:(λj=>eD f (x::xs) (y::ys) (j+1))=eD f xs ys:=by funext j; rfl
   rw [e4];have e5:(xs.length+1 == ys.length+1)=(xs.length == ys.length):=by simp
   rw [e5,ih]
  ·cases h
theorem ju {f:D->D->Dw DM}:∀ {xs ys:List D} {b:DM} {j:Nat} {x y:D},eY f xs ys=some b->xs[j]?=some x->ys[j]?=some y->f x y=some (eD f xs ys j)
 | [],_,_,_,_,_,_,e,_=>by simp at e
 | _::_,[],_,_,_,_,_,_,e=>by simp at e
 | x::xs,y::ys,b,0,x',y',h,e1,e2=>by
  simp at e1 e2
  subst e1; subst e2
  unfold eY at h
  split at h
  ·rename_i a c q1 q2
   unfold eD;rw [q1]
   rfl
  ·cases h
 | x::xs,y::ys,b,j+1,x',y',h,e1,e2=>by
  unfold eY at h
  split at h
  ·rename_i a c q1 q2
   unfold eD;exact ju q2 (by simpa using e1) (by simpa using e2)
  ·cases h
section
variable {X:Cx} {DQ:List (Dv×DP)} {σ:L2.St} {H:Hp} {s:Dt}
theorem mf {K:Fg} {ds es:List D} {xs ys:List V} {us ws:List Du} {j:Nat} (i1:IsDs K H ds xs) (i2:IsDs K H es ys) (r1:aF xs us) (r2:aF ys ws) (h1:j < us.length) (h2:j < ws.length):
  ∃ d e x y,ds[j]?=some d/\es[j]?=some e/\a_ K H d x/\a_ K H e y/\aS x us[j]/\aS y ws[j]:=by
 have l1:=i1.length;have l2:=i2.length;have l3:=r1.length;have l4:=r2.length;have e1:ds[j]?=some ds[j]:=by simp [show j < ds.length by omega]
 have e2:es[j]?=some es[j]:=by simp [show j < es.length by omega]
 obtain⟨x,q1,d1⟩:=i1.get e1;obtain⟨y,q2,d2⟩:=i2.get e2;obtain⟨u,q3,rx⟩:=r1.get q1;obtain⟨w,q4,ry⟩:=r2.get q2;have f1:us[j]=u:=(CW.mp q3).2;have f2:ws[j]=w:=(CW.mp q4).2;exact⟨_,_,x,y,e1,e2,d1,d2,by rw [f1]; exact rx,by rw [f2]; exact ry⟩
theorem tS {K:Fg} {A:Dz} {d e:D} {x y:V} {u w:Du} {b:DM} (h:u_ d e=some b) (i1:a_ K H d x) (i2:a_ K H e y) (rx:aS x u) (ry:aS y w):SeqAt.EqAt A s u w b/\SeqAt.RcAt A s u w b:=by
 unfold u_ at h
 split at h
 ·cases h; rw [isInt.mp i1] at rx; rw [isInt.mp i2] at ry; obtain⟨t,rfl⟩:=rx; obtain⟨t',rfl⟩:=ry; exact⟨(SeqAt.EqAt.int_int _ _ _ _),(SeqAt.RcAt.int_int _ _ _ _)⟩
 ·cases h; rw [a9.mp i1] at rx; rw [a9.mp i2] at ry; cases rx; cases ry; exact⟨(SeqAt.EqAt.bool_bool _ _),(SeqAt.RcAt.bool_bool _ _)⟩
 ·cases h; rw [cS.mp i1] at rx; rw [cS.mp i2] at ry; obtain⟨t,rfl⟩:=rx; obtain⟨t',rfl⟩:=ry; exact⟨(SeqAt.EqAt.str_str _ _ _ _),(SeqAt.RcAt.str_str _ _ _ _)⟩
 ·cases h; rw [bE.mp i1] at rx; rw [bE.mp i2] at ry; cases rx; cases ry; exact⟨SeqAt.EqAt.same _,SeqAt.RcAt.none_none⟩
 ·cases h; rw [bE.mp i1] at rx; rw [isInt.mp i2] at ry; cases rx; obtain⟨t',rfl⟩:=ry; exact⟨(SeqAt.EqAt.none_int _ _),(SeqAt.RcAt.none_int _ _)⟩
 ·cases h; rw [isInt.mp i1] at rx; rw [bE.mp i2] at ry; obtain⟨t,rfl⟩:=rx; cases ry; exact⟨(SeqAt.EqAt.int_none _ _),(SeqAt.RcAt.int_none _ _)⟩
 ·cases h; rw [bE.mp i1] at rx; rw [a9.mp i2] at ry; cases rx; cases ry; exact⟨(SeqAt.EqAt.none_bool _),(SeqAt.RcAt.none_bool _)⟩
 ·cases h; rw [a9.mp i1] at rx; rw [bE.mp i2] at ry; cases rx; cases ry; exact⟨(SeqAt.EqAt.bool_none _),(SeqAt.RcAt.bool_none _)⟩
 ·cases h; rw [a9.mp i1] at rx; rw [isInt.mp i2] at ry; cases rx; obtain⟨t',rfl⟩:=ry; exact⟨(SeqAt.EqAt.bool_int _ _ _),(SeqAt.RcAt.bool_int _ _ _)⟩
 ·cases h; rw [isInt.mp i1] at rx; rw [a9.mp i2] at ry; obtain⟨t,rfl⟩:=rx; cases ry; exact⟨(SeqAt.EqAt.int_bool _ _ _),(SeqAt.RcAt.int_bool _ _ _)⟩
 ·cases h
theorem nr {K:Fg} {d e:D} {x:V} {b:DM} (h:u_ d e=some b) (i1:a_ K H d x) (i2:a_ K H e x):b=true:=by
 unfold u_ at h
 split at h
 ·cases h; have e1:=isInt.mp i1; have e2:=isInt.mp i2; rw [e1] at e2; cases e2; simp
 ·cases h; have e1:=a9.mp i1; have e2:=a9.mp i2; rw [e1] at e2; cases e2; simp
 ·cases h; have e1:=cS.mp i1; have e2:=cS.mp i2; rw [e1] at e2; cases e2; simp
 ·cases h; rfl
 ·have e1:=bE.mp i1; have e2:=isInt.mp i2; rw [e1] at e2; cases e2
 ·have e1:=isInt.mp i1; have e2:=bE.mp i2; rw [e1] at e2; cases e2
 ·have e1:=bE.mp i1; have e2:=a9.mp i2; rw [e1] at e2; cases e2
 ·have e1:=a9.mp i1; have e2:=bE.mp i2; rw [e1] at e2; cases e2
 ·have e1:=a9.mp i1; have e2:=isInt.mp i2; rw [e1] at e2; cases e2
 ·have e1:=isInt.mp i1; have e2:=a9.mp i2; rw [e1] at e2; cases e2
 ·cases h
theorem lG {K:Fg} {f:D->D->Dw DM} (hf:∀ d e x b,f d e=some b->a_ K H d x->a_ K H e x->b=true):∀ {ds es:List D} {xs:List V} {b:DM},eY f ds es=some b->IsDs K H ds xs->IsDs K H es xs->b=true
 | [],[],_,_,h,_,_=>by unfold eY at h; cases h; rfl
 | [],_::_,_,_,_,i1,i2=>by
  have e1:=di.mp i1;obtain⟨v,r,e2,_⟩:=bh.mp i2;rw [e1] at e2; cases e2
 | _::_,[],_,_,_,i1,i2=>by
  have e1:=di.mp i2;obtain⟨v,r,e2,_⟩:=bh.mp i1;rw [e1] at e2; cases e2
 | d::ds,e::es,xs,b,h,i1,i2=>by
  obtain⟨v,r,e1,h1,h2⟩:=bh.mp i1;obtain⟨v',r',e2,h3,h4⟩:=bh.mp i2;rw [e1] at e2;cases e2;unfold eY at h
  split at h
  ·rename_i a c q1 q2
   cases h;rw [hf _ _ _ _ q1 h1 h3,lG hf q2 h2 h4]
   rfl
  ·cases h
theorem nI (I:aw X DQ σ H s):∀ (n:Nat) (d e:D) (x:V) (b:DM),fW n d e=some b->a_ X.K H d x->a_ X.K H e x->b=true
 | 0,d,e,x,b,h,i1,i2=>nr (by unfold fW at h; exact h) i1 i2
 | n+1,d,e,x,b,h,i1,i2=>by
  rw [jW] at h
  split at h
  ·rename_i xs ys
   obtain⟨a,vs,e1,t1,j1⟩:=aT.mp i1;obtain⟨a',vs',e2,t2,j2⟩:=aT.mp i2;rw [e1] at e2;cases e2;have q:=I.tuple_inj t1 t2;subst q;exact lG (λd e x b=>nI I n d e x b) h j1 j2
  ·exact nr h i1 i2
theorem mL (I:aw X DQ σ H s):∀ (n:Nat) (A:Dz) (d e:D) (x y:V) (u w:Du) (b:DM),A.units+n < cLine->fW n d e=some b->a_ X.K H d x->a_ X.K H e y->aS x u->aS y w->SeqAt.EqAt A s u w b/\SeqAt.RcAt A s u w b
 | 0,A,d,e,x,y,u,w,b,hu,h,i1,i2,rx,ry=>tS (by unfold fW at h; exact h) i1 i2 rx ry
 | n+1,A,d,e,x,y,u,w,b,hu,h,i1,i2,rx,ry=>by
  have h0:=h;rw [jW] at h
  split at h
  ·rename_i xs ys
   obtain⟨p,vs,rfl,t1,j1⟩:=aT.mp i1;obtain⟨q,vs',rfl,t2,j2⟩:=aT.mp i2;cases rx;cases ry;obtain⟨us,r1,p1,_⟩:=I.tuple t1;obtain⟨ws,r2,p2,_⟩:=I.tuple t2;have l1:=j1.length;have l2:=j2.length;have l3:=r1.length;have l4:=r2.length;have rc:SeqAt.RcAt A s (.ref p) (.ref q) b:=by
    have e:=h9 h;have z:=SeqAt.RcAt.tuples (A:=A) (s:=s) (items:=us.toArray) (items2:=ws.toArray) (e:=eD (fW n) xs ys) (show s.heap.IsTuple p us.toArray from p1) (show s.heap.IsTuple q ws.toArray from p2) (by omega) (λj h1 h2=>by
     simp only [Cy] at h1 h2
     obtain⟨d,e,x,y,q1,q2,d1,d2,rx,ry⟩:=mf j1 j2 r1 r2 h1 h2;have:=(mL I n A.in1 d e x y us[j] ws[j] _ (by show A.units+1+n < cLine; omega) (ju h q1 q2) d1 d2 rx ry).1
     simpa using this)
    simp only [Cy] at z;rw [<- l3,<- l4,<- l1,<- l2,e] at z;exact z
   refine⟨?_,rc⟩
   by_cases hpq:p=q
   ·subst hpq;have:=nI I (n+1) _ _ _ _ h0 i1 i2;subst this;exact SeqAt.EqAt.same _
   ·exact SeqAt.EqAt.of_refs hpq rc
  ·exact tS h i1 i2 rx ry
theorem uq {K:Fg} {A:Dz} {d e:D} {x y:V} {u w:Du} {b:DM} (h:u_ d e=some b) (i1:a_ K H d x) (i2:a_ K H e y) (rx:aS x u) (ry:aS y w):SeqAt.RcNeAt A s u w (!b):=by
 unfold u_ at h
 split at h
 ·cases h; rw [isInt.mp i1] at rx; rw [isInt.mp i2] at ry; obtain⟨t,rfl⟩:=rx; obtain⟨t',rfl⟩:=ry; exact(SeqAt.RcNeAt.int_int _ _ _ _)
 ·cases h; rw [a9.mp i1] at rx; rw [a9.mp i2] at ry; cases rx; cases ry; exact(SeqAt.RcNeAt.bool_bool _ _)
 ·cases h; rw [cS.mp i1] at rx; rw [cS.mp i2] at ry; obtain⟨t,rfl⟩:=rx; obtain⟨t',rfl⟩:=ry; exact(SeqAt.RcNeAt.str_str _ _ _ _)
 ·cases h; rw [bE.mp i1] at rx; rw [bE.mp i2] at ry; cases rx; cases ry; exact SeqAt.RcNeAt.none_none
 ·cases h; rw [bE.mp i1] at rx; rw [isInt.mp i2] at ry; cases rx; obtain⟨t',rfl⟩:=ry; exact(SeqAt.RcNeAt.none_int _ _)
 ·cases h; rw [isInt.mp i1] at rx; rw [bE.mp i2] at ry; obtain⟨t,rfl⟩:=rx; cases ry; exact(SeqAt.RcNeAt.int_none _ _)
 ·cases h; rw [bE.mp i1] at rx; rw [a9.mp i2] at ry; cases rx; cases ry; exact(SeqAt.RcNeAt.none_bool _)
 ·cases h; rw [a9.mp i1] at rx; rw [bE.mp i2] at ry; cases rx; cases ry; exact(SeqAt.RcNeAt.bool_none _)
 ·cases h; rw [a9.mp i1] at rx; rw [isInt.mp i2] at ry; cases rx; obtain⟨t',rfl⟩:=ry; exact(SeqAt.RcNeAt.bool_int _ _ _)
 ·cases h; rw [isInt.mp i1] at rx; rw [a9.mp i2] at ry; obtain⟨t,rfl⟩:=rx; cases ry; exact(SeqAt.RcNeAt.int_bool _ _ _)
 ·cases h
theorem tx (I:aw X DQ σ H s) (n:Nat) (A:Dz) (d e:D) (x y:V) (u w:Du) (b:DM) (hu:A.units+n < cLine) (h:fW n d e=some b) (i1:a_ X.K H d x) (i2:a_ X.K H e y) (rx:aS x u) (ry:aS y w):SeqAt.RcNeAt A s u w (!b):=by
 cases n with
 | zero=>exact uq (by unfold fW at h; exact h) i1 i2 rx ry
 | succ n=>
  rw [jW] at h
  split at h
  ·rename_i xs ys
   obtain⟨p,vs,rfl,t1,j1⟩:=aT.mp i1;obtain⟨q,vs',rfl,t2,j2⟩:=aT.mp i2;cases rx;cases ry;obtain⟨us,r1,p1,_⟩:=I.tuple t1;obtain⟨ws,r2,p2,_⟩:=I.tuple t2;have l1:=j1.length;have l2:=j2.length;have l3:=r1.length;have l4:=r2.length;have e:=h9 h;have z:=SeqAt.RcNeAt.tuples (A:=A) (s:=s) (items:=us.toArray) (items2:=ws.toArray) (e:=eD (fW n) xs ys) (show s.heap.IsTuple p us.toArray from p1) (show s.heap.IsTuple q ws.toArray from p2) (by omega) (λj h1 h2=>by
    simp only [Cy] at h1 h2
    obtain⟨d,e,x,y,q1,q2,d1,d2,rx,ry⟩:=mf j1 j2 r1 r2 h1 h2;have:=(mL I n A.in1 d e x y us[j] ws[j] _ (by show A.units+1+n < cLine; omega) (ju h q1 q2) d1 d2 rx ry).1
    simpa using this)
   simp only [Cy] at z;rw [<- l3,<- l4,<- l1,<- l2,e] at z;exact z
  ·exact uq h i1 i2 rx ry
end
structure EJ (X:Cx) (e:Dx) (g:DE):Prop where
 h:PE X e (up X.K g)
structure TJ (X:Cx) (e:Dx) (g:DT):Prop where
 h:PT X e (qU X.K g)
structure WJ (X:Cx) (e:Dx) (g:DT):Prop where
 h:PW X e (qU X.K g)
structure AJ (X:Cx) (e:List Dx) (g:DA):Prop where
 h:PA X e (lI X.K g)
structure SJ (X:Cx) (e:DF) (g:DS):Prop where
 h:PS X e (vm X.K g)
structure rf (X:Cx) (e:List DF) (g:DS):Prop where
 h:lE X e (vm X.K g)
structure GJ (X:Cx) (e:Dx) (g:DG):Prop where
 h:PG X e (yA X.K g)
structure y4 (X:Cx) (e:List Dx) (g:uN):Prop where
 h:rT X e (AW X.K g)
structure OJ (X:Cx) (e:Dw Dx) (g:wt):Prop where
 h:PO X e (B4 X.K g)
theorem WJ.pt {X:Cx} {e:Dx} {g:DT} (h:WJ X e g):TJ X e g:=⟨PW.pt h.h⟩
section
variable {X:Cx} {a b c:Dx} {ga gb gc:DE} {pos:Pos}
theorem ae (i:Nat) {x:Str} (hN:X.N[i]?=some x:=by rfl) (hv:Ah X.env.scope x:=by first | exact Or.inl rfl | exact Or.inr (Or.inl rfl) | exact Or.inr (Or.inr rfl)) (hd:(x == ("__debug__":Str))=false:=by decide) (hcd:(x == ("__classdict__":Str))=false:=by decide):EJ X (.Name x pos) (v4 i):=⟨PE.imp (xn hN hv hd hcd) fun σ H Q ⟨L,S,k,hL,hS,h,n⟩=>by
  unfold v4 at h
  split at h
  ·rename_i d e
   obtain⟨v,e1,e2⟩:=hL.get e;exact⟨v,e1,n d S v H h (Kp.refl H) hS e2⟩
  ·exact h.elim⟩
theorem ag {i j pos}:EJ X (.Constant (.int i) j pos) (dC (.int i)):=⟨yB yq λ_=>isInt.mpr rfl⟩
theorem dj {i j pos}:EJ X (.Constant (.bool i) j pos) (dC (.bl i)):=⟨yB zr λ_=>a9.mpr rfl⟩
theorem uB {j pos}:EJ X (.Constant .none j pos) (dC .non):=⟨yB wR λ_=>bE.mpr rfl⟩
theorem j6 {i j pos}:EJ X (.Constant (.str i) j pos) (dC (.str i)):=⟨yB xP λ_=>cS.mpr rfl⟩
theorem ac:AJ X [] Bl:=⟨PA.imp fE fun σ H Q z9=>by obtain⟨L,S,k,hL,hS,h,n⟩:=z9; exact n [] S [] H h (Kp.refl H) hS IsDs.nil⟩
theorem aa {es:List Dx} {t:DA} (ha:EJ X a ga) (hr:AJ X es t) (hs:starEach (a::es) X.env=(false,eval a X.env)::starEach es X.env:=by exact bf rfl):AJ X (a::es) (wx ga t):=⟨have ha:=ha.h; have hr:=hr.h; PA.imp (cV ha hr hs) fun σ H Q ⟨L,S,k,hL,hS,h,n⟩=>up.go hL hS h λd S1 v H1 h1 k1 hL1 hS1 i1=>lI.go hL1 hS1 h1 λds S2 vs H2 h2 k2 hL2 hS2 i2=>
  n (d::ds) S2 (v::vs) H2 h2 (k1.trans k2) hS2 (IsDs.cons (i1.kp k2) i2)⟩
theorem aE {X:Cx} {x:Str} {pos:Pos} {es:List Dx} {t:DA} (n:Nat) (hr:AJ X es t) (hN:X.N[n]?=some x:=by rfl) (hv:Ah X.env.scope x:=by first | exact Or.inl rfl | exact Or.inr (Or.inl rfl) | exact Or.inr (Or.inr rfl)) (hd:(x == ("__debug__":Str))=false:=by decide) (hcd:(x == ("__classdict__":Str))=false:=by decide) (hs:starEach (.Name x pos::es) X.env=(false,eval (.Name x pos) X.env)::starEach es X.env:=by exact bf rfl):AJ X (.Name x pos::es) (wx (v4 n) t):=aa (ae n hN hv hd hcd) hr hs
theorem ay {es:List Dx} {x1} {t:DA} (h:AJ X es t):EJ X (.Tuple es x1 pos) (A_ t):=⟨have h:=h.h; PE.imp (xX h) fun σ H Q ⟨L,S,k,hL,hS,h,n⟩=>lI.go hL hS h λds S1 vs H1 h1 k1 hL1 hS1 i1=>by
  refine⟨by rw [<- i1.length]; exact h1.1,λp hp=>?_⟩
  have k2:Kp H1 (aZ H1 p (.tup vs)):=Kp.new hp;exact n (.tup ds) S1 _ _ h1.2 (k1.trans k2) (hS1.new hp) (aT.mpr ⟨p,vs,rfl,e_.of br,i1.kp k2⟩)⟩
theorem bV {es:List Dx} {t:DA} (h:AJ X es t):EJ X (.List es pos) (Bi t):=⟨have h:=h.h; PE.imp (xF h) fun σ H Q ⟨L,S,k,hL,hS,h,n⟩=>lI.go hL hS h λds S1 vs H1 h1 k1 hL1 hS1 i1=>by
  refine⟨by rw [<- i1.length]; exact h1.1,λp hp=>?_⟩
  exact n (.ref p) _ _ _ (h1.2 p (hS1.free hp)) (k1.trans (Kp.new hp)) (hS1.newL hp i1) (a8.mpr rfl)⟩
theorem au {op:Operator} {r:D2} (ho:cP X (binaryOp op) (fQ X.K r)) (ha:EJ X a ga) (hb:EJ X b gb):EJ X (.BinOp a op b pos) (yD r ga gb):=⟨have ha:=ha.h; have hb:=hb.h; PE.imp (yX ho ha hb) mz⟩
theorem ka {op:CmpOp} {r:D2} (ho:cP X (compareOp op) (fQ X.K r)) (ha:EJ X a ga) (hb:EJ X b gb) (hm:behindInMarks op b=false):EJ X (.Compare a [op] [b] pos) (yD r ga gb):=⟨have ha:=ha.h; have hb:=hb.h; PE.imp (vT ho ha hb hm) mz⟩
theorem aA {r:D2} (hr:rO X (fQ X.K r)) (ha:EJ X a ga) (hb:EJ X b gb) (hs:pV b):EJ X (.Subscript a b pos) (yD r ga gb):=⟨have ha:=ha.h; have hb:=hb.h; PE.imp (ze hr ha hb hs) mz⟩
theorem kU {op:UnaryOp} {r:D1} (ho:yL X (unaryOp op) (BP X.K r)) (ha:EJ X a ga):EJ X (.UnaryOp op a pos) (Cc r ga):=⟨have ha:=ha.h; PE.imp (yU ho ha) fun σ H Q z9=>by obtain⟨L,S,k,hL,hS,h,n⟩:=z9; exact up.go hL hS h λd S1 v H1 h1 k1 hL1 hS1 i1=>⟨d,S1,k,i1,hS1,h1,λd' S' v H' q k3 z1 z2=>n d' S' v H' q (k1.trans k3) z1 z2⟩⟩
theorem ax {op:CmpOp} {r:D2} (ho:cP X (compareOp op) (fQ X.K r)) (ha:EJ X a ga) (hb:EJ X b gb) (hm:behindInMarks op b=false):TJ X (.Compare a [op] [b] pos) (sj (yD r ga gb)):=⟨have ha:=ha.h; have hb:=hb.h; PT.imp (PT.imp (uY ho ha hb hm) fun σ H Q h=>mz σ H _ h) nL⟩
theorem qa {e:Dx} {g:DE} (h:EJ X e g) (he:∀ whole,isTrue e X.env whole=(do let v <- whole; standAt e.pos; holding [v] (truthy v)):=by intro _; rfl):TJ X e (sj g):=⟨have h:=h.h; PT.imp (yg h he) nL⟩
end
section
variable {X:Cx} {a b c:Dx} {ga gb gc:DE} {pos:Pos}
variable {tA tB':DT} {bn:List Dx}
theorem jB (ha:TJ X a tA):WJ X (.BoolOp .And [a] pos) tA:=⟨have ha:=ha.h; vp ha⟩
theorem jq (ha:TJ X a tA):WJ X (.BoolOp .Or [a] pos) tA:=⟨have ha:=ha.h; yp ha⟩
theorem lQ (ha:TJ X a tA) (hb:WJ X (.BoolOp .And (b::bn) pos) tB'):WJ X (.BoolOp .And (a::b::bn) pos) (zS tA tB'):=⟨have ha:=ha.h; have hb:=hb.h; PW.imp (ym ha hb) fun σ H Q ⟨L,S,k,hL,hS,h,n⟩=>qU.go hL hS h λc S1 H1 h1 k1 hL1 hS1=>by
  cases c with
  | true=>
   rw [if_pos rfl] at h1 ⊢;exact qU.go hL1 hS1 h1 λc2 S2 H2 h2 k2 _ hS2=>n c2 S2 H2 h2 (k1.trans k2) hS2
  | false=>
   rw [if_neg Cw] at h1 ⊢;exact n false S1 H1 h1 k1 hS1⟩
theorem mj (ha:TJ X a tA) (hb:WJ X (.BoolOp .Or (b::bn) pos) tB'):WJ X (.BoolOp .Or (a::b::bn) pos) (AZ tA tB'):=⟨have ha:=ha.h; have hb:=hb.h; PW.imp (y9 ha hb) fun σ H Q ⟨L,S,k,hL,hS,h,n⟩=>qU.go hL hS h λc S1 H1 h1 k1 hL1 hS1=>by
  cases c with
  | true=>
   rw [if_pos rfl] at h1 ⊢;exact n true S1 H1 h1 k1 hS1
  | false=>
   rw [if_neg Cw] at h1 ⊢;exact qU.go hL1 hS1 h1 λc2 S2 H2 h2 k2 _ hS2=>n c2 S2 H2 h2 (k1.trans k2) hS2⟩
end
section
variable {X:Cx} {x:Str} {p pos:Pos} {e:Dx} {es:List Dx} {t:DA} {id T:DN} {r:bW}
theorem aK (hc:bS X (.builtin id) (oW X.K r)) (hg:Gl X x) (hm:X.mg x=none) (hv:bootBuiltins x=some (.builtin id)) (ha:AJ X (e::es) t) (hn:x≠"__name__":=by decide) (hdb:(x == ("__debug__":Str))=false:=by decide) (he:starEach (e::es) X.env=(false,eval e X.env)::starEach es X.env:=by exact bf rfl) (hpl:(backTo pos (starEach es X.env)).any (·.1)=false:=by exact cK rfl):EJ X (.Call (.Name x p) (e::es) [] pos) (kT r t):=⟨have ha:=ha.h; PE.imp (nQ hc hg hm hv ha hn hdb he hpl) nR⟩
theorem cp (hc:bS X (.type T) (oW X.K r)) (hg:Gl X x) (hm:X.mg x=none) (hv:bootBuiltins x=some (.type T)) (ha:AJ X (e::es) t) (hn:x≠"__name__":=by decide) (hdb:(x == ("__debug__":Str))=false:=by decide) (he:starEach (e::es) X.env=(false,eval e X.env)::starEach es X.env:=by exact bf rfl) (hpl:(backTo pos (starEach es X.env)).any (·.1)=false:=by exact cK rfl):EJ X (.Call (.Name x p) (e::es) [] pos) (kT r t):=⟨have ha:=ha.h; PE.imp (lA hc hg hm hv ha hn hdb he hpl) nR⟩
theorem vO {n:Nat} {F:bW} (c:bH X.prog X.w X.K X.mg X.base x n F) (hr:cw n X.A) (hg:Gl X x) (ha:AJ X (e::es) t) (hdb:(x == ("__debug__":Str))=false:=by decide) (he:starEach (e::es) X.env=(false,eval e X.env)::starEach es X.env:=by exact bf rfl) (hpl:(backTo pos (starEach es X.env)).any (·.1)=false:=by exact cK rfl):EJ X (.Call (.Name x p) (e::es) [] pos) (kT F t):=⟨wS (c:=c) (hr:=hr) (hg:=hg) (ha:=ha.h) (hdb:=hdb) (he:=he) (hpl:=hpl)⟩
theorem dq {n m:Nat} {F:bW} (c:bH X.prog X.w X.K X.mg X.base x n F) (hr:cw m X.A) (ha:AJ X (e::es) t) (hg:Gl X x:=by exact rfl) (le:n<=m:=by decide) (hdb:(x == ("__debug__":Str))=false:=by decide) (he:starEach (e::es) X.env=(false,eval e X.env)::starEach es X.env:=by exact bf rfl) (hpl:(backTo pos (starEach es X.env)).any (·.1)=false:=by exact cK rfl):EJ X (.Call (.Name x p) (e::es) [] pos) (kT F t):=vO c (hr.mono le) hg ha hdb he hpl
theorem kh:OJ X none Ai:=⟨by
 intro DQ s σ H Q I h;obtain⟨L,S,k,hL,hS,h,n⟩:=h;exact vx DQ s σ H Q I (n none S H h (Kp.refl H) hS)⟩
theorem jT {e:Dx} {g:DE} (he:EJ X e g):OJ X (some e) (zd g):=⟨by
 have he:=he.h;intro DQ s σ H Q I h;obtain⟨L,S,k,hL,hS,h,n⟩:=h;refine v5 he DQ s σ H Q I (up.go hL hS h λd S1 v H1 h1 k1 hL1 hS1 i1=>?_)
 cases d with
 | int i=>
  have e1:=isInt.mp i1;subst e1;exact⟨i,rfl,n (some i) S1 H1 h1 k1 hS1⟩
 | _=>exact(show False from h1).elim⟩
end
section
variable {X:Cx} {st:DF} {bn:List DF} {g h:DS} {e:Dx} {ge:DE} {pos:Pos}
theorem aM:rf X [] wo:=⟨lE.imp vG λN σ H z9=>by obtain⟨L,S,M,hL,hS,h,r⟩:=z9; exact r.nx L S σ H h (Kp.refl H) hL hS⟩
theorem af (h1:SJ X st g) (h2:rf X bn h):rf X (st::bn) (xH g h):=⟨have h1:=h1.h; have h2:=h2.h; lE.imp (ui h1 h2) vg⟩
theorem ah (h1:SJ X st g):rf X [st] g:=⟨have h1:=h1.h; vB h1⟩
theorem bI (he:EJ X e ge) (hs:swapsWith e none pos.line X.env=pure false:=by rfl):SJ X (.Expr e pos) (zy ge):=⟨have he:=he.h; PS.imp (vI he hs) λN σ H z9=>by obtain⟨L,S,M,hL,hS,h,r⟩:=z9; exact up.go hL hS h λd S1 v H1 h1 k1 hL1 hS1 _=>r.nx L S1 σ H1 h1 k1 hL1 hS1⟩
theorem ao (he:EJ X e ge):SJ X (.Return (some e) pos) (A1 ge):=⟨have he:=he.h; PS.imp (xI he) λN σ H z9=>by obtain⟨L,S,M,hL,hS,h,r⟩:=z9; exact up.go hL hS h λd S1 v H1 h1 k1 _ hS1 i1=>r.rt d S1 v H1 h1 k1 hS1 i1⟩
theorem aJ {c:Dx} {a b:List DF} {gc:DT} (hc:TJ X c gc) (ha:rf X a g) (hb:rf X b h):SJ X (.If c a b pos) (wW gc g h):=⟨have hc:=hc.h; have ha:=ha.h; have hb:=hb.h; PS.imp (Aq hc ha hb) λN σ H ⟨L,S,M,hL,hS,q,r⟩=>qU.go hL hS q λt S1 H1 h1 k1 hL1 hS1=>by
  cases t with
  | true=>
   rw [if_pos rfl] at h1 ⊢;exact⟨L,S1,M,hL1,hS1,h1,r.kp k1⟩
  | false=>
   rw [if_neg Cw] at h1 ⊢;exact⟨L,S1,M,hL1,hS1,h1,r.kp k1⟩⟩
theorem o7:SJ X st yc:=⟨PS.imp uz λN σ H z9=>by obtain⟨L,S,M,hL,hS,h,r⟩:=z9; exact h.elim⟩
theorem ak {i:Nat} {x:Str} {pos':Pos} (hN:X.N.Nodup) (he:EJ X e ge) (hi:X.N[i]?=some x:=by rfl) (hx:yz X.env.scope x:=by first | exact Or.inl rfl | exact Or.inr rfl) (hs:swapsWith e (some (.Name x pos')) pos.line X.env=pure false:=by rfl) (hf:X.fn x=true\/X.env.scope.names.lookup x=some .local:=by first | exact .inl rfl | exact .inr rfl | assumption):SJ X (.Assign [.Name x pos'] e pos) (vQ i ge):=⟨have he:=he.h; PS.imp (yh hN hi hx he hs hf) λN σ H z9=>by obtain⟨L,S,M,hL,hS,h,r⟩:=z9; exact up.go hL hS h λd S1 v H1 h1 k1 hL1 hS1 i1=>r.nx _ S1 _ H1 h1 k1 (hL1.set i1 i) hS1⟩
theorem tP {i j:Nat} {x y:Str} {a b:Dx} {ta:DA} {px py pt:Pos} {kt k2 pt2} (hc:X.calm=true) (hN:X.N.Nodup) (hij:i≠j) (ha:AJ X [a,b] ta) (hi:X.N[i]?=some x:=by rfl) (hj:X.N[j]?=some y:=by rfl) (hx:X.env.scope.names.lookup x=some .local:=by rfl) (hy:X.env.scope.names.lookup y=some .local:=by rfl) (hw:swappedStores [.Tuple [.Name x px,.Name y py] kt pt] (.Tuple [a,b] k2 pt2) X.env=pure (some [x,y]):=by rfl) (hs:swapsWithSole [.Tuple [.Name x px,.Name y py] kt pt] (.Tuple [a,b] k2 pt2) pos.line X.env=pure false:=by rfl):SJ X (.Assign [.Tuple [.Name x px,.Name y py] kt pt] (.Tuple [a,b] k2 pt2) pos) (Bz i j ta):=⟨have ha:=ha.h; PS.imp (w9 hc hN hi hj hij hx hy ha hw hs) λN σ H ⟨L,S,M,hL,hS,h,r⟩=>lI.go hL hS h λds S1 vs H1 h1 k1 hL1 hS1 i1=>by
  split at h1
  ·obtain⟨v,u,rfl,j1,j2⟩:=jD i1;exact⟨v,u,rfl,r.nx _ S1 _ H1 h1 k1 ((hL1.set j1 i).set j2 j) hS1⟩
  ·exact h1.elim⟩
theorem ap {i:Nat} {x:Str} (hN:X.N.Nodup) (hi:X.N[i]?=some x:=by rfl) (hx:yz X.env.scope x:=by first | exact Or.inl rfl | exact Or.inr rfl) (hf:X.fn x=true\/X.env.scope.names.lookup x=some .local:=by first | exact .inl rfl | exact .inr rfl | assumption):GJ X (.Name x pos) (fq i):=⟨PG.imp (qH hN hi hx hf) λv σ H Q z9=>by obtain⟨d,L,S,k,i1,hL,hS,h,n⟩:=z9; exact n _ S _ H h (Kp.refl H) (hL.set i1 i) hS⟩
theorem cN:y4 X [] wE:=⟨rT.imp vy λv σ H Q ⟨d,L,S,k,i1,hL,hS,h,n⟩=>by
 obtain⟨rfl,h⟩:=h;exact⟨di.mp i1,n L S σ H h (Kp.refl H) hL hS⟩⟩
theorem aO {es:List Dx} {t:DG} {u:uN} (h1:GJ X e t) (h2:y4 X es u) (hs:(assignEach (e::es) X.env).map (·.2)=assign e X.env::(assignEach es X.env).map (·.2):=by rfl):y4 X (e::es) (pi t u):=⟨have h1:=h1.h; have h2:=h2.h; rT.imp (sr h1 h2 hs) λvs σ H Q ⟨ds,L,S,k,i1,hL,hS,h,n⟩=>by
  cases ds with
  | nil=>exact(show False from h).elim
  | cons d r=>
   obtain⟨v,vr,rfl,j1,j2⟩:=bh.mp i1;exact⟨v,vr,rfl,d,L,S,_,j1,hL,hS,h,λL1 S1 σ1 H1 q k1 hL1 hS1=>⟨r,L1,S1,k,j2.kp k1,hL1,hS1,q,λL' S' σ' H' q' k'=>n L' S' σ' H' q' (k1.trans k')⟩⟩⟩
theorem cL {tg e:Dx} {g:DG} (he:EJ X e ge) (hg:GJ X tg g) (hs:swapsWithSole [tg] e pos.line X.env=pure false:=by rfl) (hw:swappedStores [tg] e X.env=pure none:=by rfl) (h1:(assignEach [tg] X.env).map (·.2)=[assign tg X.env]:=by rfl):SJ X (.Assign [tg] e pos) (BH ge g):=⟨have he:=he.h; have hg:=hg.h; PS.imp (x6 he hg hs hw h1) λN σ H z9=>by obtain⟨L,S,M,hL,hS,h,r⟩:=z9; exact up.go hL hS h λd S1 v H1 h1 k1 hL1 hS1 i1=>
  ⟨d,L,S1,M.nx,i1,hL1,hS1,h1,λL' S' σ' H' q k' hL' hS'=>r.nx L' S' σ' H' q (k1.trans k') hL' hS'⟩⟩
theorem jI {c:Dx} {body:List DF} {gc:DT} (hp:PassesOwn (model X.prog X.w) X.A X.env X.xe) (hc:TJ X c gc) (hb:rf X body g):SJ X (.While c body [] pos) (wZ gc g):=⟨have hc:=hc.h; have hb:=hb.h; PS.imp (r_ hp hc hb) λN σ H ⟨L,S,M,hL,hS,⟨W,⟨m0,w0⟩,turn⟩,r⟩=>by
  refine⟨λm σ H1=>∃ L S,Lc X.K H1 L σ/\Hs X.K H1 S/\W m L S/\Kp H H1,⟨m0,L,S,hL,hS,w0,Kp.refl H⟩,?_⟩
  rintro m σ1 H1 ⟨L1,S1,hL1,hS1,w1,k1⟩;refine qU.go hL1 hS1 (turn m L1 S1 w1) λt S2 H2 h2 k2 hL2 hS2=>?_
  cases t with
  | true=>
   rw [if_pos rfl] at h2 ⊢;obtain⟨N',hN,hb⟩:=h2;refine⟨fun σ' H'=>∃ L' S',Lc X.K H' L' σ'/\Hs X.K H' S'/\N' L' S'/\Kp H H',?_,L1,S2,_,hL2,hS2,hb,?_⟩
   ·rintro σ' H' ⟨L',S',hL',hS',n',k'⟩;obtain⟨m',hm,w'⟩:=hN L' S' n';exact⟨m',hm,L',S',hL',hS',w',k'⟩
   ·have r2:=r.kp (k1.trans k2);exact⟨λL' S' σ' H' n' k' hL' hS'=>⟨L',S',hL',hS',n',(k1.trans k2).trans k'⟩,r2.rt,r2.nx,λL' S' σ' H' n' k' hL' hS'=>⟨L',S',hL',hS',n',(k1.trans k2).trans k'⟩⟩
  | false=>
   rw [if_neg Cw] at h2 ⊢;exact(r.kp (k1.trans k2)).nx L1 S2 σ1 H2 h2 (Kp.refl H2) hL2 hS2⟩
theorem eC {tg a:Dx} {body:List DF} {ta:DA} {gg:DG} {p pos':Pos} (hp:PassesOwn (model X.prog X.w) X.A X.env X.xe) (hc:X.calm=true) (hgl:Gl X "range") (hm:X.mg "range"=none) (ha:AJ X [a] ta) (hg:GJ X tg gg) (hb:rf X body g) (hs1:starEach [a] X.env=[(false,eval a X.env)]:=by rfl) (hs:∀ x,foldedSetIterable (.Call (.Name "range" p) [a] [] pos') X.env x=pure x:=by intro _; rfl):SJ X (.For tg (.Call (.Name "range" p) [a] [] pos') body [] pos) (zv ta gg g):=⟨have ha:=ha.h; have hg:=hg.h; have hb:=hb.h; PS.imp (j_ hp hc (fX hgl hm ha hs1) hg hb hs) λN σ H ⟨L,S,M,hL,hS,h,r⟩=>lI.go hL hS h λds S1 vs H1 h1 k1 hL1 hS1 i1=>by
  split at h1
  ·obtain⟨v,rfl,j⟩:=eu i1;have e:=isInt.mp j;subst e;obtain⟨⟨h2,h3⟩,h1⟩:=h1;refine⟨_,rfl,h2,h3,ie hL1 hS1 h1 (r.kp k1) (λi d S2 H2 e k2 hS2 _=>?_) λS2 H2 k2 hS2 _=>?_⟩
   ·rw [CQ] at e;cases q:(List.range (Int.toNat _))[i]? with
    | none=>rw [q] at e; cases e
    | some z=>
     rw [q] at e;cases e;have hz:=CW.mp q;obtain⟨hz1,hz2⟩:=hz;rw [List.length_range] at hz1;rw [List.getElem_range] at hz2;subst hz2;exact⟨hz1,λx H' y=>⟨y.1,by rw [y.2]; exact isInt.mpr (by rw [Int.zero_add])⟩⟩
   ·rw [Cv,List.length_range];exact Ct _
  ·exact h1.elim⟩
end
section
variable {P:Dy} {w:DC} {K:Fg} {mg:Str->Dw Du} {base:DD}
theorem _root_.L2.qX.okJ {x DR:Str} {st:DF} {f:Dv} {fd:FuncData} {N ps:List Str} {k:Nat} {F:bW} (Fn:qX K x DR st f fd) (Sc:aq N ps (ai st)) (len:∀ ds S k,F ds S k->ds.length=ps.length)
  (hbody:∀ (cdv:Du) (A:Dz) (outer:List Env) (s:Dt) (H:Hp) (E:XK),cw k (A.deeper (envOfC DR (ai st) s.heap.objs.size f cdv))->
   ∃ g,rf (nX cx P w K mg base N DR (ai st) f cdv A outer s H E).nox (bK st) g/\
    ∀ ds S k,F ds S k->g {nx:=λ_ S'=>k .non S',rt:=k} (ds.map some++List.replicate (N.length - ps.length) none) S):aW P w K mg base cx (k+1) f fd ps (cO K F):=
 Fn.okD Sc len λcdv A outer s H E hr=>let ⟨g,h,q⟩:=hbody cdv A outer s H E hr; ⟨g,h.h,q⟩
end
end DL
namespace L2
open PySem PySem.Spec PyProof.Rows
section
variable {X:Cx} {pos:Pos}
def BB (K:PySem.W.Frag) (n:Nat) (t:sB):TG:=λv σ H Q=>∃ a xs,v=.ref a/\dO K H a xs/\xs.length=n/\t xs σ H Q
theorem xi {es:List Dx} {k:Nat} {t:sB} {n:Nat} (hc:X.calm=true) (h:rT X es t)
  (hn:(assignEach es X.env).length=n:=by rfl) (hst:(assignEach es X.env).findIdx? (·.1)=none:=by rfl):PG X (.Tuple es k pos) (BB X.K n t):=by
 intro DQ s σ H v u Q I r hw;obtain⟨a,xs,e1,hq,hl,hw⟩:=hw;subst e1;cases r;obtain⟨its,rv,ht,hz⟩:=I.list hq;have e2:(assignEach es X.env).length=its.toArray.size:=by simp [hn,<- hl,rv.length]
 rw [arm_assign_Tuple];refine gt (wpAny_standAt ?_);unfold unpack;rw [e2,hst];refine gt (CN (PySem.W.kun_itemsOf (I.ok.hd hc) ht.isList λh' hx=>?_))
 have I1:aw X DQ σ H {s with heap:=h'}:=I.kept (t':=s.toks) λb o e=>hx b o (CA (Cs e)) e
 exact h DQ _ σ H xs _ Q I1 (by simpa using rv) hw
theorem PG.or {e:Dx} {t t':TG} (h:PG X e t) (h':PG X e t'):PG X e (λv σ H Q=>t v σ H Q\/t' v σ H Q):=by
 intro DQ s σ H v u Q I r q;rcases q with q | q
 ·exact h DQ s σ H v u Q I r q
 ·exact h' DQ s σ H v u Q I r q
end
def i7 (X:Cx) (scope:Scope):List (Dw Nat)->List Str->Prop
 | some j::r,x::xs=>(X.N[j]?=some x/\(X.env.scope.names.lookup x=some .cell\/X.env.scope.names.lookup x=some .free)/\((relabel scope X.env).names.lookup x=some .cell\/(relabel scope X.env).names.lookup x=some .free))/\i7 X scope r xs
 | none::r,_::xs=>i7 X scope r xs
 | _,_=>True
theorem i7.get {X:Cx} {scope:Scope}:∀ {cap:List (Dw Nat)} {N:List Str},i7 X scope cap N->∀ (i j:Nat) (x:Str),cap[i]?=some (some j)->N[i]?=some x->
  X.N[j]?=some x/\(X.env.scope.names.lookup x=some .cell\/X.env.scope.names.lookup x=some .free)/\((relabel scope X.env).names.lookup x=some .cell\/(relabel scope X.env).names.lookup x=some .free)
 | [],_,_,_,_,_,h,_=>by simp at h
 | _::_,[],_,_,_,_,_,h=>by simp at h
 | some _::_,_::_,h,0,j,x,h1,h2=>by
  simp at h1 h2
  subst h1 h2;exact h.1
 | none::_,_::_,_,0,j,x,h1,_=>by simp at h1
 | some _::_,_::_,h,i+1,j,x,h1,h2=>i7.get h.2 i j x (by simpa using h1) (by simpa using h2)
 | none::r,_::xs,h,i+1,j,x,h1,h2=>i7.get (show i7 X scope r xs from h) i j x (by simpa using h1) (by simpa using h2)
def n9 (X:Cx):List (Str×Dv)->Prop
 | []=>True
 | p::r=>X.env.cells.lookup p.1=some p.2/\n9 X r
theorem n9.mem {X:Cx}:∀ {cl:List (Str×Dv)},n9 X cl->∀ p∈cl,X.env.cells.lookup p.1=some p.2
 | [],_,p,hp=>by simp at hp
 | q::r,h,p,hp=>by
  rcases Cz.mp hp with e | e
  ·subst e; exact h.1
  ·exact n9.mem h.2 p e
theorem bG {X:Cx} {scope:Scope} {cl:List (Str×Dv)} {N:List Str} {cap:List (Dw Nat)} (h1:scope.kind=.function) (h2:closureFor scope X.env=pure cl) (h3:(scope.names.all λy=>y.2 != NameKind.cell)=true)
  (h4:(scope.names.all λy=>y.2 != NameKind.local || scope.names.lookup y.1 == some NameKind.local)=true) (h5:n9 X cl)
  (h6:((relabel scope X.env).names.all λy=>(y.2 != NameKind.cell && y.2 != NameKind.free) || (cl.lookup y.1).isSome)=true) (h7:cap.length=N.length) (h8:i7 X scope cap N):cg X scope cl N cap:=⟨h1,h2,h3,h4,h5.mem,h6,h7,h8.get⟩
end L2
namespace DL
open PySem PySem.Spec PyProof.Rows L2
section
variable {X:Cx} {pos:Pos}
def ik (n:Nat) (t:uN):DG:=λd L S k=>match ar S d with
 | some p=>p.1.length=n/\t p.1 L S k
 | none=>False
theorem xA {es:List Dx} {k:Nat} {t:uN} {n:Nat} (hc:X.calm=true) (h:y4 X es t) (hn:(assignEach es X.env).length=n:=by rfl) (hst:(assignEach es X.env).findIdx? (·.1)=none:=by rfl):GJ X (.Tuple es k pos) (ik n t):=
 ⟨PG.imp (PG.or (xa hc h.h hn hst) (xi hc h.h hn hst)) λv σ H Q ⟨d,L,S,k,i1,hL,hS,h,m⟩=>by
  cases d with
  | tup ds=>
   obtain⟨a,xs,rfl,t1,j⟩:=aT.mp i1;exact .inl ⟨a,xs,rfl,t1,by rw [<- j.length]; exact h.1,ds,L,S,k,j,hL,hS,h.2,m⟩
  | rl ds=>
   obtain⟨a,xs,rfl,t1,j⟩:=m_.mp i1;exact .inr ⟨a,xs,rfl,t1.sq,by rw [<- j.length]; exact h.1,ds,L,S,k,j,hL,hS,h.2,m⟩
  | ref a=>
   have e1:=a8.mp i1;subst e1;cases z:S a with
   | none=>simp only [ik,ar,z] at h
   | some o=>
    cases o with
    | dic=>simp only [ik,ar,z] at h
    | exc _=>simp only [ik,ar,z] at h
    | fn _=>simp only [ik,ar,z] at h
    | tbl _=>simp only [ik,ar,z] at h
    | gen _=>simp only [ik,ar,z] at h
    | lst ds=>
     simp only [ik,ar,z] at h;obtain⟨xs,hl,j⟩:=hS.lst z;exact .inr ⟨a,xs,rfl,dO.of hl,by rw [<- j.length]; exact h.1,ds,L,S,k,j,hL,hS,h.2,m⟩
  | _=>exact(show False from h).elim⟩
end
def q_ (cap:List (Dw Nat)) (L:Lo):Lo:=cap.map λo=>match o with
 | some j=>(L[j]?).join
 | none=>none
theorem Lc.cap {K:Fg} {H:Hp} {L:Lo} {σ:L2.St} (hL:Lc K H L σ):∀ cap:List (Dw Nat),Lc K H (q_ cap L) (gT cap σ)
 | []=>rfl
 | Option.none::r=>⟨_,_,rfl,Lc.cap hL r⟩
 | Option.some j::r=>by
  show Lc K H ((L[j]?).join::q_ r L) ((σ[j]?).join::gT r σ)
  cases e:L[j]? with
  | none=>exact⟨_,_,rfl,Lc.cap hL r⟩
  | some o=>
   cases o with
   | none=>exact⟨_,_,rfl,Lc.cap hL r⟩
   | some d=>
    obtain⟨v,e1,e2⟩:=hL.get e;rw [e1];exact⟨v,_,rfl,e2,Lc.cap hL r⟩
abbrev DB:=Lo->DH->(Dw D->DH->Prop)->Prop
def fm (ge:DE):DB:=λL S k=>ge L S λv S1=>k (some v) S1
def vd (c:DT) (ge:DE):DB:=λL S k=>c L S λb S1=>if b=true then ge L S1 λv S2=>k (some v) S2 else k none S1
def bA (ok:DH->Prop) (p:Dv) (g:DG) (bd:DB) (k:DK):List D->List D->Lo->DH->Prop
 | [],_,_,S=>ok S/\k (.ref p) S
 | d::r,acc,L,S=>ok S/\g d L S λL1 S1=>bd L1 S1 λo S2=>match o with
  | some v=>S2 p=some (.lst acc)/\acc.length < sizeLine/\bA ok p g bd k r (acc++[v]) L1 (put S2 p (.lst (acc++[v])))
  | none=>bA ok p g bd k r acc L1 S2
def oF (cap:List (Dw Nat)) (ta:DA) (g:DG) (bd:DB):DE:=λL S k=>ta L S λds S1=>match ds with
 | [.int n]=>(-(2 ^ 62)<=n/\n < 2 ^ 62)/\∀ p,S1 p=none->bA (λ_=>True) p g bd k ((List.range n.toNat).map λi=>D.int (i:Nat)) [] (q_ cap L) (put S1 p (.lst []))
 | _=>False
section
variable {K:Fg} {ok:DH->Prop} {gg:DG} {ge:DE} {gc:DT} {k:DK} {ds:List D} {L:Lo} {S:DH} {σ:L2.St} {H:Hp} {J:It} {Q:VK} {p:Dv}
theorem cG (hL:Lc K H L σ) (hS:Hs K H S) (hp:H p=none) (h:bA ok p gg (fm ge) k ds [] L (put S p (.lst [])))
  (n:∀ d S' v H',k d S'->Kp H H'->Hs K H' S'->a_ K H' d v->Q v H')
  (hgo:∀ i d S1 H1,ds[i]?=some d->Kp H H1->Hs K H1 S1->ok S1->J.go i H1/\∀ x H',J.yld i H1 x H'->H'=H1/\a_ K H1 d x)
  (hst:∀ S1 H1,Kp H H1->Hs K H1 S1->ok S1->J.stop ds.length H1):
  ∃ W:Nat->Nat->L2.St->Hp->Prop,(∃ m,W 0 m σ (aZ H p (.lst [])))/\∀ i m σ' H',W i m σ' H'->
   (J.stop i H'/\Q (.ref p) H')\/(J.go i H'/\∃ N:L2.St->Hp->Prop,(∀ σ2 H2,N σ2 H2->∃ m',m' < m/\W (i+1) m' σ2 H2)/\∀ x H2,J.yld i H' x H2->yA K gg x σ' H2 fun σ3 H3=>up K ge σ3 H3 λv H4=>∃ ys,H4 p=some (.lst ys)/\ys.length < sizeLine/\N σ3 (aZ H4 p (.lst (ys++[v])))):=by
 refine⟨λi m σ1 H1=>m=ds.length - i/\i<=ds.length/\∃ acc L1 S1,Lc K H1 L1 σ1/\Hs K H1 S1/\Kp H H1/\bA ok p gg (fm ge) k (ds.drop i) acc L1 S1,⟨ds.length,by simp,Dd _,[],L,_,hL.kp (Kp.new hp),hS.newL hp IsDs.nil,Kp.new hp,h⟩,?_⟩
 rintro i m σ1 H1 ⟨rfl,hi,acc,L1,S1,hL1,hS1,k1,w1⟩
 by_cases hlt:i < ds.length
 ·have e:ds.drop i=ds[i]::ds.drop (i+1):=Db hlt;rw [e] at w1;obtain⟨o1,w1⟩:=w1;obtain⟨g1,y1⟩:=hgo i ds[i] S1 H1 (by simp [hlt]) k1 hS1 o1
  refine .inr ⟨g1,fun σ' H'=>i+1<=ds.length/\∃ acc L' S',Lc K H' L' σ'/\Hs K H' S'/\Kp H H'/\bA ok p gg (fm ge) k (ds.drop (i+1)) acc L' S',fun σ' H' z9=>by obtain⟨q1,q2⟩:=z9; exact⟨ds.length - (i+1),by omega,rfl,q1,q2⟩,λx H' y=>?_⟩
  obtain⟨rfl,ix⟩:=y1 x H' y;refine⟨ds[i],L1,S1,_,ix,hL1,hS1,w1,λL2 S2 σ2 H2 q k2 hL2 hS2=>up.go hL2 hS2 q λd S3 v H3 h3 k3 hL3 hS3 i3=>?_⟩
  obtain⟨z1,z2,z3⟩:=h3;obtain⟨xs,hl,j⟩:=hS3.lst z1;have k4:Kp H3 (aZ H3 p (.lst (xs++[v]))):=Kp.mut hl (λz=>z)
  exact⟨xs,hl,by rw [<- j.length]; exact z2,hlt,_,L2,_,hL3.kp k4,hS3.setL hl (j.append (IsDs.cons i3 IsDs.nil)),((k1.trans k2).trans k3).trans k4,z3⟩
 ·have e:i=ds.length:=by omega
  subst e;rw [List.drop_length] at w1;obtain⟨o1,w1⟩:=w1;exact .inl ⟨hst S1 H1 k1 hS1 o1,n _ S1 _ H1 w1 k1 hS1 (a8.mpr rfl)⟩
theorem nV (hL:Lc K H L σ) (hS:Hs K H S) (hp:H p=none) (h:bA ok p gg (vd gc ge) k ds [] L (put S p (.lst [])))
  (n:∀ d S' v H',k d S'->Kp H H'->Hs K H' S'->a_ K H' d v->Q v H')
  (hgo:∀ i d S1 H1,ds[i]?=some d->Kp H H1->Hs K H1 S1->ok S1->J.go i H1/\∀ x H',J.yld i H1 x H'->H'=H1/\a_ K H1 d x)
  (hst:∀ S1 H1,Kp H H1->Hs K H1 S1->ok S1->J.stop ds.length H1):
  ∃ W:Nat->Nat->L2.St->Hp->Prop,(∃ m,W 0 m σ (aZ H p (.lst [])))/\∀ i m σ' H',W i m σ' H'->
   (J.stop i H'/\Q (.ref p) H')\/(J.go i H'/\∃ N:L2.St->Hp->Prop,(∀ σ2 H2,N σ2 H2->∃ m',m' < m/\W (i+1) m' σ2 H2)/\∀ x H2,J.yld i H' x H2->yA K gg x σ' H2 fun σ3 H3=>qU K gc σ3 H3 λb H3'=>if b=true then up K ge σ3 H3' λv H4=>∃ ys,H4 p=some (.lst ys)/\ys.length < sizeLine/\N σ3 (aZ H4 p (.lst (ys++[v]))) else N σ3 H3'):=by
 refine⟨λi m σ1 H1=>m=ds.length - i/\i<=ds.length/\∃ acc L1 S1,Lc K H1 L1 σ1/\Hs K H1 S1/\Kp H H1/\bA ok p gg (vd gc ge) k (ds.drop i) acc L1 S1,⟨ds.length,by simp,Dd _,[],L,_,hL.kp (Kp.new hp),hS.newL hp IsDs.nil,Kp.new hp,h⟩,?_⟩
 rintro i m σ1 H1 ⟨rfl,hi,acc,L1,S1,hL1,hS1,k1,w1⟩
 by_cases hlt:i < ds.length
 ·have e:ds.drop i=ds[i]::ds.drop (i+1):=Db hlt;rw [e] at w1;obtain⟨o1,w1⟩:=w1;obtain⟨g1,y1⟩:=hgo i ds[i] S1 H1 (by simp [hlt]) k1 hS1 o1
  refine .inr ⟨g1,fun σ' H'=>i+1<=ds.length/\∃ acc L' S',Lc K H' L' σ'/\Hs K H' S'/\Kp H H'/\bA ok p gg (vd gc ge) k (ds.drop (i+1)) acc L' S',fun σ' H' z9=>by obtain⟨q1,q2⟩:=z9; exact⟨ds.length - (i+1),by omega,rfl,q1,q2⟩,λx H' y=>?_⟩
  obtain⟨rfl,ix⟩:=y1 x H' y;refine⟨ds[i],L1,S1,_,ix,hL1,hS1,w1,λL2 S2 σ2 H2 q k2 hL2 hS2=>qU.go hL2 hS2 q λb S2' H2' h2 k2' hL2' hS2'=>?_⟩
  cases b with
  | true=>
   rw [if_pos rfl] at h2 ⊢;refine up.go hL2' hS2' h2 λd S3 v H3 h3 k3 hL3 hS3 i3=>?_
   obtain⟨z1,z2,z3⟩:=h3;obtain⟨xs,hl,j⟩:=hS3.lst z1;have k4:Kp H3 (aZ H3 p (.lst (xs++[v]))):=Kp.mut hl (λz=>z)
   exact⟨xs,hl,by rw [<- j.length]; exact z2,hlt,_,L2,_,hL3.kp k4,hS3.setL hl (j.append (IsDs.cons i3 IsDs.nil)),(((k1.trans k2).trans k2').trans k3).trans k4,z3⟩
  | false=>
   rw [if_neg Cw] at h2 ⊢;exact⟨hlt,acc,L2,S2',hL2',hS2',(k1.trans k2).trans k2',h2⟩
 ·have e:i=ds.length:=by omega
  subst e;rw [List.drop_length] at w1;obtain⟨o1,w1⟩:=w1;exact .inl ⟨hst S1 H1 k1 hS1 o1,n _ S1 _ H1 w1 k1 hS1 (a8.mpr rfl)⟩
end
theorem jS {K:Fg} {H:Hp} {n:Int}:∀ i d (S1:DH) H1,((List.range n.toNat).map λi=>D.int (i:Nat))[i]?=some d->Kp H H1->Hs K H1 S1->(λ_=>True:DH->Prop) S1->(vi 0 n.toNat).go i H1/\∀ x H',(vi 0 n.toNat).yld i H1 x H'->H'=H1/\a_ K H1 d x:=by
 intro i d S1 H1 e _ _ _;rw [CQ] at e;cases q:(List.range (Int.toNat _))[i]? with
 | none=>rw [q] at e; cases e
 | some z=>
  rw [q] at e;cases e;obtain⟨hz1,hz2⟩:=CW.mp q;rw [List.length_range] at hz1;rw [List.getElem_range] at hz2;subst hz2;exact⟨hz1,λx H' y=>⟨y.1,by rw [y.2]; exact isInt.mpr (by rw [Int.zero_add])⟩⟩
section
variable {X:Cx} {elt tg iter c a:Dx} {scope:Scope} {cl:List (Str×Dv)} {N:List Str} {cap:List (Dw Nat)} {pos p pos':Pos} {gg:DG} {ge gi:DE} {gc:DT} {ta:DA}
theorem nB (hc:X.calm=true) (Sc:cg X scope cl N cap) (hgl:Gl X "range") (hm:X.mg "range"=none) (ha:AJ X [a] ta) (hg:∀ s0 H0 ex C,GJ (dS X scope cl N s0 H0 ex C) tg gg) (he:∀ s0 H0 ex C,EJ (dS X scope cl N s0 H0 ex C) elt ge)
  (hs1:starEach [a] X.env=[(false,eval a X.env)]:=by exact bf rfl) (hs:∀ x,foldedSetIterable (.Call (.Name "range" p) [a] [] pos') X.env x=pure x:=by intro _; rfl):
  EJ X (.ListComp elt [⟨tg,.Call (.Name "range" p) [a] [] pos',[],0⟩] scope pos) (oF cap ta gg (fm ge)):=
 ⟨PE.imp (jp hc Sc (fX hgl hm ha.h hs1) (λs0 H0 ex C=>(hg s0 H0 ex C).h) (λs0 H0 ex C=>(he s0 H0 ex C).h) hs) fun σ H Q ⟨L,S,k,hL,hS,h,n⟩=>lI.go hL hS h λds S1 vs H1 h1 k1 hL1 hS1 i1=>by
  split at h1
  ·obtain⟨v,rfl,j⟩:=eu i1;have e:=isInt.mp j;subst e;obtain⟨⟨h2,h3⟩,h1⟩:=h1;refine⟨_,rfl,h2,h3,λD hD=>cG (hL1.cap cap) hS1 hD (h1 D (hS1.free hD)) (λd S' v H' q k3=>n d S' v H' q (k1.trans k3)) jS λS2 H2 k2 hS2 _=>?_⟩
   rw [Cv,List.length_range];exact Ct _
  ·exact h1.elim⟩
theorem kd (hc:X.calm=true) (Sc:cg X scope cl N cap) (hgl:Gl X "range") (hm:X.mg "range"=none) (ha:AJ X [a] ta) (hg:∀ s0 H0 ex C,GJ (dS X scope cl N s0 H0 ex C) tg gg) (hcn:∀ s0 H0 ex C,TJ (dS X scope cl N s0 H0 ex C) c gc) (he:∀ s0 H0 ex C,EJ (dS X scope cl N s0 H0 ex C) elt ge)
  (hs1:starEach [a] X.env=[(false,eval a X.env)]:=by exact bf rfl) (hs:∀ x,foldedSetIterable (.Call (.Name "range" p) [a] [] pos') X.env x=pure x:=by intro _; rfl):
  EJ X (.ListComp elt [⟨tg,.Call (.Name "range" p) [a] [] pos',[c],0⟩] scope pos) (oF cap ta gg (vd gc ge)):=
 ⟨PE.imp (qY hc Sc (fX hgl hm ha.h hs1) (λs0 H0 ex C=>(hg s0 H0 ex C).h) (λs0 H0 ex C=>(hcn s0 H0 ex C).h) (λs0 H0 ex C=>(he s0 H0 ex C).h) hs) fun σ H Q ⟨L,S,k,hL,hS,h,n⟩=>lI.go hL hS h λds S1 vs H1 h1 k1 hL1 hS1 i1=>by
  split at h1
  ·obtain⟨v,rfl,j⟩:=eu i1;have e:=isInt.mp j;subst e;obtain⟨⟨h2,h3⟩,h1⟩:=h1;refine⟨_,rfl,h2,h3,λD hD=>nV (hL1.cap cap) hS1 hD (h1 D (hS1.free hD)) (λd S' v H' q k3=>n d S' v H' q (k1.trans k3)) jS λS2 H2 k2 hS2 _=>?_⟩
   rw [Cv,List.length_range];exact Ct _
  ·exact h1.elim⟩
end
def u7 (K:Fg) (mg:Str->Dw Du) (x:Str) (ns:List Int):Prop:=∃ p o its n,mg x=some (.ref p)/\K.lookup p=some o/\o.cls=.type "tuple"/\o.data=.seq its n/\its.size<=sizeLine/\aF (ns.map V.int) its.toList
theorem ip {K:Fg} {H:Hp}:∀ ns:List Int,IsDs K H (ns.map D.int) (ns.map V.int)
 | []=>IsDs.nil
 | _::ns=>IsDs.cons (isInt.mpr rfl) (ip ns)
theorem uF {X:Cx} {x:Str} {ns:List Int} {pos:Pos} (g:u7 X.K X.mg x ns) (hg:Gl X x) (hd:(x == ("__debug__":Str))=false:=by decide):EJ X (.Name x pos) (dC (.tup (ns.map D.int))):=by
 obtain⟨p,o,its,n,hm,h1,h2,h3,h4,h5⟩:=g;exact⟨yB (ql (v:=.ref p) hg hm rfl hd) λH=>aT.mpr ⟨p,_,rfl,.inr ⟨o,its,n,h1,h2,h3,h4,h5⟩,ip ns⟩⟩
theorem fQ.imp {K:Fg} {r r':D2} (i:∀ d e S k,r' d e S k->r d e S k):∀ x y H Q,fQ K r' x y H Q->fQ K r x y H Q:=λx y H Q z9=>by obtain⟨d,e,S,k,a,b,c,h,n⟩:=z9; exact⟨d,e,S,k,a,b,c,i d e S k h,n⟩
theorem oW.imp {K:Fg} {r r':bW} (i:∀ ds S k,r' ds S k->r ds S k):∀ xs H Q,oW K r' xs H Q->oW K r xs H Q:=λxs H Q z9=>by obtain⟨ds,S,k,a,b,h,n⟩:=z9; exact⟨ds,S,k,a,b,i ds S k h,n⟩
theorem cP.imp {X:Cx} {f:Du->Du->Sem Du} {r r':R2} (h:cP X f r) (i:∀ x y H Q,r' x y H Q->r x y H Q):cP X f r':=λDQ s σ H x y v u Q I rx ry q=>h DQ s σ H x y v u Q I rx ry (i x y H Q q)
theorem rO.imp {X:Cx} {r r':R2} (h:rO X r) (i:∀ x y H Q,r' x y H Q->r x y H Q):rO X r':=λvalue slice DQ s σ H x y v u Q I rx ry q=>h value slice DQ s σ H x y v u Q I rx ry (i x y H Q q)
theorem bS.imp {X:Cx} {f:Du} {r r':List V->Hp->VK->Prop} (h:bS X f r) (i:∀ xs H Q,r' xs H Q->r xs H Q):bS X f r':=λDQ s σ H xs us Q I rs q=>h DQ s σ H xs us Q I rs (i xs H Q q)
def yx:D2:=λd e S k=>match d,e with
 | .tup ds,.int i=>(match L2.atI ds i with
  | some c=>k c S
  | none=>False)
 | .rl ds,.int i=>∃ c,L2.atI ds i=some c/\k c S
 | .ref a,.int i=>∃ ds c,S a=some (.lst ds)/\L2.atI ds i=some c/\k c S
 | _,_=>False
theorem cT {X:Cx}:rO X (fQ X.K yx):=rO.imp yT (fQ.imp λd e S k h=>by
 unfold yx at h
 split at h
 ·exact h
 ·obtain⟨c,h1,h2⟩:=h;simp only [m3,h1];exact h2
 ·obtain⟨ds,c,h0,h1,h2⟩:=h;simp only [m3,h0,h1];exact h2
 ·exact h.elim)
theorem bX {X:Cx} {x:Str} {p1 p2 pos:Pos} {c:Int} {j} (n:Nat) (hN:X.N[n]?=some x:=by rfl) (hv:Ah X.env.scope x:=by first | exact Or.inl rfl | exact Or.inr (Or.inl rfl) | exact Or.inr (Or.inr rfl)) (hd:(x == ("__debug__":Str))=false:=by decide) (hcd:(x == ("__classdict__":Str))=false:=by decide):EJ X (.Subscript (.Name x p1) (.Constant (.int c) j p2) pos) (yD yx (v4 n) (dC (.int c))):=aA cT (ae n hN hv hd hcd) ag Zf
def we:bW:=λds S k=>match ds with
 | [.tup xs]=>k (.int xs.length) S
 | [.rl xs]=>k (.int xs.length) S
 | [.ref a]=>∃ xs,S a=some (.lst xs)/\k (.int xs.length) S
 | _=>False
theorem b8 {X:Cx}:bS X (.builtin "len") (oW X.K we):=bS.imp zJ (oW.imp λds S k h=>by
 unfold we at h
 split at h
 ·exact h
 ·exact h
 ·obtain⟨xs,h1,h2⟩:=h;simp only [yo,h1];exact h2
 ·exact h.elim)
def zp (gi:DE) (g:DG) (b:DS):DS:=λM L S=>gi L S λd S1=>∃ p,ar S1 d=some p/\dE (bT p) g b M p.1 L S1
def um (n:Nat) (t:uN):DG:=λd L S k=>∃ p,ar S d=some p/\p.1.length=n/\t p.1 L S k
theorem GJ.imp {X:Cx} {e:Dx} {g g':DG} (h:GJ X e g) (i:∀ d L S k,g' d L S k->g d L S k):GJ X e g':=⟨PG.imp h.h λv σ H Q z9=>by obtain⟨d,L,S,k,a,hL,hS,q,n⟩:=z9; exact⟨d,L,S,k,a,hL,hS,i d L S k q,n⟩⟩
theorem dN {X:Cx} {pos:Pos} {es:List Dx} {k:Nat} {t:uN} {n:Nat} (hc:X.calm=true) (h:y4 X es t) (hn:(assignEach es X.env).length=n:=by rfl) (hst:(assignEach es X.env).findIdx? (·.1)=none:=by rfl):GJ X (.Tuple es k pos) (um n t):=
 GJ.imp (xA hc h hn hst) λd L S k ⟨p,h1,h2⟩=>by
  simp only [ik,h1];exact h2
section
variable {X:Cx} {pos:Pos}
def xp (go gi:DE):DG:=λd L S k=>go L S λo S1=>gi L S1 λi S2=>match o,i with
 | .ref a,.int j=>∃ ds n,S2 a=some (.lst ds)/\o0 ds.length j=some n/\k L (put S2 a (.lst (ds.set n d)))
 | _,_=>False
theorem gR {o i:Dx} {go gi:DE} (ho:EJ X o go) (hi:EJ X i gi)
  (ha:∀ v,assign (.Subscript o i pos) X.env v=(do
   let ov <- holding [v] (eval o X.env)
   let iv <- holding [v,ov] (eval i X.env)
   standAt pos
   holding [v,ov,iv] (setItem ov iv v)
   release [v,ov,iv] []):=by intro _; rfl):GJ X (.Subscript o i pos) (xp go gi):=
 ⟨PG.imp (xO ho.h hi.h sO ha) λv σ H Q ⟨d,L,S,k,i1,hL,hS,h,n⟩=>up.go hL hS h λc S1 u H1 h1 k1 hL1 hS1 j1=>up.go hL1 hS1 h1 λc2 S2 u2 H2 h2 k2 hL2 hS2 j2=>by
  cases c with
  | ref a=>
   cases c2 with
   | int z=>
    have e1:=a8.mp j1;have e2:=isInt.mp j2;subst e1;subst e2;obtain⟨ds,m,w,q,h2⟩:=h2;obtain⟨vs,hl,j⟩:=hS2.lst w;refine⟨a,vs,z,m,rfl,rfl,hl,by rw [<- j.length]; exact q,?_⟩
    have k3:Kp H2 (aZ H2 a (.lst (vs.set m v))):=Kp.mut hl (λz=>z)
    exact n L _ σ _ h2 (k1.trans (k2.trans k3)) (hL2.kp k3) (hS2.setL hl (j.set m (i1.kp (k1.trans k2))))
   | _=>exact(show False from h2).elim
  | _=>exact(show False from h2).elim⟩
theorem pF {K:Fg} {S1:DH} {H1:Hp} {d:D} {v:V} {p:List D×Dw Dv} (hS1:Hs K H1 S1) (i1:a_ K H1 d v) (hp:ar S1 d=some p):∃ a,v=.ref a/\
  (((∃ xs, dO K H1 a xs) ∧ (∀ i c S2 H2, p.1[i]? = some c → Kp H1 H2 → Hs K H2 S2 → bT p S2 → (yH K a).go i H2 ∧ ∀ x H', (yH K a).yld i H2 x H' → H' = H2 ∧ a_ K H2 c x) ∧ ∀ S2 H2, Kp H1 H2 → Hs K H2 S2 → bT p S2 → (yH K a).stop p.1.length H2) ∨
   ((∃ xs,e_ K H1 a xs)/\(∀ i c S2 H2,p.1[i]?=some c->Kp H1 H2->Hs K H2 S2->bT p S2->(Av K a).go i H2/\∀ x H',(Av K a).yld i H2 x H'->H'=H2/\a_ K H2 c x)/\∀ S2 H2,Kp H1 H2->Hs K H2 S2->bT p S2->(Av K a).stop p.1.length H2)):=by
 cases d with
 | tup ds=>
  cases hp;obtain⟨a,xs,rfl,t,j⟩:=aT.mp i1;refine⟨a,rfl,.inr ⟨⟨xs,t⟩,λi d S2 H2 e k2 hS2 _=>?_,λS2 H2 k2 hS2 _=>⟨xs,k2.tup t,by rw [<- j.length]; exact Ct _⟩⟩⟩
  obtain⟨w,e1,e2⟩:=j.get e;refine⟨⟨xs,w,k2.tup t,e1⟩,λx H' y=>⟨y.1,?_⟩⟩
  have z:=y.2 xs (k2.tup t);rw [e1] at z;cases z;exact e2.kp k2
 | rl ds=>
  cases hp;obtain⟨a,xs,rfl,t,j⟩:=m_.mp i1;refine⟨a,rfl,.inl ⟨⟨xs,t.sq⟩,λi d S2 H2 e k2 hS2 _=>?_,λS2 H2 k2 hS2 _=>⟨xs,(k2.fro t).sq,by rw [<- j.length]; exact Ct _⟩⟩⟩
  obtain⟨w,e1,e2⟩:=j.get e;refine⟨⟨xs,w,(k2.fro t).sq,e1⟩,λx H' y=>⟨y.1,?_⟩⟩
  have z:=y.2 xs (k2.fro t).sq;rw [e1] at z;cases z;exact e2.kp k2
 | ref a=>
  have e1:=a8.mp i1;subst e1;cases z:S1 a with
  | none=>simp only [ar,z] at hp; cases hp
  | some o=>
   cases o with
   | dic=>simp only [ar,z] at hp; cases hp
   | exc _=>simp only [ar,z] at hp; cases hp
   | fn _=>simp only [ar,z] at hp; cases hp
   | tbl _=>simp only [ar,z] at hp; cases hp
   | gen _=>simp only [ar,z] at hp; cases hp
   | lst ds=>
    simp only [ar,z] at hp;cases hp;obtain⟨xs,hl,j⟩:=hS1.lst z;refine⟨a,rfl,.inl ⟨⟨xs,dO.of hl⟩,λi d S2 H2 e k2 hS2 o2=>?_,λS2 H2 k2 hS2 o2=>?_⟩⟩
    ·obtain⟨ys,hl2,j2⟩:=hS2.lst o2;obtain⟨w,e1,e2⟩:=j2.get e;refine⟨⟨ys,w,dO.of hl2,e1⟩,λx H' y=>⟨y.1,?_⟩⟩
     have q:=y.2 ys (dO.of hl2);rw [e1] at q;cases q;exact e2
    ·obtain⟨ys,hl2,j2⟩:=hS2.lst o2;exact⟨ys,dO.of hl2,by rw [<- j2.length]; exact Ct _⟩
 | _=>cases hp
theorem da {tg iter:Dx} {body:List DF} {gi:DE} {gg:DG} {g:DS} (hp:PassesOwn (model X.prog X.w) X.A X.env X.xe) (hc:X.calm=true) (hi:EJ X iter gi) (hg:GJ X tg gg) (hb:rf X body g)
  (hs:∀ x,foldedSetIterable iter X.env x=pure x:=by intro _; rfl):SJ X (.For tg iter body [] pos) (zp gi gg g):=
 ⟨PS.imp (j_ hp hc (oG hi.h) hg.h hb.h hs) λN σ H ⟨L,S,M,hL,hS,h,r⟩=>up.go hL hS h λd S1 v H1 h1 k1 hL1 hS1 i1=>by
  obtain⟨p,hp,h1⟩:=h1;obtain⟨a,e,q⟩:=pF hS1 i1 hp;refine⟨a,e,?_⟩;rcases q with ⟨q1,q2,q3⟩ | ⟨q1,q2,q3⟩
  ·exact .inl ⟨q1,ie hL1 hS1 h1 (r.kp k1) q2 q3⟩
  ·exact .inr ⟨q1,ie hL1 hS1 h1 (r.kp k1) q2 q3⟩⟩
def t7 (cap:List (Dw Nat)) (gi:DE) (g:DG) (bd:DB):DE:=λL S k=>gi L S λd S1=>∃ q,ar S1 d=some q/\∀ p,S1 p=none->bA (bT q) p g bd k q.1 [] (q_ cap L) (put S1 p (.lst []))
theorem bY {elt tg iter:Dx} {scope:Scope} {cl:List (Str×Dv)} {N:List Str} {cap:List (Dw Nat)} {gg:DG} {ge gi:DE} (hc:X.calm=true) (Sc:cg X scope cl N cap) (hi:EJ X iter gi) (hg:∀ s0 H0 ex C,GJ (dS X scope cl N s0 H0 ex C) tg gg) (he:∀ s0 H0 ex C,EJ (dS X scope cl N s0 H0 ex C) elt ge)
  (hs:∀ x,foldedSetIterable iter X.env x=pure x:=by intro _; rfl):EJ X (.ListComp elt [⟨tg,iter,[],0⟩] scope pos) (t7 cap gi gg (fm ge)):=
 ⟨PE.imp (jp hc Sc (oG hi.h) (λs0 H0 ex C=>(hg s0 H0 ex C).h) (λs0 H0 ex C=>(he s0 H0 ex C).h) hs) fun σ H Q ⟨L,S,k,hL,hS,h,n⟩=>up.go hL hS h λd S1 v H1 h1 k1 hL1 hS1 i1=>by
  obtain⟨p,hp,h1⟩:=h1;obtain⟨a,e,q⟩:=pF hS1 i1 hp;refine⟨a,e,?_⟩;have n':∀ d S' v H',k d S'->Kp H1 H'->Hs X.K H' S'->a_ X.K H' d v->Q v H':=λd S' v H' q k3=>n d S' v H' q (k1.trans k3)
  rcases q with ⟨q1,q2,q3⟩ | ⟨q1,q2,q3⟩
  ·exact .inl ⟨q1,λD hD=>cG (hL1.cap cap) hS1 hD (h1 D (hS1.free hD)) n' q2 q3⟩
  ·exact .inr ⟨q1,λD hD=>cG (hL1.cap cap) hS1 hD (h1 D (hS1.free hD)) n' q2 q3⟩⟩
end
end DL
namespace L2
open PySem PySem.Spec PyProof.Rows
structure dB (P:Dy) (w:DC) (it l:Dv) (st:Nat->DD->Prop) (sq:DJ Du->DD->Prop):Prop where
 at_:∀ k h h',st k h->(∀ o,h.get? it=some o->h'.get? it=some o)->st k h'
 sqAt:∀ xs h h',sq xs h->(∀ o,h.get? l=some o->h'.get? l=some o)->sq xs h'
 obj:∀ k h,st k h->∃ o,h.get? it=some o/\∀ v,o.data≠.cell v
 item:∀ (A:Dz) (k:Nat) (s:Dt) (xs:DJ Du) (x:Du) (Q:Du->Dt->Prop) (E:Du->Dt->Prop),st k s.heap->sq xs s.heap->xs[k]?=some x->
  (∀ h',st (k+1) h'->Heap.SameBut it s.heap h'->Q x {s with heap:=h'})->wpAny (model P w) A (Builtin.SmallTypes.nextOf (.ref it)) Q E s
 fin:∀ (A:Dz) (k:Nat) (s:Dt) (xs:DJ Du) (Q:Du->Dt->Prop) (E:Du->Dt->Prop),A.handled=none->st k s.heap->sq xs s.heap->xs[k]?=none->
  (∀ h' e,Heap.ExtBut it s.heap h'->(∃ o,h'.get? e=some o/\o.cls=.type "StopIteration")->E (.ref e) {s with heap:=h'})->wpAny (model P w) A (Builtin.SmallTypes.nextOf (.ref it)) Q E s
theorem dB.list {P:Dy} {w:DC} (it l:Dv):dB P w it l (λk h=>h.IsListIter it l k) (λxs h=>h.IsList l xs) where
 at_:=λ_ _ _ x y=>x.at y
 sqAt:=λ_ _ _ x y=>x.at y
 obj:=λ_ _ z9=>by obtain⟨o,e,_,d⟩:=z9; exact⟨o,e,λv z=>by rw [d] at z; cases z⟩
 item:=λ_ _ _ _ _ _ _ a b c d=>wpAny_nextOf_list_item a b c d
 fin:=λ_ _ _ _ _ _ hh a b c d=>wpAny_nextOf_list_end hh a b c d
section
variable {prog:Dy} {w:DC} {A:Dz} {E:Du->Dt->Prop} {s:Dt}
theorem gP {it t:Dv} {i:Nat} {items} {x:Du} {Q:Du->Dt->Prop} (hit:s.heap.IsTupleIter it t i) (ht:s.heap.IsTuple t items) (hx:items[i]?=some x)
  (hQ:∀ h',h'.IsTupleIter it t (i+1)->Heap.SameBut it s.heap h'->Q x {s with heap:=h'}):wpAny (model prog w) A (Builtin.SmallTypes.nextOf (.ref it)) Q E s:=by
 obtain⟨o,ho,hc,hd⟩:=id hit;obtain⟨ol,hol,_,nl,hdl⟩:=ht;unfold Builtin.SmallTypes.nextOf;refine gt (Dj (name:=Str.ofString "__next__") hit.typeIs F.slot_tuple_iterator_next (C_ F.slot_tuple_iterator_next hit.typeIs F.entry_tuple_iterator_next ?_ (F.args_tuple_iterator_next_1 _)))
 refine gt (m:=field (.ref it) 0) (CY ho hd (x:=.ref t) rfl ?_)
 show wpAny _ _ (if (Value.ref t == Value.none)=true then _ else _) _ _ s
 rw [if_neg (show ¬ ((Value.ref t == Value.none)=true) from Cw)]
 refine gt (m:=field (.ref it) 1) (CY ho hd (x:=.int i 0) rfl ?_);refine gt (m:=seqItems? (.ref t)) (CT hol hdl ?_);simp only [Dk,hx];refine gt (wpAny_setField ho hd (by simp) (Cp ⟨x,rfl,Cp (hQ _ ⟨_,Heap.get?_update_self _ ho (Obj.isFreed_of_fields (Obj.data_mapFields hd _)),(Obj.cls_mapFields ..).trans hc,?_⟩ (Ds ..))⟩))
 rw [Obj.data_mapFields hd];simp [rawInt]
theorem iX {it t:Dv} {i:Nat} {items} {Q:Du->Dt->Prop} (hh:A.handled=none) (hit:s.heap.IsTupleIter it t i) (ht:s.heap.IsTuple t items) (hx:items[i]?=none)
  (hE:∀ h' e,Heap.ExtBut it s.heap h'->(∃ o,h'.get? e=some o/\o.cls=.type "StopIteration")->E (.ref e) {s with heap:=h'}):wpAny (model prog w) A (Builtin.SmallTypes.nextOf (.ref it)) Q E s:=by
 obtain⟨o,ho,hc,hd⟩:=id hit;obtain⟨ol,hol,_,nl,hdl⟩:=ht;unfold Builtin.SmallTypes.nextOf;refine gt (Dj (name:=Str.ofString "__next__") hit.typeIs F.slot_tuple_iterator_next (C_ F.slot_tuple_iterator_next hit.typeIs F.entry_tuple_iterator_next ?_ (F.args_tuple_iterator_next_1 _)))
 refine gt (m:=field (.ref it) 0) (CY ho hd (x:=.ref t) rfl ?_)
 show wpAny _ _ (if (Value.ref t == Value.none)=true then _ else _) _ _ s
 rw [if_neg (show ¬ ((Value.ref t == Value.none)=true) from Cw)]
 refine gt (m:=field (.ref it) 1) (CY ho hd (x:=.int i 0) rfl ?_);refine gt (m:=seqItems? (.ref t)) (CT hol hdl ?_);simp only [Dk,hx];refine gt (wpAny_rule (gt (wpAny_setField ho hd (by simp) ?_)))
 refine gt (m:=newExc (.type "StopIteration") []) ?_
 simp only [newExc,newTuple];refine gt (CP ?_ (by size_fits))
 refine gt (m:=firstArgMember _ _) (wpAny_of_eq (a:=Value.none) (by first | rfl | (simp only [firstArgMember]; rfl)) ?_)
 refine CP ?_ (by size_fits)
 simp only [raiseNew];refine gt (wpAny_handled ?_)
 first | rw [show A.in1.handled=none from hh] | rw [hh]
 exact gt (Cp (wpAny_throw (hE _ _ (((Ds ..).extBut.push _).push _) ⟨_,Cq _ rfl,rfl⟩)))
end
theorem dB.tuple {P:Dy} {w:DC} (it l:Dv):dB P w it l (λk h=>h.IsTupleIter it l k) (λxs h=>h.IsTuple l xs) where
 at_:=λ_ _ _ x y=>x.at y
 sqAt:=λ_ _ _ x y=>x.at y
 obj:=λ_ _ z9=>by obtain⟨o,e,_,d⟩:=z9; exact⟨o,e,λv z=>by rw [d] at z; cases z⟩
 item:=λ_ _ _ _ _ _ _ a b c d=>gP a b c d
 fin:=λ_ _ _ _ _ _ hh a b c d=>iX hh a b c d
section
variable {prog:Dy} {w:DC} {A:Dz} {E:Du->Dt->Prop} {s:Dt} {z TI TO i1 i2 l1 l2:Dv} {st1 st2:Nat->DD->Prop} {sq1 oQ:DJ Du->DD->Prop} {k1 k2:Nat} {xs ys:DJ Du} {x y a b:Du}
theorem tO {Q:Du->Dt->Prop} (G1:dB prog w i1 l1 st1 sq1) (G2:dB prog w i2 l2 st2 oQ) (D:ZipApart z TI TO i1 i2 l1 l2) (hz:IsZip s.heap z TI TO .none) (hTI:IsPair s.heap TI (.ref i1) (.ref i2)) (hTO:IsPair s.heap TO a b)
  (h1:st1 k1 s.heap) (h2:st2 k2 s.heap) (hl1:sq1 xs s.heap) (hl2:oQ ys s.heap) (hx:xs[k1]?=some x) (hy:ys[k2]?=some y)
  (hQ:∀ h',IsZip h' z TI TO (rawInt s.heap.objs.size)->IsPair h' TO x y->st1 (k1+1) h'->st2 (k2+1) h'->IsPair h' s.heap.objs.size x y->h'.objs.size=s.heap.objs.size+1->
   (∀ c o,c≠z->c≠TO->c≠i1->c≠i2->s.heap.get? c=some o->h'.get? c=some o)->Q (.ref s.heap.objs.size) {s with heap:=h'}):
  wpAny (model prog w) A (Builtin.«zip.__next__» ⟨[.ref z],[]⟩) (λfin s'=>∃ v,fin=.done (.ret v)/\Q v s') E s:=by
 refine gt (m:=field (.ref z) 2) (CY hz rfl (x:=.bool false) rfl ?_);refine gt (m:=field (.ref z) 3) (CY hz rfl (x:=.ref TI) rfl ?_);refine gt (CT hTI rfl ?_);refine gt (m:=Builtin.SmallTypes.ownedTupleIsFree (.ref z)) ?_;unfold Builtin.SmallTypes.ownedTupleIsFree;refine gt (CY hz rfl (x:=.none) rfl (Cp ?_));simp only [if_true];refine gt (wpAny_rule ?_);refine gt (CY hz rfl (x:=.ref TO) rfl ?_);refine gt (CM hz (by simp) λg1 z1 e1=>?_)
 replace z1:IsZip g1 z TI TO .ellipsis:=z1;refine gt ?_;simp only [List.zipIdx_cons,List.zipIdx_nil,List.forIn_cons,List.forIn_nil];refine gt (gt (wpAny_onRaise ?_));refine gt (m:=Builtin.SmallTypes.nextOf (.ref i1)) (G1.item _ _ _ _ _ _ _ (G1.at_ _ _ _ h1 λo q=>e1.extBut _ _ D.i1z q) (G1.sqAt _ _ _ hl1 λo q=>e1.extBut _ _ D.l1z q) hx λg2 t1 e2=>Cp ?_)
 have o2:IsPair g2 TO a b:=e2.extBut _ _ D.TOi1 (e1.extBut _ _ D.TOz hTO);refine gt (CT o2 rfl ?_);refine gt (wpAny_updateSeq_pair o2 λg3 o3 e3=>?_)
 replace o3:IsPair g3 TO x b:=o3;refine gt (wpAny_letGo (Cp ?_));refine gt (gt (wpAny_onRaise ?_));refine gt (m:=Builtin.SmallTypes.nextOf (.ref i2)) (G2.item _ _ _ _ _ _ _ (G2.at_ _ _ _ h2 λo q=>e3.extBut _ _ D.TOi2.symm (e2.extBut _ _ D.i12.symm (e1.extBut _ _ D.i2z q)))
  (G2.sqAt _ _ _ hl2 λo q=>e3.extBut _ _ D.l2TO (e2.extBut _ _ D.l2i1 (e1.extBut _ _ D.l2z q))) hy λg4 t2 e4=>Cp ?_)
 have o4:IsPair g4 TO x b:=e4.extBut _ _ D.TOi2 o3;refine gt (CT o4 rfl ?_);refine gt (wpAny_updateSeq_pair o4 λg5 o5 e5=>?_)
 replace o5:IsPair g5 TO x y:=o5;refine gt (wpAny_letGo (Cp (Cp ?_)));refine gt (CT o5 rfl ?_);refine gt (wpAny_newTuple ?_);have hsz:g5.objs.size=s.heap.objs.size:=by rw [e5.1,e4.1,e3.1,e2.1,e1.1]
 have z5:IsZip g5 z TI TO .ellipsis:=e5.extBut _ _ D.TOz.symm (e4.extBut _ _ D.i2z.symm (e3.extBut _ _ D.TOz.symm (e2.extBut _ _ D.i1z.symm z1)));have kk:∀ c o,c≠z->c≠TO->c≠i1->c≠i2->s.heap.get? c=some o->g5.get? c=some o:=λc o c1 c2 c3 c4 e=>
  e5.extBut _ _ c2 (e4.extBut _ _ c4 (e3.extBut _ _ c2 (e2.extBut _ _ c3 (e1.extBut _ _ c1 e))))
 have t15:st1 (k1+1) g5:=G1.at_ _ _ _ t1 λo q=>e5.extBut _ _ D.TOi1.symm (e4.extBut _ _ D.i12 (e3.extBut _ _ D.TOi1.symm q))
 have t25:st2 (k2+1) g5:=G2.at_ _ _ _ t2 λo q=>e5.extBut _ _ D.TOi2.symm q
 have hzlt:z < g5.objs.size:=Cs z5;refine gt (m:=Builtin.SmallTypes.ownedTupleHandOut (.ref z) (.ref g5.objs.size)) ?_;unfold Builtin.SmallTypes.ownedTupleHandOut;have z6:IsZip (g5.push {cls:=.type "tuple",data:=.seq #[x,y]}) z TI TO .ellipsis:=Co _ z5
 refine gt (CM z6 (by simp) λg7 z7 e7=>?_)
 replace z7:IsZip g7 z TI TO (rawInt g5.objs.size):=z7;refine CM z7 (by simp) λg8 z8 e8=>?_
 replace z8:IsZip g8 z TI TO (rawInt g5.objs.size):=z8;have up:∀ c o,c≠z->g5.get? c=some o->g8.get? c=some o:=λc o c1 e=>e8.extBut _ _ c1 (e7.extBut _ _ c1 (Co _ e))
 have t8:IsPair g8 g5.objs.size x y:=e8.extBut _ _ (Nat.ne_of_gt hzlt) (e7.extBut _ _ (Nat.ne_of_gt hzlt) (Cq _ rfl));have n8:g8.objs.size=g5.objs.size+1:=by rw [e8.1,e7.1,Df]
 rw [hsz] at z8 t8 n8
 refine Cp ⟨_,rfl,?_⟩
 show Q (.ref g5.objs.size) _
 rw [hsz];exact hQ g8 z8 (up _ _ D.TOz o5) (G1.at_ _ _ _ t15 λo e=>up _ o D.i1z e) (G2.at_ _ _ _ t25 λo e=>up _ o D.i2z e) t8 n8 λc o c1 c2 c3 c4 e=>up c o c1 (kk c o c1 c2 c3 c4 e)
theorem vS {Q:Fin->Dt->Prop} (G1:dB prog w i1 l1 st1 sq1) (G2:dB prog w i2 l2 st2 oQ) (hh:A.handled=none) (D:ZipApart z TI TO i1 i2 l1 l2) (hz:IsZip s.heap z TI TO .none) (hTI:IsPair s.heap TI (.ref i1) (.ref i2)) (hTO:IsPair s.heap TO a b)
  (h1:st1 k1 s.heap) (h2:st2 k2 s.heap) (hl1:sq1 xs s.heap) (hl2:oQ ys s.heap) (hend:xs[k1]?=none\/ys[k2]?=none)
  (hE:∀ h' e,(∀ c o,c≠z->c≠TO->c≠i1->c≠i2->s.heap.get? c=some o->h'.get? c=some o)->(∃ o,h'.get? e=some o/\o.cls=.type "StopIteration")->E (.ref e) {s with heap:=h'}):
  wpAny (model prog w) A (Builtin.«zip.__next__» ⟨[.ref z],[]⟩) Q E s:=by
 refine gt (m:=field (.ref z) 2) (CY hz rfl (x:=.bool false) rfl ?_);refine gt (m:=field (.ref z) 3) (CY hz rfl (x:=.ref TI) rfl ?_);refine gt (CT hTI rfl ?_);refine gt (m:=Builtin.SmallTypes.ownedTupleIsFree (.ref z)) ?_;unfold Builtin.SmallTypes.ownedTupleIsFree;refine gt (CY hz rfl (x:=.none) rfl (Cp ?_));simp only [if_true];refine gt (wpAny_rule ?_);refine gt (CY hz rfl (x:=.ref TO) rfl ?_);refine gt (CM hz (by simp) λg1 z1 e1=>?_)
 replace z1:IsZip g1 z TI TO .ellipsis:=z1;refine gt ?_;simp only [List.zipIdx_cons,List.zipIdx_nil,List.forIn_cons,List.forIn_nil];refine gt (gt (wpAny_onRaise ?_));have a1:=G1.at_ _ _ g1 h1 λo q=>e1.extBut _ _ D.i1z q
 have b1:=G1.sqAt _ _ g1 hl1 λo q=>e1.extBut _ _ D.l1z q
 cases hx:xs[k1]? with
 | none=>
  refine gt (m:=Builtin.SmallTypes.nextOf (.ref i1)) (G1.fin _ _ _ _ _ _ hh a1 b1 hx λg2 e e2 he=>?_)
  obtain⟨oe,hoe,hce⟩:=he;have z2:IsZip g2 z TI TO .ellipsis:=e2 _ _ D.i1z.symm z1;have hez:e≠z:=λx=>by subst x; rw [z2] at hoe; cases hoe; simp at hce
  exact CM z2 (by simp) λg3 _ e3=>hE g3 e (λc o c1 _ c3 _ x=>e3.extBut _ _ c1 (e2 _ _ c3 (e1.extBut _ _ c1 x))) ⟨oe,e3.extBut _ _ hez hoe,hce⟩
 | some x=>
  have hy:ys[k2]?=none:=by rcases hend with h | h; rw [hx] at h; cases h; exact h
  refine gt (m:=Builtin.SmallTypes.nextOf (.ref i1)) (G1.item _ _ _ _ _ _ _ a1 b1 hx λg2 t1 e2=>Cp ?_)
  have o2:IsPair g2 TO a b:=e2.extBut _ _ D.TOi1 (e1.extBut _ _ D.TOz hTO);refine gt (CT o2 rfl ?_);refine gt (wpAny_updateSeq_pair o2 λg3 o3 e3=>?_)
  refine gt (wpAny_letGo (Cp ?_));refine gt (gt (wpAny_onRaise ?_));refine gt (m:=Builtin.SmallTypes.nextOf (.ref i2)) (G2.fin _ _ _ _ _ _ hh (G2.at_ _ _ _ h2 λo q=>e3.extBut _ _ D.TOi2.symm (e2.extBut _ _ D.i12.symm (e1.extBut _ _ D.i2z q)))
   (G2.sqAt _ _ _ hl2 λo q=>e3.extBut _ _ D.l2TO (e2.extBut _ _ D.l2i1 (e1.extBut _ _ D.l2z q))) hy λg4 e e4 he=>?_)
  obtain⟨oe,hoe,hce⟩:=he;have z4:IsZip g4 z TI TO .ellipsis:=e4 _ _ D.i2z.symm (e3.extBut _ _ D.TOz.symm (e2.extBut _ _ D.i1z.symm z1));have hez:e≠z:=λx=>by subst x; rw [z4] at hoe; cases hoe; simp at hce
  exact CM z4 (by simp) λg5 _ e5=>hE g5 e (λc o c1 c2 c3 c4 x=>e5.extBut _ _ c1 (e4 _ _ c4 (e3.extBut _ _ c2 (e2.extBut _ _ c3 (e1.extBut _ _ c1 x))))) ⟨oe,e5.extBut _ _ hez hoe,hce⟩
theorem jk {Q:Dw Du->Dt->Prop} (G1:dB prog w i1 l1 st1 sq1) (G2:dB prog w i2 l2 st2 oQ) (D:ZipApart z TI TO i1 i2 l1 l2) (hz:IsZip s.heap z TI TO .none) (hTI:IsPair s.heap TI (.ref i1) (.ref i2)) (hTO:IsPair s.heap TO a b)
  (h1:st1 k1 s.heap) (h2:st2 k2 s.heap) (hl1:sq1 xs s.heap) (hl2:oQ ys s.heap) (hx:xs[k1]?=some x) (hy:ys[k2]?=some y)
  (hQ:∀ h',IsZip h' z TI TO (rawInt s.heap.objs.size)->IsPair h' TO x y->st1 (k1+1) h'->st2 (k2+1) h'->IsPair h' s.heap.objs.size x y->h'.objs.size=s.heap.objs.size+1->
   (∀ c o,c≠z->c≠TO->c≠i1->c≠i2->s.heap.get? c=some o->h'.get? c=some o)->Q (some (.ref s.heap.objs.size)) {s with heap:=h'}):wpAny (model prog w) A (pyNext (.ref z)) Q E s:=by
 have hT:s.TypeIs (.ref z) "zip":=⟨_,hz,rfl⟩
 unfold pyNext;exact gt (wpAny_attempt (Dj (name:=Str.ofString "__next__") hT F.slot_zip_next
  (C_ F.slot_zip_next hT F.entry_zip_next (tO G1 G2 D hz hTI hTO h1 h2 hl1 hl2 hx hy λh' a1 a2 a3 a4 a5 a6 a7=>Cp (hQ h' a1 a2 a3 a4 a5 a6 a7)) (F.args_zip_next_1 _))))
theorem jL {Q:Dw Du->Dt->Prop} (G1:dB prog w i1 l1 st1 sq1) (G2:dB prog w i2 l2 st2 oQ) (hh:A.handled=none) (D:ZipApart z TI TO i1 i2 l1 l2) (hz:IsZip s.heap z TI TO .none) (hTI:IsPair s.heap TI (.ref i1) (.ref i2)) (hTO:IsPair s.heap TO a b)
  (h1:st1 k1 s.heap) (h2:st2 k2 s.heap) (hl1:sq1 xs s.heap) (hl2:oQ ys s.heap) (hend:xs[k1]?=none\/ys[k2]?=none)
  (hQ:∀ h',(∀ c o,c≠z->c≠TO->c≠i1->c≠i2->s.heap.get? c=some o->h'.get? c=some o)->Q none {s with heap:=h'}):wpAny (model prog w) A (pyNext (.ref z)) Q E s:=by
 have hT:s.TypeIs (.ref z) "zip":=⟨_,hz,rfl⟩
 unfold pyNext;refine gt (wpAny_attempt (Dj (name:=Str.ofString "__next__") hT F.slot_zip_next
  (C_ F.slot_zip_next hT F.entry_zip_next (vS G1 G2 hh D hz hTI hTO h1 h2 hl1 hl2 hend λh' e hk he=>?_) (F.args_zip_next_1 _))))
 obtain⟨o,ho,hc⟩:=he;exact gt (wpAny_isInstance (T:="StopIteration") (b:=true) ⟨o,ho,hc⟩ isSubtype_stop (Cp (hQ _ hk)))
end
structure dh (l:Dv) (nm:DN) (sq:DJ Du->DD->Prop):Prop where
 iter:∀ (P:Dy) (w:DC) (A:Dz) (s:Dt) (xs:DJ Du) (Q:Du->Dt->Prop) (E:Du->Dt->Prop),sq xs s.heap->
  Q (.ref s.heap.objs.size) {s with heap:=s.heap.push {cls:=.type nm,data:=.fields #[.ref l,.int 0 0]}}->wpAny (model P w) A (pyIter (.ref l)) Q E s
 sqAt:∀ xs h h',sq xs h->(∀ o,h.get? l=some o->h'.get? l=some o)->sq xs h'
theorem dh.list (l:Dv):dh l "list_iterator" (λxs h=>h.IsList l xs):=⟨λ_ _ _ _ _ _ _ a b=>wpAny_pyIter_list a b,λ_ _ _ x y=>x.at y⟩
theorem dh.tuple (l:Dv):dh l "tuple_iterator" (λxs h=>h.IsTuple l xs):=⟨λ_ _ _ _ _ _ _ a b=>wpAny_pyIter_tuple a b,λ_ _ _ x y=>x.at y⟩
section
variable {l1 l2:Dv} {n1 n2:DN} {sq1 oQ:DJ Du->DD->Prop}
abbrev wN (h:DD) (n1:DN) (l1:Dv):DD:=h.push {cls:=.type n1,data:=.fields #[.ref l1,.int 0 0]}
abbrev Aw (h:DD) (n1 n2:DN) (l1 l2:Dv):DD:=(wN h n1 l1).push {cls:=.type n2,data:=.fields #[.ref l2,.int 0 0]}
abbrev AC (h:DD) (n1 n2:DN) (l1 l2:Dv):DD:=(Aw h n1 n2 l1 l2).push {cls:=.type "tuple",data:=.seq #[.ref h.objs.size,.ref (wN h n1 l1).objs.size]}
abbrev AB (h:DD) (n1 n2:DN) (l1 l2:Dv):DD:=(AC h n1 n2 l1 l2).push {cls:=.type "tuple",data:=.seq #[.none,.none]}
abbrev yy (h:DD) (n1 n2:DN) (l1 l2:Dv):DD:=(AB h n1 n2 l1 l2).push {cls:=.type "zip",data:=.fields #[.none,.bool false,.bool false,.ref (Aw h n1 n2 l1 l2).objs.size,.ref (AC h n1 n2 l1 l2).objs.size]}
theorem rn (B1:dh l1 n1 sq1) (B2:dh l2 n2 oQ) (xs ys:DJ Du):
  Meets (Builtin.«zip.__new__» ⟨[.type "zip",.ref l1,.ref l2],[]⟩) (λ_ R s=>sq1 xs s.heap/\oQ ys s.heap/\
   R (.ok (.ret (.ref (AB s.heap n1 n2 l1 l2).objs.size))) {s with heap:=yy s.heap n1 n2 l1 l2}):=
 .of_wp λprog w A R s h=>by
  obtain⟨hp,g,d,tk,os⟩:=s;obtain⟨a,b,h⟩:=h;have hsub:=sub_zip;have b':oQ ys (Shared.heap ⟨hp.push {cls:=.type n1,data:=.fields #[.ref l1,.int 0 0]},g,d,tk,os⟩):=B2.sqAt _ _ _ b λo q=>Co _ q
  have a':sq1 xs (Shared.heap ⟨hp,g,d,tk,os⟩):=a
  wp_walk using B1.iter _ _ _ _ _ _ _ a',B2.iter _ _ _ _ _ _ _ b'
  exact⟨_,rfl,h⟩
variable {prog:Dy} {w:DC} {A:Dz} {E:Du->Dt->Prop} {s:Dt}
theorem ub (B1:dh l1 n1 sq1) (B2:dh l2 n2 oQ) {xs ys:DJ Du} {Q:Du->Dt->Prop} (hl1:sq1 xs s.heap) (hl2:oQ ys s.heap)
  (h:∀ h',IsZip h' (s.heap.objs.size+4) (s.heap.objs.size+2) (s.heap.objs.size+3) .none->IsPair h' (s.heap.objs.size+2) (.ref s.heap.objs.size) (.ref (s.heap.objs.size+1))->
   IsPair h' (s.heap.objs.size+3) .none .none->h'.get? s.heap.objs.size=some {cls:=.type n1,data:=.fields #[.ref l1,.int 0 0]}->h'.get? (s.heap.objs.size+1)=some {cls:=.type n2,data:=.fields #[.ref l2,.int 0 0]}->
   (∀ c o,s.heap.get? c=some o->h'.get? c=some o)->Q (.ref (s.heap.objs.size+4)) {s with heap:=h'}):
  wpAny (model prog w) A (call (.type "zip") [.ref l1,.ref l2]) Q E s:=by
 refine callType_new F.called_zip (by decide) (F.typeCall_zip_2 _ _) (F.newCall_zip_2 _ _) (λobj=>F.args_object_init_3 obj _ _) F.entry_zip_new (rn B1 B2 xs ys) ⟨hl1,hl2,?_⟩
 have z1:(wN s.heap n1 l1).objs.size=s.heap.objs.size+1:=Df ..;have z2:(Aw s.heap n1 n2 l1 l2).objs.size=s.heap.objs.size+2:=by rw [Df,z1]
 have z3:(AC s.heap n1 n2 l1 l2).objs.size=s.heap.objs.size+3:=by rw [Df,z2]
 have z4:(AB s.heap n1 n2 l1 l2).objs.size=s.heap.objs.size+4:=by rw [Df,z3]
 have g5:(yy s.heap n1 n2 l1 l2).get? (AB s.heap n1 n2 l1 l2).objs.size=some _:=Cq _ rfl;have g4:(yy s.heap n1 n2 l1 l2).get? (AC s.heap n1 n2 l1 l2).objs.size=some _:=Co _ (Cq _ rfl);have g3:(yy s.heap n1 n2 l1 l2).get? (Aw s.heap n1 n2 l1 l2).objs.size=some _:=Co _ (Co _ (Cq _ rfl));have g2:(yy s.heap n1 n2 l1 l2).get? (wN s.heap n1 l1).objs.size=some _:=Co _ (Co _ (Co _ (Cq _ rfl)));have g1:(yy s.heap n1 n2 l1 l2).get? s.heap.objs.size=some _:=Co _ (Co _ (Co _ (Co _ (Cq _ rfl))))
 show _/\_
 rw [z2,z3,z4] at g5;rw [z1,z2] at g3;rw [z3] at g4;rw [z1] at g2;rw [z4];exact⟨⟨_,g5,rfl⟩,h _ g5 g3 g4 g1 g2 λc o x=>Co _ (Co _ (Co _ (Co _ (Co _ x))))⟩
end
section
variable {X:Cx} {DQ:List (Dv×DP)} {σ:St} {H:Hp} {s:Dt} {h':DD}
theorem aw.turnedL {t':Nat} (ch:List Dv) (I:aw X DQ σ H s) (k:∀ b o,b∉ch->s.heap.get? b=some o->h'.get? b=some o) (hf:∀ b∈ch,ja X DQ H b):aw X DQ σ H {s with heap:=h',toks:=t'}:=by
 have nit:∀ b u,H b=some u->b∉ch:=λb u e z=>by rw [(hf b z).1] at e; cases e
 refine I.step (g':=s.gens) (d':=s.drawn) (ch:=ch) (λb hb=>⟨(hf b hb).2.2.2.1,(hf b hb).2.1,(hf b hb).2.2.2.2.1,(hf b hb).2.2.2.2.2⟩) (λb o _ _ hc e _=>k b o hc e) (λb o _ _ hc e _=>⟨o.slots,k b o hc e⟩) (λ_ _ _ _ n=>n)
  (λb o hc e=>⟨o,k b o hc e⟩) (λ_ _ e=>e) (λ_ _ _ e=>e) (λb ps e=>⟨#[],by rw [e]; simp⟩) (λm hm=>?_) (λb u e=>?_) I.bare
 ·obtain⟨o,es,ep,ho,r⟩:=hm;exact⟨o,es,ep,k _ o (λz=>(hf _ z).2.1 rfl) ho,r⟩
 ·refine(I.hok b u e).stay (λc v hc q=>k c v ?_ q) (λ_ q=>q) λ_ _ q=>q
  rcases hc with z | z
  ·rw [z]; exact nit b u e
  ·exact nit c _ z
theorem aw.turnedNew {t':Nat} {T:Dv} {xs:List V} (ch:List Dv) (I:aw X DQ σ H s) (k:∀ b o,b∉ch->s.heap.get? b=some o->h'.get? b=some o) (hf:∀ b∈ch,ja X DQ H b) (hT:s.heap.objs.size<=T)
  (new:cU X.prog X.w (aZ H T (.tup xs)) h' T (.tup xs)):aw X DQ σ (aZ H T (.tup xs)) {s with heap:=h',toks:=t'}:=by
 have hn:H T=none:=I.hok.fresh hT;have nit:∀ b u,H b=some u->b∉ch:=λb u e z=>by rw [(hf b z).1] at e; cases e
 have neT:∀ b o,s.heap.get? b=some o->b≠T:=λb o e z=>by subst z; exact absurd (CD (Cs e) hT) (De _)
 refine I.step (g':=s.gens) (d':=s.drawn) (ch:=ch) (λb hb=>⟨(hf b hb).2.2.2.1,(hf b hb).2.1,(hf b hb).2.2.2.2.1,(hf b hb).2.2.2.2.2⟩) (λb o _ _ hc e _=>k b o hc e) (λb o _ _ hc e _=>⟨o.slots,k b o hc e⟩) (λb o _ e n=>by rw [az (neT b o e)]; exact n)
  (λb o hc e=>⟨o,k b o hc e⟩) (λb _ e=>by rw [az (bi e hn)]; exact e) (λb _ _ e=>by rw [az (bi e hn)]; exact e) (λb ps e=>⟨#[],by rw [az (bi e hn),e]; simp⟩) (λm hm=>?_) (λb u e=>?_) I.bare
 ·obtain⟨o,es,ep,ho,r⟩:=hm;exact⟨o,es,ep,k _ o (λz=>(hf _ z).2.1 rfl) ho,r⟩
 ·by_cases hb:b=T
  ·subst hb;rw [br] at e;cases e;exact new
  ·rw [az hb] at e;refine(I.hok b u e).stay (λc v hc q=>k c v ?_ q) (λc q=>by rw [az (bi q hn)]; exact q) λc _ q=>by rw [az (bi q hn)]; exact q
   rcases hc with z | z
   ·rw [z]; exact nit b u e
   ·exact nit c _ z
end
def kX (b:DM) (K:PySem.W.Frag) (H:Hp) (a:Dv) (xs:List V):Prop:=match b with | true=>dO K H a xs | false=>e_ K H a xs
def wT (b:DM) (it l:Dv) (k:Nat) (h:DD):Prop:=match b with | true=>h.IsListIter it l k | false=>h.IsTupleIter it l k
def sqB (b:DM) (l:Dv) (xs:DJ Du) (h:DD):Prop:=match b with | true=>h.IsList l xs | false=>h.IsTuple l xs
def BV (b:DM):DN:=match b with | true=>"list_iterator" | false=>"tuple_iterator"
theorem bo {P:Dy} {w:DC} (b:DM) (it l:Dv):dB P w it l (wT b it l) (sqB b l):=match b with | true=>dB.list it l | false=>dB.tuple it l
theorem p9 (b:DM) (l:Dv):dh l (BV b) (sqB b l):=match b with | true=>dh.list l | false=>dh.tuple l
theorem pZ {b:DM} {it l:Dv} {h:DD} (e:h.get? it=some {cls:=.type (BV b),data:=.fields #[.ref l,.int 0 0]}):wT b it l 0 h:=match b,e with | true,e=>⟨_,e,rfl,rfl⟩ | false,e=>⟨_,e,rfl,rfl⟩
section
variable {X:Cx} {DQ:List (Dv×DP)} {σ:St} {H:Hp} {s:Dt} {a:Dv} {xs ys:List V} {b:DM}
theorem aw.sqB (I:aw X DQ σ H s) (h:kX b X.K H a xs):∃ its:List Du,aF xs its/\L2.sqB b a its.toArray s.heap:=by
 cases b with
 | true=>obtain⟨its,r,p,_⟩:=I.list h; exact⟨its,r,p.isList⟩
 | false=>obtain⟨its,r,p,_⟩:=I.tuple h; exact⟨its,r,p⟩
theorem aw.sqB_inj (I:aw X DQ σ H s) (h:kX b X.K H a xs) (h':kX b X.K H a ys):xs=ys:=by
 cases b with
 | true=>exact I.list_inj h h'
 | false=>exact I.tuple_inj h h'
theorem mK {its:DJ Du} {h:DD} (e:L2.sqB b a its h):a < h.objs.size:=by
 cases b with
 | true=>obtain⟨o,e,_⟩:=e; exact Cs e
 | false=>obtain⟨o,e,_⟩:=e; exact Cs e
end
def zC (K:PySem.W.Frag) (b1 b2:DM) (a1 a2:Dv):It:=
 ⟨λi H => ∃ xs ys x y, kX b1 K H a1 xs ∧ kX b2 K H a2 ys ∧ xs[i]? = some x ∧ ys[i]? = some y,
  λi H v H'=>∃ T x y,v=.ref T/\H T=none/\H'=aZ H T (.tup [x,y])/\∀ xs ys,kX b1 K H a1 xs->kX b2 K H a2 ys->xs[i]?=some x/\ys[i]?=some y,
  λi H=>∃ xs ys,kX b1 K H a1 xs/\kX b2 K H a2 ys/\(xs.length<=i\/ys.length<=i)⟩
def Cg (b1 b2:DM) (z TI TO i1 i2 a1 a2:Dv) (i:Nat) (h:DD):Prop:=
 IsZip h z TI TO .none/\IsPair h TI (.ref i1) (.ref i2)/\(∃ a b,IsPair h TO a b)/\wT b1 i1 a1 i h/\wT b2 i2 a2 i h
theorem sy {P:Dy} {w:DC} {K:PySem.W.Frag} {es:List Dx} {k:Nat} {pos:Pos} (b1 b2:DM) {z TI TO i1 i2 a1 a2:Dv} (D:ZipApart z TI TO i1 i2 a1 a2):
  qM P w K (.Tuple es k pos) (zC K b1 b2 a1 a2) [z,TI,TO,i1,i2] z (Cg b1 b2 z TI TO i1 i2 a1 a2) where
 mem:=by simp
 obj:=λi h st b hb=>by
  obtain⟨hz,hTI,⟨x,y,hTO⟩,h1,h2⟩:=st;have hb':b=z\/b=TI\/b=TO\/b=i1\/b=i2:=by simpa using hb
  rcases hb' with rfl | rfl | rfl | rfl | rfl
  ·exact⟨_,hz,λv q=>by cases q⟩
  ·exact⟨_,hTI,λv q=>by cases q⟩
  ·exact⟨_,hTO,λv q=>by cases q⟩
  ·exact(bo (P:=P) (w:=w) b1 b a1).obj _ _ h1
  ·exact(bo (P:=P) (w:=w) b2 b a2).obj _ _ h2
 keep:=λi h h' st q=>by
  obtain⟨hz,hTI,⟨x,y,hTO⟩,h1,h2⟩:=st;exact⟨q z (by simp) _ hz,q TI (by simp) _ hTI,⟨x,y,q TO (by simp) _ hTO⟩,(bo (P:=P) (w:=w) b1 i1 a1).at_ _ _ _ h1 λo e=>q i1 (by simp) o e,(bo (P:=P) (w:=w) b2 i2 a2).at_ _ _ _ h2 λo e=>q i2 (by simp) o e⟩
 item:=by
  intro X hP hw hK hc i DQ s σ H E I hf st hg;subst hP hw hK;obtain⟨xs,ys,x,y,q1,q2,hx,hy⟩:=hg;obtain⟨its,rv,p⟩:=I.sqB q1;obtain⟨jts,rw',p'⟩:=I.sqB q2;obtain⟨u,hu,ru⟩:=rv.get hx;obtain⟨u',hu',ru'⟩:=rw'.get hy;obtain⟨hz,hTI,⟨c,d,hTO⟩,h1,h2⟩:=st;have hn:H s.heap.objs.size=none:=I.hok.fresh (Ct _);have old:∀ b∈[z,TI,TO,i1,i2],b≠s.heap.objs.size:=λb hb e=>by
   have:∃ o,s.heap.get? b=some o:=by
    have hb':b=z\/b=TI\/b=TO\/b=i1\/b=i2:=by simpa using hb
    rcases hb' with rfl | rfl | rfl | rfl | rfl
    ·exact⟨_,hz⟩
    ·exact⟨_,hTI⟩
    ·exact⟨_,hTO⟩
    ·obtain⟨o,e,_⟩:=(bo (P:=X.prog) (w:=X.w) b1 b a1).obj _ _ h1; exact⟨o,e⟩
    ·obtain⟨o,e,_⟩:=(bo (P:=X.prog) (w:=X.w) b2 b a2).obj _ _ h2; exact⟨o,e⟩
   obtain⟨o,eo⟩:=this;exact absurd (Cs eo) (by rw [e]; exact De _)
  refine jk (bo b1 i1 a1) (bo b2 i2 a2) D hz hTI hTO h1 h2 p p' (x:=u) (y:=u') (by simpa using hu) (by simpa using hu') λh' c1 c2 c3 c4 c5 c6 c7=>?_
  have I1:aw X DQ σ (aZ H s.heap.objs.size (.tup [x,y])) {s with heap:=h'}:=I.turnedNew (t':=s.toks) [z,TO,i1,i2] (λb o hb e=>c7 b o (λq=>hb (by simp [q])) (λq=>hb (by simp [q])) (λq=>hb (by simp [q])) (λq=>hb (by simp [q])) e)
   (λb hb=>hf b (by rcases(by simpa using hb:b=z\/b=TO\/b=i1\/b=i2) with rfl | rfl | rfl | rfl <;> simp)) (Ct _) ⟨CJ rfl,[u,u'],.cons ru (.cons ru' .nil),⟨_,c5,rfl,_,rfl⟩⟩
  refine⟨_,rfl,wpAny_letOwnedTupleGo_zip (s:={s with heap:=h'}) c1 λh2' g1 g2=>?_⟩
  refine⟨.ref s.heap.objs.size,aZ H s.heap.objs.size (.tup [x,y]),?_,rfl,⟨_,x,y,rfl,hn,rfl,λxs' ys' e1 e2=>by rw [I.sqB_inj e1 q1,I.sqB_inj e2 q2]; exact⟨hx,hy⟩⟩,?_,λb hb=>?_⟩
  ·refine I1.turnedL (t':=s.toks) [z] (λb o hb e=>g2.extBut _ _ (λq=>hb (by simp [q])) e) λb hb=>?_
   have e:b=z:=by simpa using hb
   subst e;obtain⟨f0,f1,f2,f3,f4,f5⟩:=hf b (by simp)
   exact⟨by rw [az (old b (by simp))]; exact f0,f1,f2,f3,f4,f5⟩
  ·exact⟨g1,g2.extBut _ _ D.TIz (c7 _ _ D.TIz D.TITO D.TIi1 D.TIi2 hTI),⟨_,_,g2.extBut _ _ D.TOz c2⟩,(bo (P:=X.prog) (w:=X.w) b1 i1 a1).at_ _ _ _ c3 λo e=>g2.extBut _ _ D.i1z e,(bo (P:=X.prog) (w:=X.w) b2 i2 a2).at_ _ _ _ c4 λo e=>g2.extBut _ _ D.i2z e⟩
  ·rw [az (old b hb)];exact(hf b hb).1
 done:=by
  intro X hP hw hK hc i DQ s σ H E I hf st hg;subst hP hw hK;obtain⟨xs,ys,q1,q2,hx⟩:=hg;obtain⟨its,rv,p⟩:=I.sqB q1;obtain⟨jts,rw',p'⟩:=I.sqB q2;obtain⟨hz,hTI,⟨c,d,hTO⟩,h1,h2⟩:=st;have l1:=rv.length;have l2:=rw'.length;refine jL (bo b1 i1 a1) (bo b2 i2 a2) (I.ok.hd hc) D hz hTI hTO h1 h2 p p' (hx.imp (λhx=>by simp; omega) (λhx=>by simp; omega)) λh' kk=>⟨rfl,I.turnedL (t':=s.toks) [z,TO,i1,i2] (λb o hb e=>kk b o (λq=>hb (by simp [q])) (λq=>hb (by simp [q])) (λq=>hb (by simp [q])) (λq=>hb (by simp [q])) e) λb hb=>hf b ?_⟩
  have hb':b=z\/b=TO\/b=i1\/b=i2:=by simpa using hb
  rcases hb' with rfl | rfl | rfl | rfl <;> simp
 self:=λ_ _ _ _ _ st h=>wpAny_pyIter_zip st.1 h
theorem xc (n l1 l2:Nat) (h1:l1 < n) (h2:l2 < n):ZipApart (n+4) (n+2) (n+3) n (n+1) l1 l2:=by
 constructor <;> (intro e; simp only [Addr] at e; omega)
def Bq (K:PySem.W.Frag) (ta:TA):TI:=fun σ H R=>ta σ H λvs H1=>∃ a1 a2 b1 b2,vs=[.ref a1,.ref a2]/\(∃ xs,kX b1 K H1 a1 xs)/\(∃ ys,kX b2 K H1 a2 ys)/\R (zC K b1 b2 a1 a2) H1
theorem sC {X:Cx} {a b:Dx} {ta:TA} {p pos tp:Pos} {es:List Dx} {k:Nat} (hg:Gl X "zip") (hm:X.mg "zip"=none) (ha:PA X [a,b] ta) (hs:starEach [a,b] X.env=[(false,eval a X.env),(false,eval b X.env)]:=by rfl) (hs2:starEach [b] X.env=[(false,eval b X.env)]:=by rfl):
  PI X (.Tuple es k tp) (.Call (.Name "zip" p) [a,b] [] pos) (Bq X.K ta):=by
 intro DQ s σ H R I h;refine Call_ (iK I hg hm boot_zip (PyProof.Rows.callWith_type1 (bw (ha pos DQ s σ H _ I h) λus s1 ⟨vs,H1,I1,r1,q1⟩=>?_) (by rw [hs,hs2]) (by rw [hs2]; rfl)))
 obtain⟨a1,a2,b1,b2,e,⟨xs,e1⟩,⟨ys,e2⟩,q⟩:=q1;subst e;cases r1 with
 | cons r rr=>
  cases rr with
  | cons r' rr=>
   cases rr;cases r;cases r';obtain⟨its,rv,p1⟩:=I1.sqB e1;obtain⟨jts,rw',p2⟩:=I1.sqB e2;refine ub (p9 b1 a1) (p9 b2 a2) p1 p2 λh' c1 c2 c3 c4 c5 c6=>?_
   refine wpAny_pyIter_zip (s:={s1 with heap:=h'}) c1 ?_
   have fr:∀ j,H1 (s1.heap.objs.size+j)=none:=λj=>I1.hok.fresh (Nat.le_add_right _ _)
   refine⟨_,[s1.heap.objs.size+4,s1.heap.objs.size+2,s1.heap.objs.size+3,s1.heap.objs.size,s1.heap.objs.size+1],_,_,H1,rfl,I1.kept (t':=s1.toks) c6,sy b1 b2 (xc _ _ _ (mK p1) (mK p2)),⟨c1,c2,⟨_,_,c3⟩,pZ c4,pZ c5⟩,λb hb=>?_,q⟩
   have hb':b=s1.heap.objs.size+4\/b=s1.heap.objs.size+2\/b=s1.heap.objs.size+3\/b=s1.heap.objs.size\/b=s1.heap.objs.size+1:=by simpa using hb
   rcases hb' with rfl | rfl | rfl | rfl | rfl
   ·exact I1.fpOk (Nat.le_add_right _ _) (fr 4)
   ·exact I1.fpOk (Nat.le_add_right _ _) (fr 2)
   ·exact I1.fpOk (Nat.le_add_right _ _) (fr 3)
   ·exact I1.fpOk (Ct _) (fr 0)
   ·exact I1.fpOk (Nat.le_add_right _ _) (fr 1)
end L2
namespace DL
open PySem PySem.Spec PyProof.Rows L2
section
variable {K:Fg} {ok:DH->Prop} {gg:DG} {ge:DE} {k:DK} {ds:List D} {L:Lo} {S:DH} {σ:L2.St} {H:Hp} {J:It} {p:Dv} {Q:V->Hp->Prop}
theorem oR (hL:Lc K H L σ) (hS:Hs K H S) (hp:H p=none) (h:bA ok p gg (fm ge) k ds [] L (put S p (.lst [])))
  (n:∀ d S' v H',k d S'->Kp H H'->Hs K H' S'->a_ K H' d v->Q v H')
  (hgo:∀ i d S1 H1,ds[i]?=some d->Kp H H1->Hs K H1 S1->ok S1->J.go i H1/\∀ x H',J.yld i H1 x H'->Kp H1 H'/\Hs K H' S1/\a_ K H' d x)
  (hst:∀ S1 H1,Kp H H1->Hs K H1 S1->ok S1->J.stop ds.length H1):
  ∃ W:Nat->Nat->L2.St->Hp->Prop,(∃ m,W 0 m σ (aZ H p (.lst [])))/\∀ i m σ' H',W i m σ' H'->
   (J.stop i H'/\Q (.ref p) H')\/(J.go i H'/\∃ N:L2.St->Hp->Prop,(∀ σ2 H2,N σ2 H2->∃ m',m' < m/\W (i+1) m' σ2 H2)/\∀ x H2,J.yld i H' x H2->yA K gg x σ' H2 fun σ3 H3=>up K ge σ3 H3 λv H4=>∃ ys,H4 p=some (.lst ys)/\ys.length < sizeLine/\N σ3 (aZ H4 p (.lst (ys++[v])))):=by
 refine⟨λi m σ1 H1=>m=ds.length - i/\i<=ds.length/\∃ acc L1 S1,Lc K H1 L1 σ1/\Hs K H1 S1/\Kp H H1/\bA ok p gg (fm ge) k (ds.drop i) acc L1 S1,⟨ds.length,by simp,Dd _,[],L,_,hL.kp (Kp.new hp),hS.newL hp IsDs.nil,Kp.new hp,h⟩,?_⟩
 rintro i m σ1 H1 ⟨rfl,hi,acc,L1,S1,hL1,hS1,k1,w1⟩
 by_cases hlt:i < ds.length
 ·have e:ds.drop i=ds[i]::ds.drop (i+1):=Db hlt;rw [e] at w1;obtain⟨o1,w1⟩:=w1;obtain⟨g1,y1⟩:=hgo i ds[i] S1 H1 (by simp [hlt]) k1 hS1 o1
  refine .inr ⟨g1,fun σ' H'=>i+1<=ds.length/\∃ acc L' S',Lc K H' L' σ'/\Hs K H' S'/\Kp H H'/\bA ok p gg (fm ge) k (ds.drop (i+1)) acc L' S',fun σ' H' z9=>by obtain⟨q1,q2⟩:=z9; exact⟨ds.length - (i+1),by omega,rfl,q1,q2⟩,λx H' y=>?_⟩
  obtain⟨k0,hS0,ix⟩:=y1 x H' y;refine⟨ds[i],L1,S1,_,ix,hL1.kp k0,hS0,w1,λL2 S2 σ2 H2 q k2 hL2 hS2=>up.go hL2 hS2 q λd S3 v H3 h3 k3 hL3 hS3 i3=>?_⟩
  obtain⟨z1,z2,z3⟩:=h3;obtain⟨xs,hl,j⟩:=hS3.lst z1;have k4:Kp H3 (aZ H3 p (.lst (xs++[v]))):=Kp.mut hl (λz=>z)
  exact⟨xs,hl,by rw [<- j.length]; exact z2,hlt,_,L2,_,hL3.kp k4,hS3.setL hl (j.append (IsDs.cons i3 IsDs.nil)),(((k1.trans k0).trans k2).trans k3).trans k4,z3⟩
 ·have e:i=ds.length:=by omega
  subst e;rw [List.drop_length] at w1;obtain⟨o1,w1⟩:=w1;exact .inl ⟨hst S1 H1 k1 hS1 o1,n _ S1 _ H1 w1 k1 hS1 (a8.mpr rfl)⟩
end
theorem gL {K:Fg} {S1:DH} {H1:Hp} {d:D} {v:V} {p:List D×Dw Dv} (hS1:Hs K H1 S1) (i1:a_ K H1 d v) (hp:ar S1 d=some p):∃ a b,v=.ref a/\
  (∃ xs,kX b K H1 a xs)/\∀ S2 H2,Kp H1 H2->Hs K H2 S2->bT p S2->∃ xs,kX b K H2 a xs/\IsDs K H2 p.1 xs:=by
 cases d with
 | tup ds=>
  cases hp;obtain⟨a,xs,rfl,t,j⟩:=aT.mp i1;exact⟨a,false,rfl,⟨xs,t⟩,λS2 H2 k2 _ _=>⟨xs,k2.tup t,j.kp k2⟩⟩
 | rl ds=>
  cases hp;obtain⟨a,xs,rfl,t,j⟩:=m_.mp i1;exact⟨a,true,rfl,⟨xs,t.sq⟩,λS2 H2 k2 _ _=>⟨xs,(k2.fro t).sq,j.kp k2⟩⟩
 | ref a=>
  have e1:=a8.mp i1;subst e1;cases z:S1 a with
  | none=>simp only [ar,z] at hp; cases hp
  | some o=>
   cases o with
   | dic=>simp only [ar,z] at hp; cases hp
   | exc _=>simp only [ar,z] at hp; cases hp
   | fn _=>simp only [ar,z] at hp; cases hp
   | tbl _=>simp only [ar,z] at hp; cases hp
   | gen _=>simp only [ar,z] at hp; cases hp
   | lst ds=>
    simp only [ar,z] at hp;cases hp;obtain⟨xs,hl,j⟩:=hS1.lst z;refine⟨a,true,rfl,⟨xs,dO.of hl⟩,λS2 H2 k2 hS2 o2=>?_⟩
    obtain⟨ys,hl2,j2⟩:=hS2.lst o2;exact⟨ys,dO.of hl2,j2⟩
 | _=>cases hp
def fg (xs ys:List D):List D:=List.zipWith (λa b=>D.tup [a,b]) xs ys
def xh (cap:List (Dw Nat)) (ta:DA) (g:DG) (bd:DB):DE:=λL S k=>ta L S λds S1=>match ds with
 | [d1,d2]=>∃ q1 q2,ar S1 d1=some q1/\ar S1 d2=some q2/\∀ p,S1 p=none->bA (λS=>bT q1 S/\bT q2 S) p g bd k (fg q1.1 q2.1) [] (q_ cap L) (put S1 p (.lst []))
 | _=>False
section
variable {X:Cx} {elt a b:Dx} {es:List Dx} {kt:Nat} {tp:Pos} {scope:Scope} {cl:List (Str×Dv)} {N:List Str} {cap:List (Dw Nat)} {pos p pos':Pos} {gg:DG} {ge:DE} {ta:DA}
theorem tN (hc:X.calm=true) (Sc:cg X scope cl N cap) (hgl:Gl X "zip") (hm:X.mg "zip"=none) (ha:AJ X [a,b] ta) (hg:∀ s0 H0 ex C,GJ (dS X scope cl N s0 H0 ex C) (.Tuple es kt tp) gg) (he:∀ s0 H0 ex C,EJ (dS X scope cl N s0 H0 ex C) elt ge)
  (hs1:starEach [a,b] X.env=[(false,eval a X.env),(false,eval b X.env)]:=by rfl) (hs2:starEach [b] X.env=[(false,eval b X.env)]:=by rfl) (hs:∀ x,foldedSetIterable (.Call (.Name "zip" p) [a,b] [] pos') X.env x=pure x:=by intro _; rfl):
  EJ X (.ListComp elt [⟨.Tuple es kt tp,.Call (.Name "zip" p) [a,b] [] pos',[],0⟩] scope pos) (xh cap ta gg (fm ge)):=
 ⟨PE.imp (jp hc Sc (sC hgl hm ha.h hs1 hs2) (λs0 H0 ex C=>(hg s0 H0 ex C).h) (λs0 H0 ex C=>(he s0 H0 ex C).h) hs) fun σ H Q ⟨L,S,k,hL,hS,h,n⟩=>lI.go hL hS h λds S1 vs H1 h1 k1 hL1 hS1 i1=>by
  split at h1
  ·rename_i d1 d2
   obtain⟨v1,v2,rfl,j1,j2⟩:∃ v1 v2,vs=[v1,v2]/\a_ X.K H1 d1 v1/\a_ X.K H1 d2 v2:=jD i1;obtain⟨q1,q2,e1,e2,h1⟩:=h1;obtain⟨a1,b1,rfl,x1,y1⟩:=gL hS1 j1 e1;obtain⟨a2,b2,rfl,x2,y2⟩:=gL hS1 j2 e2;refine⟨a1,a2,b1,b2,rfl,x1,x2,λpa hD=>oR (hL1.cap cap) hS1 hD (h1 pa (hS1.free hD)) (λd S' v H' q k3=>n d S' v H' q (k1.trans k3)) (λi c S2 H2 e k2 hS2 o2=>?_) λS2 H2 k2 hS2 o2=>?_⟩
   ·obtain⟨xs,w1,u1⟩:=y1 S2 H2 k2 hS2 o2.1;obtain⟨ys,w2,u2⟩:=y2 S2 H2 k2 hS2 o2.2;obtain⟨c1,c2,f1,f2,rfl⟩:∃ c1 c2,q1.1[i]?=some c1/\q2.1[i]?=some c2/\D.tup [c1,c2]=c:=by
     unfold fg at e;rw [List.getElem?_zipWith] at e;cases z1:q1.1[i]? with
     | none=>rw [z1] at e; cases e
     | some c1=>
      cases z2:q2.1[i]? with
      | none=>rw [z1,z2] at e; cases e
      | some c2=>rw [z1,z2] at e; exact⟨c1,c2,rfl,rfl,CS e⟩
    obtain⟨v1,g1,r1⟩:=u1.get f1;obtain⟨v2,g2,r2⟩:=u2.get f2;refine⟨⟨xs,ys,v1,v2,w1,w2,g1,g2⟩,?_⟩;rintro x H' ⟨T,x',y',rfl,hT,rfl,al⟩;obtain⟨l1,l2⟩:=al xs ys w1 w2;rw [g1] at l1;rw [g2] at l2;cases l1;cases l2;have kn:Kp H2 (aZ H2 T (.tup [v1,v2])):=Kp.new hT;exact⟨kn,hS2.new hT,aT.mpr ⟨T,[v1,v2],rfl,e_.of br,IsDs.cons (r1.kp kn) (IsDs.cons (r2.kp kn) IsDs.nil)⟩⟩
   ·obtain⟨xs,w1,u1⟩:=y1 S2 H2 k2 hS2 o2.1;obtain⟨ys,w2,u2⟩:=y2 S2 H2 k2 hS2 o2.2;refine⟨xs,ys,w1,w2,?_⟩;rw [<- u1.length,<- u2.length];unfold fg;rw [List.length_zipWith];omega
  ·exact h1.elim⟩
end
theorem nh {K:Fg} {H:Hp}:∀ {bs:List DM} {xs:List V},IsDs K H (bs.map D.bl) xs->xs=bs.map V.bl
 | [],_,h=>di.mp h
 | b::bs,_,h=>by
  obtain⟨v,r,rfl,h1,h2⟩:=bh.mp h;rw [a9.mp h1,nh h2]
  rfl
theorem ny:∀ {bs:List DM} {us:List Du},aF (bs.map V.bl) us->us=bs.map Value.bool
 | [],_,.nil=>rfl
 | b::bs,_,.cons r t=>by
  cases r;rw [ny t]
  rfl
theorem iM:∀ (bs:List DM),(List.range bs.length).all (λi=>bs.getD i true)=bs.all id
 | []=>rfl
 | b::bs=>by
  rw [CH,List.range_succ_eq_map,List.all_cons,List.all_map,List.all_cons];exact congrArg (b && ·) (iM bs)
theorem p7 {S:DH} {d:D} {q:List D×Dw Dv} (h:ar S d=some q):bT q S:=by
 cases d with
 | tup ds=>cases h; trivial
 | rl ds=>cases h; trivial
 | ref a=>
  simp only [ar] at h
  split at h
  ·rename_i z; cases h; exact z
  ·cases h
 | _=>cases h
def wu:bW:=λds S k=>match ds with
 | [d]=>∃ (q:List D×Dw Dv) (bs:List DM),ar S d=some q/\q.1=bs.map D.bl/\k (.bl (bs.all id)) S
 | _=>False
theorem ut {X:Cx} (hc:X.calm=true:=by rfl):bS X (.builtin "all") (oW X.K wu):=by
 intro DQ s σ H xs us Q I rs h;obtain⟨ds,S,k,i,hS,r,n⟩:=h;unfold wu at r
 split at r
 ·obtain⟨x,rfl,i1⟩:=eu i;obtain⟨q,bs,e1,e2,r⟩:=r;obtain⟨a,b,rfl,_,y⟩:=gL hS i1 e1;obtain⟨vs,w1,w2⟩:=y S H (Kp.refl H) hS (p7 e1);rw [e2] at w2;have ev:=nh w2;subst ev;obtain⟨its,rv,p⟩:=I.sqB w1;have ei:=ny rv;subst ei;cases rs with
  | cons r0 rr=>
   cases rr;cases r0;have hh:X.A.in1.handled=none:=I.ok.hd hc;have hlt:=mK p;have fin:∀ (nm:DN) (h':DD) (tk:Nat),(∀ c o,c∉[s.heap.objs.size]->(s.heap.push {cls:=.type nm,data:=.fields #[.ref a,.int 0 0]}).get? c=some o->h'.get? c=some o)->
     EP X DQ σ Q (.bool (bs.all id)) {s with heap:=h',toks:=tk}:=λnm h' tk kk=>by
    have I1:aw X DQ σ H {s with heap:=s.heap.push {cls:=.type nm,data:=.fields #[.ref a,.int 0 0]}}:=I.kept (t':=s.toks) λc o e=>Co _ e
    refine⟨.bl (bs.all id),H,aw.turnedL (s:={s with heap:=s.heap.push {cls:=.type nm,data:=.fields #[.ref a,.int 0 0]}}) (t':=tk) [s.heap.objs.size] I1 kk (λc hc=>?_),rfl,n _ _ _ _ r (Kp.refl H) hS (a9.mpr rfl)⟩
    have e:c=s.heap.objs.size:=by simpa using hc
    subst e;exact I.fpOk (Ct _) (I.hok.fresh (Ct _))
   have len:(bs.map Value.bool).toArray.size=bs.length:=by simp
   have tr:∀ A',TruthOf X.prog X.w A' (λi v=>(bs.map Value.bool).toArray[i]?=some v) (λi=>bs.getD i true):=λA' i v s' Q' E' hP hQ=>by
    have hP':(bs[i]?).map Value.bool=some v:=by simpa using hP
    cases z:bs[i]? with
    | none=>rw [z] at hP'; cases hP'
    | some c=>
     rw [z] at hP';cases hP';refine wpAny_truthy_bool ?_
     simpa [List.getD,z] using hQ
   refine call_all_walk ?_;cases b with
   | true=>
    refine wpAny_pyIter_list (show s.heap.IsList a _ from p) ?_
    refine⟨s.heap.objs.size,_,_,_,_,_,_,rfl,Walks.list hh s.heap.objs.size a (CA hlt) (bs.map Value.bool).toArray,⟨⟨_,Cq _ rfl,rfl,rfl⟩,Heap.IsList.at p λo e=>Co _ e⟩,tr _,λh' tk kk=>?_⟩
    rw [len,iM];exact fin _ h' tk kk
   | false=>
    refine wpAny_pyIter_tuple (show s.heap.IsTuple a _ from p) ?_
    refine⟨s.heap.objs.size,_,_,_,_,_,_,rfl,Walks.tuple hh s.heap.objs.size a (CA hlt) (bs.map Value.bool).toArray,⟨⟨_,Cq _ rfl,rfl,rfl⟩,Heap.IsTuple.at p λo e=>Co _ e⟩,tr _,λh' tk kk=>?_⟩
    rw [len,iM];exact fin _ h' tk kk
 ·exact r.elim
section
variable {X:Cx} {o e a b c:Dx} {go ge ga gb gc:DE} {apos cpos pos:Pos}
def AK (go ge:DE):DE:=λL S k=>go L S λd S1=>match d with
 | .ref a=>(∃ ds,S1 a=some (.lst ds))/\ge L S1 λe S2=>∃ ds,S2 a=some (.lst ds)/\ds.length < sizeLine/\k .non (put S2 a (.lst (ds++[e])))
 | _=>False
theorem ke (ho:EJ X o go) (he:EJ X e ge) (hbase:attributeBase o "append" X.env (eval o X.env)=eval o X.env:=by rfl)
  (hfew:((backTo cpos (starEach [e] X.env)).all (λx=>!x.1) && (backToKw cpos (keywordEach [] X.env)).all (λx=>x.1.isSome) && decide ([e].length+([]:List Keyword).length+(if ([]:List Keyword).isEmpty then 0 else 1) < 30))=true:=by rfl)
  (hline:(apos.endLine == cpos.line)=true:=by rfl) (hs:starEach [e] X.env=(false,eval e X.env)::starEach [] X.env:=by rfl) (hpl:(backTo cpos (starEach [] X.env)).any (·.1)=false:=by rfl):
  EJ X (.Call (.Attribute o "append" apos) [e] [] cpos) (AK go ge):=
 ⟨PE.imp (nP PySem.F.plainAttrs_list PySem.F.slot_list_append PySem.F.type_list_append fV ho.h (cV he.h fE hs) hbase hfew hline hs hpl) fun σ H Q ⟨L,S,k,hL,hS,h,n⟩=>up.go hL hS h λd S1 v H1 h1 k1 hL1 hS1 i1=>by
  cases d with
  | ref a=>
   have e1:=a8.mp i1;subst e1;obtain⟨⟨ds1,z1⟩,h1⟩:=h1;obtain⟨xs1,hl1,_⟩:=hS1.lst z1;refine⟨.inl ⟨rfl,xs1,dO.of hl1⟩,up.go hL1 hS1 h1 λd2 S2 v2 H2 h2 k2 hL2 hS2 i2=>?_⟩
   obtain⟨ds,z,hz,w⟩:=h2;obtain⟨xs,hl,j⟩:=hS2.lst z;have k3:Kp H2 (aZ H2 a (.lst (xs++[v2]))):=Kp.mut hl (λz=>z)
   exact⟨a,xs,v2,rfl,rfl,hl,by rw [<- j.length]; exact hz,n _ _ _ _ w (k1.trans (k2.trans k3)) (hS2.setL hl (j.append (IsDs.cons i2 IsDs.nil))) (bE.mpr rfl)⟩
  | _=>exact(show False from h1).elim⟩
def Bc (go ge:DE):DE:=λL S k=>go L S λd S1=>match d with
 | .ref a=>(∃ ds,S1 a=some (.lst ds))/\ge L S1 λe S2=>match e with
  | .ref b=>∃ ds es,S2 a=some (.lst ds)/\S2 b=some (.lst es)/\ds.length+es.length<=sizeLine/\k .non (put S2 a (.lst (ds++es)))
  | _=>False
 | _=>False
theorem yt (ho:EJ X o go) (he:EJ X e ge) (hbase:attributeBase o "extend" X.env (eval o X.env)=eval o X.env:=by rfl)
  (hfew:((backTo cpos (starEach [e] X.env)).all (λx=>!x.1) && (backToKw cpos (keywordEach [] X.env)).all (λx=>x.1.isSome) && decide ([e].length+([]:List Keyword).length+(if ([]:List Keyword).isEmpty then 0 else 1) < 30))=true:=by rfl)
  (hline:(apos.endLine == cpos.line)=true:=by rfl) (hs:starEach [e] X.env=(false,eval e X.env)::starEach [] X.env:=by rfl) (hpl:(backTo cpos (starEach [] X.env)).any (·.1)=false:=by rfl):
  EJ X (.Call (.Attribute o "extend" apos) [e] [] cpos) (Bc go ge):=
 ⟨PE.imp (nP PySem.F.plainAttrs_list PySem.F.slot_list_extend PySem.F.type_list_extend k7 ho.h (cV he.h fE hs) hbase hfew hline hs hpl) fun σ H Q ⟨L,S,k,hL,hS,h,n⟩=>up.go hL hS h λd S1 v H1 h1 k1 hL1 hS1 i1=>by
  cases d with
  | ref a=>
   have e1:=a8.mp i1;subst e1;obtain⟨⟨ds1,z1⟩,h1⟩:=h1;obtain⟨xs1,hl1,_⟩:=hS1.lst z1;refine⟨.inl ⟨rfl,xs1,dO.of hl1⟩,up.go hL1 hS1 h1 λd2 S2 v2 H2 h2 k2 hL2 hS2 i2=>?_⟩
   cases d2 with
   | ref b=>
    have e2:=a8.mp i2;subst e2;obtain⟨ds,es,z,y,hz,w⟩:=h2;obtain⟨xs,hl,j⟩:=hS2.lst z;obtain⟨ys,hm,i⟩:=hS2.lst y;have k3:Kp H2 (aZ H2 a (.lst (xs++ys))):=Kp.mut hl (λz=>z)
    exact⟨a,b,xs,ys,rfl,rfl,hl,hm,by rw [<- j.length,<- i.length]; exact hz,n _ _ _ _ w (k1.trans (k2.trans k3)) (hS2.setL hl (j.append i)) (bE.mpr rfl)⟩
   | _=>exact(show False from h2).elim
  | _=>exact(show False from h1).elim⟩
end
theorem lh {K:Fg} {ok:DH->Prop} {gg:DG} {b:DS} {M:im} {ds:List D} {L:Lo} {S:DH} {N:kC} {σ:L2.St} {H:Hp} {J:It} (hL:Lc K H L σ) (hS:Hs K H S) (h:dE ok gg b M ds L S) (r:uK K H M N)
  (hgo:∀ i d S1 H1,ds[i]?=some d->Kp H H1->Hs K H1 S1->ok S1->J.go i H1/\∀ x H',J.yld i H1 x H'->Kp H1 H'/\Hs K H' S1/\a_ K H' d x)
  (hst:∀ S1 H1,Kp H H1->Hs K H1 S1->ok S1->J.stop ds.length H1):
  ∃ W:Nat->Nat->L2.St->Hp->Prop,(∃ m,W 0 m σ H)/\∀ i m σ H,W i m σ H->
   (J.stop i H/\N.nx σ H)\/(J.go i H/\∃ N':L2.St->Hp->Prop,(∀ σ' H',N' σ' H'->∃ m',m' < m/\W (i+1) m' σ' H')/\∀ x H',J.yld i H x H'->yA K gg x σ H' fun σ2 H2=>vm K b {N with nx:=N',ct:=N',bk:=N.nx} σ2 H2):=by
 refine⟨λi m σ1 H1=>m=ds.length - i/\i<=ds.length/\∃ L1 S1,Lc K H1 L1 σ1/\Hs K H1 S1/\Kp H H1/\dE ok gg b M (ds.drop i) L1 S1,⟨ds.length,by simp,Dd _,L,S,hL,hS,Kp.refl H,h⟩,?_⟩
 rintro i m σ1 H1 ⟨rfl,hi,L1,S1,hL1,hS1,k1,w1⟩
 by_cases hlt:i < ds.length
 ·have e:ds.drop i=ds[i]::ds.drop (i+1):=Db hlt;rw [e] at w1;obtain⟨o1,w1⟩:=w1;obtain⟨g1,y1⟩:=hgo i ds[i] S1 H1 (by simp [hlt]) k1 hS1 o1
  refine .inr ⟨g1,fun σ' H'=>i+1<=ds.length/\∃ L' S',Lc K H' L' σ'/\Hs K H' S'/\Kp H H'/\dE ok gg b M (ds.drop (i+1)) L' S',fun σ' H' z9=>by obtain⟨q1,q2⟩:=z9; exact⟨ds.length - (i+1),by omega,rfl,q1,q2⟩,λx H' y=>?_⟩
  obtain⟨k0,hS0,ix⟩:=y1 x H' y;have k10:=k1.trans k0;refine⟨ds[i],L1,S1,_,ix,hL1.kp k0,hS0,w1,λL2 S2 σ2 H2 q k2 hL2 hS2=>⟨L2,S2,_,hL2,hS2,q,?_⟩⟩
  have r2:=r.kp (k10.trans k2);exact⟨λL3 S3 σ3 H3 q3 k3 hL3 hS3=>⟨hlt,L3,S3,hL3,hS3,(k10.trans k2).trans k3,q3⟩,r2.rt,r2.nx,λL3 S3 σ3 H3 q3 k3 hL3 hS3=>⟨hlt,L3,S3,hL3,hS3,(k10.trans k2).trans k3,q3⟩⟩
 ·have e:i=ds.length:=by omega
  subst e;rw [List.drop_length] at w1;obtain⟨o1,w1⟩:=w1;exact .inl ⟨hst S1 H1 k1 hS1 o1,r.nx L1 S1 σ1 H1 w1 k1 hL1 hS1⟩
theorem yn {K:Fg} {H1:Hp} {q1 q2:List D×Dw Dv} {a1 a2:Dv} {b1 b2:DM} (y1:∀ S2 H2,Kp H1 H2->Hs K H2 S2->bT q1 S2->∃ xs,kX b1 K H2 a1 xs/\IsDs K H2 q1.1 xs) (y2:∀ S2 H2,Kp H1 H2->Hs K H2 S2->bT q2 S2->∃ xs,kX b2 K H2 a2 xs/\IsDs K H2 q2.1 xs):
  (∀ i d S2 H2,(fg q1.1 q2.1)[i]?=some d->Kp H1 H2->Hs K H2 S2->(bT q1 S2/\bT q2 S2)->(zC K b1 b2 a1 a2).go i H2/\∀ x H',(zC K b1 b2 a1 a2).yld i H2 x H'->Kp H2 H'/\Hs K H' S2/\a_ K H' d x)/\
  ∀ S2 H2,Kp H1 H2->Hs K H2 S2->(bT q1 S2/\bT q2 S2)->(zC K b1 b2 a1 a2).stop (fg q1.1 q2.1).length H2:=by
 refine⟨λi c S2 H2 e k2 hS2 o2=>?_,λS2 H2 k2 hS2 o2=>?_⟩
 ·obtain⟨xs,w1,u1⟩:=y1 S2 H2 k2 hS2 o2.1;obtain⟨ys,w2,u2⟩:=y2 S2 H2 k2 hS2 o2.2;obtain⟨c1,c2,f1,f2,rfl⟩:∃ c1 c2,q1.1[i]?=some c1/\q2.1[i]?=some c2/\D.tup [c1,c2]=c:=by
   unfold fg at e;rw [List.getElem?_zipWith] at e;cases z1:q1.1[i]? with
   | none=>rw [z1] at e; cases e
   | some c1=>
    cases z2:q2.1[i]? with
    | none=>rw [z1,z2] at e; cases e
    | some c2=>rw [z1,z2] at e; exact⟨c1,c2,rfl,rfl,CS e⟩
  obtain⟨v1,g1,r1⟩:=u1.get f1;obtain⟨v2,g2,r2⟩:=u2.get f2;refine⟨⟨xs,ys,v1,v2,w1,w2,g1,g2⟩,?_⟩;rintro x H' ⟨T,x',y',rfl,hT,rfl,al⟩;obtain⟨l1,l2⟩:=al xs ys w1 w2;rw [g1] at l1;rw [g2] at l2;cases l1;cases l2;have kn:Kp H2 (aZ H2 T (.tup [v1,v2])):=Kp.new hT;exact⟨kn,hS2.new hT,aT.mpr ⟨T,[v1,v2],rfl,e_.of br,IsDs.cons (r1.kp kn) (IsDs.cons (r2.kp kn) IsDs.nil)⟩⟩
 ·obtain⟨xs,w1,u1⟩:=y1 S2 H2 k2 hS2 o2.1;obtain⟨ys,w2,u2⟩:=y2 S2 H2 k2 hS2 o2.2;refine⟨xs,ys,w1,w2,?_⟩;rw [<- u1.length,<- u2.length];unfold fg;rw [List.length_zipWith];omega
def yP (ta:DA) (g:DG) (b:DS):DS:=λM L S=>ta L S λds S1=>match ds with
 | [d1,d2]=>∃ q1 q2,ar S1 d1=some q1/\ar S1 d2=some q2/\dE (λS=>bT q1 S/\bT q2 S) g b M (fg q1.1 q2.1) L S1
 | _=>False
section
variable {X:Cx} {a b:Dx} {es:List Dx} {kt:Nat} {tp p pos pos':Pos} {gg:DG} {ta:DA} {g:DS} {body:List DF} {tg:Dx}
theorem iD (hp:PassesOwn (model X.prog X.w) X.A X.env X.xe) (hc:X.calm=true) (hgl:Gl X "zip") (hm:X.mg "zip"=none) (ha:AJ X [a,b] ta) (hg:GJ X (.Tuple es kt tp) gg) (hb:rf X body g)
  (hs1:starEach [a,b] X.env=[(false,eval a X.env),(false,eval b X.env)]:=by rfl) (hs2:starEach [b] X.env=[(false,eval b X.env)]:=by rfl) (hs:∀ x,foldedSetIterable (.Call (.Name "zip" p) [a,b] [] pos') X.env x=pure x:=by intro _; rfl):
  SJ X (.For (.Tuple es kt tp) (.Call (.Name "zip" p) [a,b] [] pos') body [] pos) (yP ta gg g):=
 ⟨PS.imp (j_ hp hc (sC hgl hm ha.h hs1 hs2) hg.h hb.h hs) λN σ H ⟨L,S,M,hL,hS,h,r⟩=>lI.go hL hS h λds S1 vs H1 h1 k1 hL1 hS1 i1=>by
  split at h1
  ·rename_i d1 d2
   obtain⟨v1,v2,rfl,j1,j2⟩:=jD i1;obtain⟨q1,q2,e1,e2,h1⟩:=h1;obtain⟨a1,b1,rfl,x1,y1⟩:=gL hS1 j1 e1;obtain⟨a2,b2,rfl,x2,y2⟩:=gL hS1 j2 e2;obtain⟨z1,z2⟩:=yn y1 y2;exact⟨a1,a2,b1,b2,rfl,x1,x2,lh hL1 hS1 h1 (r.kp k1) z1 z2⟩
  ·exact h1.elim⟩
def gj (i j:Int):List D:=(List.range (j - i).toNat).map fun(n:Nat)=>D.int (i+n)
theorem tv {K:Fg} {H:Hp} {i j:Int}:(∀ n d (S1:DH) H1,(gj i j)[n]?=some d->Kp H H1->Hs K H1 S1->(λ_=>True:DH->Prop) S1->(vi i (j - i).toNat).go n H1/\∀ x H',(vi i (j - i).toNat).yld n H1 x H'->H'=H1/\a_ K H1 d x)/\
  ∀ (S1:DH) H1,Kp H H1->Hs K H1 S1->(λ_=>True:DH->Prop) S1->(vi i (j - i).toNat).stop (gj i j).length H1:=by
 refine⟨λn d S1 H1 e _ _ _=>?_,λ_ _ _ _ _=>?_⟩
 ·unfold gj at e;rw [CQ] at e;cases q:(List.range (j - i).toNat)[n]? with
  | none=>rw [q] at e; cases e
  | some z=>
   rw [q] at e;cases e;obtain⟨hz1,hz2⟩:=CW.mp q;rw [List.length_range] at hz1;rw [List.getElem_range] at hz2;subst hz2;exact⟨hz1,λx H' y=>⟨y.1,by rw [y.2]; exact isInt.mpr rfl⟩⟩
 ·show(j - i).toNat<=(gj i j).length
  unfold gj;rw [Cv,List.length_range];exact Ct _
def xU (ta:DA) (g:DG) (b:DS):DS:=λM L S=>ta L S λds S1=>match ds with
 | [.int i,.int j]=>(-(2 ^ 62)<=i/\i < 2 ^ 62/\-(2 ^ 62)<=j/\j < 2 ^ 62)/\dE (λ_=>True) g b M (gj i j) L S1
 | _=>False
theorem pC (hp:PassesOwn (model X.prog X.w) X.A X.env X.xe) (hc:X.calm=true) (hgl:Gl X "range") (hm:X.mg "range"=none) (ha:AJ X [a,b] ta) (hg:GJ X tg gg) (hb:rf X body g)
  (hs1:starEach [a,b] X.env=[(false,eval a X.env),(false,eval b X.env)]:=by rfl) (hs2:starEach [b] X.env=[(false,eval b X.env)]:=by rfl) (hs:∀ x,foldedSetIterable (.Call (.Name "range" p) [a,b] [] pos') X.env x=pure x:=by intro _; rfl):
  SJ X (.For tg (.Call (.Name "range" p) [a,b] [] pos') body [] pos) (xU ta gg g):=
 ⟨PS.imp (j_ hp hc (lJ hgl hm ha.h hs1 hs2) hg.h hb.h hs) λN σ H ⟨L,S,M,hL,hS,h,r⟩=>lI.go hL hS h λds S1 vs H1 h1 k1 hL1 hS1 i1=>by
  split at h1
  ·obtain⟨v1,v2,rfl,j1,j2⟩:=jD i1;have e1:=isInt.mp j1;have e2:=isInt.mp j2;subst e1;subst e2;obtain⟨hh,h1⟩:=h1;obtain⟨z1,z2⟩:=tv (K:=X.K) (H:=H1);exact⟨_,_,rfl,hh,ie hL1 hS1 h1 (r.kp k1) z1 z2⟩
  ·exact h1.elim⟩
end
section
variable {X:Cx} {elt tg a b:Dx} {scope:Scope} {cl:List (Str×Dv)} {N:List Str} {cap:List (Dw Nat)} {pos p pos':Pos} {gg:DG} {ge:DE} {ta:DA}
def uW (cap:List (Dw Nat)) (ta:DA) (g:DG) (bd:DB):DE:=λL S k=>ta L S λds S1=>match ds with
 | [.int i,.int j]=>(-(2 ^ 62)<=i/\i < 2 ^ 62/\-(2 ^ 62)<=j/\j < 2 ^ 62)/\∀ p,S1 p=none->bA (λ_=>True) p g bd k (gj i j) [] (q_ cap L) (put S1 p (.lst []))
 | _=>False
theorem q8 (hc:X.calm=true) (Sc:cg X scope cl N cap) (hgl:Gl X "range") (hm:X.mg "range"=none) (ha:AJ X [a,b] ta) (hg:∀ s0 H0 ex C,GJ (dS X scope cl N s0 H0 ex C) tg gg) (he:∀ s0 H0 ex C,EJ (dS X scope cl N s0 H0 ex C) elt ge)
  (hs1:starEach [a,b] X.env=[(false,eval a X.env),(false,eval b X.env)]:=by rfl) (hs2:starEach [b] X.env=[(false,eval b X.env)]:=by rfl) (hs:∀ x,foldedSetIterable (.Call (.Name "range" p) [a,b] [] pos') X.env x=pure x:=by intro _; rfl):
  EJ X (.ListComp elt [⟨tg,.Call (.Name "range" p) [a,b] [] pos',[],0⟩] scope pos) (uW cap ta gg (fm ge)):=
 ⟨PE.imp (jp hc Sc (lJ hgl hm ha.h hs1 hs2) (λs0 H0 ex C=>(hg s0 H0 ex C).h) (λs0 H0 ex C=>(he s0 H0 ex C).h) hs) fun σ H Q ⟨L,S,k,hL,hS,h,n⟩=>lI.go hL hS h λds S1 vs H1 h1 k1 hL1 hS1 i1=>by
  split at h1
  ·obtain⟨v1,v2,rfl,j1,j2⟩:=jD i1;have e1:=isInt.mp j1;have e2:=isInt.mp j2;subst e1;subst e2;obtain⟨hh,h1⟩:=h1;obtain⟨z1,z2⟩:=tv (K:=X.K) (H:=H1);exact⟨_,_,rfl,hh,λpa hD=>cG (hL1.cap cap) hS1 hD (h1 pa (hS1.free hD)) (λd S' v H' q k3=>n d S' v H' q (k1.trans k3)) z1 z2⟩
  ·exact h1.elim⟩
end
def li:D->DM
 | .int _=>true | .bl _=>true | .str _=>true | .non=>true | _=>false
def m6:D->V
 | .int i=>.int i | .bl b=>.bl b | .str x=>.str x | _=>.non
theorem rY {K:Fg} {H:Hp} {d:D} {v:V} (f:li d=true) (i:a_ K H d v):v=m6 d/\gx v=true:=by
 cases d with
 | int n=>rw [isInt.mp i]; exact⟨rfl,rfl⟩
 | bl n=>rw [a9.mp i]; exact⟨rfl,rfl⟩
 | str n=>rw [cS.mp i]; exact⟨rfl,rfl⟩
 | non=>rw [bE.mp i]; exact⟨rfl,rfl⟩
 | _=>cases f
theorem qx {K:Fg} {H:Hp}:∀ {ds:List D} {vs:List V},ds.all li=true->IsDs K H ds vs->vs=ds.map m6/\vs.all gx=true
 | [],_,_,i=>by rw [di.mp i]; exact⟨rfl,rfl⟩
 | d::ds,_,f,i=>by
  obtain⟨v,r,rfl,h1,h2⟩:=bh.mp i;rw [List.all_cons,C0] at f;obtain⟨a1,a2⟩:=rY f.1 h1;obtain⟨b1,b2⟩:=qx f.2 h2;exact⟨by rw [a1,b1]; rfl,by rw [List.all_cons,a2,b2]; rfl⟩
def zm (neg:DM):D2:=λd e S k=>∃ q,ar S e=some q/\li d=true/\q.1.all li=true/\k (.bl (if neg then !oo (m6 d) (q.1.map m6) else oo (m6 d) (q.1.map m6))) S
theorem zI {K:Fg} {neg:DM}:∀ x y H Q,fQ K (zm neg) x y H Q->BM K neg x y H Q:=λx y H Q ⟨d,e,S,k,i1,i2,hS,h,n⟩=>by
 obtain⟨q,e1,f1,f2,w⟩:=h;obtain⟨a,b,rfl,_,y⟩:=gL hS i2 e1;obtain⟨xs,w1,w2⟩:=y S H (Kp.refl H) hS (p7 e1);obtain⟨a1,a2⟩:=rY f1 i1;obtain⟨b1,b2⟩:=qx f2 w2;refine⟨a,xs,rfl,(by cases b with | true=>exact .inl w1 | false=>exact .inr w1),a2,b2,n _ _ _ _ w (Kp.refl H) hS (a9.mpr ?_)⟩
 rw [a1,b1]
theorem j5 {X:Cx}:cP X (compareOp .NotIn) (fQ X.K (zm true)):=cP.imp l_ zI
theorem IsDs.erase {K:Fg} {H:Hp}:∀ {ds:List D} {vs:List V} (i:Nat),IsDs K H ds vs->IsDs K H (ds.eraseIdx i) (vs.eraseIdx i)
 | [],_,_,h=>by rw [di.mp h]; exact IsDs.nil
 | d::ds,_,0,h=>by
  obtain⟨v,r,rfl,_,h2⟩:=bh.mp h;exact h2
 | d::ds,_,i+1,h=>by
  obtain⟨v,r,rfl,h1,h2⟩:=bh.mp h;exact IsDs.cons h1 (IsDs.erase i h2)
section
variable {X:Cx} {o e:Dx} {go ge:DE} {apos cpos pos:Pos}
def zA (go ge:DE):DE:=λL S k=>go L S λd S1=>match d with
 | .ref a=>(∃ ds,S1 a=some (.lst ds))/\ge L S1 λe S2=>match e with
  | .int i=>∃ ds n c,S2 a=some (.lst ds)/\-(2 ^ 63)<=i/\i < 2 ^ 63/\seqIndex? i ds.length=some n/\ds[n]?=some c/\k c (put S2 a (.lst (ds.eraseIdx n)))
  | _=>False
 | _=>False
theorem qf (ho:EJ X o go) (he:EJ X e ge) (hbase:attributeBase o "pop" X.env (eval o X.env)=eval o X.env:=by rfl)
  (hfew:((backTo cpos (starEach [e] X.env)).all (λx=>!x.1) && (backToKw cpos (keywordEach [] X.env)).all (λx=>x.1.isSome) && decide ([e].length+([]:List Keyword).length+(if ([]:List Keyword).isEmpty then 0 else 1) < 30))=true:=by rfl)
  (hline:(apos.endLine == cpos.line)=true:=by rfl) (hs:starEach [e] X.env=(false,eval e X.env)::starEach [] X.env:=by rfl) (hpl:(backTo cpos (starEach [] X.env)).any (·.1)=false:=by rfl):
  EJ X (.Call (.Attribute o "pop" apos) [e] [] cpos) (zA go ge):=
 ⟨PE.imp (nP PySem.F.plainAttrs_list PySem.F.slot_list_pop PySem.F.type_list_pop ua ho.h (cV he.h fE hs) hbase hfew hline hs hpl) fun σ H Q ⟨L,S,k,hL,hS,h,n⟩=>up.go hL hS h λd S1 v H1 h1 k1 hL1 hS1 i1=>by
  cases d with
  | ref a=>
   have e1:=a8.mp i1;subst e1;obtain⟨⟨ds1,z1⟩,h1⟩:=h1;obtain⟨xs1,hl1,_⟩:=hS1.lst z1;refine⟨.inl ⟨rfl,xs1,dO.of hl1⟩,up.go hL1 hS1 h1 λd2 S2 v2 H2 h2 k2 hL2 hS2 i2=>?_⟩
   cases d2 with
   | int i=>
    have e2:=isInt.mp i2;subst e2;obtain⟨ds,m,c,z,b1,b2,hm,hc,w⟩:=h2;obtain⟨xs,hl,j⟩:=hS2.lst z;obtain⟨y,hy,iy⟩:=j.get hc;have k3:Kp H2 (aZ H2 a (.lst (xs.eraseIdx m))):=Kp.mut hl (λz=>z)
    exact⟨a,xs,i,m,y,rfl,rfl,hl,b1,b2,by rw [<- j.length]; exact hm,hy,n _ _ _ _ w (k1.trans (k2.trans k3)) (hS2.setL hl (j.erase m)) (iy.kp k3)⟩
   | _=>exact(show False from h2).elim
  | _=>exact(show False from h1).elim⟩
end
section
variable {X:Cx} {pos:Pos}
def yG (g:DE) (tl th:wt):DE:=λL S k=>g L S λx S1=>tl L S1 λlo S2=>th L S2 λhi S3=>match x with
 | .tup xs=>¬ (HT.bM xs.length 0 lo=0/\HT.bM xs.length xs.length hi=xs.length)/\k (.tup (eA xs lo hi)) S3
 | .rl xs=>∀ p,S3 p=none->k (.ref p) (put S3 p (.lst (eA xs lo hi)))
 | .ref a=>∃ xs,S3 a=some (.lst xs)/\∀ p,S3 p=none->k (.ref p) (put S3 p (.lst (eA xs lo hi)))
 | _=>False
theorem vw {e:Dx} {g:DE} {lo hi:Dw Dx} {tl th:wt} {p2 pos:Pos} (he:EJ X e g) (hl:OJ X lo tl) (hu:OJ X hi th):EJ X (.Subscript e (.Slice lo hi none p2) pos) (yG g tl th):=
 ⟨PE.imp (nv (uL.or sZ vz) he.h hl.h hu.h) fun σ H Q ⟨L,S,k,hL,hS,h,n⟩=>up.go hL hS h λd S1 v H1 h1 k1 hL1 hS1 i1=>by
  refine⟨L,S1,_,hL1,hS1,h1,λlo' S2 H2 h2 k2 hS2=>⟨L,S2,_,hL1.kp k2,hS2,h2,λhi' S3 H3 h3 k3 hS3=>?_⟩⟩
  cases d with
  | tup xs=>
   obtain⟨a,vs,rfl,t,j⟩:=aT.mp i1;have j3:=j.kp (k2.trans k3);refine .inl ⟨a,vs,rfl,(k2.trans k3).tup t,by rw [<- j.length]; exact h3.1,λp hp=>?_⟩
   have k4:Kp H3 (aZ H3 p (.tup (jb vs lo' hi'))):=Kp.new hp;refine n _ S3 _ _ h3.2 (k1.trans (k2.trans (k3.trans k4))) (hS3.new hp) (aT.mpr ⟨p,_,rfl,e_.of br,?_⟩);unfold eA jb;rw [j.length];exact((j3.drop _).take _).kp k4
  | rl xs=>
   obtain⟨a,vs,rfl,t,j⟩:=m_.mp i1;have j3:=j.kp (k2.trans k3);refine .inr ⟨a,vs,rfl,((k2.trans k3).fro t).sq,λp hp=>?_⟩
   refine n _ _ _ _ (h3 p (hS3.free hp)) (k1.trans (k2.trans (k3.trans (Kp.new hp)))) (hS3.newL hp ?_) (a8.mpr rfl);unfold eA jb;rw [j.length];exact(j3.drop _).take _
  | ref a=>
   have e1:=a8.mp i1;subst e1;obtain⟨xs,z,h3⟩:=h3;obtain⟨vs,hl,j⟩:=hS3.lst z;refine .inr ⟨a,vs,rfl,dO.of hl,λp hp=>?_⟩
   refine n _ _ _ _ (h3 p (hS3.free hp)) (k1.trans (k2.trans (k3.trans (Kp.new hp)))) (hS3.newL hp ?_) (a8.mpr rfl);unfold eA jb;rw [j.length];exact(j.drop _).take _
  | _=>exact(show False from h3).elim⟩
theorem bD {ok:DH->Prop} {g:DG} {b:DS} {M:im} (Iv:List D->Lo->DH->Prop) (hok:∀ r L S,Iv r L S->ok S)
  (hs:∀ d r L S N,Iv (d::r) L S->(∀ L' S',Iv r L' S'->N L' S')->g d L S λL1 S1=>b {M with nx:=N,ct:=N,bk:=M.nx} L1 S1) (hd:∀ L S,Iv [] L S->M.nx L S):∀ r L S,Iv r L S->dE ok g b M r L S
 | [],L,S,i=>⟨hok [] L S i,hd L S i⟩
 | d::r,L,S,i=>⟨hok _ L S i,hs d r L S _ i λL' S' i'=>bD Iv hok hs hd r L' S' i'⟩
end
end DL
namespace L2
open PySem PySem.Spec PyProof.Rows
section
variable {X:Cx} {elt tg iter c:Dx} {scope:Scope} {cl:List (Str×Dv)} {N:List Str} {cap:List (Dw Nat)} {pos:Pos} {wi:TI} {g:TG} {te:TE} {tc:TT}
theorem oB (Sc:cg X scope cl N cap) {DQ:List (Dv×DP)} {σ σ3:St} {H2 H3:Hp} {s2 s4:Dt} {fp:List Dv} {h1':DD} {C:Dv} (I2:aw X DQ σ H2 s2) (f2:∀ b∈fp,ja X DQ H2 b) {H1:Hp}
  (un3:Un (m8 X.stack) fp H2 H1 s2.heap h1') (I4:aw (dS X scope cl N {s2 with heap:=h1'} H1 fp C) [] σ3 H3 s4) (hC:s2.heap.objs.size<=C) {x:Str} {pos':Pos} {i:Nat} {D:kC} {a:Dv} (pg:PG X (.Name x pos') (kN i)) (qn:D.nx (σ.set i (some (.ref a))) H3):
  wpAny (model X.prog X.w) X.A (assign (.Name x pos') X.env (.ref a)) (λ_ s''=>∃ m,s''.heap.Ns C m/\∀ h',Heap.SameBut C s''.heap h'->∃ σ' H',aw X DQ σ' H' {s'' with heap:=h'}/\D.nx σ' H') X.xe s4:=by
 have J:aw X DQ σ H3 s4:=kq Sc I2 f2 un3 I4 (h':=s4.heap) hC ⟨rfl,λ_ _=>rfl⟩
 obtain⟨m,⟨o,es,ep,ho,hd,hr⟩,_⟩:=I4.loc;have ltC:∀ b u,s2.heap.get? b=some u->b≠C:=λb u e=>CA (CD (Cs e) hC)
 have hL:C≠X.env.locals:=λz=>by
  have:=I2.lt;rw [<- z] at this;exact absurd (CD this hC) (De _)
 have hn:H3 C=none:=I4.free;have J':aw X ((C,o)::DQ) σ H3 s4:=⟨J.ok,J.os,J.bare,J.base,J.loc,J.cell,J.free,J.freeC,λp hp=>by
  rcases List.mem_append.mp hp with hp | hp
  ·exact J.pin p (List.mem_append_left _ hp)
  ·rcases Cz.mp hp with rfl | hp
   ·exact⟨ho,hn,hL,I2.nofs hC,λv z=>by rw [hd] at z; cases z⟩
   ·exact J.pin p (CF _ hp),J.hok,J.len⟩
 refine bw (pg _ s4 σ H3 (.ref a) (.ref a) (fun σ' H'=>σ'=σ.set i (some (.ref a))/\H'=H3) J' rfl ⟨rfl,rfl⟩) λ_ s5 h5=>?_
 obtain⟨_,_,I5,rfl,rfl⟩:=h5;have h6:=I5.pin (C,o) (CF _ CB);refine⟨m,⟨o,es,ep,h6.1,hd,hr⟩,λh' sb=>⟨_,_,?_,qn⟩⟩
 have I6:aw X DQ (σ.set i (some (.ref a))) _ s5:=⟨I5.ok,I5.os,I5.bare,I5.base,I5.loc,I5.cell,I5.free,I5.freeC,λp hp=>I5.pin p (by
  rcases List.mem_append.mp hp with hp | hp
  ·exact List.mem_append_left _ hp
  ·exact CF _ (CC _ hp)),I5.hok,I5.len⟩
 exact I6.turned (t':=s5.toks) (it:=C) (λb u hb e=>(sb.2 b hb).trans e) hn hL (.inr (CZ I2.sz hC)) (λy c e=>by
  obtain⟨v,u,q,_⟩:=I2.cell y c e;exact ltC c u q) (λp hp=>ltC p.1 p.2 (I2.pin p hp).1)
theorem nY {x:Str} {i:Nat} {pos' spos:Pos} (hN:X.N.Nodup) (hi':X.N[i]?=some x) (hx':X.env.scope.names.lookup x=some .local) (hsw:swapsWith (.ListComp elt [⟨tg,iter,[],0⟩] scope pos) (some (.Name x pos')) spos.line X.env=pure true) (hc:X.calm=true) (Sc:cg X scope cl N cap) (hi:PI X tg iter wi) (hg:∀ s0 H0 ex C,PG (dS X scope cl N s0 H0 ex C) tg g) (he:∀ s0 H0 ex C,PE (dS X scope cl N s0 H0 ex C) elt te)
  (hs:∀ x,foldedSetIterable iter X.env x=pure x:=by intro _; rfl):PS X (.Assign [.Name x pos'] (.ListComp elt [⟨tg,iter,[],0⟩] scope pos) spos) (vZ (wc cap wi g te) (kN i)):=by
 intro DQ s σ H D I h;have pg:PG X (.Name x pos') (kN i):=qH hN hi' (.inl hx') (.inr hx');rw [exec_Assign_Name_used _ _ _ _ hsw];refine gt (wpAny_standAt (gt ?_))
 show wpAny _ _ (evalThenUse _ X.env _) _ _ _
 unfold evalThenUse;have Q:=λv H1=>D.nx (σ.set i (some v)) H1
 refine gt (wpAny_mono (Q:=λ_ s'=>∃ σ' H',aw X DQ σ' H' s'/\D.nx σ' H') ?_ (λv s' q=>Cp (Cp q)) λ_ _ q=>q)
 have hcell:∀ y∈scope.names,y.2≠.cell:=λy hy=>by simpa using Dg.mp Sc.nocell y hy
 have hnames:∀ y∈scope.names,y.2=.local->scope.names.lookup y.1=some .local:=λy hy e=>by
  have:=Dg.mp Sc.names y hy;rw [e] at this
  simpa using this
 refine wpAny_comprehension_free (use:=some (assign (.Name x pos') X.env)) rfl hs Sc.clos Sc.kind hnames (bw (hi DQ s σ H _ I h) λv s1 h1=>bw h1 λitv s2 h2=>?_)
 obtain⟨it,fp,tn,J,H2,e,I2,T,st2,f2,hW⟩:=h2;subst e;refine CP (wpAny_newFunctionEnv hcell (by intro y hy; simp at hy) (λh1 hns hsb=>?_) Sc.kind)
 obtain⟨W,⟨m0,w0⟩,turn⟩:=hW s2.heap.objs.size I2.fresh;dsimp only at hns hsb ⊢
 generalize hD:s2.heap.push {cls:=.type "list",dict:=none,data:=.seq ([]:List Du).toArray}=h1' at hns hsb ⊢
 obtain⟨I3,un3⟩:=jV (tk:=s2.toks+([]:List (Str×Du)).length) Sc I2 f2 (λb hb=>let ⟨o,e,_⟩:=T.obj 0 _ st2 b hb; ⟨o,e⟩) hD hns hsb
 have hC:s2.heap.objs.size<=h1'.objs.size:=by rw [<- hD,Df]; exact Nat.le_succ _
 have k1:∀ b o,s2.heap.get? b=some o->h1.get? b=some o:=λb o e=>by
  have e1:h1'.get? b=some o:=by rw [<- hD]; exact Co _ e
  exact(hsb.2 b (CA (Cs e1))).trans (Co _ e1)
 have st3:tn 0 h1:=T.keep 0 _ _ st2 λb _ o e=>k1 b o e
 have fr3:∀ b∈fp,(aZ H2 s2.heap.objs.size (.lst [])) b=none:=λb hb=>by
  obtain⟨o,e,_⟩:=T.obj 0 _ st2 b hb;rw [az (CA (Cs e))];exact(f2 b hb).1
 have loop:∀ s3:Dt,s3={s2 with heap:=h1,toks:=s2.toks+([]:List (Str×Du)).length}->
   codeAny (model X.prog X.w) X.A (.compLoop (.ListComp elt [⟨tg,iter,[],0⟩] scope pos) 0 (.ref it) (.ref s2.heap.objs.size) (compEnvC scope cl h1'.objs.size X.env))
    (compPost (model X.prog X.w) X.A X.xe (some (assign (.Name x pos') X.env)) (λ_ s'=>∃ σ' H',aw X DQ σ' H' s'/\D.nx σ' H') (.ref s2.heap.objs.size) h1'.objs.size) s3:=by
  rintro s3 rfl;refine ii (λn s'=>∃ i σ' H',aw (dS X scope cl N {s2 with heap:=h1'} (aZ H2 s2.heap.objs.size (.lst [])) fp h1'.objs.size) [] σ' H' s'/\tn i s'.heap/\(∀ b∈fp,H' b=none)/\W i n σ' H') ?_ m0 ⟨0,_,_,I3,st3,fr3,w0⟩
  rintro n s3 ⟨i,σ3,H3,I3,st3,fr3,w3⟩;rcases turn i n σ3 H3 w3 with ⟨stop,qn⟩ | ⟨go,Nn,hN,step⟩
  ·refine bw (T.done (dS X scope cl N {s2 with heap:=h1'} (aZ H2 s2.heap.objs.size (.lst [])) fp h1'.objs.size) rfl rfl rfl hc i [] s3 σ3 H3 ma I3 (cY I3 fr3) st3 stop) λr s4 z9=>?_
   obtain⟨hr,I4⟩:=z9;subst hr;exact oB Sc I2 f2 un3 I4 hC pg qn
  ·refine bw (T.item (dS X scope cl N {s2 with heap:=h1'} (aZ H2 s2.heap.objs.size (.lst [])) fp h1'.objs.size) rfl rfl rfl hc i [] s3 σ3 H3 ma I3 (cY I3 fr3) st3 go) λr s4 z9=>?_
   obtain⟨u,hr,h4⟩:=z9;subst hr;refine bw h4 λ_ s5 z9=>?_
   obtain⟨x,H5,I5,r5,y5,st5,fr5⟩:=z9;have I5':=I5.pinned (cY I5 fr5) (T.obj _ _ st5);refine bw (hg _ _ _ _ _ s5 σ3 H5 x u _ I5' r5 (step x H5 y5)) λ_ s6 z9=>?_
   obtain⟨σ6,H6,I6,q6⟩:=z9;refine bw (he _ _ _ _ _ s6 σ6 H6 _ I6 q6) λuv s7 z9=>?_
   obtain⟨v,H7,I7,r7,ys,hy,hl,q7⟩:=z9;refine bw (fV (X:=dS X scope cl N {s2 with heap:=h1'} (aZ H2 s2.heap.objs.size (.lst [])) fp h1'.objs.size) _ s7 σ6 H7 (.ref s2.heap.objs.size) [v] (.ref s2.heap.objs.size) [uv] (λ_ H8=>Nn σ6 H8) I7 rfl (.cons r7 .nil) ⟨_,ys,v,rfl,rfl,hy,hl,q7⟩) λ_ s8 z9=>?_
   obtain⟨_,H8,I8,_,n8⟩:=z9;obtain⟨m',hm,w8⟩:=hN σ6 H8 n8;refine⟨m',hm,i+1,σ6,H8,I8.unpinned,T.keep _ _ _ st5 λb hb o e=>(I8.pin (b,o) (CF _ (CF _ (bO hb e)))).1,λb hb=>?_,w8⟩
   obtain⟨o,e,d⟩:=T.obj _ _ st5 b hb;exact(I8.pin (b,o) (CF _ (CF _ (bO hb e)))).2.1
 exact codeAny_compStart_list (loop _ rfl) (T.self _ 0 _ _ _ st3 (loop _ rfl))
end
end L2
namespace DL
open PySem PySem.Spec PyProof.Rows L2
theorem zW {K:Fg} {ge:DE} {tc:TE} {i:Nat} (f:∀ σ H Q,up K ge σ H Q->tc σ H Q):∀ N σ H,vm K (vQ i ge) N σ H->vZ tc (kN i) N σ H:=λN σ H ⟨L,S,M,hL,hS,h,r⟩=>
 f σ H _ (up.go hL hS h λd S1 v H1 h1 k1 hL1 hS1 i1=>r.nx _ S1 _ H1 h1 k1 (hL1.set i1 i) hS1)
section
variable {X:Cx} {pos pos' p:Pos} {elt tg a b c:Dx} {scope:Scope} {cl:List (Str×Dv)} {N:List Str} {cap:List (Dw Nat)} {gg:DG} {ge gi:DE} {gc:DT} {ta:DA}
theorem n6 {xv:Str} {iv:Nat} {pv sv:Pos} (hNv:X.N.Nodup) (hc:X.calm=true) (Sc:cg X scope cl N cap) (hgl:Gl X "range") (hm:X.mg "range"=none) (ha:AJ X [a] ta) (hg:∀ s0 H0 ex C,GJ (dS X scope cl N s0 H0 ex C) tg gg) (he:∀ s0 H0 ex C,EJ (dS X scope cl N s0 H0 ex C) elt ge)
  (hs1:starEach [a] X.env=[(false,eval a X.env)]:=by exact bf rfl) (hs:∀ x,foldedSetIterable (.Call (.Name "range" p) [a] [] pos') X.env x=pure x:=by intro _; rfl) (hiv:X.N[iv]?=some xv:=by rfl) (hxv:X.env.scope.names.lookup xv=some .local:=by rfl) (hswv:swapsWith (.ListComp elt [⟨tg,.Call (.Name "range" p) [a] [] pos',[],0⟩] scope pos) (some (.Name xv pv)) sv.line X.env=pure true:=by rfl):SJ X (.Assign [.Name xv pv] (.ListComp elt [⟨tg,.Call (.Name "range" p) [a] [] pos',[],0⟩] scope pos) sv) (vQ iv (oF cap ta gg (fm ge))):=
 ⟨PS.imp (nY hNv hiv hxv hswv hc Sc (fX hgl hm ha.h hs1) (λs0 H0 ex C=>(hg s0 H0 ex C).h) (λs0 H0 ex C=>(he s0 H0 ex C).h) hs) (zW (fun σ H Q ⟨L,S,k,hL,hS,h,n⟩=>lI.go hL hS h λds S1 vs H1 h1 k1 hL1 hS1 i1=>by
  split at h1
  ·obtain⟨v,rfl,j⟩:=eu i1;have e:=isInt.mp j;subst e;obtain⟨⟨h2,h3⟩,h1⟩:=h1;refine⟨_,rfl,h2,h3,λD hD=>cG (hL1.cap cap) hS1 hD (h1 D (hS1.free hD)) (λd S' v H' q k3=>n d S' v H' q (k1.trans k3)) jS λS2 H2 k2 hS2 _=>?_⟩
   rw [Cv,List.length_range];exact Ct _
  ·exact h1.elim))⟩
theorem i5 {xv:Str} {iv:Nat} {pv sv:Pos} (hNv:X.N.Nodup) {elt tg iter:Dx} {scope:Scope} {cl:List (Str×Dv)} {N:List Str} {cap:List (Dw Nat)} {gg:DG} {ge gi:DE} (hc:X.calm=true) (Sc:cg X scope cl N cap) (hi:EJ X iter gi) (hg:∀ s0 H0 ex C,GJ (dS X scope cl N s0 H0 ex C) tg gg) (he:∀ s0 H0 ex C,EJ (dS X scope cl N s0 H0 ex C) elt ge)
  (hs:∀ x,foldedSetIterable iter X.env x=pure x:=by intro _; rfl) (hiv:X.N[iv]?=some xv:=by rfl) (hxv:X.env.scope.names.lookup xv=some .local:=by rfl) (hswv:swapsWith (.ListComp elt [⟨tg,iter,[],0⟩] scope pos) (some (.Name xv pv)) sv.line X.env=pure true:=by rfl):SJ X (.Assign [.Name xv pv] (.ListComp elt [⟨tg,iter,[],0⟩] scope pos) sv) (vQ iv (t7 cap gi gg (fm ge))):=
 ⟨PS.imp (nY hNv hiv hxv hswv hc Sc (oG hi.h) (λs0 H0 ex C=>(hg s0 H0 ex C).h) (λs0 H0 ex C=>(he s0 H0 ex C).h) hs) (zW (fun σ H Q ⟨L,S,k,hL,hS,h,n⟩=>up.go hL hS h λd S1 v H1 h1 k1 hL1 hS1 i1=>by
  obtain⟨p,hp,h1⟩:=h1;obtain⟨a,e,q⟩:=pF hS1 i1 hp;refine⟨a,e,?_⟩;have n':∀ d S' v H',k d S'->Kp H1 H'->Hs X.K H' S'->a_ X.K H' d v->Q v H':=λd S' v H' q k3=>n d S' v H' q (k1.trans k3)
  rcases q with ⟨q1,q2,q3⟩ | ⟨q1,q2,q3⟩
  ·exact .inl ⟨q1,λD hD=>cG (hL1.cap cap) hS1 hD (h1 D (hS1.free hD)) n' q2 q3⟩
  ·exact .inr ⟨q1,λD hD=>cG (hL1.cap cap) hS1 hD (h1 D (hS1.free hD)) n' q2 q3⟩))⟩
end
abbrev Er:=Dv×Dw Int
instance:Coe Dv Er:=⟨λa=>(a,none)⟩
section
variable {X:Cx} {DQ:List (Dv×DP)} {σ:L2.St} {H:Hp} {s:Dt}
theorem oX (I:aw X DQ σ H s) {S:DH} {a c:Dv} {ds es:List D} {b:DM} (hS:Hs X.K H S) (h1:S a=some (.lst ds)) (h2:S c=some (.lst es)) (hl:ds.length=es.length) (A:Dz) (hu:A.units+8 < cLine) (h:eY (fW 7) ds es=some b):
  SeqAt.RcAt A s (.ref a) (.ref c) b/\SeqAt.RcNeAt A s (.ref a) (.ref c) (!b):=by
 obtain⟨xs,q1,j1⟩:=hS.lst h1;obtain⟨ys,q2,j2⟩:=hS.lst h2;obtain⟨us,r1,p1,_⟩:=I.list (dO.of q1);obtain⟨ws,r2,p2,_⟩:=I.list (dO.of q2);have l1:=j1.length;have l2:=j2.length;have l3:=r1.length;have l4:=r2.length;have hsz:us.toArray.size=ws.toArray.size:=by simp only [Cy]; omega
 have he:∀ j (h1:j < us.toArray.size) (h2:j < ws.toArray.size),SeqAt.EqAt A.in1 s us.toArray[j] ws.toArray[j] (eD (fW 7) ds es j):=λj h1 h2=>by
  simp only [Cy] at h1 h2
  obtain⟨d,e,x,y,q1,q2,d1,d2,rx,ry⟩:=mf j1 j2 r1 r2 h1 h2;have:=(mL I 7 A.in1 d e x y us[j] ws[j] _ (by show A.units+1+7 < cLine; omega) (ju h q1 q2) d1 d2 rx ry).1
  simpa using this
 have e:=h9 h;rw [hl,Nat.min_self] at e;have e:(List.range us.toArray.size).all (eD (fW 7) ds es)=b:=by
  simp only [Cy];rw [<- l3,<- l1,hl]
  simpa using e
 refine⟨?_,?_⟩
 ·have z:=SeqAt.RcAt.lists p1.isList p2.isList hsz (by omega) he
  rw [e] at z;exact z
 ·have z:=SeqAt.RcNeAt.lists p1.isList p2.isList hsz (by omega) he
  rw [e] at z;exact z
end
def zT:D2:=λd e S k=>match d,e with
 | .ref a,.ref c=>∃ xs ys b,S a=some (.lst xs)/\S c=some (.lst ys)/\xs.length=ys.length/\eY (fW 7) xs ys=some b/\k (.bl b) S
 | d,e=>∃ b,fW 8 d e=some b/\k (.bl b) S
def zD:D2:=λd e S k=>match d,e with
 | .ref a,.ref c=>∃ xs ys b,S a=some (.lst xs)/\S c=some (.lst ys)/\xs.length=ys.length/\eY (fW 7) xs ys=some b/\k (.bl (!b)) S
 | d,e=>∃ b,fW 8 d e=some b/\k (.bl (!b)) S
theorem ey {X:Cx} {n:Nat} (hr:cw n X.A):cP X (compareOp .Eq) (fQ X.K zT):=by
 intro DQ s σ H x y v u Q I rx ry h;obtain⟨d,e,S,k,i1,i2,hS,r,m⟩:=h;have hu:=hr.units;unfold zT at r
 split at r
 ·obtain⟨xs,ys,b,h1,h2,h3,h4,w⟩:=r;have e1:=a8.mp i1;have e2:=a8.mp i2;subst e1 e2;cases rx;cases ry;exact(oX I hS h1 h2 h3 X.A (by omega) h4).1 X.prog X.w X.xe _ ⟨.bl b,H,I,rfl,gE m hS w (a9.mpr rfl)⟩
 ·obtain⟨b,h1,w⟩:=r;exact(mL I 8 X.A d e x y v u b (by omega) h1 i1 i2 rx ry).2 X.prog X.w X.xe _ ⟨.bl b,H,I,rfl,gE m hS w (a9.mpr rfl)⟩
theorem wg {X:Cx} {n:Nat} (hr:cw n X.A):cP X (compareOp .NotEq) (fQ X.K zD):=by
 intro DQ s σ H x y v u Q I rx ry h;obtain⟨d,e,S,k,i1,i2,hS,r,m⟩:=h;have hu:=hr.units;unfold zD at r
 split at r
 ·obtain⟨xs,ys,b,h1,h2,h3,h4,w⟩:=r;have e1:=a8.mp i1;have e2:=a8.mp i2;subst e1 e2;cases rx;cases ry;exact(oX I hS h1 h2 h3 X.A (by omega) h4).2 X.prog X.w X.xe _ ⟨.bl (!b),H,I,rfl,gE m hS w (a9.mpr rfl)⟩
 ·obtain⟨b,h1,w⟩:=r;exact tx I 8 X.A d e x y v u b (by omega) h1 i1 i2 rx ry X.prog X.w X.xe _ ⟨.bl (!b),H,I,rfl,gE m hS w (a9.mpr rfl)⟩
def ud:bW:=λds S k=>match ds with
 | [.tup xs]=>k (.tup xs) S
 | [.ref a]=>∃ xs,S a=some (.lst xs)/\k (.tup xs) S
 | _=>False
theorem c8 {X:Cx}:bS X (.type "tuple") (oW X.K ud):=by
 intro DQ s σ H xs us Q I rs h;obtain⟨ds,S,k,i,hS,r,n⟩:=h;unfold ud at r
 split at r
 ·obtain⟨x,rfl,i1⟩:=eu i;obtain⟨a,vs,rfl,t,j⟩:=aT.mp i1;exact gn DQ s σ H _ us Q I rs ⟨a,vs,rfl,.inr ⟨t,n _ S _ H r (Kp.refl H) hS i1⟩⟩
 ·obtain⟨x,rfl,i1⟩:=eu i;have e1:=a8.mp i1;subst e1;obtain⟨xs,z,r⟩:=r;obtain⟨vs,hl,j⟩:=hS.lst z;refine gn DQ s σ H _ us Q I rs ⟨_,vs,rfl,.inl ⟨dO.of hl,λp hp=>?_⟩⟩
  have kp:Kp H (aZ H p (.tup vs)):=Kp.new hp;exact n _ S _ _ r kp (hS.new hp) (aT.mpr ⟨p,vs,rfl,e_.of br,j.kp kp⟩)
 ·exact r.elim
end DL
namespace L2
open PySem PySem.Spec PyProof.Rows
theorem qS:bootBuiltins "enumerate"=some (.type "enumerate"):=by decide +kernel
theorem ul {P:Dy} {w:DC} {A:Dz} (b:DM) (it l:Dv) (xs:DJ Du) (hh:A.handled=none) (hne:it≠l):Draws P w A it [it,l] xs.size (λi x=>xs[i]?=some x) (λi h=>wT b it l i h/\sqB b l xs h) where
 live:=λi h st=>by obtain⟨o,e,_⟩:=(bo (P:=P) (w:=w) b it l).obj _ _ st.1; exact⟨o,e⟩
 frame:=λi h h' st q=>⟨(bo (P:=P) (w:=w) b it l).at_ _ _ _ st.1 λo e=>q it (by simp) o e,(bo (P:=P) (w:=w) b it l).sqAt _ _ _ st.2 λo e=>q l (by simp) o e⟩
 item:=λi s Q E hi st hQ=>(bo (P:=P) (w:=w) b it l).item A i s xs xs[i] Q E st.1 st.2 (by simp [hi]) λh' a1 a2=>hQ _ h' s.toks (by simp [hi]) ⟨a1,(bo (P:=P) (w:=w) b it l).sqAt _ _ _ st.2 λo e=>a2.extBut _ _ (Ne.symm hne) e⟩ a2
 done:=λs Q E st hE=>(bo (P:=P) (w:=w) b it l).fin _ _ _ _ _ _ hh st.1 st.2 (by simp) hE
def zQ (K:PySem.W.Frag) (b:DM) (a:Dv):It:=
 ⟨λi H => ∃ xs x, kX b K H a xs ∧ xs[i]? = some x,
  λi H v H'=>∃ T x,v=.ref T/\H T=none/\H'=aZ H T (.tup [.int (i:Nat),x])/\∀ xs,kX b K H a xs->xs[i]?=some x,
  λi H=>∃ xs,kX b K H a xs/\xs.length=i⟩
def B6 (b:DM) (e it a:Dv) (i:Nat) (h:DD):Prop:=(∃ old,IsEnum h e it (i:Nat) old)/\wT b it a i h
theorem qV {P:Dy} {w:DC} {K:PySem.W.Frag} {es:List Dx} {k:Nat} {pos:Pos} (b:DM) {e it a:Dv} (h1:e≠it) (h2:e≠a) (h3:it≠a):
  qM P w K (.Tuple es k pos) (zQ K b a) [e,it] e (B6 b e it a) where
 mem:=by simp
 obj:=λi h st c hc=>by
  obtain⟨⟨old,he⟩,hi⟩:=st;have hc':c=e\/c=it:=by simpa using hc
  rcases hc' with rfl | rfl
  ·exact⟨_,he,λv q=>by cases q⟩
  ·exact(bo (P:=P) (w:=w) b c a).obj _ _ hi
 keep:=λi h h' st q=>by
  obtain⟨⟨old,he⟩,hi⟩:=st;exact⟨⟨old,q e (by simp) _ he⟩,(bo (P:=P) (w:=w) b it a).at_ _ _ _ hi λo x=>q it (by simp) o x⟩
 item:=by
  intro X hP hw hK hc i DQ s σ H E I hf st hg;subst hP hw hK;obtain⟨xs,x,q1,hx⟩:=hg;obtain⟨its,rv,p⟩:=I.sqB q1;obtain⟨u,hu,ru⟩:=rv.get hx;obtain⟨⟨old,he⟩,hi⟩:=st;have hn:H s.heap.objs.size=none:=I.hok.fresh (Ct _);have helt:e < s.heap.objs.size:=Cs he;have hilt:it < s.heap.objs.size:=by obtain⟨o,z,_⟩:=(bo (P:=X.prog) (w:=X.w) b it a).obj _ _ hi; exact Cs z
  have hlt:i < its.toArray.size:=by
   have:=CW.mp hu;obtain⟨z,_⟩:=this
   simpa using z
  refine wpAny_pyNext_enum_itemD (ul b it a its.toArray (show X.A.in1.handled=none from I.ok.hd hc) h3) he ⟨hi,p⟩ hlt h1 (by simp [h1,h2]) λx' h' tk hx' ho hst hT hsz hk=>?_
  have ex:x'=u:=by
   have z:its[i]?=some x':=by simpa using hx'
   rw [hu] at z;exact(CS z).symm
  subst ex;have I1:aw X DQ σ (aZ H s.heap.objs.size (.tup [.int (i:Nat),x])) {s with heap:=h',toks:=tk+1}:=
   I.turnedNew (t':=tk+1) [e,it] (λc o hb y=>hk c o (λq=>hb (by simp [q])) (λq=>hb (by simp [q])) y) hf (Ct _) ⟨CJ rfl,[.int (i:Nat) tk,x'],.cons ⟨tk,rfl⟩ (.cons ru .nil),⟨_,hT,rfl,_,rfl⟩⟩
  refine⟨_,rfl,wpAny_letOwnedTupleGo_enum (s:={s with heap:=h',toks:=tk+1}) ho λh2' g1 g2=>?_⟩
  refine⟨.ref s.heap.objs.size,aZ H s.heap.objs.size (.tup [.int (i:Nat),x]),?_,rfl,⟨_,x,rfl,hn,rfl,λxs' e1=>by rw [I.sqB_inj e1 q1]; exact hx⟩,⟨⟨x',by simpa using g1⟩,?_⟩,λc hb=>?_⟩
  ·refine I1.turnedL (t':=tk+1) [e] (λc o hb y=>g2.extBut _ _ (λq=>hb (by simp [q])) y) λc hb=>?_
   have z:c=e:=by simpa using hb
   subst z;obtain⟨f0,f1,f2,f3,f4,f5⟩:=hf c (by simp)
   exact⟨by rw [az (CA helt)]; exact f0,f1,f2,f3,f4,f5⟩
  ·exact(bo (P:=X.prog) (w:=X.w) b it a).at_ _ _ _ hst.1 λo z=>g2.extBut _ _ (Ne.symm h1) z
  ·have hc':c=e\/c=it:=by simpa using hb
   rw [az (by rcases hc' with rfl | rfl; exact CA helt; exact CA hilt)]
   exact(hf c hb).1
 done:=by
  intro X hP hw hK hc i DQ s σ H E I hf st hg;subst hP hw hK;obtain⟨xs,q1,hx⟩:=hg;obtain⟨its,rv,p⟩:=I.sqB q1;obtain⟨⟨old,he⟩,hi⟩:=st;have l1:=rv.length;have ez:i=its.toArray.size:=by simp; omega
  refine wpAny_pyNext_enum_endD (ul b it a its.toArray (show X.A.in1.handled=none from I.ok.hd hc) h3) he ⟨by rw [<- ez]; exact hi,p⟩ λh' kk=>⟨rfl,I.turnedL (t':=s.toks) [it] (λc o hb y=>kk c o (λq=>hb (by simp [q])) y) λc hb=>hf c ?_⟩
  have z:c=it:=by simpa using hb
  subst z;simp
 self:=λ_ _ _ _ _ st h=>by
  obtain⟨⟨old,he⟩,_⟩:=st;exact wpAny_pyIter_enum he h
theorem n4 (l:Dv) (xs:DJ Du) (n:Nat) (dct:Dw Dv) (sl:DJ (Dw Du)):
  Meets (Builtin.«enumerate.__new__» ⟨[.type "enumerate",.ref l],[]⟩) (λ_ R s=>s.heap.get? l=some ⟨.type "tuple",dct,.seq xs n,sl⟩/\
   R (.ok (.ret (.ref (wN s.heap "tuple_iterator" l).objs.size))) {s with heap:=(wN s.heap "tuple_iterator" l).push {cls:=.type "enumerate",data:=.fields #[.none,.bool false,.ref s.heap.objs.size,rawInt 0,.none,.none]}}):=
 .of_wp λprog w A R s h=>by
  obtain⟨hp,g,d,tk,os⟩:=s;obtain⟨hl,h⟩:=h;have hsub:=sub_enumerate;have hT:Heap.IsTuple (Shared.heap ⟨hp,g,d,tk,os⟩) l xs:=⟨_,hl,rfl,n,rfl⟩
  wp_walk using AutoSeq1.wpAny_loadPart' hl
  refine wpAny_stack_any λ_=>Cp ?_
  split
  ·rename_i c _ _ _ _ _
   cases (c == Value.type "enumerate") <;> (wp_walk using AutoSeq1.wpAny_loadPart' hl,wpAny_pyIter_tuple hT; exact⟨_,rfl,h⟩)
  ·wp_walk using AutoSeq1.wpAny_loadPart' hl,wpAny_pyIter_tuple hT
   exact⟨_,rfl,h⟩
section
variable {prog:Dy} {w:DC} {A:Dz} {E:Du->Dt->Prop} {s:Dt}
theorem oz {l:Dv} {xs:DJ Du} {Q:Du->Dt->Prop} (hL:s.heap.IsTuple l xs)
  (h:∀ h',IsEnum h' (s.heap.objs.size+1) s.heap.objs.size 0 .none->h'.get? s.heap.objs.size=some {cls:=.type "tuple_iterator",data:=.fields #[.ref l,.int 0 0]}->(∀ c o,s.heap.get? c=some o->h'.get? c=some o)->Q (.ref (s.heap.objs.size+1)) {s with heap:=h'}):
  wpAny (model prog w) A (call (.type "enumerate") [.ref l]) Q E s:=by
 obtain⟨⟨c,dct,dt,sl⟩,hl,hc,n,hd⟩:=hL;obtain rfl:c=.type "tuple":=hc
 obtain rfl:dt=.seq xs n:=hd;refine callType_new F.called_enumerate (by decide) (F.typeCall_enumerate_1 _) (F.newCall_enumerate_1 _) (λobj=>F.args_object_init_2 obj _) F.entry_enumerate_new (n4 l xs n dct sl) ⟨hl,?_⟩
 have z1:(wN s.heap "tuple_iterator" l).objs.size=s.heap.objs.size+1:=Df ..
 have g5:=Cq (wN s.heap "tuple_iterator" l) (o:={cls:=.type "enumerate",data:=.fields #[.none,.bool false,.ref s.heap.objs.size,rawInt 0,.none,.none]}) rfl
 show _/\_
 rw [z1] at g5 ⊢;exact⟨⟨_,g5,rfl⟩,h _ g5 (Co _ (Cq _ rfl)) λc o x=>Co _ (Co _ x)⟩
theorem po {b:DM} {l:Dv} {xs:DJ Du} {Q:Du->Dt->Prop} (hL:sqB b l xs s.heap)
  (h:∀ h',IsEnum h' (s.heap.objs.size+1) s.heap.objs.size 0 .none->wT b s.heap.objs.size l 0 h'->(∀ c o,s.heap.get? c=some o->h'.get? c=some o)->Q (.ref (s.heap.objs.size+1)) {s with heap:=h'}):
  wpAny (model prog w) A (call (.type "enumerate") [.ref l]) Q E s:=by
 cases b with
 | true=>exact call_enumerate_list hL λh' a1 a2 _ a4=>h h' a1 a2 a4
 | false=>exact oz hL λh' a1 a2 a4=>h h' a1 ⟨_,a2,rfl,rfl⟩ a4
end
def Ad (K:PySem.W.Frag) (ta:TA):TI:=fun σ H R=>ta σ H λvs H1=>∃ a b,vs=[.ref a]/\(∃ xs,kX b K H1 a xs)/\R (zQ K b a) H1
theorem vN {X:Cx} {a:Dx} {ta:TA} {p pos tp:Pos} {es:List Dx} {k:Nat} (hg:Gl X "enumerate") (hm:X.mg "enumerate"=none) (ha:PA X [a] ta) (hs:starEach [a] X.env=[(false,eval a X.env)]:=by rfl):
  PI X (.Tuple es k tp) (.Call (.Name "enumerate" p) [a] [] pos) (Ad X.K ta):=by
 intro DQ s σ H R I h;refine Call_ (iK I hg hm qS (PyProof.Rows.callWith_type1 (bw (ha pos DQ s σ H _ I h) λus s1 ⟨vs,H1,I1,r1,q1⟩=>?_) (by rw [hs]; rfl) rfl))
 obtain⟨a1,b,rfl,⟨xs,e1⟩,q⟩:=q1;cases r1 with
 | cons r rr=>
  cases rr;cases r;obtain⟨its,rv,p1⟩:=I1.sqB e1;have al:=mK p1;refine po p1 λh' c1 c2 c3=>?_
  refine wpAny_pyIter_enum (s:={s1 with heap:=h'}) c1 ?_
  have fr:∀ j,H1 (s1.heap.objs.size+j)=none:=λj=>I1.hok.fresh (Nat.le_add_right _ _)
  refine⟨_,[s1.heap.objs.size+1,s1.heap.objs.size],_,_,H1,rfl,I1.kept (t':=s1.toks) c3,qV b (Nat.succ_ne_self _) (Nat.ne_of_gt (Nat.lt_succ_of_lt al)) (Nat.ne_of_gt al),⟨⟨_,c1⟩,c2⟩,λc hb=>?_,q⟩
  have hb':c=s1.heap.objs.size+1\/c=s1.heap.objs.size:=by simpa using hb
  rcases hb' with rfl | rfl
  ·exact I1.fpOk (Nat.le_add_right _ _) (fr 1)
  ·exact I1.fpOk (Ct _) (fr 0)
end L2
namespace DL
open PySem PySem.Spec PyProof.Rows L2
def j9:Nat->List D->List D
 | _,[]=>[]
 | j,d::r=>.tup [.int (j:Nat),d]::j9 (j+1) r
theorem k8:∀ {ds:List D} {j i:Nat} {c:D},(j9 j ds)[i]?=some c->∃ d,ds[i]?=some d/\c=.tup [.int ((j+i:Nat):Int),d]
 | [],_,_,_,h=>by cases h
 | d::r,j,0,c,h=>⟨d,rfl,(CS h).symm⟩
 | d::r,j,i+1,c,h=>by
  obtain⟨e,h1,h2⟩:=k8 (ds:=r) (j:=j+1) (i:=i) h;exact⟨e,h1,by rw [h2,show j+1+i=j+(i+1) by omega]⟩
theorem kZ:∀ {ds:List D} {j:Nat},(j9 j ds).length=ds.length
 | [],_=>rfl
 | _::r,j=>congrArg (·+1) (kZ (ds:=r) (j:=j+1))
theorem vK {K:Fg} {H1:Hp} {q:List D×Dw Dv} {a:Dv} {b:DM} (y:∀ S2 H2,Kp H1 H2->Hs K H2 S2->bT q S2->∃ xs,kX b K H2 a xs/\IsDs K H2 q.1 xs):
  (∀ i d S2 H2,(j9 0 q.1)[i]?=some d->Kp H1 H2->Hs K H2 S2->bT q S2->(zQ K b a).go i H2/\∀ x H',(zQ K b a).yld i H2 x H'->Kp H2 H'/\Hs K H' S2/\a_ K H' d x)/\
  ∀ S2 H2,Kp H1 H2->Hs K H2 S2->bT q S2->(zQ K b a).stop (j9 0 q.1).length H2:=by
 refine⟨λi c S2 H2 e k2 hS2 o2=>?_,λS2 H2 k2 hS2 o2=>?_⟩
 ·obtain⟨xs,w1,u1⟩:=y S2 H2 k2 hS2 o2;obtain⟨d,f1,rfl⟩:=k8 e;obtain⟨v1,g1,r1⟩:=u1.get f1;refine⟨⟨xs,v1,w1,g1⟩,?_⟩;rintro x H' ⟨T,x',rfl,hT,rfl,al⟩;have l1:=al xs w1;rw [g1] at l1;cases l1;have kn:Kp H2 (aZ H2 T (.tup [.int (i:Nat),v1])):=Kp.new hT;exact⟨kn,hS2.new hT,aT.mpr ⟨T,[.int (i:Nat),v1],rfl,e_.of br,IsDs.cons (isInt.mpr (by rw [Nat.zero_add])) (IsDs.cons (r1.kp kn) IsDs.nil)⟩⟩
 ·obtain⟨xs,w1,u1⟩:=y S2 H2 k2 hS2 o2;refine⟨xs,w1,?_⟩;rw [<- u1.length,kZ]
def xD (ta:DA) (g:DG) (b:DS):DS:=λM L S=>ta L S λds S1=>match ds with
 | [d]=>∃ q,ar S1 d=some q/\dE (bT q) g b M (j9 0 q.1) L S1
 | _=>False
section
variable {X:Cx} {a:Dx} {es:List Dx} {kt:Nat} {tp p pos pos':Pos} {gg:DG} {ta:DA} {g:DS} {body:List DF}
theorem pK (hp:PassesOwn (model X.prog X.w) X.A X.env X.xe) (hc:X.calm=true) (hgl:Gl X "enumerate") (hm:X.mg "enumerate"=none) (ha:AJ X [a] ta) (hg:GJ X (.Tuple es kt tp) gg) (hb:rf X body g)
  (hs1:starEach [a] X.env=[(false,eval a X.env)]:=by rfl) (hs:∀ x,foldedSetIterable (.Call (.Name "enumerate" p) [a] [] pos') X.env x=pure x:=by intro _; rfl):
  SJ X (.For (.Tuple es kt tp) (.Call (.Name "enumerate" p) [a] [] pos') body [] pos) (xD ta gg g):=
 ⟨PS.imp (j_ hp hc (vN hgl hm ha.h hs1) hg.h hb.h hs) λN σ H ⟨L,S,M,hL,hS,h,r⟩=>lI.go hL hS h λds S1 vs H1 h1 k1 hL1 hS1 i1=>by
  split at h1
  ·rename_i d1
   obtain⟨v1,rfl,j1⟩:=eu i1;obtain⟨q1,e1,h1⟩:=h1;obtain⟨a1,b1,rfl,x1,y1⟩:=gL hS1 j1 e1;obtain⟨z1,z2⟩:=vK y1;exact⟨a1,b1,rfl,x1,lh hL1 hS1 h1 (r.kp k1) z1 z2⟩
  ·exact h1.elim⟩
end
theorem tw {X:Cx} {DQ:List (Dv×DP)} {σ:L2.St} {H:Hp} {s:Dt} (I:aw X DQ σ H s) {S:DH} {a c:Dv} {ds es:List D} (hS:Hs X.K H S) (h1:S a=some (.lst ds)) (h2:S c=some (.lst es)) (hl:ds.length≠es.length) (A:Dz) (hu:A.units+8 < cLine):
  SeqAt.RcNeAt A s (.ref a) (.ref c) true:=by
 obtain⟨xs,q1,j1⟩:=hS.lst h1;obtain⟨ys,q2,j2⟩:=hS.lst h2;obtain⟨us,r1,p1,_⟩:=I.list (dO.of q1);obtain⟨ws,r2,p2,_⟩:=I.list (dO.of q2);have l1:=j1.length;have l2:=j2.length;have l3:=r1.length;have l4:=r2.length;exact SeqAt.RcNeAt.lists_lengths p1.isList p2.isList (by simp only [Cy,bne_iff_ne]; omega) (by omega)
def y7:D2:=λd e S k=>match d,e with
 | .ref a,.ref c=>∃ xs ys b,S a=some (.lst xs)/\S c=some (.lst ys)/\((xs.length=ys.length/\eY (fW 7) xs ys=some b)\/(xs.length≠ys.length/\b=false))/\k (.bl (!b)) S
 | d,e=>∃ b,fW 8 d e=some b/\k (.bl (!b)) S
theorem kl {X:Cx} {n:Nat} (hr:cw n X.A):cP X (compareOp .NotEq) (fQ X.K y7):=by
 intro DQ s σ H x y v u Q I rx ry h;obtain⟨d,e,S,k,i1,i2,hS,r,m⟩:=h;have hu:=hr.units;unfold y7 at r
 split at r
 ·obtain⟨xs,ys,b,h1,h2,h3,w⟩:=r;have e1:=a8.mp i1;have e2:=a8.mp i2;subst e1 e2;cases rx;cases ry;rcases h3 with ⟨h3,h4⟩ | ⟨h3,rfl⟩
  ·exact(oX I hS h1 h2 h3 X.A (by omega) h4).2 X.prog X.w X.xe _ ⟨.bl (!b),H,I,rfl,gE m hS w (a9.mpr rfl)⟩
  ·exact(tw I hS h1 h2 h3 X.A (by omega)) X.prog X.w X.xe _ ⟨.bl true,H,I,rfl,gE m hS w (a9.mpr rfl)⟩
 ·obtain⟨b,h1,w⟩:=r;exact tx I 8 X.A d e x y v u b (by omega) h1 i1 i2 rx ry X.prog X.w X.xe _ ⟨.bl (!b),H,I,rfl,gE m hS w (a9.mpr rfl)⟩
def zg:D2:=λd e S k=>match d,e with
 | .tup ds,.int i=>∃ c,L2.atI ds i=some c/\k c S
 | .rl ds,.int i=>∃ c,L2.atI ds i=some c/\k c S
 | .ref a,.int i=>∃ ds c,S a=some (.lst ds)/\L2.atI ds i=some c/\k c S
 | _,_=>False
theorem aR {X:Cx}:rO X (fQ X.K zg):=rO.imp yT (fQ.imp λd e S k h=>by
 unfold zg at h
 split at h
 ·obtain⟨c,h1,h2⟩:=h;simp only [m3,h1];exact h2
 ·obtain⟨c,h1,h2⟩:=h;simp only [m3,h1];exact h2
 ·obtain⟨ds,c,h0,h1,h2⟩:=h;simp only [m3,h0,h1];exact h2
 ·exact h.elim)
theorem isDs.rep {K:Fg} {H:Hp} {ds:List D} {vs:List V} (h:IsDs K H ds vs):∀ n:Nat,IsDs K H (List.replicate n ds).flatten (List.replicate n vs).flatten
 | 0=>IsDs.nil
 | n+1=>by
  rw [List.replicate_succ,List.flatten_cons,List.replicate_succ,List.flatten_cons];exact h.append (isDs.rep h n)
def wM:D2:=λd e S k=>match d,e with
 | .ref a,.int j=>∃ xs,S a=some (.lst xs)/\-(2 ^ 63)<=j/\j < 2 ^ 63/\xs.length*j.toNat<=sizeLine/\∀ p,S p=none->k (.ref p) (put S p (.lst (List.replicate j.toNat xs).flatten))
 | d,e=>zB d e S k
theorem me {X:Cx}:cP X (binaryOp .Mult) (fQ X.K wM):=by
 intro DQ s σ H x y v u Q I rx ry h;obtain⟨d,e,S,k,i1,i2,hS,r,m⟩:=h;unfold wM at r
 split at r
 ·rename_i a j
  obtain⟨xs,h1,h2,h3,h4,w⟩:=r;have e1:=a8.mp i1;have e2:=isInt.mp i2;subst e1 e2;obtain⟨vs,hl,jj⟩:=hS.lst h1;refine x3 DQ s σ H _ _ v u Q I rx ry ⟨a,j,vs,rfl,rfl,hl,h2,h3,by rw [<- jj.length]; exact h4,λp hp=>?_⟩
  exact m _ _ _ _ (w p (hS.free hp)) (Kp.new hp) (hS.newL hp (isDs.rep jj _)) (a8.mpr rfl)
 ·exact bB DQ s σ H x y v u Q I rx ry ⟨_,_,S,k,i1,i2,hS,r,m⟩
end DL
namespace HT
open PySem PyProof.Rows
theorem si {prog:Dy} {w:DC} {A:Dz} {E:Du->Dt->Prop} {s:Dt} {t b:Dv} {ws:List Du} {Q:Du->Dt->Prop} (ht:IsTup s.heap t ([]:List Du).toArray) (hb:IsTup s.heap b ws.toArray)
  (h0:Q (.ref b) s):wpAny (model prog w) A (binaryOp .Add (.ref t) (.ref b)) Q E s:=by
 obtain⟨⟨cls,dd,data,sl⟩,ho,hc,n,hd⟩:=id ht;obtain⟨⟨cls2,dd2,data2,sl2⟩,ho2,hc2,n2,hd2⟩:=id hb;simp only at hc hd hc2 hd2
 subst hc hd hc2 hd2;exact concat_meets ⟨_,ho,rfl⟩ ⟨_,ho2,rfl⟩ noFill_tuple_add seq_tuple_add PySem.F.slot_tuple_add PySem.F.entry_tuple_add (PySem.F.args_tuple_add_2 _ _)
   (tuple_addW0 t b ([]:List Du).toArray ws.toArray n n2 dd dd2 sl sl2 (by simp)) ⟨ho,ho2,h0⟩
end HT
namespace L2
open PySem PySem.Spec PyProof.Rows
section
variable {X:Cx}
theorem sE:cP X (binaryOp .Add) (λx y H Q=>∃ a b ys,x=.ref a/\y=.ref b/\e_ X.K H a []/\e_ X.K H b ys/\Q (.ref b) H):=by
 intro DQ s σ H x y v u Q I rx ry h;obtain⟨a,b,ys,rfl,rfl,ha,hb,q⟩:=h;cases rx;cases ry;obtain⟨its,r1,p1,_⟩:=I.tuple ha;obtain⟨its2,r2,p2,_⟩:=I.tuple hb;have e:its=[]:=r1.nil_iff.mpr rfl;subst e;exact HT.si p1 p2 ⟨.ref b,H,I,rfl,q⟩
end
end L2
namespace DL
open PySem PySem.Spec PyProof.Rows L2
def wC:D2:=λd e S k=>match d,e with
 | .tup xs,.tup ys=>xs.length+ys.length<=sizeLine/\k (.tup (xs++ys)) S
 | d,e=>yN d e S k
theorem mq {X:Cx}:cP X (binaryOp .Add) (fQ X.K wC):=by
 intro DQ s σ H x y v u Q I rx ry h;obtain⟨d,e,S,k,i1,i2,hS,r,n⟩:=h;unfold wC at r
 split at r
 ·rename_i xs ys
  obtain⟨hl,r⟩:=r
  by_cases h1:xs=[]
  ·subst h1;obtain⟨a,vs,rfl,t1,j1⟩:=aT.mp i1;obtain⟨b,us,rfl,t2,j2⟩:=aT.mp i2;have e:vs=[]:=by
    have:=j1.length;exact Dq.mp this.symm
   subst e;exact sE DQ s σ H _ _ v u Q I rx ry ⟨a,b,us,rfl,rfl,t1,t2,n _ S _ H r (Kp.refl H) hS i2⟩
  ·by_cases h2:ys=[]
   ·subst h2;obtain⟨a,vs,rfl,t1,j1⟩:=aT.mp i1;obtain⟨b,us,rfl,t2,j2⟩:=aT.mp i2;have e:us=[]:=by
     have:=j2.length;exact Dq.mp this.symm
    subst e;rw [CL] at r;exact qD DQ s σ H _ _ v u Q I rx ry ⟨a,b,vs,[],rfl,rfl,t1,t2,iP j1 h1,by rw [<- j1.length]; exact hl,λ_=>n _ S _ H r (Kp.refl H) hS i1,λz=>absurd rfl z⟩
   ·exact dL DQ s σ H x y v u Q I rx ry ⟨_,_,S,k,i1,i2,hS,⟨h1,h2,hl,r⟩,n⟩
 ·exact dL DQ s σ H x y v u Q I rx ry ⟨_,_,S,k,i1,i2,hS,r,n⟩
theorem jz {K:Fg} {H:Hp}:∀ {ns:List Int} {vs:List V},IsDs K H (ns.map D.int) vs->vs=ns.map V.int
 | [],vs,h=>by
  have:=h.length;exact Dq.mp this.symm
 | n::ns,vs,h=>by
  obtain⟨u,r,rfl,h1,h2⟩:=bh.mp h;rw [isInt.mp h1,jz h2]
  rfl
def AR:D2:=λd e S k=>match e with
 | .str y=>(match d with
  | .str x=>k (.bl (x == y)) S
  | .int _=>k (.bl false) S
  | .bl _=>k (.bl false) S
  | .non=>k (.bl false) S
  | .tup _=>k (.bl false) S
  | .ref a=>(∃ ds,S a=some (.lst ds))/\k (.bl false) S
  | _=>False)
 | _=>False
theorem y_ {X:Cx} {n:Nat} (hr:cw n X.A):cP X (compareOp .Eq) (fQ X.K AR):=by
 intro DQ s σ H x y v u Q I rx ry h;obtain⟨d,e,S,k,i1,i2,hS,r,m⟩:=h;have hu:=hr.units;cases e with
 | str z=>
  rw [cS.mp i2] at ry;obtain⟨t',rfl⟩:=ry;cases d with
  | str w=>rw [cS.mp i1] at rx; obtain⟨t,rfl⟩:=rx; exact SeqAt.RcAt.str_str _ _ _ _ X.prog X.w X.xe _ ⟨.bl _,H,I,rfl,gE m hS r (a9.mpr rfl)⟩
  | int w=>rw [isInt.mp i1] at rx; obtain⟨t,rfl⟩:=rx; exact SeqAt.RcAt.int_str _ _ _ _ X.prog X.w X.xe _ ⟨.bl _,H,I,rfl,gE m hS r (a9.mpr rfl)⟩
  | bl w=>rw [a9.mp i1] at rx; cases rx; exact SeqAt.RcAt.bool_str _ _ _ X.prog X.w X.xe _ ⟨.bl _,H,I,rfl,gE m hS r (a9.mpr rfl)⟩
  | non=>rw [bE.mp i1] at rx; cases rx; exact SeqAt.RcAt.none_str _ _ X.prog X.w X.xe _ ⟨.bl _,H,I,rfl,gE m hS r (a9.mpr rfl)⟩
  | tup xs=>
   obtain⟨p,vs,rfl,t1,j1⟩:=aT.mp i1;cases rx;obtain⟨us,r1,p1,_⟩:=I.tuple t1;exact SeqAt.RcAt.tuple_str (items:=us.toArray) _ _ (show s.heap.IsTuple p us.toArray from p1) (by omega) X.prog X.w X.xe _ ⟨.bl _,H,I,rfl,gE m hS r (a9.mpr rfl)⟩
  | ref a=>
   have e1:=a8.mp i1;subst e1;cases rx;obtain⟨⟨ds,h1⟩,r⟩:=r;obtain⟨xs,q1,j1⟩:=hS.lst h1;obtain⟨us,r1,p1,_⟩:=I.list (dO.of q1);exact SeqAt.RcAt.list_str (items:=us.toArray) _ _ p1.isList (by omega) X.prog X.w X.xe _ ⟨.bl _,H,I,rfl,gE m hS r (a9.mpr rfl)⟩
  | _=>exact r.elim
 | _=>exact(show False from r).elim
end DL
namespace HT
open PySem PyProof.Rows
section
variable {prog:Dy} {w:DC} {A:Dz} {E:Du->Dt->Prop} {s:Dt}
theorem f_ {t sl:Dv} {items:DJ Du} {vl vu:Du} {lo hi:Dw Int} {Q:Du->Dt->Prop} (ht:IsTup s.heap t items) (hs:s.heap.IsSliceOf sl vl vu .none) (pl:IsPart vl lo) (pu:IsPart vu hi)
  (hw:bM items.size 0 lo=0/\bM items.size items.size hi=items.size) (h:Q (.ref t) s):wpAny (model prog w) A (getItem (.ref t) (.ref sl)) Q E s:=by
 obtain⟨os,hos,hcs,hds⟩:=id hs;have hTs:s.TypeIs (.ref sl) "slice":=⟨os,hos,hcs⟩
 unfold getItem
 try with_reducible refine CN ?_
 first | refine gt (Cp ?_) | skip
 refine gt (wpAny_sequenceKey ht.typeIs (by decide) ?_)
 refine gt (Dj (name:=Str.ofString "__getitem__") ht.typeIs PyProof.Rows.slot_tuple_getitem
  (C_ PyProof.Rows.slot_tuple_getitem ht.typeIs entry_tuple_getitem ?_ (args_tuple_getitem _ _)))
 show wpAny _ _ (Builtin.Tuple.tupleItemsOf (.ref t) >>= _) _ _ s
 refine gt (tupleItemsOf_ ht (gt (wpAny_typeOf hTs ?_)));rw [if_pos (by decide)]
 refine gt (eF hs pl pu ?_);rw [hw.1,hw.2]
 show wpAny _ _ (if ((((0:Nat):Int) == 0) && (1:Int) == 1 && (items.size - 0) == items.size)=true then _ else _) _ _ s
 rw [if_pos (by simp)]
 refine gt (m:=Builtin.Tuple.tupleIsExact (.ref t)) (gt (wpAny_typeOf ht.typeIs (Cp ?_)));rw [if_pos (by decide)]
 first
  | exact Cp ⟨_,rfl,Cp h⟩
  | exact gt (Cp (Cp ⟨_,rfl,Cp h⟩))
  | (wp_walk; exact⟨_,rfl,Cp h⟩)
end
end HT
namespace L2
open PySem PySem.Spec PyProof.Rows
section
variable {X:Cx}
theorem u6:uL X (λx lo hi H Q=>∃ a xs,x=.ref a/\e_ X.K H a xs/\(HT.bM xs.length 0 lo=0/\HT.bM xs.length xs.length hi=xs.length)/\Q (.ref a) H):=by
 intro DQ s σ H x v vl vu lo hi sl Q I rx hs pl pu h;obtain⟨a,xs,rfl,hx,hw,q⟩:=h;cases rx;obtain⟨its,r,ht,hz⟩:=I.tuple hx;have hlen:its.toArray.size=xs.length:=by rw [Cy]; exact r.length.symm
 refine⟨"tuple",_,PyProof.Rows.slot_tuple_getitem.lookup,ht.typeIs,?_⟩
 exact HT.f_ ht hs pl pu (by rw [hlen]; exact hw) ⟨.ref a,H,I,rfl,q⟩
end
end L2
namespace DL
open PySem PySem.Spec PyProof.Rows L2
def Ab (g:DE) (tl th:wt):DE:=λL S k=>g L S λx S1=>tl L S1 λlo S2=>th L S2 λhi S3=>match x with
 | .tup xs=>k (.tup (eA xs lo hi)) S3
 | _=>False
theorem rp {xs:List D} {lo hi:Dw Int} (h:HT.bM xs.length 0 lo=0/\HT.bM xs.length xs.length hi=xs.length):eA xs lo hi=xs:=by
 unfold eA;rw [h.1,h.2];simp
theorem p_ {X:Cx} {e:Dx} {g:DE} {lo hi:Dw Dx} {tl th:wt} {p2 pos:Pos} (he:EJ X e g) (hl:OJ X lo tl) (hu:OJ X hi th):EJ X (.Subscript e (.Slice lo hi none p2) pos) (Ab g tl th):=
 ⟨PE.imp (nv (uL.or sZ u6) he.h hl.h hu.h) fun σ H Q ⟨L,S,k,hL,hS,h,n⟩=>up.go hL hS h λd S1 v H1 h1 k1 hL1 hS1 i1=>by
  refine⟨L,S1,_,hL1,hS1,h1,λlo' S2 H2 h2 k2 hS2=>⟨L,S2,_,hL1.kp k2,hS2,h2,λhi' S3 H3 h3 k3 hS3=>?_⟩⟩
  cases d with
  | tup xs=>
   obtain⟨a,vs,rfl,t,j⟩:=aT.mp i1;have j3:=j.kp (k2.trans k3)
   by_cases hw:HT.bM xs.length 0 lo'=0/\HT.bM xs.length xs.length hi'=xs.length
   ·refine .inr ⟨a,vs,rfl,(k2.trans k3).tup t,by rw [<- j.length]; exact hw,?_⟩
    have h3:k (.tup (eA xs lo' hi')) S3:=h3;rw [rp hw] at h3;exact n _ S3 _ _ h3 (k1.trans (k2.trans k3)) hS3 (aT.mpr ⟨a,vs,rfl,(k2.trans k3).tup t,j3⟩)
   ·refine .inl ⟨a,vs,rfl,(k2.trans k3).tup t,by rw [<- j.length]; exact hw,λp hp=>?_⟩
    have k4:Kp H3 (aZ H3 p (.tup (jb vs lo' hi'))):=Kp.new hp;refine n _ S3 _ _ h3 (k1.trans (k2.trans (k3.trans k4))) (hS3.new hp) (aT.mpr ⟨p,_,rfl,e_.of br,?_⟩);unfold eA jb;rw [j.length];exact((j3.drop _).take _).kp k4
  | _=>exact(show False from h3).elim⟩
end DL
set_option linter.all false
namespace DT
abbrev Mx:=Nat->Nat->Rat
def sm:Nat->(Nat->Rat)->Rat
 | 0,_=>0
 | n+1,f=>sm n f+f n
theorem sm_congr {n:Nat} {f g:Nat->Rat} (h:∀ i,i < n->f i=g i):sm n f=sm n g:=by
 induction n with
 | zero=>rfl
 | succ n ih=>unfold sm; rw [ih λi hi=>h i (by omega),h n (by omega)]
theorem sm_add {n:Nat} {f g:Nat->Rat}:sm n (λi=>f i+g i)=sm n f+sm n g:=by
 induction n with
 | zero=>unfold sm; grind
 | succ n ih=>unfold sm; rw [ih]; grind
theorem sm_mul {n:Nat} {f:Nat->Rat} {c:Rat}:sm n (λi=>c*f i)=c*sm n f:=by
 induction n with
 | zero=>unfold sm; grind
 | succ n ih=>unfold sm; rw [ih]; grind
theorem sm_zero {n:Nat} {f:Nat->Rat} (h:∀ i,i < n->f i=0):sm n f=0:=by
 induction n with
 | zero=>rfl
 | succ n ih=>unfold sm; rw [ih λi hi=>h i (by omega),h n (by omega)]; grind
def sk (i r:Nat):Nat:=if r < i then r else r+1
def sg (n:Nat):Rat:=if n % 2=0 then 1 else -1
theorem lR (n:Nat):sg (n+1)=- sg n:=by
 unfold sg
 by_cases h:n % 2=0
 ·rw [if_pos h,if_neg (by omega)]
 ·rw [if_neg h,if_pos (by omega)]; grind
def det:Nat->Mx->Rat
 | 0,_=>1
 | n+1,M=>sm (n+1) λi=>sg (n+i)*M i n*det n (λr c=>M (sk i r) c)
theorem cD:∀ {n:Nat} {M M':Mx},(∀ r c,r < n->c < n->M r c=M' r c)->det n M=det n M'
 | 0,_,_,_=>rfl
 | n+1,M,M',h=>by
  unfold det;refine sm_congr λi hi=>?_
  rw [h i n hi (by omega),cD (M:=λr c=>M (sk i r) c) (M':=λr c=>M' (sk i r) c) λr c hr hc=>h _ _ (by unfold sk; split <;> omega) (by omega)]
def cl (M:Mx) (a:Nat) (u:Nat->Rat):Mx:=λr c=>if c=a then u r else M r c
theorem ij:∀ {n a:Nat} {M:Mx} {u v:Nat->Rat},a < n->det n (cl M a λr=>u r+v r)=det n (cl M a u)+det n (cl M a v)
 | 0,a,_,_,_,h=>absurd h (by omega)
 | n+1,a,M,u,v,h=>by
  unfold det;rw [<- sm_add];refine sm_congr λi hi=>?_
  by_cases e:a=n
  ·subst e;have z:∀ w:Nat->Rat,det a (λr c=>cl M a w (sk i r) c)=det a (λr c=>M (sk i r) c):=λw=>cD λr c hr hc=>by unfold cl; rw [if_neg (by omega)]
   rw [z,z,z];unfold cl;rw [if_pos rfl,if_pos rfl,if_pos rfl];grind
  ·have z:∀ w:Nat->Rat,(λr c=>cl M a w (sk i r) c)=cl (λr c=>M (sk i r) c) a λr=>w (sk i r):=λw=>rfl
   rw [z,z,z,ij (u:=λr=>u (sk i r)) (v:=λr=>v (sk i r)) (by omega)]
   unfold cl;rw [if_neg (Ne.symm e),if_neg (Ne.symm e),if_neg (Ne.symm e)];grind
theorem det_mul:∀ {n a:Nat} {M:Mx} {u:Nat->Rat} {k:Rat},a < n->det n (cl M a λr=>k*u r)=k*det n (cl M a u)
 | 0,a,_,_,_,h=>absurd h (by omega)
 | n+1,a,M,u,k,h=>by
  unfold det;rw [<- sm_mul];refine sm_congr λi hi=>?_
  by_cases e:a=n
  ·subst e;have z:∀ w:Nat->Rat,det a (λr c=>cl M a w (sk i r) c)=det a (λr c=>M (sk i r) c):=λw=>cD λr c hr hc=>by unfold cl; rw [if_neg (by omega)]
   rw [z,z];unfold cl;rw [if_pos rfl,if_pos rfl];grind
  ·have z:∀ w:Nat->Rat,(λr c=>cl M a w (sk i r) c)=cl (λr c=>M (sk i r) c) a λr=>w (sk i r):=λw=>rfl
   rw [z,z,det_mul (u:=λr=>u (sk i r)) (by omega)]
   unfold cl;rw [if_neg (Ne.symm e),if_neg (Ne.symm e)];grind
theorem qo {T:Nat->Nat->Rat} (h:∀ p j,p<=j->T p j=- T (j+1) p):∀ m:Nat,sm (m+1) (λi=>sm m (T i))=0
 | 0=>by show(0:Rat)+0=0; grind
 | m+1=>by
  have ih:=qo h m;have e1:sm (m+1) (λi=>sm (m+1) (T i))=sm (m+1) (λi=>sm m (T i))+sm (m+1) (λi=>T i m):=by rw [<- sm_add]; rfl
  have e2:sm (m+1) (λi=>T i m)=- sm (m+1) (T (m+1)):=by
   have:sm (m+1) (λi=>T i m)=sm (m+1) (λi=>(-1)*T (m+1) i):=sm_congr λi hi=>by rw [h i m (by omega)]; grind
   rw [this,sm_mul]; grind
  show sm (m+1) (λi=>sm (m+1) (T i))+sm (m+1) (T (m+1))=0
  rw [e1,ih,e2];grind
theorem w6 {p j r:Nat} (h:p<=j):sk p (sk j r)=sk (j+1) (sk p r):=by
 unfold sk
 by_cases h1:r < j <;> by_cases h2:r < p <;> simp only [h1,h2,if_true,if_false] <;> (repeat' split) <;> omega
theorem hX {n:Nat} {M:Mx} (h:∀ r,M r n=M r (n+1)):det (n+2) M=0:=by
 show sm (n+2) (λi=>sg (n+1+i)*M i (n+1)*sm (n+1) λj=>sg (n+j)*M (sk i j) n*det n (λr c=>M (sk i (sk j r)) c))=0
 have e:sm (n+2) (λi=>sg (n+1+i)*M i (n+1)*sm (n+1) λj=>sg (n+j)*M (sk i j) n*det n (λr c=>M (sk i (sk j r)) c))=
   sm (n+2) (λi=>sm (n+1) ((λi j=>sg (n+1+i)*M i (n+1)*(sg (n+j)*M (sk i j) n*det n (λr c=>M (sk i (sk j r)) c))) i)):=sm_congr λi hi=>by rw [<- sm_mul]
 rw [e];refine qo (λp j hp=>?_) (n+1)
 show sg (n+1+p)*M p (n+1)*(sg (n+j)*M (sk p j) n*det n (λr c=>M (sk p (sk j r)) c))=-(sg (n+1+(j+1))*M (j+1) (n+1)*(sg (n+p)*M (sk (j+1) p) n*det n (λr c=>M (sk (j+1) (sk p r)) c)))
 have e1:sk p j=j+1:=by unfold sk; rw [if_neg (by omega)]
 have e2:sk (j+1) p=p:=by unfold sk; rw [if_pos (by omega)]
 have e3:(λr c=>M (sk p (sk j r)) c)=λr c=>M (sk (j+1) (sk p r)) c:=by funext r c; rw [w6 hp]
 rw [e1,e2,e3,h,h,show n+1+p=(n+p)+1 by omega,show n+1+(j+1)=(n+j)+1+1 by omega,lR,lR,lR]
 grind
theorem sA {M:Mx} {a b:Nat} {u v:Nat->Rat} (h:a≠b):cl (cl M a u) b v=cl (cl M b v) a u:=by
 funext r c
 unfold cl
 by_cases h1:c=a
 ·subst h1; simp [h]
 ·simp [h1]
theorem tR {n:Nat} {M:Mx} {u v:Nat->Rat}:det (n+2) (cl (cl M n u) (n+1) v)=- det (n+2) (cl (cl M n v) (n+1) u):=by
 have F:∀ w:Nat->Rat,det (n+2) (cl (cl M n w) (n+1) w)=0:=λw=>hX λr=>by
  unfold cl;rw [if_neg (by omega),if_pos rfl,if_pos rfl]
 have A:∀ w:Nat->Rat,det (n+2) (cl (cl M n λr=>u r+v r) (n+1) w)=det (n+2) (cl (cl M n u) (n+1) w)+det (n+2) (cl (cl M n v) (n+1) w):=λw=>by
  have c:∀ x:Nat->Rat,cl (cl M n x) (n+1) w=cl (cl M (n+1) w) n x:=λx=>sA (by omega)
  rw [c,c,c,ij (by omega)]
 have h:=F λr=>u r+v r
 rw [ij (by omega),A,A,F,F] at h
 grind
theorem jr {M:Mx} {a:Nat}:cl M a (λr=>M r a)=M:=by
 funext r c
 unfold cl
 split
 ·rename_i h; rw [h]
 ·rfl
theorem jw:∀ {n a b:Nat} {M:Mx},a < b->b < n->(∀ r,M r a=M r b)->det n M=0
 | 0,a,b,M,_,h,_=>absurd h (by omega)
 | 1,a,b,M,h1,h2,_=>absurd h1 (by omega)
 | n+2,a,b,M,h1,h2,h=>by
  have minor:∀ {a b:Nat} {M:Mx},a < b->b < n+1->(∀ r,M r a=M r b)->det (n+2) M=0:=λ{a b M} h1 h2 h=>by
   unfold det;refine sm_zero λi hi=>?_
   rw [jw (M:=λr c=>M (sk i r) c) h1 h2 λr=>h _]
   grind
  by_cases hb:b < n+1
  ·exact minor h1 hb h
  ·have e:b=n+1:=by omega
   subst e
   by_cases ha:a=n
   ·subst ha;exact hX h
   ·have e1:M=cl (cl M n λr=>M r n) (n+1) λr=>M r (n+1):=by rw [jr,jr]
    rw [e1,tR,minor (a:=a) (b:=n) (by omega) (by omega) λr=>?_]
    ·grind
    ·unfold cl;rw [if_neg (by omega),if_neg (by omega),if_neg (by omega),if_pos rfl]
     exact h r
theorem pP {n j:Nat} {M:Mx} (hj:j < n) {m:Nat} {f:Nat->Nat->Rat}:det n (cl M j λr=>sm m λi=>f i r)=sm m λi=>det n (cl M j (f i)):=by
 induction m with
 | zero=>
  have:(λr=>sm 0 λi=>f i r)=λr:Nat=>(0:Rat)*0:=by funext r; unfold sm; grind
  rw [this,det_mul hj];unfold sm;grind
 | succ m ih=>
  have:(λr=>sm (m+1) λi=>f i r)=λr=>(sm m λi=>f i r)+f m r:=rfl
  rw [this,ij hj,ih]
  rfl
theorem cramer {n j:Nat} {M:Mx} {z u:Nat->Rat} (hj:j < n) (h:∀ r,r < n->sm n (λi=>z i*M r i)=u r):det n (cl M j u)=z j*det n M:=by
 have e:det n (cl M j u)=det n (cl M j λr=>sm n λi=>z i*M r i):=cD λr c hr hc=>by
  unfold cl
  split
  ·exact(h r hr).symm
  ·rfl
 rw [e,pP (f:=λi r=>z i*M r i) hj]
 have t:∀ i,i < n->det n (cl M j λr=>z i*M r i)=if i=j then z j*det n M else 0:=λi hi=>by
  rw [det_mul hj]
  by_cases hij:i=j
  ·subst hij; rw [jr,if_pos rfl]
  ·rw [if_neg hij];have zz:det n (cl M j λr=>M r i)=0:=by
    rcases Nat.lt_or_gt_of_ne hij with hl | hl
    ·exact jw hl hj λr=>by unfold cl; rw [if_neg hij,if_pos rfl]
    ·exact jw hl hi λr=>by unfold cl; rw [if_pos rfl,if_neg hij]
   rw [zz]; grind
 rw [sm_congr t];have s:∀ m,sm m (λi=>if i=j then z j*det n M else 0)=if j < m then z j*det n M else 0:=λm=>by
  induction m with
  | zero=>rw [if_neg (by omega)]; rfl
  | succ m ih=>
   show sm m (λi=>if i=j then z j*det n M else 0)+(if m=j then z j*det n M else 0)=_
   rw [ih]
   by_cases h1:j < m
   ·rw [if_pos h1,if_neg (show ¬ m=j by omega),if_pos (show j < m+1 by omega)]; grind
   ·by_cases h2:m=j
    ·rw [if_neg h1,if_pos h2,if_pos (show j < m+1 by omega)]; grind
    ·rw [if_neg h1,if_neg h2,if_neg (show ¬ j < m+1 by omega)]; grind
 rw [s,if_pos hj]
theorem ng {n:Nat} {M:Mx} {z:Nat->Rat} (h:∀ r,r < n->sm n (λi=>z i*M r i)=M r n):det (n+1) M=(M n n - sm n λi=>z i*M n i)*det n M:=by
 have e:det (n+1) M=det (n+1) (cl M n λr=>M r n - sm n λi=>z i*M r i):=by
  have e1:(λr=>M r n - sm n λi=>z i*M r i)=λr=>M r n+sm n λi=>(- z i)*M r i:=by
   funext r
   have:sm n (λi=>(- z i)*M r i)=(-1)*sm n λi=>z i*M r i:=by rw [<- sm_mul]; exact sm_congr λi _=>by grind
   rw [this]; grind
  rw [e1,ij (by omega),jr,pP (f:=λi r=>(- z i)*M r i) (by omega)]
  have:sm n (λi=>det (n+1) (cl M n λr=>(- z i)*M r i))=0:=sm_zero λi hi=>by
   rw [det_mul (by omega),jw (M:=cl M n λr=>M r i) (a:=i) (b:=n) hi (by omega) λr=>by unfold cl; rw [if_neg (by omega),if_pos rfl]]
   grind
  rw [this]; grind
 rw [e]
 show sm n _+sg (n+n)*cl M n (λr=>M r n - sm n λi=>z i*M r i) n n*det n (λr c=>cl M n (λr=>M r n - sm n λi=>z i*M r i) (sk n r) c)=_
 have z0:sm n (λi=>sg (n+i)*cl M n (λr=>M r n - sm n λi=>z i*M r i) i n*det n (λr c=>cl M n (λr=>M r n - sm n λi=>z i*M r i) (sk i r) c))=0:=sm_zero λi hi=>by
  have:cl M n (λr=>M r n - sm n λi=>z i*M r i) i n=0:=by
   unfold cl;rw [if_pos rfl]
   show M i n - (sm n λc=>z c*M i c)=0
   rw [h i hi]; grind
  rw [this]; grind
 rw [z0];have z1:cl M n (λr=>M r n - sm n λi=>z i*M r i) n n=M n n - sm n λi=>z i*M n i:=by unfold cl; rw [if_pos rfl]
 have z2:det n (λr c=>cl M n (λr=>M r n - sm n λi=>z i*M r i) (sk n r) c)=det n M:=cD λr c hr hc=>by unfold cl sk; rw [if_neg (by omega),if_pos hr]
 have z3:sg (n+n)=1:=by unfold sg; rw [if_pos (by omega)]
 rw [z1,z2,z3]; grind
def IsN (b:Nat) (q:Rat):Prop:=∃ v:Int,q=v/\v.natAbs<=b
theorem IsN.mul {a b:Nat} {p q:Rat} (h1:IsN a p) (h2:IsN b q):IsN (a*b) (p*q):=by
 obtain⟨v,rfl,hv⟩:=h1;obtain⟨w,rfl,hw⟩:=h2;exact⟨v*w,by rw [Cr],by rw [Di]; exact Nat.mul_le_mul hv hw⟩
theorem IsN.add {a b:Nat} {p q:Rat} (h1:IsN a p) (h2:IsN b q):IsN (a+b) (p+q):=by
 obtain⟨v,rfl,hv⟩:=h1;obtain⟨w,rfl,hw⟩:=h2;exact⟨v+w,by rw [Rat.intCast_add],by omega⟩
theorem IsN.sg (n:Nat):IsN 1 (sg n):=by
 unfold DT.sg
 split
 ·exact⟨1,rfl,by decide⟩
 ·exact⟨-1,rfl,by decide⟩
theorem IsN.sm {b:Nat} {f:Nat->Rat}:∀ {n:Nat},(∀ i,i < n->IsN b (f i))->IsN (n*b) (sm n f)
 | 0,_=>⟨0,rfl,by omega⟩
 | n+1,h=>by
  have h1:=IsN.sm (n:=n) λi hi=>h i (by omega)
  have h2:=h n (by omega)
  rw [Nat.succ_mul];exact h1.add h2
def fac:Nat->Nat
 | 0=>1
 | n+1=>(n+1)*fac n
theorem IsN.det {b:Nat}:∀ {n:Nat} {M:Mx},(∀ r c,r < n->c < n->IsN b (M r c))->IsN (fac n*b ^ n) (det n M)
 | 0,_,_=>⟨1,rfl,by show 1<=1*1; exact Ct _⟩
 | n+1,M,h=>by
  have e:fac (n+1)*b ^ (n+1)=(n+1)*(1*b*(fac n*b ^ n)):=by
   have e0:fac (n+1)=(n+1)*fac n:=rfl;rw [e0,Nat.pow_succ];simp only [Nat.one_mul,Nat.mul_assoc]
   congr 1
   rw [Nat.mul_comm (b ^ n) b,<- Nat.mul_assoc,<- Nat.mul_assoc,Nat.mul_comm (fac n) b]
  rw [e];unfold DT.det;refine IsN.sm λi hi=>?_
  exact((IsN.sg _).mul (h i n hi (by omega))).mul (IsN.det (M:=λr c=>M (sk i r) c) λr c hr hc=>h _ _ (by unfold sk; split <;> omega) (by omega))
def ups (f:Nat->Nat) (k v:Nat):Nat->Nat:=λi=>if i=k then v else f i
structure BS (M:Mx) (P C:Nat->Nat) (k:Nat) (d:Rat) (z:Nat->Nat->Rat):Prop where
 det:d=DT.det k (λr c=>M (P r) (C c))
 ne:d≠0
 sol:∀ r,r < k->∀ x,sm k (λj=>z j x*M (P r) (C j))=M (P r) x
def uO (d:Rat) (z:Nat->Nat->Rat) (j x:Nat):Rat:=d*z j x
def otE (M:Mx) (C:Nat->Nat) (k:Nat) (d:Rat) (z:Nat->Nat->Rat) (q x:Nat):Rat:=d*(M q x - sm k λj=>z j x*M q (C j))
theorem BS.start {M:Mx} {P C:Nat->Nat} {z:Nat->Nat->Rat}:BS M P C 0 1 z:=⟨rfl,by decide,λr h=>absurd h (by omega)⟩
theorem otE_start {M:Mx} {C:Nat->Nat} {z:Nat->Nat->Rat} {q x:Nat}:otE M C 0 1 z q x=M q x:=by unfold otE sm; grind
def zn (M:Mx) (C:Nat->Nat) (k:Nat) (d:Rat) (z:Nat->Nat->Rat) (l c:Nat):Nat->Nat->Rat:=λj x=>if j=k then otE M C k d z l x / otE M C k d z l c else z j x - z j c*(otE M C k d z l x / otE M C k d z l c)
theorem pJ {n:Nat} {f g h:Nat->Rat} {t:Rat}:sm n (λj=>(f j - g j*t)*h j)=sm n (λj=>f j*h j) - t*sm n (λj=>g j*h j):=by
 have:sm n (λj=>(f j - g j*t)*h j)=sm n (λj=>f j*h j+(-t)*(g j*h j)):=sm_congr λi _=>by grind
 rw [this,sm_add,sm_mul]; grind
theorem tH {M:Mx} {C:Nat->Nat} {k:Nat} {d:Rat} {z:Nat->Nat->Rat} {l c q x:Nat}:sm (k+1) (λj=>zn M C k d z l c j x*M q (ups C k c j))=sm k (λj=>z j x*M q (C j)) - (otE M C k d z l x / otE M C k d z l c)*sm k (λj=>z j c*M q (C j))+(otE M C k d z l x / otE M C k d z l c)*M q c:=by
 show sm k _+zn M C k d z l c k x*M q (ups C k c k)=_
 have e1:zn M C k d z l c k x=otE M C k d z l x / otE M C k d z l c:=by unfold zn; rw [if_pos rfl]
 have e2:ups C k c k=c:=by unfold ups; rw [if_pos rfl]
 have e3:sm k (λj=>zn M C k d z l c j x*M q (ups C k c j))=sm k (λj=>(z j x - z j c*(otE M C k d z l x / otE M C k d z l c))*M q (C j)):=sm_congr λi hi=>by
  unfold zn ups;rw [if_neg (by omega),if_neg (by omega)]
 rw [e1,e2,e3,pJ]
theorem BS.step {M:Mx} {P C:Nat->Nat} {k:Nat} {d:Rat} {z:Nat->Nat->Rat} {l c:Nat} (h:BS M P C k d z) (hn:otE M C k d z l c≠0):BS M (ups P k l) (ups C k c) (k+1) (otE M C k d z l c) (zn M C k d z l c):=by
 refine⟨?_,hn,λr hr x=>?_⟩
 ·have e:=ng (n:=k) (M:=λr s=>M (ups P k l r) (ups C k c s)) (z:=λj=>z j c) λr hr=>by
   show sm k (λi=>z i c*M (ups P k l r) (ups C k c i))=M (ups P k l r) (ups C k c k)
   have e1:ups P k l r=P r:=by unfold ups; rw [if_neg (by omega)]
   have e2:ups C k c k=c:=by unfold ups; rw [if_pos rfl]
   rw [e1,e2,<- h.sol r hr c];exact sm_congr λi hi=>by unfold ups; rw [if_neg (by omega)]
  rw [e];have e1:ups P k l k=l:=by unfold ups; rw [if_pos rfl]
  have e2:ups C k c k=c:=by unfold ups; rw [if_pos rfl]
  have e3:DT.det k (λr s=>M (ups P k l r) (ups C k c s))=d:=by
   rw [h.det];exact cD λr s hr hs=>by unfold ups; rw [if_neg (by omega),if_neg (by omega)]
  have e4:sm k (λi=>z i c*M (ups P k l k) (ups C k c i))=sm k λi=>z i c*M l (C i):=sm_congr λi hi=>by rw [e1]; unfold ups; rw [if_neg (by omega)]
  rw [e3]
  show otE M C k d z l c=(M (ups P k l k) (ups C k c k) - sm k λi=>z i c*M (ups P k l k) (ups C k c i))*d
  rw [e4,e1,e2];unfold otE;grind
 ·rw [tH]
  by_cases hk:r=k
  ·subst hk;have e1:ups P r l r=l:=by unfold ups; rw [if_pos rfl]
   rw [e1];have hd:=h.ne;have hx:otE M C r d z l x=d*(M l x - sm r λj=>z j x*M l (C j)):=rfl
   have hc:otE M C r d z l c=d*(M l c - sm r λj=>z j c*M l (C j)):=rfl
   have key:otE M C r d z l x / otE M C r d z l c*(M l c - sm r λj=>z j c*M l (C j))=M l x - sm r λj=>z j x*M l (C j):=by
    have:(M l c - sm r λj=>z j c*M l (C j))≠0:=λz0=>hn (by rw [hc,z0]; grind)
    rw [hx,hc];grind
   grind
  ·have e1:ups P k l r=P r:=by unfold ups; rw [if_neg hk]
   rw [e1,h.sol r (by omega) x,h.sol r (by omega) c]
   grind
theorem ld_new {M:Mx} {C:Nat->Nat} {k:Nat} {d:Rat} {z:Nat->Nat->Rat} {l c j x:Nat} (hd:d≠0) (hn:otE M C k d z l c≠0) (hj:j < k):otE M C k d z l c*uO d z j x - uO d z j c*otE M C k d z l x=d*uO (otE M C k d z l c) (zn M C k d z l c) j x:=by
 have e:zn M C k d z l c j x=z j x - z j c*(otE M C k d z l x / otE M C k d z l c):=by unfold zn; rw [if_neg (by omega)]
 unfold uO;rw [e];generalize otE M C k d z l c=H at*
 generalize otE M C k d z l x=X at*
 have:H*(X / H)=X:=by grind
 grind
theorem ld_own {M:Mx} {C:Nat->Nat} {k:Nat} {d:Rat} {z:Nat->Nat->Rat} {l c x:Nat} (hn:otE M C k d z l c≠0):uO (otE M C k d z l c) (zn M C k d z l c) k x=otE M C k d z l x:=by
 have e:zn M C k d z l c k x=otE M C k d z l x / otE M C k d z l c:=by unfold zn; rw [if_pos rfl]
 unfold uO;rw [e];generalize otE M C k d z l c=H at*
 generalize otE M C k d z l x=X at*
 grind
theorem ot_new {M:Mx} {C:Nat->Nat} {k:Nat} {d:Rat} {z:Nat->Nat->Rat} {l c q x:Nat} (hd:d≠0) (hn:otE M C k d z l c≠0):otE M C k d z l c*otE M C k d z q x - otE M C k d z q c*otE M C k d z l x=d*otE M (ups C k c) (k+1) (otE M C k d z l c) (zn M C k d z l c) q x:=by
 have e:otE M (ups C k c) (k+1) (otE M C k d z l c) (zn M C k d z l c) q x=otE M C k d z l c*(M q x - sm (k+1) λj=>zn M C k d z l c j x*M q (ups C k c j)):=rfl
 rw [e,tH];have hx:otE M C k d z q x=d*(M q x - sm k λj=>z j x*M q (C j)):=rfl
 have hc:otE M C k d z q c=d*(M q c - sm k λj=>z j c*M q (C j)):=rfl
 rw [hx,hc];generalize otE M C k d z l c=H at*
 generalize otE M C k d z l x=X at*
 generalize sm k (λj=>z j x*M q (C j))=A at*
 generalize sm k (λj=>z j c*M q (C j))=B at*
 have:H*(X / H)=X:=by grind
 grind
theorem BS.ld {M:Mx} {P C:Nat->Nat} {k b:Nat} {d:Rat} {z:Nat->Nat->Rat} (h:BS M P C k d z) (hM:∀ r c,IsN b (M r c)) {j x:Nat} (hj:j < k):IsN (fac k*b ^ k) (uO d z j x):=by
 have e:=cramer (n:=k) (j:=j) (M:=λr c=>M (P r) (C c)) (z:=λi=>z i x) (u:=λr=>M (P r) x) hj λr hr=>h.sol r hr x
 have e2:uO d z j x=DT.det k (cl (λr c=>M (P r) (C c)) j λr=>M (P r) x):=by rw [e,<- h.det]; unfold uO; grind
 rw [e2];exact IsN.det λr c _ _=>by unfold cl; split <;> exact hM _ _
theorem BS.ot {M:Mx} {P C:Nat->Nat} {k b:Nat} {d:Rat} {z:Nat->Nat->Rat} (h:BS M P C k d z) (hM:∀ r c,IsN b (M r c)) {q x:Nat}:IsN (fac (k+1)*b ^ (k+1)) (otE M C k d z q x):=by
 have e:=ng (n:=k) (M:=λr s=>M (ups P k q r) (ups C k x s)) (z:=λj=>z j x) λr hr=>by
  show sm k (λi=>z i x*M (ups P k q r) (ups C k x i))=M (ups P k q r) (ups C k x k)
  have e1:ups P k q r=P r:=by unfold ups; rw [if_neg (by omega)]
  have e2:ups C k x k=x:=by unfold ups; rw [if_pos rfl]
  rw [e1,e2,<- h.sol r hr x];exact sm_congr λi hi=>by unfold ups; rw [if_neg (by omega)]
 have e1:ups P k q k=q:=by unfold ups; rw [if_pos rfl]
 have e2:ups C k x k=x:=by unfold ups; rw [if_pos rfl]
 have e3:DT.det k (λr s=>M (ups P k q r) (ups C k x s))=d:=by
  rw [h.det];exact cD λr s hr hs=>by unfold ups; rw [if_neg (by omega),if_neg (by omega)]
 have e4:sm k (λi=>z i x*M (ups P k q k) (ups C k x i))=sm k λi=>z i x*M q (C i):=sm_congr λi hi=>by rw [e1]; unfold ups; rw [if_neg (by omega)]
 have e5:otE M C k d z q x=DT.det (k+1) (λr s=>M (ups P k q r) (ups C k x s)):=by
  rw [e,e3]
  show otE M C k d z q x=(M (ups P k q k) (ups C k x k) - sm k λi=>z i x*M (ups P k q k) (ups C k x i))*d
  rw [e4,e1,e2];unfold otE;grind
 rw [e5];exact IsN.det λr c _ _=>hM _ _
end DT
namespace L2
open PySem PySem.Spec PyProof.Rows
theorem om {prog:Dy} {w:DC} {A:Dz} {E:Du->Dt->Prop} {s:Dt} {Q:Du->Dt->Prop} (l:Dv) (items:DJ Du) (n:Nat) (x:Int) (u:Tok) (y:Du) (hc0:¬(!Builtin.List.listFitsIndex x)=true) (hsz:items.size<=sizeLine) (e:s.heap.get? l=some {cls:=.type "list",dict:=none,data:=.seq items n,slots:=#[]})
  (h:Q .none {s with heap:=s.heap.update l (Obj.mapSeq λxs=>have k:=if x < 0 then(x+((xs.size:Nat):Int)).toNat else min x.toNat xs.size; (xs.extract 0 k).push y++xs.extract k)}):
  wpAny (model prog w) A (call (.builtin "list.insert") [.ref l,.int x u,y]) Q E s:=by
 have h1:=@AutoListH.list_insert_list_int_val_1 l items n x u y hc0 hsz;have h2:=@call_meets prog w A E s "list" "insert" "list.insert" _ (.ref l) [.int x u,y] _ Q F.slot_list_insert ⟨_,e,rfl⟩ F.entry_list_insert (F.args_list_insert_3 _ _ _) h1
 exact h2 ⟨e,h⟩
section
variable {X:Cx}
def ve:V->List V->Hp->VK->Prop:=λx vs H Q=>∃ (l:Dv) (xs:List V) (i:Nat) (y:V),x=.ref l/\vs=[.int (i:Nat),y]/\H l=some (.lst xs)/\i<=xs.length/\xs.length < 300/\Q .non (aZ H l (.lst (xs.take i++y::xs.drop i)))
theorem rb:uP X "list.insert" ve:=by
 intro DQ s σ H x vs v us Q I rx rv h;obtain⟨l,xs,i,y,rfl,rfl,hH,hi,hl9,q⟩:=h;cases rx;obtain⟨z,its,n,r,hl,e⟩:=I.lstM hH;obtain⟨u1,u2,rfl,⟨t,rfl⟩,r2⟩:∃ u1 u2,us=[u1,u2]/\aS (.int (i:Nat)) u1/\aS y u2:=by
  match us,rv with
  | [u1,u2],.cons r1 (.cons r2 .nil)=>exact⟨u1,u2,rfl,r1,r2⟩
 have hz:300<=sizeLine:=CJ (rfl:Nat.ble 300 sizeLine=true);have b1:-(2 ^ 63)<=((i:Nat):Int):=by omega
 have b2:((i:Nat):Int) < 2 ^ 63:=by omega
 have hf:¬ (!Builtin.List.listFitsIndex ((i:Nat):Int))=true:=by
  rw [fitsIndex_both b1 b2];exact Cw
 have hs:its.toArray.size<=sizeLine:=by rw [Cy]; omega
 refine om l its.toArray n _ t u2 hf hs e ?_;refine⟨.non,_,I.lset (its':=its.take i++u2::its.drop i) hH e ?_ ((r.take i).append (.cons r2 (r.drop i))) ?_,rfl,q⟩
 ·have hk:(if ((i:Nat):Int) < 0 then(((i:Nat):Int)+((its.toArray.size:Nat):Int)).toNat else min ((i:Nat):Int).toNat its.toArray.size)=i:=by
   rw [if_neg (by omega),Dk,Cy]
   omega
  show(its.toArray.extract 0 (if ((i:Nat):Int) < 0 then(((i:Nat):Int)+((its.toArray.size:Nat):Int)).toNat else min ((i:Nat):Int).toNat its.toArray.size)).push u2++its.toArray.extract (if ((i:Nat):Int) < 0 then(((i:Nat):Int)+((its.toArray.size:Nat):Int)).toNat else min ((i:Nat):Int).toNat its.toArray.size)=_
  rw [hk];apply Array.ext';simp;rw [List.take_of_length_le (by rw [List.length_drop]; omega)]
 ·rw [CK,CH,List.length_take,List.length_drop];omega
end
end L2
namespace DL
open PySem PySem.Spec PyProof.Rows L2
def AL (go gi ge:DE):DE:=λL S k=>go L S λd S1=>match d with
 | .ref a=>(∃ ds,S1 a=some (.lst ds))/\gi L S1 λy S2=>ge L S2 λe S3=>∃ (i:Nat) (ds:List D),y=.int (i:Nat)/\S3 a=some (.lst ds)/\i<=ds.length/\ds.length < 300/\k .non (put S3 a (.lst (ds.take i++e::ds.drop i)))
 | _=>False
section
variable {X:Cx} {o e1 e2:Dx} {go gi ge:DE} {apos cpos:Pos}
theorem yb (ho:EJ X o go) (hi:EJ X e1 gi) (he:EJ X e2 ge) (hbase:attributeBase o "insert" X.env (eval o X.env)=eval o X.env:=by rfl)
  (hfew:((backTo cpos (starEach [e1,e2] X.env)).all (λx=>!x.1) && (backToKw cpos (keywordEach [] X.env)).all (λx=>x.1.isSome) && decide ([e1,e2].length+([]:List Keyword).length+(if ([]:List Keyword).isEmpty then 0 else 1) < 30))=true:=by rfl)
  (hline:(apos.endLine == cpos.line)=true:=by rfl) (hs:starEach [e1,e2] X.env=(false,eval e1 X.env)::starEach [e2] X.env:=by rfl) (hs2:starEach [e2] X.env=(false,eval e2 X.env)::starEach [] X.env:=by rfl) (hpl:(backTo cpos (starEach [e2] X.env)).any (·.1)=false:=by rfl):
  EJ X (.Call (.Attribute o "insert" apos) [e1,e2] [] cpos) (AL go gi ge):=
 ⟨PE.imp (nP PySem.F.plainAttrs_list PySem.F.slot_list_insert PySem.F.type_list_insert rb ho.h (cV hi.h (cV he.h fE hs2) hs) hbase hfew hline hs hpl) fun σ H Q ⟨L,S,k,hL,hS,h,n⟩=>up.go hL hS h λd S1 v H1 h1 k1 hL1 hS1 i1=>by
  cases d with
  | ref a=>
   have q1:=a8.mp i1;subst q1;obtain⟨⟨ds1,z1⟩,h1⟩:=h1;obtain⟨xs1,hl1,_⟩:=hS1.lst z1;refine⟨.inl ⟨rfl,xs1,dO.of hl1⟩,up.go hL1 hS1 h1 λd2 S2 v2 H2 h2 k2 hL2 hS2 i2=>up.go hL2 hS2 h2 λd3 S3 v3 H3 h3 k3 hL3 hS3 i3=>?_⟩
   obtain⟨i,ds,rfl,z,hi,hl,w⟩:=h3;have q2:=isInt.mp i2;subst q2;obtain⟨xs,hl3,j⟩:=hS3.lst z;have hj:=j.length;have k4:Kp H3 (aZ H3 a (.lst (xs.take i++v3::xs.drop i))):=Kp.mut hl3 (λz=>z)
   exact⟨a,xs,i,v3,rfl,rfl,hl3,by omega,by omega,n _ _ _ _ w (k1.trans (k2.trans (k3.trans k4))) (hS3.setL hl3 ((j.take i).append (IsDs.cons i3 (j.drop i)))) (bE.mpr rfl)⟩
  | _=>exact(show False from h1).elim⟩
end
end DL
namespace PySem
open Sem (wp)
open Builtin
theorem iG (l:Dv) (items:DJ Du) (n:Nat) (b:Dv) (items2:DJ Du) (n2:Nat) (dd:Dw Dv) (sl:DJ (Dw Du)) (hs0:¬(!items.isEmpty && Builtin.List.listTooLong (items.size+items2.size))=true) (hs1:items.size<=sizeLine) (hs2:items.size+items2.size<=sizeLine+1):
  Meets (Builtin.«list.extend» ⟨[.ref l,.ref b],[]⟩) (λ_ R s=>s.heap.get? l=some {cls:=.type "list",dict:=none,data:=.seq items n,slots:=#[]}/\s.heap.get? b=some {cls:=.type "tuple",dict:=dd,data:=.seq items2 n2,slots:=sl}/\R (.ok (.ret Value.none)) {s with heap:=s.heap.update l (Obj.mapSeq λx=>x++items2),toks:=s.toks}):=
 .of_wp λprog w A R s h=>by
  obtain⟨hp,g,d,tk,os⟩:=s;obtain⟨hl,hb,h⟩:=h;have f2:=AutoSeq1.sub_tuple_tuple;have f3:=AutoSeq1.sub_list_list;have f4:=AutoSeq1.sub_tuple_list;have f5:=AutoSeq1.sub_list_tuple;have hz':(items++items2).size<=sizeLine+1:=by rw [Array.size_append]; exact hs2
  wp_walk using (wpAny_updateSeq hl rfl (hz:=hs1) (_hz':=hz')),wpAny_loadPart' hl,wpAny_loadPart' hb
  exact⟨_,rfl,h⟩
end PySem
namespace L2
open PySem PySem.Spec PyProof.Rows
section
variable {X:Cx}
def t5 (K:PySem.W.Frag):V->List V->Hp->VK->Prop:=λx vs H Q=>∃ l b xs zs,x=.ref l/\vs=[.ref b]/\H l=some (.lst xs)/\e_ K H b zs/\xs.length+zs.length<=sizeLine/\Q .non (aZ H l (.lst (xs++zs)))
theorem pb:uP X "list.extend" (t5 X.K):=by
 intro DQ s σ H x vs v us Q I rx rv h;obtain⟨l,b,xs,zs,rfl,rfl,hH,hB,hz,q⟩:=h;cases rx;obtain⟨u,rfl,ru⟩:=rv.one;cases ru;obtain⟨z,its,n,r,hl,e⟩:=I.lstM hH;obtain⟨its2,r2,pt,z2⟩:=I.tuple hB;have hl2:=r2.length;obtain⟨⟨cls,dd,data,sl⟩,ho,hc,n2,hd⟩:=pt;simp only at hc hd
 subst hc hd;have hsz:its.toArray.size+its2.toArray.size<=sizeLine:=by rw [Cy,Cy]; omega
 have hlong:¬ (!its.toArray.isEmpty && Builtin.List.listTooLong (its.toArray.size+its2.toArray.size))=true:=by
  rw [j4 hsz,Bool.and_false];exact Cw
 refine call_meets F.slot_list_extend ⟨_,e,rfl⟩ F.entry_list_extend (F.args_list_extend_2 _ _)
  (iG l its.toArray n b its2.toArray n2 dd sl hlong (by rw [Cy]; omega) (by omega)) ⟨e,ho,?_⟩
 refine⟨.non,_,I.lset (its':=its++its2) hH e (by simp) (r.append r2) ?_,rfl,q⟩
 rw [CK];omega
theorem uP.or {id:DN} {r r':V->List V->Hp->VK->Prop} (h:uP X id r) (h':uP X id r'):uP X id (λx vs H Q=>r x vs H Q\/r' x vs H Q):=by
 intro DQ s σ H x vs v us Q I rx rv q;rcases q with q | q
 ·exact h DQ s σ H x vs v us Q I rx rv q
 ·exact h' DQ s σ H x vs v us Q I rx rv q
end
end L2
namespace DL
open PySem PySem.Spec PyProof.Rows L2
def zX (go ge:DE):DE:=λL S k=>go L S λd S1=>match d with
 | .ref a=>(∃ ds,S1 a=some (.lst ds))/\ge L S1 λe S2=>match e with
  | .ref b=>∃ ds es,S2 a=some (.lst ds)/\S2 b=some (.lst es)/\ds.length+es.length<=sizeLine/\k .non (put S2 a (.lst (ds++es)))
  | .tup es=>∃ ds,S2 a=some (.lst ds)/\ds.length+es.length<=sizeLine/\k .non (put S2 a (.lst (ds++es)))
  | _=>False
 | _=>False
section
variable {X:Cx} {o e:Dx} {go ge:DE} {apos cpos:Pos}
theorem lO (ho:EJ X o go) (he:EJ X e ge) (hbase:attributeBase o "extend" X.env (eval o X.env)=eval o X.env:=by rfl)
  (hfew:((backTo cpos (starEach [e] X.env)).all (λx=>!x.1) && (backToKw cpos (keywordEach [] X.env)).all (λx=>x.1.isSome) && decide ([e].length+([]:List Keyword).length+(if ([]:List Keyword).isEmpty then 0 else 1) < 30))=true:=by rfl)
  (hline:(apos.endLine == cpos.line)=true:=by rfl) (hs:starEach [e] X.env=(false,eval e X.env)::starEach [] X.env:=by rfl) (hpl:(backTo cpos (starEach [] X.env)).any (·.1)=false:=by rfl):
  EJ X (.Call (.Attribute o "extend" apos) [e] [] cpos) (zX go ge):=
 ⟨PE.imp (nP PySem.F.plainAttrs_list PySem.F.slot_list_extend PySem.F.type_list_extend (uP.or k7 pb) ho.h (cV he.h fE hs) hbase hfew hline hs hpl) fun σ H Q ⟨L,S,k,hL,hS,h,n⟩=>up.go hL hS h λd S1 v H1 h1 k1 hL1 hS1 i1=>by
  cases d with
  | ref a=>
   have e1:=a8.mp i1;subst e1;obtain⟨⟨ds1,z1⟩,h1⟩:=h1;obtain⟨xs1,hl1,_⟩:=hS1.lst z1;refine⟨.inl ⟨rfl,xs1,dO.of hl1⟩,up.go hL1 hS1 h1 λd2 S2 v2 H2 h2 k2 hL2 hS2 i2=>?_⟩
   cases d2 with
   | ref b=>
    have e2:=a8.mp i2;subst e2;obtain⟨ds,es,z,y,hz,w⟩:=h2;obtain⟨xs,hl,j⟩:=hS2.lst z;obtain⟨ys,hm,i⟩:=hS2.lst y;have k3:Kp H2 (aZ H2 a (.lst (xs++ys))):=Kp.mut hl (λz=>z)
    exact .inl ⟨a,b,xs,ys,rfl,rfl,hl,hm,by rw [<- j.length,<- i.length]; exact hz,n _ _ _ _ w (k1.trans (k2.trans k3)) (hS2.setL hl (j.append i)) (bE.mpr rfl)⟩
   | tup es=>
    obtain⟨b,ys,rfl,t,i⟩:=aT.mp i2;obtain⟨ds,z,hz,w⟩:=h2;obtain⟨xs,hl,j⟩:=hS2.lst z;have k3:Kp H2 (aZ H2 a (.lst (xs++ys))):=Kp.mut hl (λz=>z)
    exact .inr ⟨a,b,xs,ys,rfl,rfl,hl,t,by rw [<- j.length,<- i.length]; exact hz,n _ _ _ _ w (k1.trans (k2.trans k3)) (hS2.setL hl (j.append i)) (bE.mpr rfl)⟩
   | _=>exact(show False from h2).elim
  | _=>exact(show False from h1).elim⟩
end
inductive rD (K:Fg):List Du->List (List Int)->Prop
 | nil:rD K [] []
 | cons {p:Dv} {o:DP} {its:DJ Du} {n:Nat} {ns:List Int} {vs:List Du} {nss:List (List Int)} (h1:K.lookup p=some o) (h2:o.cls=.type "tuple") (h3:o.data=.seq its n) (h4:its.size<=sizeLine) (h5:aF (ns.map V.int) its.toList) (r:rD K vs nss):rD K (.ref p::vs) (ns::nss)
def kj (K:Fg) (mg:Str->Dw Du) (x:Str) (nss:List (List Int)):Prop:=∃ p o its n,mg x=some (.ref p)/\K.lookup p=some o/\o.cls=.type "tuple"/\o.data=.seq its n/\its.size<=sizeLine/\rD K its.toList nss
theorem rD.vals {K:Fg}:∀ {vs:List Du} {nss:List (List Int)},rD K vs nss->∃ us:List V,aF us vs/\∀ H,IsDs K H (nss.map λns=>.tup (ns.map D.int)) us
 | _,_,.nil=>⟨[],.nil,λ_=>IsDs.nil⟩
 | _,_,.cons (p:=p) h1 h2 h3 h4 h5 r=>by
  obtain⟨us,a,b⟩:=r.vals;exact⟨.ref p::us,.cons rfl a,λH=>IsDs.cons (aT.mpr ⟨p,_,rfl,.inr ⟨_,_,_,h1,h2,h3,h4,h5⟩,ip _⟩) (b H)⟩
theorem hZ {X:Cx} {x:Str} {nss:List (List Int)} {pos:Pos} (g:kj X.K X.mg x nss) (hg:Gl X x) (hd:(x == ("__debug__":Str))=false:=by decide):EJ X (.Name x pos) (dC (.tup (nss.map λns=>.tup (ns.map D.int)))):=by
 obtain⟨p,o,its,n,hm,h1,h2,h3,h4,h5⟩:=g;obtain⟨us,a,b⟩:=h5.vals;exact⟨yB (ql (v:=.ref p) hg hm rfl hd) λH=>aT.mpr ⟨p,us,rfl,.inr ⟨o,its,n,h1,h2,h3,h4,a⟩,b H⟩⟩
end DL
namespace DT
theorem sm_sk {f:Nat->Rat}:∀ {n j:Nat},j < n+1->sm (n+1) f=f j+sm n (λi=>f (sk j i))
 | 0,j,h=>by
  have:j=0:=by omega
  subst this;unfold sm sm;grind
 | n+1,j,h=>by
  by_cases e:j=n+1
  ·subst e;have:sm (n+1) (λi=>f (sk (n+1) i))=sm (n+1) f:=sm_congr λi hi=>by unfold sk; rw [if_pos hi]
   rw [this]
   show sm (n+1) f+f (n+1)=_
   grind
  ·have ih:=sm_sk (f:=f) (n:=n) (j:=j) (by omega)
   show sm (n+1) f+f (n+1)=f j+(sm n (λi=>f (sk j i))+f (sk j n))
   have:sk j n=n+1:=by unfold sk; rw [if_neg (by omega)]
   rw [ih,this];grind
theorem sm_swap {f:Nat->Nat->Rat}:∀ {m n:Nat},sm m (λi=>sm n (f i))=sm n (λj=>sm m (λi=>f i j))
 | 0,n=>by
  show(0:Rat)=_
  exact(sm_zero λ_ _=>rfl).symm
 | m+1,n=>by
  show sm m (λi=>sm n (f i))+sm n (f m)=_
  rw [sm_swap (m:=m),<- sm_add]
  rfl
theorem null_vec:∀ (c k:Nat) (A:Mx),c < k->∃ x:Nat->Rat,(∃ j,j < k/\x j≠0)/\∀ i,i < c->sm k (λj=>x j*A i j)=0
 | 0,k,A,h=>⟨λ_=>1,⟨0,h,by decide⟩,λi hi=>absurd hi (by omega)⟩
 | c+1,k,A,h=>by
  by_cases hz:∀ j,j < k->A c j=0
  ·obtain⟨x,hx,hs⟩:=null_vec c k A (by omega)
   refine⟨x,hx,λi hi=>?_⟩
   by_cases e:i=c
   ·subst e;exact sm_zero λj hj=>by rw [hz j hj]; grind
   ·exact hs i (by omega)
  ·obtain⟨j0,hj0⟩:=Classical.not_forall.mp hz;obtain⟨hj,hne⟩:=Classical.not_imp.mp hj0;obtain⟨n,rfl⟩:∃ n,k=n+1:=⟨k - 1,by omega⟩
   obtain⟨y,⟨j1,hj1,hy1⟩,hs⟩:=null_vec c n (λi j=>A i (sk j0 j) - A i j0*(A c (sk j0 j) / A c j0)) (by omega)
   have hsk:∀ j,(if sk j0 j < j0 then sk j0 j else sk j0 j - 1)=j:=λj=>by
    by_cases h:j < j0
    ·have:sk j0 j=j:=by unfold sk; rw [if_pos h]
     rw [this,if_pos h]
    ·have:sk j0 j=j+1:=by unfold sk; rw [if_neg h]
     rw [this,if_neg (by omega)]
     omega
   have hskn:∀ j,sk j0 j≠j0:=λj=>by unfold sk; split <;> omega
   refine⟨λi=>if i=j0 then - (sm n λj=>y j*(A c (sk j0 j) / A c j0)) else y (if i < j0 then i else i - 1),⟨sk j0 j1,by unfold sk; split <;> omega,by dsimp only; rw [if_neg (hskn j1),hsk]; exact hy1⟩,λi hi=>?_⟩
   rw [sm_sk hj];dsimp only;rw [if_pos rfl];have e1:sm n (λj=>(if sk j0 j=j0 then - (sm n λj=>y j*(A c (sk j0 j) / A c j0)) else y (if sk j0 j < j0 then sk j0 j else sk j0 j - 1))*A i (sk j0 j))=sm n (λj=>y j*A i (sk j0 j)):=sm_congr λj _=>by rw [if_neg (hskn j),hsk]
   rw [e1]
   by_cases e:i=c
   ·subst e;have e2:sm n (λj=>y j*A i (sk j0 j))=A i j0*sm n (λj=>y j*(A i (sk j0 j) / A i j0)):=by
     rw [<- sm_mul];refine sm_congr λj _=>?_
     grind
    rw [e2];grind
   ·have h2:=hs i (by omega)
    have e3:sm n (λj=>y j*(A i (sk j0 j) - A i j0*(A c (sk j0 j) / A c j0)))=sm n (λj=>y j*A i (sk j0 j))+(- A i j0)*sm n (λj=>y j*(A c (sk j0 j) / A c j0)):=by
     rw [<- sm_mul,<- sm_add];refine sm_congr λj _=>?_
     grind
    rw [e3] at h2;grind
end DT
namespace DL
open PySem PySem.Spec PyProof.Rows L2
def ku (p:Int×Int):D:=.tup [.int p.1,.int p.2]
end DL
namespace PySem
open Sem (wp)
open Builtin DL
section
variable {prog:Dy} {w:DC}
section
variable {A:Dz} {E:Du->Dt->Prop} {s:Dt} {it d v:Dv} {es:DJ DictEntry} {i ep:Nat} {e:DictEntry} {ok ov:Du}
inductive Ay where
 | k | v
def Ay.nm:Ay->DN
 | .k=>"dict_keyiterator"
 | .v=>"dict_valueiterator"
def Ay.of (e:DictEntry):Ay->Du
 | .k=>e.key
 | .v=>e.val
end
end
end PySem
namespace DL
open PySem PySem.Spec PyProof.Rows L2
abbrev Cf:=Lo->DH->(List D->(DH->Prop)->DH->Prop)->Prop
end DL
namespace PySem
open Builtin DL
abbrev Sx:=Nat×Tok
end PySem
namespace ST
open PySem PySem.SetTable
def jv (mask:Nat) (p:Probe):Probe:=
 if p.more > 0 then {p with j:=p.j+1,more:=p.more - 1} else {p with j:=(leap mask p.i p.perturb).1,more:=runEnd mask (leap mask p.i p.perturb).1 - (leap mask p.i p.perturb).1,i:=(leap mask p.i p.perturb).1,perturb:=(leap mask p.i p.perturb).2}
theorem jQ (t:SetTable) (p:Probe):t.advance p=jv t.mask p:=by
 unfold SetTable.advance jv
 rfl
def gq (mask i pt:Nat):Probe:={j:=i,more:=runEnd mask i - i,i:=i,perturb:=pt,dummy:=none}
def sq (mask:Nat) (h:Int):Nat->Probe
 | 0=>gq mask (bits h % (mask+1)) (bits h)
 | n+1=>jv mask (sq mask h n)
def lp (mask:Nat) (h:Int):Nat->Nat×Nat
 | 0=>(bits h % (mask+1),bits h)
 | n+1=>leap mask (lp mask h n).1 (lp mask h n).2
theorem qw (mask:Nat):∀ (r:Nat) (p:Probe),p.more=r->∃ q,q=Nat.rec (motive:=λ_=>Probe) p (λ_ x=>jv mask x) r/\q.more=0/\q.i=p.i/\q.perturb=p.perturb/\q.dummy=p.dummy
 | 0,p,h=>⟨p,rfl,h,rfl,rfl,rfl⟩
 | r+1,p,h=>by
  have key:∀ (n:Nat) (x:Probe),Nat.rec (motive:=λ_=>Probe) x (λ_ x=>jv mask x) (n+1)=Nat.rec (motive:=λ_=>Probe) (jv mask x) (λ_ x=>jv mask x) n:=by
   intro n x
   induction n with
   | zero=>rfl
   | succ n ih=>exact congrArg (jv mask) ih
  have e:jv mask p={p with j:=p.j+1,more:=p.more - 1}:=by unfold jv; rw [if_pos (by omega)]
  obtain⟨q,h1,h2,h3,h4,h5⟩:=qw mask r (jv mask p) (by rw [e]; show p.more - 1=r; omega)
  exact⟨q,by rw [h1,key],h2,by rw [h3,e],by rw [h4,e],by rw [h5,e]⟩
theorem wU {mask i:Nat}:runEnd mask i - i<=9:=by unfold runEnd; split <;> omega
theorem sG (mask:Nat) (h:Int) (m:Nat):∀ r,sq mask h (m+r)=Nat.rec (motive:=λ_=>Probe) (sq mask h m) (λ_ x=>jv mask x) r
 | 0=>rfl
 | r+1=>congrArg (jv mask) (sG mask h m r)
theorem qt (mask:Nat) (h:Int):∀ L,∃ m,m<=10*L/\sq mask h m=gq mask (lp mask h L).1 (lp mask h L).2
 | 0=>⟨0,Ct _,rfl⟩
 | L+1=>by
  obtain⟨m,hm,e⟩:=qt mask h L;obtain⟨q,h1,h2,h3,h4,h5⟩:=qw mask _ (sq mask h m) rfl;rw [<- sG] at h1;refine⟨m+(sq mask h m).more+1,?_,?_⟩
  ·have:(sq mask h m).more<=9:=by rw [e]; exact wU
   omega
  ·show jv mask (sq mask h (m+(sq mask h m).more))=_
   rw [<- h1];unfold jv;rw [if_neg (by omega),h3,h4,e]
   have hd:q.dummy=none:=by rw [h5,e]; rfl
   show(⟨_,_,_,_,q.dummy⟩:Probe)=_
   rw [hd]
   rfl
theorem va (h:Int):bits h < 2 ^ 64:=by
 unfold bits;have h1:h % (2 ^ 64:Int) < 2 ^ 64:=Int.emod_lt_of_pos _ (by decide)
 have h0:0<=h % (2 ^ 64:Int):=Int.emod_nonneg _ (by decide)
 omega
theorem wj (mask:Nat) (h:Int):∀ L,(lp mask h L).2=bits h / 32 ^ L
 | 0=>by show bits h=_; simp
 | L+1=>by
  show(lp mask h L).2 / 32=_
  rw [wj mask h L,Nat.div_div_eq_div_mul,Nat.pow_succ]
theorem v9 {mask:Nat} {h:Int} {L:Nat} (hL:13<=L):(lp mask h L).2=0:=by
 rw [wj];refine Nat.div_eq_of_lt (CD (va h) ?_);exact CZ (show 2 ^ 64<=32 ^ 13 by decide) (Nat.pow_le_pow_right (by decide) hL)
def wk (mask i:Nat):Nat->Nat
 | 0=>i
 | n+1=>(wk mask i n*5+1) % (mask+1)
theorem uj (mask:Nat) (h:Int):∀ n,(lp mask h (13+n)).1=wk mask (lp mask h 13).1 n
 | 0=>rfl
 | n+1=>by
  show((lp mask h (13+n)).1*5+1+(lp mask h (13+n)).2 / 32) % (mask+1)=_
  rw [v9 (by omega),uj mask h n]
  rfl
theorem wB (mask:Nat) (h:Int):∀ L,(lp mask h L).1 < mask+1
 | 0=>Nat.mod_lt _ (by omega)
 | L+1=>Nat.mod_lt _ (by omega)
theorem mh (mask i a:Nat):∀ n,wk mask (wk mask i a) n=wk mask i (a+n)
 | 0=>rfl
 | n+1=>by
  show(wk mask (wk mask i a) n*5+1) % (mask+1)=(wk mask i (a+n)*5+1) % (mask+1)
  rw [mh mask i a n]
def Be (mask:Nat):Nat->Nat->List Nat
 | 0,_=>[]
 | n+1,x=>x::Be mask n ((x*5+1) % (mask+1))
theorem qk (mask e:Nat):∀ n a,e∈Be mask n (wk mask 0 a)->∃ k,k < n/\wk mask 0 (a+k)=e
 | 0,_,h=>by cases h
 | n+1,a,h=>by
  rcases Cz.mp h with h | h
  ·exact⟨0,by omega,h.symm⟩
  ·obtain⟨k,h1,h2⟩:=qk mask e n (a+1) h;exact⟨k+1,by omega,by rw [<- h2]; congr 1; omega⟩
def m5 (mask:Nat):Prop:=mask=7\/mask=31\/mask=127
def chk (mask:Nat):DM:=((List.range (mask+1)).all λe=>(Be mask (mask+1) 0).contains e) && (wk mask 0 (mask+1) == 0)
theorem A5:chk 7=true:=by decide +kernel
theorem Ac:chk 31=true:=by decide +kernel
theorem xt:chk 127=true:=by decide +kernel
theorem m5.chk {mask:Nat} (h:m5 mask):chk mask=true:=by
 rcases h with rfl | rfl | rfl
 ·exact A5
 ·exact Ac
 ·exact xt
theorem m5.cov {mask e:Nat} (h:m5 mask) (he:e < mask+1):∃ n,n < mask+1/\wk mask 0 n=e:=by
 have c:=h.chk;unfold ST.chk at c;simp only [C0,Dg,Dh] at c;have:=c.1 e he;rw [List.contains_iff_mem] at this;obtain⟨k,h1,h2⟩:=qk mask e (mask+1) 0 this;exact⟨k,h1,by rw [<- h2,Nat.zero_add]⟩
theorem m5.per {mask:Nat} (h:m5 mask):wk mask 0 (mask+1)=0:=by
 have c:=h.chk;unfold ST.chk at c;simp only [C0,beq_iff_eq] at c;exact c.2
theorem m5.reach {mask i e:Nat} (h:m5 mask) (hi:i < mask+1) (he:e < mask+1):∃ n,n < mask+1/\wk mask i n=e:=by
 obtain⟨a,ha,ea⟩:=h.cov hi;obtain⟨b,hb,eb⟩:=h.cov he;rw [<- ea]
 by_cases hab:a<=b
 ·exact⟨b - a,by omega,by rw [mh,<- eb]; congr 1; omega⟩
 ·refine⟨mask+1+b - a,by omega,?_⟩
  rw [mh,show a+(mask+1+b - a)=mask+1+b by omega,<- mh,h.per,eb]
theorem m5.first {mask:Nat} (h:m5 mask) (x:Int) (P:Nat->Prop) {e:Nat} (he:e < mask+1) (hP:¬ P e):∃ N,N<=10*(mask+13)/\¬ P (sq mask x N).j/\∀ m,m < N->P (sq mask x m).j:=by
 obtain⟨n,hn,en⟩:=h.reach (wB mask x 13) he;obtain⟨m,hm,em⟩:=qt mask x (13+n);have hj:(sq mask x m).j=e:=by
  rw [em]
  show(lp mask x (13+n)).1=e
  rw [uj,en]
 have least:∀ n,¬ P (sq mask x n).j->∃ N,N<=n/\¬ P (sq mask x N).j/\∀ m,m < N->P (sq mask x m).j:=by
  intro n
  induction n using Nat.strongRecOn with
  | ind n ih=>
   intro hn
   by_cases hh:∃ k,k < n/\¬ P (sq mask x k).j
   ·obtain⟨k,h1,h2⟩:=hh;obtain⟨N,g1,g2,g3⟩:=ih k h1 h2;exact⟨N,by omega,g2,g3⟩
   ·exact⟨n,Ct _,hn,λm hm=>Classical.byContradiction λz=>hh ⟨m,hm,z⟩⟩
 obtain⟨N,g1,g2,g3⟩:=least m (by rw [hj]; exact hP)
 exact⟨N,by omega,g2,g3⟩
theorem nS (mask:Nat) (h:Int):∀ n,(sq mask h n).dummy=none
 | 0=>rfl
 | n+1=>by
  show(jv mask (sq mask h n)).dummy=none
  unfold jv
  split <;> exact nS mask h n
theorem wG {mask:Nat} (h:Int):∀ n,(sq mask h n).j+(sq mask h n).more < mask+1/\True
 | 0=>by
  refine⟨?_,trivial⟩
  show bits h % (mask+1)+(runEnd mask (bits h % (mask+1)) - bits h % (mask+1)) < mask+1
  have:bits h % (mask+1) < mask+1:=Nat.mod_lt _ (by omega)
  unfold runEnd
  split <;> omega
 | n+1=>by
  refine⟨?_,trivial⟩;have ih:=(wG (mask:=mask) h n).1
  show(jv mask (sq mask h n)).j+(jv mask (sq mask h n)).more < mask+1
  unfold jv
  split
  ·show(sq mask h n).j+1+((sq mask h n).more - 1) < mask+1
   omega
  ·show(leap mask (sq mask h n).i (sq mask h n).perturb).1+(runEnd mask (leap mask (sq mask h n).i (sq mask h n).perturb).1 - (leap mask (sq mask h n).i (sq mask h n).perturb).1) < mask+1
   have:(leap mask (sq mask h n).i (sq mask h n).perturb).1 < mask+1:=Nat.mod_lt _ (by omega)
   unfold runEnd
   split <;> omega
theorem xR {mask:Nat} (h:Int) (n:Nat):(sq mask h n).j < mask+1:=by have:=(wG (mask:=mask) h n).1; omega
def sR (xs:DJ Nat):Prop:=∀ i j:Nat,i < j->∀ a b:Nat,xs[i]?=some a->xs[j]?=some b->a < b
theorem jC {xs:DJ Nat} (hr:sR xs) (j:Nat):∀ (f lo hi:Nat),lo<=hi->hi<=xs.size->hi - lo<=f->(∀ k a,k < lo->xs[k]?=some a->a < j)->(∀ k a,hi<=k->xs[k]?=some a->j<=a)->
  below.go xs j f lo hi<=xs.size/\(∀ k a,k < below.go xs j f lo hi->xs[k]?=some a->a < j)/\∀ k a,below.go xs j f lo hi<=k->xs[k]?=some a->j<=a
 | 0,lo,hi,h1,h2,h3,h4,h5=>by
  have:lo=hi:=by omega
  subst this;unfold below.go;exact⟨h2,h4,h5⟩
 | f+1,lo,hi,h1,h2,h3,h4,h5=>by
  unfold below.go
  by_cases hl:lo < hi
  ·rw [if_pos hl];have hm:(lo+hi) / 2 < xs.size:=by omega
   have eg:xs[(lo+hi) / 2]?=some xs[(lo+hi) / 2]:=by simp [hm]
   have ed:xs.getD ((lo+hi) / 2) j=xs[(lo+hi) / 2]:=by simp [Array.getD,hm]
   dsimp only;rw [ed]
   by_cases hc:xs[(lo+hi) / 2] < j
   ·rw [if_pos hc];refine jC hr j f _ hi (by omega) h2 (by omega) (λk a hk e=>?_) h5
    by_cases hk2:k=(lo+hi) / 2
    ·subst hk2;rw [eg] at e;cases e;exact hc
    ·exact Nat.lt_trans (hr k ((lo+hi) / 2) (by omega) _ _ e eg) hc
   ·rw [if_neg hc];refine jC hr j f lo _ (by omega) (by omega) (by omega) h4 λk a hk e=>?_
    by_cases hk2:k=(lo+hi) / 2
    ·subst hk2;rw [eg] at e;cases e;omega
    ·have:=hr ((lo+hi) / 2) k (by omega) _ _ eg e
     omega
  ·rw [if_neg hl];have:lo=hi:=by omega
   subst this;exact⟨h2,h4,h5⟩
theorem kb {xs:DJ Nat} (hr:sR xs) (j:Nat):below xs j<=xs.size/\(∀ k a,k < below xs j->xs[k]?=some a->a < j)/\∀ k a,below xs j<=k->xs[k]?=some a->j<=a:=
 jC hr j xs.size 0 xs.size (by omega) (Ct _) (by omega) (λ_ _ h=>by omega) (λk a hk e=>by
  have:=(Array.getElem?_eq_some_iff.mp e).1;omega)
theorem du {xs:DJ Nat} (hr:sR xs) {i j:Nat} (h:xs[i]?=some j):below xs j=i:=by
 obtain⟨h1,h2,h3⟩:=kb hr j;rcases Nat.lt_trichotomy (below xs j) i with z | z | z
 ·have hb:below xs j < xs.size:=by
   have:=(Array.getElem?_eq_some_iff.mp h).1;omega
  have e:xs[below xs j]?=some xs[below xs j]:=by simp [hb]
  have g1:=h3 _ _ (Ct _) e;have g2:=hr _ _ z _ _ e h;omega
 ·exact z
 ·have:=h2 _ _ z h;omega
theorem iC {t:SetTable} (hr:sR t.place) {i j:Nat} (h:t.place[i]?=some j):t.slot j=.live i:=by
 unfold SetTable.slot;rw [du hr h];dsimp only;rw [h];simp
theorem pq {t:SetTable} (hd:t.dummies=#[]) {j:Nat} (h:∀ i:Nat,t.place[i]?≠some j):t.slot j=.empty:=by
 unfold SetTable.slot;dsimp only;rw [if_neg (by simpa using h (below t.place j)),hd]
 simp [has]
def On (t:SetTable) (j:Nat):Prop:=∃ i:Nat,t.place[i]?=some j
theorem nF {t:SetTable} (hd:t.dummies=#[]) (hr:sR t.place) {ha:Nat->Int} {h:Int} {N:Nat} (hN:¬ On t (sq t.mask h N).j) (hlt:∀ m,m < N->On t (sq t.mask h m).j):
  ∀ (f m:Nat),m<=N->N - m < f->(∃ m' i:Nat,m<=m'/\m' < N/\t.place[i]?=some (sq t.mask h m').j/\ha i=h/\(∀ k i':Nat,m<=k->k < m'->t.place[i']?=some (sq t.mask h k).j->ha i'≠h)/\SetTable.probe.go t ha h f (sq t.mask h m)=some (.candidate (sq t.mask h m').j i (sq t.mask h (m'+1))))\/
   ((∀ k i':Nat,m<=k->k < N->t.place[i']?=some (sq t.mask h k).j->ha i'≠h)/\SetTable.probe.go t ha h f (sq t.mask h m)=some (.empty (sq t.mask h N).j none))
 | 0,m,_,hf=>by omega
 | f+1,m,hm,hf=>by
  unfold SetTable.probe.go
  by_cases hmN:m=N
  ·subst hmN
   right
   rw [pq hd λi e=>hN ⟨i,e⟩]
   refine⟨λk i' h1 h2=>by omega,?_⟩
   dsimp only;rw [nS]
  ·obtain⟨i,hi⟩:=hlt m (by omega)
   rw [iC hr hi];dsimp only
   by_cases hh:ha i=h
   ·left
    refine⟨m,i,Ct _,by omega,hi,hh,λk i' h1 h2=>by omega,?_⟩
    rw [if_pos (by simpa using hh),jQ]
    rfl
   ·rw [if_neg (by simpa using hh),jQ]
    have only:∀ i',t.place[i']?=some (sq t.mask h m).j->ha i'≠h:=λi' e=>by
     have e1:=du hr e;have e2:=du hr hi;rw [<- e1,e2];exact hh
    rcases nF hd hr hN hlt f (m+1) (by omega) (by omega) with ⟨m',i2,h1,h2,h3,h4,h5,h6⟩ | ⟨h5,h6⟩
    ·refine .inl ⟨m',i2,by omega,h2,h3,h4,λk i' g1 g2 g3=>?_,h6⟩
     by_cases hk:k=m
     ·subst hk;exact only i' g3
     ·exact h5 k i' (by omega) g2 g3
    ·refine .inr ⟨λk i' g1 g2 g3=>?_,h6⟩
     by_cases hk:k=m
     ·subst hk;exact only i' g3
     ·exact h5 k i' (by omega) g2 g3
def yS (t:SetTable) (h:Int) (j:Nat):Prop:=∃ n,(sq t.mask h n).j=j/\∀ m,m < n->On t (sq t.mask h m).j
structure TI (t:SetTable) (hs:List Int):Prop where
 dm:t.dummies=#[]
 ris:sR t.place
 sz:t.place.size=hs.length
 le:∀ j,On t j->j < t.mask+1
 msk:m5 t.mask
 way:∀ q∈t.place.toList.zip hs,yS t q.2 q.1
theorem nn {xs:DJ Nat} (hr:sR xs):∀ n,(∀ e,e < n->∃ i:Nat,xs[i]?=some e)->∀ i:Nat,xs[i]?=some n->n<=i
 | 0,_,_,_=>Dd _
 | n+1,h,i,hi=>by
  obtain⟨k,hk⟩:=h n (by omega)
  have h1:=nn hr n (λe he=>h e (by omega)) k hk
  rcases Nat.lt_trichotomy k i with z | z | z
  ·omega
  ·subst z;rw [hk] at hi;cases hi
  ·have:=hr i k z _ _ hi hk;omega
theorem TI.gap {t:SetTable} {hs:List Int} (T:TI t hs) (hl:hs.length<=t.mask):∃ e,e < t.mask+1/\¬ On t e:=by
 apply Classical.byContradiction;intro z;have all:∀ e,e < t.mask+1->∃ i:Nat,t.place[i]?=some e:=λe he=>Classical.byContradiction λy=>z ⟨e,he,y⟩
 obtain⟨i,hi⟩:=all t.mask (by omega)
 have h1:=nn T.ris t.mask (λe he=>all e (by omega)) i hi
 have h2:=(Array.getElem?_eq_some_iff.mp hi).1;have h3:=T.sz;omega
theorem TI.ends {t:SetTable} {hs:List Int} (T:TI t hs) (hl:hs.length<=t.mask) (h:Int):∃ N,N<=10*(t.mask+13)/\¬ On t (sq t.mask h N).j/\∀ m,m < N->On t (sq t.mask h m).j:=by
 obtain⟨e,he,hn⟩:=T.gap hl;exact T.msk.first h (On t) he hn
theorem TI.fits {t:SetTable} {hs:List Int} (T:TI t hs) (hl:hs.length<=t.mask):t.fits hs.length=true:=by
 unfold SetTable.fits SetTable.fill;rw [T.sz,T.dm];simp [hl]
theorem TI.odd {t:SetTable} {hs:List Int} (T:TI t hs):t.gaveWay=false:=by
 unfold SetTable.gaveWay;rcases T.msk with h | h | h <;> rw [h] <;> rfl
theorem TI.met {t:SetTable} {hs:List Int} (T:TI t hs) {h:Int} {N i j:Nat} (hN:¬ On t (sq t.mask h N).j) (hh:hs[i]?=some h) (hj:t.place[i]?=some j):∃ m,m < N/\(sq t.mask h m).j=j:=by
 have hm:(j,h)∈t.place.toList.zip hs:=by
  refine List.mem_iff_getElem?.mpr ⟨i,?_⟩;rw [List.getElem?_zip_eq_some];exact⟨by simpa using hj,hh⟩
 obtain⟨n,h1,h2⟩:=T.way _ hm;refine⟨n,?_,h1⟩;rcases Nat.lt_trichotomy n N with z | z | z
 ·exact z
 ·subst z;exact absurd ⟨i,by rw [h1]; exact hj⟩ hN
 ·exact absurd (h2 N z) hN
theorem yS.mono {t t':SetTable} {h:Int} {j:Nat} (w:yS t h j) (hm:t'.mask=t.mask) (ho:∀ j,On t j->On t' j):yS t' h j:=by
 obtain⟨n,h1,h2⟩:=w;exact⟨n,by rw [hm]; exact h1,λm hmn=>by rw [hm]; exact ho _ (h2 m hmn)⟩
theorem mF {t:SetTable} {j:Nat}:On t j↔j∈t.place.toList:=by
 unfold On;rw [List.mem_iff_getElem?];simp
theorem xB {t:SetTable} (hd:t.dummies=#[]) (j:Nat):(t.put j).1.dummies=#[]:=by
 unfold SetTable.put;dsimp only;rw [hd,if_neg (by simp [has])]
theorem eh (t:SetTable) (j:Nat):(t.put j).1.place.toList=t.place.toList.take (t.put j).2++j::t.place.toList.drop (t.put j).2:=by
 unfold SetTable.put;exact SetTable.toList_insertAt _ _ _
theorem pB (t:SetTable) (hr:sR t.place) (j:Nat):(t.put j).2<=t.place.size:=(kb hr j).1
theorem lK {xs:DJ Nat}:sR xs↔xs.toList.Pairwise (· < ·):=by
 rw [List.pairwise_iff_getElem]
 constructor
 ·intro h i j hi hj hij;exact h i j hij _ _ (by simp at hi ⊢) (by simp at hj ⊢)
 ·intro h i j hij a b ha hb;obtain⟨h1,h2⟩:=Array.getElem?_eq_some_iff.mp ha;obtain⟨h3,h4⟩:=Array.getElem?_eq_some_iff.mp hb;have:=h i j (by simpa using h1) (by simpa using h3) hij
  simp at this;omega
theorem wa {t:SetTable} (hr:sR t.place) {j:Nat} (hn:¬ On t j):sR (t.put j).1.place:=by
 rw [lK,eh,List.pairwise_append,List.pairwise_cons];have hp:=lK.mp hr;obtain⟨_,h2,h3⟩:=kb hr j;have e:(t.put j).2=below t.place j:=rfl;have lo:∀ a∈t.place.toList.take (t.put j).2,a < j:=λa ha=>by
  obtain⟨k,hk⟩:=List.mem_iff_getElem?.mp ha;rw [List.getElem?_take] at hk
  split at hk
  ·exact h2 k a (by omega) (by simpa using hk)
  ·cases hk
 have hi:∀ a∈t.place.toList.drop (t.put j).2,j < a:=λa ha=>by
  obtain⟨k,hk⟩:=List.mem_iff_getElem?.mp ha;rw [List.getElem?_drop] at hk;have h4:=h3 ((t.put j).2+k) a (by rw [e]; omega) (by simpa using hk)
  have h5:a≠j:=λz=>hn ⟨(t.put j).2+k,by have y:=hk; rw [z] at y; simpa using y⟩
  omega
 refine⟨hp.sublist (List.take_sublist _ _),⟨hi,hp.sublist (List.drop_sublist _ _)⟩,λa ha b hb=>?_⟩
 rcases Cz.mp hb with rfl | hb
 ·exact lo a ha
 ·exact Nat.lt_trans (lo a ha) (hi b hb)
theorem sN {t:SetTable} {j k:Nat}:On (t.put j).1 k↔k=j\/On t k:=by
 rw [mF,mF,eh,List.mem_append,Cz]
 constructor
 ·rintro(h | h | h)
  ·exact .inr (List.mem_of_mem_take h)
  ·exact .inl h
  ·exact .inr (List.mem_of_mem_drop h)
 ·rintro(h | h)
  ·exact .inr (.inl h)
  ·rw [<- List.take_append_drop (t.put j).2 t.place.toList] at h;rcases List.mem_append.mp h with h | h
   ·exact .inl h
   ·exact .inr (.inr h)
theorem tz {α β:Type} (a:List α) (b:List β) (p:Nat):(a.take p).zip (b.take p)=(a.zip b).take p:=by unfold List.zip; rw [List.take_zipWith]
theorem dz {α β:Type} (a:List α) (b:List β) (p:Nat):(a.drop p).zip (b.drop p)=(a.zip b).drop p:=by unfold List.zip; rw [List.drop_zipWith]
theorem TI.put {t:SetTable} {hs:List Int} (T:TI t hs) {h:Int} {N:Nat} (hN:¬ On t (sq t.mask h N).j) (hl:∀ m,m < N->On t (sq t.mask h m).j):
  TI (t.put (sq t.mask h N).j).1 (hs.take (t.put (sq t.mask h N).j).2++h::hs.drop (t.put (sq t.mask h N).j).2):=by
 have hp:=pB t T.ris (sq t.mask h N).j;have hs':=T.sz;have mo:∀ k,On t k->On (t.put (sq t.mask h N).j).1 k:=λk hk=>sN.mpr (.inr hk)
 refine⟨xB T.dm _,wa T.ris hN,?_,λk hk=>?_,T.msk,?_⟩
 ·have e:=congrArg List.length (eh t (sq t.mask h N).j);simp only [Dl,CK,List.length_take,CH,List.length_drop] at e ⊢;omega
 ·rcases sN.mp hk with rfl | hk
  ·exact xR h N
  ·exact T.le k hk
 ·rw [eh,List.zip_append (by rw [List.length_take,List.length_take,Dl,hs'])]
  intro q hq;have old:∀ q∈t.place.toList.zip hs,yS (t.put (sq t.mask h N).j).1 q.2 q.1:=λq hq=>(T.way q hq).mono rfl mo
  rcases List.mem_append.mp hq with hq | hq
  ·rw [tz] at hq;exact old q (List.mem_of_mem_take hq)
  ·rw [List.zip_cons_cons] at hq;rcases Cz.mp hq with rfl | hq
   ·exact⟨N,rfl,λm hm=>mo _ (hl m hm)⟩
   ·rw [dz] at hq;exact old q (List.mem_of_mem_drop hq)
theorem TI.fresh (f m:Nat) (led:DM):TI (SetTable.fresh f m led) []:=⟨rfl,λi j _ a b h=>by simp [SetTable.fresh] at h,rfl,λj ⟨i,h⟩=>by simp [SetTable.fresh] at h,.inl rfl,λq hq=>by simp at hq⟩
theorem pT {mask:Nat} {h:Int} {m i pt:Nat} (e:sq mask h m=gq mask i pt):∀ k,k<=runEnd mask i - i->sq mask h (m+k)={j:=i+k,more:=runEnd mask i - i - k,i:=i,perturb:=pt,dummy:=none}
 | 0,_=>e
 | k+1,hk=>by
  show jv mask (sq mask h (m+k))=_
  rw [pT e k (by omega)]
  unfold jv;rw [if_pos (by show runEnd mask i - i - k > 0; omega)]
  rfl
theorem rS {mask:Nat} {h:Int} {m i pt:Nat} (e:sq mask h m=gq mask i pt):sq mask h (m+(runEnd mask i - i)+1)=gq mask (leap mask i pt).1 (leap mask i pt).2:=by
 show jv mask (sq mask h (m+(runEnd mask i - i)))=_
 rw [pT e _ (Ct _)];unfold jv;rw [if_neg (by show ¬ runEnd mask i - i - (runEnd mask i - i) > 0; omega)]
 rfl
theorem w_ {mask i:Nat}:i<=runEnd mask i:=by unfold runEnd; split <;> omega
def oA (owner:DJ (Dw Nat)) (j:Nat):Prop:=(owner.getD j (some 0)).isNone=false
theorem oH {p:Nat->DM} {n:Nat}:(∃ k,(List.range n).find? p=some k/\k < n/\p k=true/\∀ k',k' < k->p k'=false)\/((List.range n).find? p=none/\∀ k,k < n->p k=false):=by
 induction n with
 | zero=>exact .inr ⟨rfl,λk h=>by omega⟩
 | succ n ih=>
  rw [List.range_succ,List.find?_append];rcases ih with ⟨k,h1,h2,h3,h4⟩ | ⟨h1,h2⟩
  ·rw [h1];exact .inl ⟨k,rfl,by omega,h3,h4⟩
  ·rw [h1]
   by_cases hp:p n=true
   ·exact .inl ⟨n,by simp [hp],by omega,hp,h2⟩
   ·refine .inr ⟨by simp [hp],λk hk=>?_⟩
    by_cases hkn:k=n
    ·subst hkn
     simpa using hp
    ·exact h2 k (by omega)
theorem qG {mask:Nat} {owner:DJ (Dw Nat)} {h:Int} {N:Nat} (hN:¬ oA owner (sq mask h N).j) (hl:∀ m,m < N->oA owner (sq mask h m).j):
  ∀ (f L m:Nat),sq mask h m=gq mask (lp mask h L).1 (lp mask h L).2->m<=N->(∃ L',L<=L'/\L' < L+f/\¬ oA owner (lp mask h L').1)->layClean.free mask owner f (lp mask h L).1 (lp mask h L).2=some (sq mask h N).j
 | 0,L,m,_,_,⟨L',h1,h2,_⟩=>by omega
 | f+1,L,m,e,hm,⟨L',h1,h2,h3⟩=>by
  unfold layClean.free;have rg:=w_ (mask:=mask) (i:=(lp mask h L).1);have oc:∀ k,k < runEnd mask (lp mask h L).1+1 - (lp mask h L).1->((owner.getD ((lp mask h L).1+k) (some 0)).isNone=false↔oA owner (sq mask h (m+k)).j):=λk hk=>by
   rw [pT e k (by omega)]
   exact Iff.rfl
  rcases oH (p:=λk=>(owner.getD ((lp mask h L).1+k) (some 0)).isNone) (n:=runEnd mask (lp mask h L).1+1 - (lp mask h L).1) with ⟨k,g1,g2,g3,g4⟩ | ⟨g1,g2⟩
  ·rw [g1];have no:¬ oA owner (sq mask h (m+k)).j:=λz=>by
    have:=(oc k g2).mpr z;rw [this] at g3;cases g3
   have a1:¬ m+k < N:=λz=>no (hl _ z)
   have a2:¬ N < m+k:=λz=>hN (by
    have:=(oc (N - m) (by omega)).mp (g4 (N - m) (by omega))
    rw [show m+(N - m)=N by omega] at this
    exact this)
   have:N=m+k:=by omega
   rw [this,pT e k (by omega)]
  ·rw [g1];have all:∀ k,k < runEnd mask (lp mask h L).1+1 - (lp mask h L).1->oA owner (sq mask h (m+k)).j:=λk hk=>(oc k hk).mp (g2 k hk)
   have a1:m+(runEnd mask (lp mask h L).1 - (lp mask h L).1) < N:=by
    apply Classical.byContradiction;intro z;refine hN ?_;have:=all (N - m) (by omega)
    rw [show m+(N - m)=N by omega] at this
    exact this
   have a2:L'≠L:=λz=>by
    subst z;have:=(oc 0 (by omega)).mpr (all 0 (by omega))
    exact h3 this
   exact qG hN hl f (L+1) _ (rS e) (by omega) ⟨L',by omega,by omega,h3⟩
theorem gZ {owner:DJ (Dw Nat)} {j:Nat} (hj:j < owner.size):oA owner j↔∃ k,owner[j]?=some (some k):=by
 unfold oA;rw [show owner.getD j (some 0)=owner[j] by simp [Array.getD,hj]]
 have e:owner[j]?=some owner[j]:=by simp [hj]
 rw [e];cases owner[j] with
 | none=>simp
 | some k=>simp
structure OI (mask:Nat) (owner:DJ (Dw Nat)) (hs:List Int):Prop where
 sz:owner.size=mask+1
 lt:∀ (j k:Nat),owner[j]?=some (some k)->k < hs.length
 at':∀ k,k < hs.length->∃ j:Nat,owner[j]?=some (some k)
 way:∀ (j k:Nat) (h:Int),owner[j]?=some (some k)->hs[k]?=some h->∃ n,(sq mask h n).j=j/\∀ m,m < n->oA owner (sq mask h m).j
 cnt:((List.range (mask+1)).filterMap λj=>owner.getD j none).length=hs.length
theorem OI.zero (mask:Nat):OI mask (Array.replicate (mask+1) none) []:=by
 refine⟨by simp,λj k h=>?_,λk h=>by simp at h,λj k h e=>?_,?_⟩
 ·rw [Array.getElem?_replicate] at h
  split at h <;> simp at h
 ·rw [Array.getElem?_replicate] at e
  split at e <;> simp at e
 ·simp only [List.length_nil,Dq,List.filterMap_eq_nil_iff];intro j hj;simp [Array.getD]
theorem pY {mask:Nat} {o o':Nat->Dw Nat} {j0 v:Nat} (hj:o j0=none) (h1:o' j0=some v) (h2:∀ j,j≠j0->o' j=o j):∀ n,((List.range n).filterMap o').length=((List.range n).filterMap o).length+if j0 < n then 1 else 0
 | 0=>by simp
 | n+1=>by
  rw [List.range_succ,List.filterMap_append,List.filterMap_append,CK,CK,pY (mask:=mask) hj h1 h2 n]
  by_cases hn:n=j0
  ·subst hn;simp [hj,h1]
  ·have:(List.filterMap o' [n]).length=(List.filterMap o [n]).length:=by simp [List.filterMap,h2 n hn]
   rw [this]
   by_cases hl:j0 < n
   ·rw [if_pos hl,if_pos (by omega)]; omega
   ·rw [if_neg hl,if_neg (by omega)]; omega
theorem OI.gap {mask:Nat} {owner:DJ (Dw Nat)} {hs:List Int} (O:OI mask owner hs) (hl:hs.length<=mask):∃ e,e < mask+1/\¬ oA owner e:=by
 apply Classical.byContradiction;intro z;have all:∀ e,e < mask+1->∃ k,owner.getD e none=some k:=λe he=>by
  have:oA owner e:=Classical.byContradiction λy=>z ⟨e,he,y⟩
  have hb:e < owner.size:=by rw [O.sz]; exact he
  obtain⟨k,hk⟩:=(gZ hb).mp this;refine⟨k,?_⟩;have e1:owner[e]?=some owner[e]:=by simp [hb]
  rw [e1] at hk;simp [Array.getD,hb];exact CS hk
 have len:∀ n,n<=mask+1->((List.range n).filterMap λj=>owner.getD j none).length=n:=by
  intro n
  induction n with
  | zero=>intro _; rfl
  | succ n ih=>
   intro hn;obtain⟨k,hk⟩:=all n (by omega)
   rw [List.range_succ,List.filterMap_append,CK,ih (by omega)]
   simp [List.filterMap,hk]
 have:=len (mask+1) (Ct _);rw [O.cnt] at this;omega
theorem eN {o:DJ (Dw Nat)} {j0:Nat} {v:Dw Nat} (hj:j0 < o.size) (j:Nat):(o.setIfInBounds j0 v)[j]?=if j=j0 then some v else o[j]?:=by
 rw [Array.getElem?_setIfInBounds]
 by_cases h:j0=j
 ·subst h;simp [hj]
 ·rw [if_neg h,if_neg (λz=>h z.symm)]
theorem OI.step {mask:Nat} {owner:DJ (Dw Nat)} {hs:List Int} (M:m5 mask) (O:OI mask owner hs) (hl:hs.length<=mask) (h:Int):
  ∃ j,layClean.free mask owner (turns mask) (bits h % (mask+1)) (bits h)=some j/\OI mask (owner.setIfInBounds j (some hs.length)) (hs++[h]):=by
 obtain⟨e,he,hn⟩:=O.gap hl;obtain⟨N,_,hN,hlt⟩:=M.first h (oA owner) he hn;obtain⟨n,hn2,en⟩:=M.reach (wB mask h 13) he;have fr:=qG hN hlt (turns mask) 0 0 rfl (Dd _) ⟨13+n,by omega,by unfold turns; omega,by rw [uj,en]; exact hn⟩
 have hb:(sq mask h N).j < owner.size:=by rw [O.sz]; exact xR h N
 have hnone:owner[(sq mask h N).j]?=some none:=by
  have e1:owner[(sq mask h N).j]?=some owner[(sq mask h N).j]:=by simp [hb]
  rw [e1];cases hc:owner[(sq mask h N).j] with
  | none=>rfl
  | some k=>exact absurd ((gZ hb).mpr ⟨k,by rw [e1,hc]⟩) hN
 refine⟨_,fr,?_⟩;generalize hj0:(sq mask h N).j=j0 at*
 have hsz:(owner.setIfInBounds j0 (some hs.length)).size=mask+1:=by rw [Array.size_setIfInBounds]; exact O.sz
 have occ:∀ j,oA owner j->oA (owner.setIfInBounds j0 (some hs.length)) j:=λj hj=>by
  by_cases hjs:j < owner.size
  ·refine(gZ (by rw [Array.size_setIfInBounds]; exact hjs)).mpr ?_
   rw [eN hb]
   by_cases z:j=j0
   ·exact⟨hs.length,by rw [if_pos z]⟩
   ·rw [if_neg z];exact(gZ hjs).mp hj
  ·unfold oA;simp [Array.getD,hjs]
 refine⟨hsz,λj k hk=>?_,λk hk=>?_,λj k x hk hx=>?_,?_⟩
 ·rw [eN hb] at hk;rw [CK]
  by_cases z:j=j0
  ·rw [if_pos z] at hk;have:k=hs.length:=by injection hk with hk; injection hk with hk; exact hk.symm
   show k < hs.length+1
   omega
  ·rw [if_neg z] at hk;have:=O.lt j k hk
   show k < hs.length+1
   omega
 ·rw [CK] at hk;have hk:k < hs.length+1:=hk
  by_cases z:k=hs.length
  ·exact⟨j0,by rw [eN hb,if_pos rfl,z]⟩
  ·obtain⟨j,hj⟩:=O.at' k (by omega)
   refine⟨j,?_⟩;rw [eN hb,if_neg]
   ·exact hj
   ·intro y;subst y;rw [hnone] at hj;cases hj
 ·rw [eN hb] at hk
  by_cases z:j=j0
  ·rw [if_pos z] at hk;have:k=hs.length:=by injection hk with hk; injection hk with hk; exact hk.symm
   subst this;rw [List.getElem?_append_right (Ct _)] at hx;simp at hx;subst hx;exact⟨N,by rw [hj0,z],λm hm=>occ _ (hlt m hm)⟩
  ·rw [if_neg z] at hk;have hk2:=O.lt j k hk;rw [List.getElem?_append_left hk2] at hx;obtain⟨n,h1,h2⟩:=O.way j k x hk hx;exact⟨n,h1,λm hm=>occ _ (h2 m hm)⟩
 ·have gd:∀ (o:DJ (Dw Nat)) (j:Nat),o.getD j none=(o[j]?).getD none:=λo j=>by simp [Array.getD_eq_getD_getElem?]
  rw [pY (mask:=mask) (o:=λj=>owner.getD j none) (j0:=j0) (v:=hs.length) (by show owner.getD j0 none=none; rw [gd,hnone]; rfl) (by show(owner.setIfInBounds j0 (some hs.length)).getD j0 none=_; rw [gd,eN hb,if_pos rfl]; rfl) (λj hj=>by show(owner.setIfInBounds j0 (some hs.length)).getD j none=owner.getD j none; rw [gd,gd,eN hb,if_neg hj]),O.cnt,if_pos (by rw [<- O.sz]; exact hb),CK]
  rfl
def gX (mask:Nat) (acc:Dw (DJ (Dw Nat)×Nat)) (h:Int):Dw (DJ (Dw Nat)×Nat):=do
 let (owner,k) <- acc
 let j <- layClean.free mask owner (turns mask) (bits h % (mask+1)) (bits h)
 pure (owner.setIfInBounds j (some k),k+1)
theorem nk {mask:Nat} (M:m5 mask):∀ (l:List Int) (hs:List Int) (owner:DJ (Dw Nat)),OI mask owner hs->hs.length+l.length<=mask+1->∃ owner',l.foldl (gX mask) (some (owner,hs.length))=some (owner',(hs++l).length)/\OI mask owner' (hs++l)
 | [],hs,owner,O,_=>⟨owner,by simp,by simpa using O⟩
 | h::l,hs,owner,O,hl=>by
  have hl:hs.length+(l.length+1)<=mask+1:=hl;obtain⟨j,h1,h2⟩:=O.step M (by omega) h
  obtain⟨owner',g1,g2⟩:=nk M l (hs++[h]) _ h2 (by rw [CK]; show hs.length+1+l.length<=mask+1; omega)
  refine⟨owner',?_,by rw [List.append_assoc] at g2; exact g2⟩
  rw [List.foldl_cons];have:gX mask (some (owner,hs.length)) h=some (owner.setIfInBounds j (some hs.length),(hs++[h]).length):=by
   unfold gX;simp [h1]
  rw [this,g1,List.append_assoc]
  rfl
theorem rj {mask:Nat} (M:m5 mask) (hashes:DJ Int) (hl:hashes.size<=mask+1):∃ owner,layClean mask hashes=some owner/\OI mask owner hashes.toList:=by
 obtain⟨owner,h1,h2⟩:=nk M hashes.toList [] _ (OI.zero mask) (by simpa using hl)
 refine⟨owner,?_,by simpa using h2⟩
 unfold layClean;rw [<- Array.foldl_toList];have:(hashes.toList.foldl (gX mask) (some (Array.replicate (mask+1) none,0)))=some (owner,([]++hashes.toList).length):=h1
 show Option.map (·.1) (hashes.toList.foldl (gX mask) (some (Array.replicate (mask+1) none,0)))=some owner
 rw [this]
 rfl
theorem vA {mask:Nat} (M:m5 mask) (finger moves:Nat) (led plain:DM) (hashes:DJ Int) (hl:hashes.size<=mask+1):
  ∃ t order,laid mask finger moves led plain hashes=some (t,order)/\TI t (order.toList.map λk=>hashes.toList.getD k 0)/\t.mask=mask/\t.led=led/\t.moves=moves/\t.plain=plain/\order.size=hashes.size/\(∀ k∈order.toList,k < hashes.size)/\∀ k,k < hashes.size->k∈order.toList:=by
 obtain⟨owner,h1,O⟩:=rj M hashes hl;have ex:laid mask finger moves led plain hashes=some ({mask,place:=(((List.range (mask+1)).filterMap λj=>(owner.getD j none).map (j,·)).map (·.1)).toArray,dummies:=#[],finger,led,moves,plain},(((List.range (mask+1)).filterMap λj=>(owner.getD j none).map (j,·)).map (·.2)).toArray):=by
  unfold laid;rw [h1]
  rfl
 generalize hL:((List.range (mask+1)).filterMap λj=>(owner.getD j none).map (j,·))=live at ex
 have gd:∀ j:Nat,owner.getD j none=(owner[j]?).getD none:=λj=>by simp [Array.getD_eq_getD_getElem?]
 have mem:∀ j k:Nat,(j,k)∈live↔owner[j]?=some (some k):=λj k=>by
  rw [<- hL,List.mem_filterMap]
  constructor
  ·rintro⟨j',h2,h3⟩;rw [Option.map_eq_some_iff] at h3;obtain⟨k',h4,h5⟩:=h3;cases h5;rw [gd] at h4;cases h6:owner[j]? with
   | none=>rw [h6] at h4; cases h4
   | some o=>rw [h6] at h4; exact congrArg some h4
  ·intro h2;have hb:=(Array.getElem?_eq_some_iff.mp h2).1;refine⟨j,Dh.mpr (by rw [<- O.sz]; exact hb),?_⟩
   rw [gd,h2]
   rfl
 have ord:live.map (·.2)=(List.range (mask+1)).filterMap λj=>owner.getD j none:=by
  rw [<- hL,List.map_filterMap]
  congr 1
  funext j
  cases owner.getD j none <;> rfl
 have onj:∀ j,j∈live.map (·.1)↔∃ k,owner[j]?=some (some k):=λj=>by
  rw [Cu]
  constructor
  ·rintro⟨⟨j',k⟩,h2,rfl⟩;exact⟨k,(mem _ _).mp h2⟩
  ·rintro⟨k,h2⟩;exact⟨(j,k),(mem _ _).mpr h2,rfl⟩
 have lt:∀ j k:Nat,owner[j]?=some (some k)->j < mask+1:=λj k h2=>by rw [<- O.sz]; exact(Array.getElem?_eq_some_iff.mp h2).1
 refine⟨_,_,ex,⟨rfl,?_,?_,?_,M,?_⟩,rfl,rfl,rfl,rfl,?_,?_,?_⟩
 ·rw [lK]
  show(live.map (·.1)).Pairwise (· < ·)
  rw [List.pairwise_map,<- hL];refine List.Pairwise.filterMap _ (λa a' haa b hb b' hb'=>?_) List.pairwise_lt_range
  rw [Option.map_eq_some_iff] at hb hb'
  obtain⟨k,_,rfl⟩:=hb;obtain⟨k',_,rfl⟩:=hb';exact haa
 ·simp
 ·intro j hj;rw [mF] at hj;obtain⟨k,hk⟩:=(onj j).mp hj;exact lt j k hk
 ·intro q hq;have hq:q∈(live.map (·.1)).zip ((live.map (·.2)).map λk=>hashes.toList.getD k 0):=hq
  rw [C3,List.zip_map',Cu] at hq;obtain⟨⟨j,k⟩,h2,rfl⟩:=hq;have h3:=(mem j k).mp h2;have h4:=O.lt j k h3;obtain⟨n,g1,g2⟩:=O.way j k (hashes.toList.getD k 0) h3 (by rw [CU,CO h4]; rfl)
  refine⟨n,g1,λm hm=>?_⟩
  rw [mF];exact(onj _).mpr ((gZ (by rw [O.sz]; exact xR _ m)).mp (g2 m hm))
 ·rw [Cy,ord,O.cnt,Dl]
 ·intro k hk;have hk:k∈live.map (·.2):=hk;obtain⟨⟨j,k'⟩,h2,rfl⟩:=Cu.mp hk;have:=O.lt j k' ((mem j k').mp h2);rw [Dl] at this;exact this
 ·intro k hk
  show k∈live.map (·.2)
  obtain⟨j,hj⟩:=O.at' k (by rw [Dl]; exact hk)
  exact Cu.mpr ⟨(j,k),(mem j k).mpr hj,rfl⟩
def wL (t:SetTable):Prop:=t.place.size*5 < t.mask*3
theorem sT {mask n:Nat} (M:m5 mask) (h1:n*5 < mask*3) (h2:mask*3<=(n+1)*5) (hn:n < 76):m5 (sizeAbove (grown (n+1)) - 1)/\(n+1)*5 < (sizeAbove (grown (n+1)) - 1)*3:=by
 rcases M with rfl | rfl | rfl
 ·have:n=4:=by omega
  subst this;exact⟨.inr (.inl (by decide)),by decide⟩
 ·have:n=18:=by omega
  subst this;exact⟨.inr (.inr (by decide)),by decide⟩
 ·omega
end ST
namespace ST
open PySem PySem.SetTable PySem.Spec
section
variable {prog:Dy} {w:DC} {K:Type} [DecidableEq K] {knd:KeyKind prog w K} {A:Dz} {E:Du->Dt->Prop} {s:Dt}
theorem io (n:Nat) {v:Du} (h:carriedByValue v=true):ofAClassStatement n v=pure false:=by
 cases v with
 | ref a=>simp [carriedByValue] at h
 | _=>cases n <;> first | rfl | simp [ofAClassStatement]
def ent (knd:KeyKind prog w K) (x:List K×Dv):Int×Du:=(tupleKeyHash knd x.1,.ref x.2)
structure AU (knd:KeyKind prog w K) (h:DD) (a:Dv) (o:DP) (es:DJ (Int×Du)) (ep:Nat) (t:SetTable) (xs:List (List K×Dv)):Prop where
 get:h.get? a=some o
 ex:o.ExactSet
 data:o.data=.set es ep t
 ent:es.toList=xs.map (ent knd)
 is:∀ x∈xs,IsTupleKey knd h x.1 x.2
 ti:TI t (xs.map λx=>tupleKeyHash knd x.1)
 lax:wL t
theorem jM (n:Nat) {v:Du} (h:carriedByValue v=true):∃ c,hashByValue n v=pure c:=by
 cases v with
 | ref a=>simp [carriedByValue] at h
 | _=>cases n <;> exact⟨_,rfl⟩
theorem TI.plain {t:SetTable} {hs:List Int} (T:TI t hs) (b:DM):TI {t with plain:=b} hs:=⟨T.dm,T.ris,T.sz,T.le,T.msk,T.way⟩
theorem tY {α:Type} {l:List α} {n:Nat} (hn:l.length=n):∀ {ks:List Nat},(∀ k∈ks,k < n)->(ks.filterMap λk=>l[k]?).length=ks.length
 | [],_=>rfl
 | k::ks,h=>by
  have hk:=h k CB;rw [List.filterMap_cons,CO (by omega)]
  show(ks.filterMap λk=>l[k]?).length+1=ks.length+1
  rw [tY hn λk hk=>h k (CC _ hk)]
theorem t4 {α:Type} {l:List α} {g:α->Int}:∀ {ks:List Nat},(∀ k∈ks,k < l.length)->(ks.map λk=>(l.map g).getD k 0)=(ks.filterMap λk=>l[k]?).map g
 | [],_=>rfl
 | k::ks,h=>by
  have hk:=h k CB;rw [List.filterMap_cons,CO hk,CG,t4 λk hk=>h k (CC _ hk)]
  show _=g l[k]::_
  rw [CU,CQ,CO hk]
  rfl
theorem v6 {t:SetTable} {hs:List Int} (T:TI t hs) {j:Nat}:(t.put j).1.place.size=t.place.size+1:=by
 have e:=congrArg List.length (eh t j);have hp:=pB t T.ris j;simp only [Dl,CK,List.length_take,CH,List.length_drop] at e;omega
end
end ST
namespace ST
open PySem PySem.SetTable PySem.Spec PyProof.Rows
def fH {α:Type} [DecidableEq α] (a:List α) (k:α):List α:=if k∈a then a else a++[k]
def dd {α:Type} [DecidableEq α] (l:List α):List α:=l.foldl fH []
theorem jo {α:Type} [DecidableEq α] (l:List α) (k:α):dd (l++[k])=fH (dd l) k:=by unfold dd; rw [List.foldl_append]; rfl
theorem iW {α:Type} [DecidableEq α] {a:List α} {k x:α}:x∈fH a k↔x=k\/x∈a:=by
 unfold fH
 split
 ·exact⟨.inr,λh=>h.elim (λe=>by subst e; assumption) id⟩
 ·rw [List.mem_append,List.mem_singleton];exact or_comm
theorem lb {α:Type} [DecidableEq α] {a:List α} {k:α}:(fH a k).length=if k∈a then a.length else a.length+1:=by
 unfold fH
 split
 ·rfl
 ·rw [CK]; rfl
theorem pL {α:Type} [DecidableEq α]:∀ (l:List α) (a:List α),(l.foldl fH a).length<=a.length+l.length
 | [],a=>Ct _
 | k::l,a=>by
  have h:=pL l (fH a k);have h2:=lb (a:=a) (k:=k);rw [List.foldl_cons,CH]
  split at h2 <;> omega
section
variable {prog:Dy} {w:DC} {K:Type} [DecidableEq K] {knd:KeyKind prog w K} {A:Dz} {R:Result->Dt->Prop} {I:Dv} {fp wr:List Dv} {G:DJ GenState->DJ GenState->Prop} {n:Nat} {P:Nat->Du->Prop} {St:Nat->Dt->Prop}
def Holds (knd:KeyKind prog w K) (h:DD) (S:Dv) (V:Dv->Prop) (l:List (List K)):Prop:=∃ o es ep t xs,AU knd h S o es ep t xs/\xs.length=(dd l).length/\(∀ k,k∈xs.map (·.1)↔k∈dd l)/\∀ x∈xs,V x.2
end
end ST
namespace ST
open PySem PySem.SetTable PySem.Spec PyProof.Rows PySem.Builtin
abbrev uE (led:DM):DP:={cls:=.type "set",dict:=none,data:=.set #[] 0 (.fresh 0 0 led)}
section
variable {prog:Dy} {w:DC} {K:Type} [DecidableEq K] {knd:KeyKind prog w K} {A:Dz} {E:Du->Dt->Prop} {s:Dt}
theorem kE (a:Du) {Q₁:Du->Dt->Prop} (h:Q₁ (.ref s.heap.objs.size) {s with heap:=s.heap.push (uE (!w.params.followText "set-order"))}):
  codeAny (model prog w) A (.call (.builtin "set.__new__") ⟨[.type "set",a],[]⟩) (wants Q₁ E) s:=by
 refine codeAny_of_tree ?_
 show wpAny _ A.in1 (do checkBuiltinCall "set.__new__" ⟨[.type "set",a],[]⟩; again (.builtin "set.__new__" ⟨[.type "set",a],[]⟩)) _ _ s
 refine gt (wpAny_of_eq (F.newCall_set_1 a) (Cp ⟨plainId_quiet F.plain_set_new _,codeAny_builtin F.entry_set_new ?_⟩));rw [Around.under_plainId F.plain_set_new _];unfold Builtin.«set.__new__» Builtin.Frozenset.newClass;have hsub:=sub_set_self;obtain⟨hp,g,d,tk,os⟩:=s;dsimp only
 wp_walk
 refine wpAny_askSetting (Cp ?_);dsimp only;simp only [newObj];exact gt (wpAny_alloc (Cp (Cp h)))
end
end ST
namespace L2
open PySem PySem.Spec PyProof.Rows ST
section
variable {X:Cx}
def AF (a:Dv) (n:Nat):DD->Prop:=λh=>∃ o es ep t,h.get? a=some o/\o.ExactSet/\o.data=.set es ep t/\t.fits es.size=true/\es.size=n/\n < 4096
theorem gw {P:Dy} {w:DC}:∀ {ns:List Int} {us:List Du},aF (ns.map V.int) us->ItemsAre (intKind P w) ns us
 | [],us,h=>by cases h; exact .nil
 | n::ns,us,h=>by
  rw [CG] at h;cases h with
  | cons h1 h2=>
   obtain⟨t,rfl⟩:=h1;exact .cons (intKind_is _ _ _ _) (gw h2)
theorem o9:bS X (.builtin "len") (λxs H Q=>∃ p n,xs=[.ref p]/\H p=some (.ext (AF p n))/\Q (.int (n:Nat)) H):=by
 intro DQ s σ H xs us Q I r h;obtain⟨p,n,rfl,hp,q⟩:=h;obtain⟨u,rfl,rx⟩:=nJ r;cases rx;obtain⟨⟨o,es,ep,t,h1,h2,h3,h4,h5,h6⟩,_⟩:=I.hok p _ hp;subst h5;exact call_len_set h1 h2 h3 h4 (by omega) ⟨.int (es.size:Nat),H,I.tok _,⟨s.toks+1,rfl⟩,q⟩
end
end L2
namespace DL
open PySem PySem.Spec PyProof.Rows L2
theorem uC:bootBuiltins "range"=some (.type "range"):=by decide +kernel
inductive zM (K:Fg) (n:Str) (st:DF) (f:Dv) (cd:Du):Prop where
 | mk {oc kV doc pm ct:Du} {od an:Dw Dv} {osl:DJ (Dw Du)} (l:K.lookup f=some ⟨oc,od,.func (PySem.W.fnOf n n (ck st) (bK st) (ai st) .none kV doc pm an cd ct),osl⟩):zM K n st f cd
structure DI (K:Fg) (n:Str) (st:DF) (f:Dv) (cd:Du):Prop where
 a:PySem.W.nsIn K mainGlobals n=some (some (.ref f))
 x:zM K n st f cd
 e:PySem.W.codeIn K cd n=true
 k:PySem.W.keepIn K (.ref f)=true
def Bd (n:Str) (st:DF) (ps:List Str):Prop:=∀ (kV doc pm:Du) (an:Dw Dv) (cdv ct:Du) (us:List Du),us.length=ps.length->bindArgs (PySem.W.fnOf n n (ck st) (bK st) (ai st) .none kV doc pm an cdv ct) ⟨us,[]⟩=pure (ps.zip us)
theorem lc {us:List Du} {n:Nat} (h:us.length=n+1):∃ u r,us=u::r/\r.length=n:=by
 cases us with
 | nil=>cases h
 | cons u r=>exact⟨u,r,rfl,Nat.succ.inj h⟩
theorem B' {n a1:Str} {st:DF} (h:∀ (kV doc pm:Du) (an:Dw Dv) (cdv ct u1:Du),bindArgs (PySem.W.fnOf n n (ck st) (bK st) (ai st) .none kV doc pm an cdv ct) ⟨[u1],[]⟩=pure (List.zip [a1] [u1])):Bd n st [a1]:=λ_ _ _ _ _ _ us hl=>by obtain⟨u1,us,rfl,h1⟩:=lc hl; cases Dq.mp h1; exact h _ _ _ _ _ _ u1
theorem B8 {n a1 a2:Str} {st:DF} (h:∀ (kV doc pm:Du) (an:Dw Dv) (cdv ct u1 u2:Du),bindArgs (PySem.W.fnOf n n (ck st) (bK st) (ai st) .none kV doc pm an cdv ct) ⟨[u1,u2],[]⟩=pure (List.zip [a1,a2] [u1,u2])):Bd n st [a1,a2]:=λ_ _ _ _ _ _ us hl=>by obtain⟨u1,us,rfl,h1⟩:=lc hl; obtain⟨u2,us,rfl,h2⟩:=lc h1; cases Dq.mp h2; exact h _ _ _ _ _ _ u1 u2
theorem Cj {n a1 a2 a3:Str} {st:DF} (h:∀ (kV doc pm:Du) (an:Dw Dv) (cdv ct u1 u2 u3:Du),bindArgs (PySem.W.fnOf n n (ck st) (bK st) (ai st) .none kV doc pm an cdv ct) ⟨[u1,u2,u3],[]⟩=pure (List.zip [a1,a2,a3] [u1,u2,u3])):Bd n st [a1,a2,a3]:=λ_ _ _ _ _ _ us hl=>by obtain⟨u1,us,rfl,h1⟩:=lc hl; obtain⟨u2,us,rfl,h2⟩:=lc h1; obtain⟨u3,us,rfl,h3⟩:=lc h2; cases Dq.mp h3; exact h _ _ _ _ _ _ u1 u2 u3
theorem Ca {n a1 a2 a3 a4:Str} {st:DF} (h:∀ (kV doc pm:Du) (an:Dw Dv) (cdv ct u1 u2 u3 u4:Du),bindArgs (PySem.W.fnOf n n (ck st) (bK st) (ai st) .none kV doc pm an cdv ct) ⟨[u1,u2,u3,u4],[]⟩=pure (List.zip [a1,a2,a3,a4] [u1,u2,u3,u4])):Bd n st [a1,a2,a3,a4]:=λ_ _ _ _ _ _ us hl=>by obtain⟨u1,us,rfl,h1⟩:=lc hl; obtain⟨u2,us,rfl,h2⟩:=lc h1; obtain⟨u3,us,rfl,h3⟩:=lc h2; obtain⟨u4,us,rfl,h4⟩:=lc h3; cases Dq.mp h4; exact h _ _ _ _ _ _ u1 u2 u3 u4
inductive Bs (P:Dy) (w:DC) (base:DD):Prop where
 | mk:Bs P w base
section
variable {P:Dy} {w:DC} {K:Fg} {mg:Str->Dw Du} {base h:DD} {n:Str} {st:DF} {f:Dv} {cd:Du} {ps:List Str} {k:Nat}
theorem DI.own {F:bW} (d:DI K n st f cd) (_:Bs P w base) (X:K.In h) (G:h.Ns mainGlobals mg) (ok:∀ fd,qX K n n st f fd->fd.code=cd->aW P w K mg base cx k f fd ps (cO K F))
  (hb:Bd n st ps:=by first | exact B' λ_ _ _ _ _ _ _=>rfl | exact B8 λ_ _ _ _ _ _ _ _=>rfl | exact Cj λ_ _ _ _ _ _ _ _ _=>rfl | exact Ca λ_ _ _ _ _ _ _ _ _ _=>rfl | exact bd5 λ_ _ _ _ _ _ _ _ _ _ _=>rfl | exact bd6 λ_ _ _ _ _ _ _ _ _ _ _ _=>rfl | exact bd7 λ_ _ _ _ _ _ _ _ _ _ _ _ _=>rfl):bH P w K mg base n k F:=by
 obtain⟨lk⟩:=d.x;have Fn:=sF lk d.e d.k;exact bH.mk' Fn (ok _ Fn rfl) (PySem.W.mg_of X G d.a) (Fn.binds hb)
theorem DI.fn (d:DI K n st f cd) (hb:∀ (kV doc pm:Du) (an:Dw Dv) (ct v:Du),bindArgs (PySem.W.fnOf n n (ck st) (bK st) (ai st) .none kV doc pm an cd ct) ⟨[v],[]⟩=pure [(("script":Str),v)]:=by exact λ_ _ _ _ _ _=>rfl):∃ fd:FuncData,qX K n n st f fd/\fd.code=cd/\∀ (s:Dt) (v:Du),BindsTo s fd ⟨[v],[]⟩ [("script",v)]:=by
 obtain⟨lk⟩:=d.x;exact⟨_,sF lk d.e d.k,rfl,λs v=>.of_eq (hb _ _ _ _ _ v)⟩
end
end DL
namespace L2
open PySem PySem.Spec PyProof.Rows
inductive uK (h:DD):Dv->Dv->Prop
 | one {a b:Dv} {o:DP} {vs:DJ Du}:h.get? a=some o->o.data=.fields vs->vs[2]?=some (.ref b)->uK h a b
 | step {a b c:Dv} {o:DP} {vs:DJ Du}:h.get? a=some o->o.data=.fields vs->vs[2]?=some (.ref b)->uK h b c->uK h a c
end L2
namespace ST
open PySem PySem.SetTable PySem.Spec PyProof.Rows
structure HK (prog:Dy) (w:DC) (K:Type) [DecidableEq K] where
 is:(Dv->Prop)->DD->K->Dv->Prop
 hash:K->Int
 draws:K->Nat
 dep:Nat
 inj:∀ {V V':Dv->Prop} {h:DD} {x y:K} {a:Dv},is V h x a->is V' h y a->x=y
 own:∀ {V:Dv->Prop} {h:DD} {x:K} {a:Dv},is V h x a->V a
 keep:∀ {V:Dv->Prop} {h h':DD} {x:K} {a:Dv},is V h x a->(∀ b o,V b->h.get? b=some o->h'.get? b=some o)->is V h' x a
 pyHash:∀ {A:Dz} {E:Du->Dt->Prop} {s:Dt} {V:Dv->Prop} {k:K} {a:Dv} {Q:Int->Dt->Prop},A.units+2*dep < cLine->is V s.heap k a->Q (hash k) {s with toks:=s.toks+draws k}->wpAny (model prog w) A (PySem.pyHash (.ref a)) Q E s
 eqBool:∀ {A:Dz} {E:Du->Dt->Prop} {s:Dt} {V V':Dv->Prop} {x y:K} {a b:Dv} {Q:DM->Dt->Prop},A.units+2*dep < cLine->is V s.heap x a->is V' s.heap y b->Q (decide (x=y)) s->wpAny (model prog w) A (PySem.eqBool (.ref a) (.ref b)) Q E s
 quiet:∀ {A:Dz} {E:Du->Dt->Prop} {s:Dt} {V:Dv->Prop} {k:K} {a:Dv} {Q:DM->Dt->Prop} (n:Nat),dep < n->is V s.heap k a->Q true s->wpAny (model prog w) A (eqIsQuiet n (.ref a)) Q E s
 cls:∀ {A:Dz} {E:Du->Dt->Prop} {s:Dt} {V:Dv->Prop} {k:K} {a:Dv} {Q:DM->Dt->Prop} (n:Nat),dep < n->is V s.heap k a->Q false s->wpAny (model prog w) A (ofAClassStatement n (.ref a)) Q E s
 hby:∀ {A:Dz} {E:Du->Dt->Prop} {s:Dt} {V:Dv->Prop} {k:K} {a:Dv} {Q:DM->Dt->Prop} (n:Nat),dep < n->is V s.heap k a->(∀ c,Q c s)->wpAny (model prog w) A (hashByValue n (.ref a)) Q E s
section
variable {prog:Dy} {w:DC} {K:Type} [DecidableEq K] {knd:HK prog w K} {A:Dz} {E:Du->Dt->Prop} {s:Dt}
inductive on (knd:HK prog w K) (V:Dv->Prop) (h:DD):List K->List Du->Prop
 | nil:on knd V h [] []
 | cons {k:K} {a:Dv} {ks:List K} {vs:List Du}:knd.is V h k a->on knd V h ks vs->on knd V h (k::ks) (.ref a::vs)
def pO (knd:HK prog w K) (V:Dv->Prop) (h:DD) (ks:List K) (a:Dv):Prop:=V a/\∃ o items n,h.get? a=some o/\o.cls=.type "tuple"/\o.data=.seq items n/\on knd V h ks items.toList
theorem on.inj {V V':Dv->Prop} {h:DD} {x y:List K} {vs:List Du} (hx:on knd V h x vs) (hy:on knd V' h y vs):x=y:=by
 induction hx generalizing y with
 | nil=>cases hy; rfl
 | cons h1 _ ih=>
  cases hy with
  | cons h2 t2=>rw [knd.inj h1 h2,ih t2]
theorem on.keep {V:Dv->Prop} {h h':DD} {x:List K} {vs:List Du} (hx:on knd V h x vs) (hk:∀ b o,V b->h.get? b=some o->h'.get? b=some o):on knd V h' x vs:=by
 induction hx with
 | nil=>exact .nil
 | cons h1 _ ih=>exact .cons (knd.keep h1 hk) ih
theorem pO.typeIs {V:Dv->Prop} {ks:List K} {a:Dv} (x:pO knd V s.heap ks a):s.TypeIs (.ref a) "tuple":=by
 obtain⟨_,o,_,_,ho,hc,_⟩:=x;exact⟨o,ho,hc⟩
theorem pO.inj {V V':Dv->Prop} {h:DD} {x y:List K} {a:Dv} (hx:pO knd V h x a) (hy:pO knd V' h y a):x=y:=by
 obtain⟨_,o,items,n,ho,_,hd,hi⟩:=hx;obtain⟨_,o',items',n',ho',_,hd',hi'⟩:=hy;obtain rfl:o=o':=CS (ho.symm.trans ho');rw [hd] at hd';injection hd' with h1 _
 subst h1;exact hi.inj hi'
def ue (knd:HK prog w K) (ks:List K):Int:=reduceHash (Builtin.Tuple.tupleHashOf (ks.map knd.hash))
def Bh (knd:HK prog w K) (ks:List K):Nat:=(ks.map knd.draws).sum+1
theorem x4 {V:Dv->Prop} {ks:List K} {a:Dv} {Q:Int->Dt->Prop} (hu:A.units+2*(knd.dep+1) < cLine) (hk:pO knd V s.heap ks a) (h:Q (ue knd ks) {s with toks:=s.toks+Bh knd ks}):wpAny (model prog w) A (PySem.pyHash (.ref a)) Q E s:=by
 have hT:=hk.typeIs;obtain⟨_,o,items,n,ho,_,hd,hi⟩:=hk;unfold PySem.pyHash
 first | unfold pyHashByItsType | skip
 first | refine gt (wpAny_cRoomFor_or (.inr (by omega)) ?_) | skip
 refine gt (wpAny_specialOf hT F.slot_tuple_hash.lookup ?_)
 show wpAny _ _ (if (some (Value.builtin "tuple.__hash__") == some Value.none)=true then _ else _) Q E s
 rw [if_neg (by rw [beq_builtin_none]; exact Cw)]
 refine gt (wpAny_specialOf hT F.slot_tuple_hash.lookup ?_)
 show wpAny _ _ (callSpecialIfBoundUnlessNone? (.ref a) "__hash__" _ >>= _) Q E s
 refine gt (wpAny_callSpecialIfBoundUnlessNone?_slot hT F.slot_tuple_hash (C_ F.slot_tuple_hash hT F.entry_tuple_hash ?_ (F.args_tuple_hash_1 _)))
 show wpAny _ _ (Builtin.Tuple.tupleItemsOf (.ref a) >>= _) _ _ s
 refine gt (wpAny_tupleItemsOf ho hd ?_);refine gt ?_;rw [<- Array.forIn_toList];refine wpAny_forIn_list _
  (λbn (b:DJ Int) s'=>∃ done left,ks=done++left/\on knd V s.heap left bn/\b.toList=done.map knd.hash/\s'={s with toks:=s.toks+(done.map knd.draws).sum})
  _ ?_ ?_ _ _ ⟨[],ks,rfl,hi,rfl,rfl⟩
 ·rintro x bn b s' ⟨done,left,rfl,hl,hb,rfl⟩;cases hl with
  | @cons k a' ks' _ h1 hl'=>
   refine gt (knd.pyHash (by have:A.in1.units=A.units+1:=rfl; omega) h1 ?_)
   first
    | exact Cp ⟨done++[k],ks',by simp,hl',by simp [hb],by simp [Nat.add_assoc]⟩
    | exact gt (Cp (Cp ⟨done++[k],ks',by simp,hl',by simp [hb],by simp [Nat.add_assoc]⟩))
 ·rintro b s' ⟨done,left,rfl,hl,hb,rfl⟩;cases hl;rw [CL] at h
  show wpAny _ _ (retInt (Builtin.Tuple.tupleHashOf b.toList)) _ _ _
  rw [hb];refine wpAny_ret_mkInt ?_
  show wpAny _ _ (if (decide (-(2:Int) ^ 63<=Builtin.Tuple.tupleHashOf (done.map knd.hash)) && decide (Builtin.Tuple.tupleHashOf (done.map knd.hash) < 2 ^ 63))=true then _ else _) Q E _
  unfold ue reduceHash Bh at h
  by_cases hr:(decide (-(2:Int) ^ 63<=Builtin.Tuple.tupleHashOf (done.map knd.hash)) && decide (Builtin.Tuple.tupleHashOf (done.map knd.hash) < 2 ^ 63))=true
  ·rw [if_pos hr];rw [if_pos hr] at h;exact Cp (by simpa [Nat.add_assoc] using h)
  ·rw [if_neg hr];rw [if_neg hr] at h;exact gt (wpAny_rule (Cp (by simpa [Nat.add_assoc] using h)))
theorem tZ {V V':Dv->Prop} {x y:List K} {a b:Dv} {P:Fin->Dt->Prop} (hu:A.units+2*knd.dep < cLine) (hx:pO knd V s.heap x a) (hy:pO knd V' s.heap y b) (h:P (.done (.ret (.bool (decide (x=y))))) s):
  wpAny (model prog w) A (Builtin.«tuple.__eq__» ⟨[.ref a,.ref b],[]⟩) P E s:=by
 have hTb:=hy.typeIs;obtain⟨_,oa,xs,na,hoa,_,hda,hia⟩:=hx;obtain⟨_,ob,ys,nb,hob,_,hdb,hib⟩:=hy
 show wpAny _ _ (isInstance (.ref b) (.type "tuple") >>= _) _ _ s
 refine gt (wpAny_isInstance hTb isSubtype_tuple_tuple ?_);simp only [Bool.not_true,Do,if_false];refine gt (wpAny_tupleItemsOf hoa hda ?_);refine gt (wpAny_tupleItemsOf hob hdb ?_);refine gt ?_;refine wpAny_forIn_list _
  (λbn r s'=>r.1=none/\s'=s/\∃ x' y' xs' ys',bn=List.zip xs' ys'/\on knd V s.heap x' xs'/\on knd V' s.heap y' ys'/\decide (x'=y')=decide (x=y)/\(xs'.length == ys'.length)=(xs.size == ys.size))
  _ ?_ ?_ _ _ ⟨rfl,rfl,x,y,xs.toList,ys.toList,rfl,hia,hib,rfl,by simp⟩
 ·rintro⟨u,v⟩ bn r s' ⟨hr,rfl,x',y',xs',ys',hz,hx',hy',hdec,hlen⟩;cases hx' with
  | nil=>simp at hz
  | @cons k1 u' x'' xs'' h1 hx''=>
   cases hy' with
   | nil=>simp at hz
   | @cons k2 v' y'' ys'' h2 hy''=>
    simp only [List.zip_cons_cons,List.cons.injEq,Prod.mk.injEq] at hz;obtain⟨⟨rfl,rfl⟩,rfl⟩:=hz;refine gt (knd.eqBool hu h1 h2 ?_)
    by_cases hk:k1=k2
    ·subst hk;rw [decide_eq_true rfl];simp only [Bool.not_true,Do,if_false];refine Cp ⟨rfl,rfl,x'',y'',xs'',ys'',rfl,hx'',hy'',?_,by simpa using hlen⟩
     rw [<- hdec]
     by_cases hxy:x''=y''
     ·simp [hxy]
     ·simp [hxy]
    ·rw [Dc hk];simp only [Bool.not_false,if_true];have hf:decide (x=y)=false:=by rw [<- hdec]; simp [hk]
     rw [hf] at h;exact gt (Cp (Cp (Cp h)))
 ·rintro⟨r1,r2⟩ s' ⟨hr,rfl,x',y',xs',ys',hz,hx',hy',hdec,hlen⟩;simp only at hr;subst hr;refine Cp ?_;have hfin:(xs.size == ys.size)=decide (x=y):=by
   rw [<- hdec,<- hlen];cases hx' with
   | nil=>
    cases hy' with
    | nil=>simp
    | cons _ _=>simp
   | cons _ _=>
    cases hy' with
    | nil=>simp
    | cons _ _=>simp at hz
  show P (.done (.ret (.bool (xs.size == ys.size)))) s'
  rw [hfin]; exact h
theorem A8 {V V':Dv->Prop} {x y:List K} {a b:Dv} {Q:DM->Dt->Prop} (hu:A.units+2*(knd.dep+1) < cLine) (hx:pO knd V s.heap x a) (hy:pO knd V' s.heap y b) (h:Q (decide (x=y)) s):wpAny (model prog w) A (PySem.eqBool (.ref a) (.ref b)) Q E s:=by
 unfold PySem.eqBool
 try with_reducible refine CN ?_
 show wpAny _ _ (if (Value.ref a == Value.ref b)=true then _ else _) Q E s
 by_cases hab:(Value.ref a == Value.ref b)=true
 ·rw [if_pos hab];have e:a=b:=by have:=eq_of_beq hab; injection this
  subst e;obtain rfl:=hx.inj hy;exact gt (wpAny_rule (Cp (by simpa using h)))
 ·rw [if_neg hab];exact gt (wpAny_richCompare_same_room (op:=.Eq) hx.typeIs hy.typeIs F.slot_tuple_eq
   (C_ F.slot_tuple_eq hx.typeIs F.entry_tuple_eq (tZ (by have:A.in1.units=A.units+1:=rfl; omega) hx hy ⟨_,rfl,(λe=>nomatch e),wpAny_truthy_bool h⟩) (F.args_tuple_eq_2 _ _)) (by omega))
theorem on.mem {V:Dv->Prop} {h:DD} {x:List K} {vs:List Du} (hx:on knd V h x vs):∀ v∈vs,∃ k a,v=.ref a/\knd.is V h k a:=by
 induction hx with
 | nil=>intro v hv; cases hv
 | cons h1 _ ih=>
  intro v hv;rcases Cz.mp hv with rfl | hv
  ·exact⟨_,_,rfl,h1⟩
  ·exact ih v hv
theorem vV {V:Dv->Prop} {ks:List K} {a:Dv} {Q:DM->Dt->Prop} (n:Nat) (hn:knd.dep+1 < n) (hk:pO knd V s.heap ks a) (h:Q true s):wpAny (model prog w) A (eqIsQuiet n (.ref a)) Q E s:=by
 have hT:=hk.typeIs;obtain⟨_,o,items,m,ho,_,hd,hi⟩:=hk;cases n with
 | zero=>omega
 | succ n=>
  unfold eqIsQuiet;refine gt (wpAny_specialOf hT F.slot_tuple_eq.lookup ?_)
  show wpAny _ _ (isInstance (.ref a) (.type "tuple") >>= _) _ _ s
  refine gt (wpAny_isInstance hT isSubtype_tuple_tuple ?_);simp only [Bool.not_true,Do,if_false];refine gt (CT ho hd ?_);refine gt ?_
  show wpAny _ _ (forIn items _ _) _ _ s
  rw [<- Array.forIn_toList];refine wpAny_forIn_list _ (λbn r s'=>r.1=none/\s'=s/\∀ v∈bn,∃ k a,v=.ref a/\knd.is V s.heap k a) _ ?_ ?_ _ _ ⟨rfl,rfl,hi.mem⟩
  ·rintro v bn r s' ⟨hr,rfl,hall⟩;obtain⟨k,b,rfl,hb⟩:=hall _ CB;refine gt (knd.quiet n (by omega) hb ?_)
   simp only [Bool.not_true,Do,if_false];exact Cp ⟨rfl,rfl,λu hu'=>hall u (CC _ hu')⟩
  ·rintro⟨r1,r2⟩ s' ⟨hr,rfl,_⟩;simp only at hr;subst hr;exact Cp h
theorem z_ {V:Dv->Prop} {ks:List K} {a:Dv} {Q:DM->Dt->Prop} (n:Nat) (hn:knd.dep+1 < n) (hk:pO knd V s.heap ks a) (h:Q false s):wpAny (model prog w) A (ofAClassStatement n (.ref a)) Q E s:=by
 have hT:=hk.typeIs;obtain⟨_,o,items,m,ho,_,hd,hi⟩:=hk;cases n with
 | zero=>omega
 | succ n=>
  unfold ofAClassStatement;refine gt (wpAny_typeOf hT ?_);dsimp only;refine gt (Cp ?_);simp only [Bool.not_true,Do,if_false];refine gt (CT ho hd ?_);refine gt ?_
  show wpAny _ _ (forIn items _ _) _ _ s
  rw [<- Array.forIn_toList];refine wpAny_forIn_list _ (λbn r s'=>r.1=none/\s'=s/\∀ v∈bn,∃ k a,v=.ref a/\knd.is V s.heap k a) _ ?_ ?_ _ _ ⟨rfl,rfl,hi.mem⟩
  ·rintro v bn r s' ⟨hr,rfl,hall⟩;obtain⟨k,b,rfl,hb⟩:=hall _ CB;refine gt (knd.cls n (by omega) hb ?_)
   simp only [Do,if_false];exact Cp ⟨rfl,rfl,λu hu'=>hall u (CC _ hu')⟩
  ·rintro⟨r1,r2⟩ s' ⟨hr,rfl,_⟩;simp only at hr;subst hr;exact Cp h
theorem yK {V:Dv->Prop} {ks:List K} {a:Dv} {Q:DM->Dt->Prop} (n:Nat) (hn:knd.dep+1 < n) (hk:pO knd V s.heap ks a) (h:∀ c,Q c s):wpAny (model prog w) A (hashByValue n (.ref a)) Q E s:=by
 have hT:=hk.typeIs;obtain⟨_,o,items,m,ho,_,hd,hi⟩:=hk;cases n with
 | zero=>omega
 | succ n=>
  unfold hashByValue;refine gt (wpAny_specialOf hT F.slot_tuple_hash.lookup ?_);dsimp only;refine gt (CT ho hd ?_);dsimp only [Option.getD_some];refine gt ?_
  show wpAny _ _ (forIn items _ _) _ _ s
  rw [<- Array.forIn_toList];refine wpAny_forIn_list _ (λbn r s'=>s'=s/\∀ v∈bn,∃ k a,v=.ref a/\knd.is V s.heap k a) _ ?_ ?_ _ _ ⟨rfl,hi.mem⟩
  ·rintro v bn r s' ⟨rfl,hall⟩;obtain⟨k,b,rfl,hb⟩:=hall _ CB;refine gt (knd.hby n (by omega) hb λc=>?_)
   cases c with
   | true=>
    simp only [Bool.not_true,Do,if_false];exact Cp ⟨rfl,λu hu'=>hall u (CC _ hu')⟩
   | false=>
    simp only [Bool.not_false,if_true];exact Cp (Cp (h false))
  ·rintro⟨r1,r2⟩ s' ⟨rfl,_⟩;cases r1 with
   | none=>exact Cp (h true)
   | some c=>exact Cp (h c)
end
def jY {prog:Dy} {w:DC} {K:Type} [DecidableEq K] (knd:HK prog w K):HK prog w (List K) where
 is:=pO knd
 hash:=ue knd
 draws:=Bh knd
 dep:=knd.dep+1
 inj:=λhx hy=>hx.inj hy
 own:=λhx=>hx.1
 keep:=λhx hk=>⟨hx.1,by obtain⟨v,o,items,n,ho,hc,hd,hi⟩:=hx; exact⟨o,items,n,hk _ _ v ho,hc,hd,hi.keep hk⟩⟩
 pyHash:=λhu hk h=>x4 hu hk h
 eqBool:=λhu hx hy h=>A8 hu hx hy h
 quiet:=λn hn hk h=>vV n hn hk h
 cls:=λn hn hk h=>z_ n hn hk h
 hby:=λn hn hk h=>yK n hn hk h
end ST
namespace ST
section
open PySem PySem.SetTable PySem.Spec PyProof.Rows
variable {prog:Dy} {w:DC} {A:Dz} {E:Du->Dt->Prop} {s:Dt}
def BX (prog:Dy) (w:DC) (V:Dv->Prop) (h:DD) (ks:List Int) (a:Dv):Prop:=V a/\IsTupleKey (intKind prog w) h ks a
theorem wb {ks:List Int} {a:Dv} {Q:DM->Dt->Prop} (n:Nat) (hn:0 < n) (hk:IsTupleKey (intKind prog w) s.heap ks a) (h:Q true s):wpAny (model prog w) A (eqIsQuiet n (.ref a)) Q E s:=by
 have hT:=hk.typeIs;obtain⟨o,items,m,ho,_,hd,hi⟩:=hk;cases n with
 | zero=>omega
 | succ n=>
  unfold eqIsQuiet;refine gt (wpAny_specialOf hT F.slot_tuple_eq.lookup ?_)
  show wpAny _ _ (isInstance (.ref a) (.type "tuple") >>= _) _ _ s
  refine gt (wpAny_isInstance hT isSubtype_tuple_tuple ?_);simp only [Bool.not_true,Do,if_false];refine gt (CT ho hd ?_);refine gt ?_
  show wpAny _ _ (forIn items _ _) _ _ s
  rw [<- Array.forIn_toList];refine wpAny_forIn_list _ (λbn r s'=>r.1=none/\s'=s/\∀ v∈bn,carriedByValue v=true) _ ?_ ?_ _ _ ⟨rfl,rfl,hi.byValue⟩
  ·rintro v bn r s' ⟨hr,rfl,hall⟩;rw [eqIsQuiet_byValue _ (hall v CB)];refine gt (Cp ?_);simp only [Bool.not_true,Do,if_false];exact Cp ⟨rfl,rfl,λu hu'=>hall u (CC _ hu')⟩
  ·rintro⟨r1,r2⟩ s' ⟨hr,rfl,_⟩;simp only at hr;subst hr;exact Cp h
theorem zV {ks:List Int} {a:Dv} {Q:DM->Dt->Prop} (n:Nat) (hn:0 < n) (hk:IsTupleKey (intKind prog w) s.heap ks a) (h:Q false s):wpAny (model prog w) A (ofAClassStatement n (.ref a)) Q E s:=by
 have hT:=hk.typeIs;obtain⟨o,items,m,ho,_,hd,hi⟩:=hk;cases n with
 | zero=>omega
 | succ n=>
  unfold ofAClassStatement;refine gt (wpAny_typeOf hT ?_);dsimp only;refine gt (Cp ?_);simp only [Bool.not_true,Do,if_false];refine gt (CT ho hd ?_);refine gt ?_
  show wpAny _ _ (forIn items _ _) _ _ s
  rw [<- Array.forIn_toList];refine wpAny_forIn_list _ (λbn r s'=>r.1=none/\s'=s/\∀ v∈bn,carriedByValue v=true) _ ?_ ?_ _ _ ⟨rfl,rfl,hi.byValue⟩
  ·rintro v bn r s' ⟨hr,rfl,hall⟩;rw [io _ (hall v CB)];refine gt (Cp ?_);simp only [Do,if_false];exact Cp ⟨rfl,rfl,λu hu'=>hall u (CC _ hu')⟩
  ·rintro⟨r1,r2⟩ s' ⟨hr,rfl,_⟩;simp only at hr;subst hr;exact Cp h
theorem An {ks:List Int} {a:Dv} {Q:DM->Dt->Prop} (n:Nat) (hn:0 < n) (hk:IsTupleKey (intKind prog w) s.heap ks a) (h:∀ c,Q c s):wpAny (model prog w) A (hashByValue n (.ref a)) Q E s:=by
 have hT:=hk.typeIs;obtain⟨o,items,m,ho,_,hd,hi⟩:=hk;cases n with
 | zero=>omega
 | succ n=>
  unfold hashByValue;refine gt (wpAny_specialOf hT F.slot_tuple_hash.lookup ?_);dsimp only;refine gt (CT ho hd ?_);dsimp only [Option.getD_some];refine gt ?_
  show wpAny _ _ (forIn items _ _) _ _ s
  rw [<- Array.forIn_toList];refine wpAny_forIn_list _ (λbn r s'=>s'=s/\∀ v∈bn,carriedByValue v=true) _ ?_ ?_ _ _ ⟨rfl,hi.byValue⟩
  ·rintro v bn r s' ⟨rfl,hall⟩;obtain⟨c,hc⟩:=jM n (hall v CB);rw [hc];refine gt (Cp ?_);cases c with
   | true=>
    simp only [Bool.not_true,Do,if_false];exact Cp ⟨rfl,λu hu'=>hall u (CC _ hu')⟩
   | false=>
    simp only [Bool.not_false,if_true];exact Cp (Cp (h false))
  ·rintro⟨r1,r2⟩ s' ⟨rfl,_⟩;cases r1 with
   | none=>exact Cp (h true)
   | some c=>exact Cp (h c)
end
def qm (prog:PySem.Program) (w:PySem.World):HK prog w (List Int) where
 is:=BX prog w
 hash:=PySem.tupleKeyHash (PySem.intKind prog w)
 draws:=λks=>ks.length+1
 dep:=0
 inj:=λhx hy=>hx.2.inj hy.2
 own:=λhx=>hx.1
 keep:=λhx hk=>⟨hx.1,by obtain⟨v,o,items,n,ho,r⟩:=hx; exact⟨o,items,n,hk _ _ v ho,r⟩⟩
 pyHash:=λhu hk h=>PySem.wpAny_pyHash_tuple (by omega) hk.2 h
 eqBool:=λhu hx hy h=>PySem.wpAny_eqBool_tuple (by omega) hx.2 hy.2 h
 quiet:=λn hn hk h=>wb n hn hk.2 h
 cls:=λn hn hk h=>zV n hn hk.2 h
 hby:=λn hn hk h=>An n hn hk.2 h
end ST
namespace SU
open PySem PySem.SetTable PySem.Spec PyProof.Rows ST
section
variable {prog:Dy} {w:DC} {K:Type} [DecidableEq K] {knd:HK prog w K} {V:Dv->Prop} {A:Dz} {E:Du->Dt->Prop} {s:Dt}
theorem s9 {h h':DD} {k:K} {a d:Dv} (hV:∀ b,V b->b≠d) (x:knd.is V h k a) (sb:Heap.SameBut d h h'):knd.is V h' k a:=knd.keep x λb o vb e=>by rw [sb.2 b (hV b vb)]; exact e
theorem iY (h8:knd.dep < 8) {k:K} {a:Dv} {ys:List Du} {Q:DM->Dt->Prop} (hk:knd.is V s.heap k a) (hy:∀ y∈ys,∃ b k',y=.ref b/\knd.is V s.heap k' b) (h:Q false s):wpAny (model prog w) A (searchCouldBeSeen (.ref a) ys) Q E s:=by
 unfold searchCouldBeSeen;refine gt ?_;refine wpAny_forIn_list _ (λbn r s'=>r.1=none/\s'=s/\∀ y∈bn,∃ b k',y=.ref b/\knd.is V s.heap k' b) _ ?_ ?_ _ _ ⟨rfl,rfl,hy⟩
 ·rintro y bn r s' ⟨hr,rfl,hall⟩;obtain⟨b,k',rfl,hb⟩:=hall _ CB;have tl:∀ y∈bn,∃ b k',y=.ref b/\knd.is V s'.heap k' b:=λu hu'=>hall u (CC _ hu')
  dsimp only
  split
  ·exact Cp ⟨rfl,rfl,tl⟩
  ·refine gt (knd.quiet 8 h8 hk ?_);simp only [Bool.not_true,Do,if_false];refine gt (knd.quiet 8 h8 hb ?_);simp only [Bool.not_true,Do,if_false];refine gt (knd.cls 8 h8 hk ?_);simp only [Do,if_false];refine gt (knd.cls 8 h8 hb ?_);simp only [Do,if_false];exact Cp ⟨rfl,rfl,tl⟩
 ·rintro⟨r1,r2⟩ s' ⟨hr,rfl,_⟩;simp only at hr;subst hr;exact Cp h
def rm (knd:HK prog w K) (x:K×Dv):Int×Du:=(knd.hash x.1,.ref x.2)
structure fU (knd:HK prog w K) (V:Dv->Prop) (h:DD) (a:Dv) (o:DP) (es:DJ (Int×Du)) (ep:Nat) (t:SetTable) (xs:List (K×Dv)):Prop where
 get:h.get? a=some o
 ex:o.ExactSet
 data:o.data=.set es ep t
 ent:es.toList=xs.map (rm knd)
 is:∀ x∈xs,knd.is V h x.1 x.2
 ti:TI t (xs.map λx=>knd.hash x.1)
 lax:wL t
theorem fU.size {h:DD} {a:Dv} {o:DP} {es:DJ (Int×Du)} {ep:Nat} {t:SetTable} {xs:List (K×Dv)} (S:fU knd V h a o es ep t xs):es.size=xs.length:=by
 rw [<- Dl,S.ent,Cv]
theorem fU.len {h:DD} {a:Dv} {o:DP} {es:DJ (Int×Du)} {ep:Nat} {t:SetTable} {xs:List (K×Dv)} (S:fU knd V h a o es ep t xs):xs.length<=t.mask:=by
 have h1:=S.lax;have h2:=S.ti.sz;unfold wL at h1;rw [Cv] at h2;omega
theorem fU.fits {h:DD} {a:Dv} {o:DP} {es:DJ (Int×Du)} {ep:Nat} {t:SetTable} {xs:List (K×Dv)} (S:fU knd V h a o es ep t xs):t.fits es.size=true:=by
 rw [S.size];have:=S.ti.fits (by rw [Cv]; exact S.len)
 rwa [Cv] at this
theorem fU.at {h:DD} {a:Dv} {o:DP} {es:DJ (Int×Du)} {ep:Nat} {t:SetTable} {xs:List (K×Dv)} (S:fU knd V h a o es ep t xs) (i:Nat):es[i]?=(xs[i]?).map (rm knd):=by
 rw [<- Array.getElem?_toList,S.ent,CQ]
theorem lw (h8:knd.dep < 8) {a:Dv} {o:DP} {es:DJ (Int×Du)} {ep:Nat} {t:SetTable} {xs:List (K×Dv)} (hu:A.units+2*knd.dep < cLine) (S:fU knd V s.heap a o es ep t xs) {k:K} {b:Dv} (hk:knd.is V s.heap k b) {N:Nat} (hN:¬ On t (sq t.mask (knd.hash k) N).j) (hl:∀ m,m < N->On t (sq t.mask (knd.hash k) m).j) (hb:N<=10*(t.mask+13)) {Q:SetFound->Dt->Prop}
  (hq:(k∈xs.map (·.1)->Q (.there none) s)/\(k∉xs.map (·.1)->Q (.free (sq t.mask (knd.hash k) N).j false) s)):
  ∀ (f m:Nat) (st:Dw Probe),m<=N->N - m < f->st.getD (t.probeStart (knd.hash k))=sq t.mask (knd.hash k) m->(∀ (m' i:Nat) (x:K×Dv),m' < m->t.place[i]?=some (sq t.mask (knd.hash k) m').j->xs[i]?=some x->x.1≠k)->
   wpAny (model prog w) A (setSearchFrom a (.ref b) (knd.hash k) true f st) Q E s
 | 0,m,st,_,hf,_,_=>by omega
 | f+1,m,st,hm,hf,hst,hbef=>by
  unfold setSearchFrom;refine gt (wpAny_setState_of S.get S.data S.fits ?_);dsimp only;rw [S.ti.odd];simp only [Do,if_false];rw [hst];have sh:∀ {i:Nat} {x:K×Dv},xs[i]?=some x->(es[i]?.map (·.1)).getD 0=knd.hash x.1:=λ{i x} e=>by rw [S.at,e]; rfl
  have pg:=nF S.ti.dm S.ti.ris (ha:=λi=>(es[i]?.map (·.1)).getD 0) hN hl (10*turns t.mask) m hm (by unfold turns; omega)
  generalize hp:SetTable.probe t _ (knd.hash k) (sq t.mask (knd.hash k) m)=pr;have hp2:SetTable.probe.go t (λi=>(es[i]?.map (·.1)).getD 0) (knd.hash k) (10*turns t.mask) (sq t.mask (knd.hash k) m)=pr:=hp
  have ix:∀ {i j:Nat},t.place[i]?=some j->∃ x,xs[i]?=some x:=λ{i j} e=>by
   have h1:=(Array.getElem?_eq_some_iff.mp e).1;have h2:=S.ti.sz;rw [Cv] at h2;exact⟨xs[i]'(by omega),by simp [show i < xs.length by omega]⟩
  rcases pg with ⟨m',i,g1,g2,g3,g4,g5,g6⟩ | ⟨g5,g6⟩
  ·rw [g6] at hp2;subst hp2;dsimp only;obtain⟨x,hx⟩:=ix g3;have hxm:=List.mem_of_getElem? hx;have he:es[i]?=some (knd.hash x.1,.ref x.2):=by rw [S.at,hx]; rfl
   have sm:t.sameMemory t.moves t.mask=some true:=by unfold SetTable.sameMemory; rw [if_pos (by simp)]
   have rec':=λne:x.1≠k=>lw h8 hu S hk hN hl hb hq f (m'+1) (some (sq t.mask (knd.hash k) (m'+1))) (by omega) (by omega) rfl (λm2 i2 x2 q1 q2 q3=>by
    rcases Nat.lt_trichotomy m2 m with z | z | z
    ·exact hbef m2 i2 x2 z q2 q3
    ·by_cases y:m2=m'
     ·subst y;have e1:=du S.ti.ris q2;have e2:=du S.ti.ris g3;have:i2=i:=by omega
      subst this;rw [hx] at q3;cases q3;exact ne
     ·exact λy2=>g5 m2 i2 (by omega) (by omega) q2 (by rw [sh q3,y2])
    ·by_cases y:m2=m'
     ·subst y;have e1:=du S.ti.ris q2;have e2:=du S.ti.ris g3;have:i2=i:=by omega
      subst this;rw [hx] at q3;cases q3;exact ne
     ·exact λy2=>g5 m2 i2 (by omega) (by omega) q2 (by rw [sh q3,y2]))
   have stored:∀ y∈(es.filter (λe=>e.1 == knd.hash k)).toList.map (·.2),∃ b k',y=.ref b/\knd.is V s.heap k' b:=λy hy=>by
    obtain⟨e,he2,rfl⟩:=Cu.mp hy;have he3:e∈es.toList:=by
     have:=Array.mem_toList_iff.mp he2;exact Array.mem_toList_iff.mpr (Array.mem_filter.mp this).1
    rw [S.ent] at he3;obtain⟨x',hx',rfl⟩:=Cu.mp he3;exact⟨x'.2,x'.1,rfl,S.is x' hx'⟩
   cases hled:t.led with
   | true=>
    simp only [Bool.not_true,Do,if_false];rw [he];dsimp only;refine gt (CN (knd.eqBool hu (S.is x hxm) hk ?_));refine gt (wpAny_setState_of S.get S.data S.fits ?_);dsimp only
    by_cases e:x.1=k
    ·rw [decide_eq_true e];simp only [Bool.and_self,if_true];exact Cp (hq.1 (Cu.mpr ⟨x,hxm,e⟩))
    ·rw [Dc e];simp only [Bool.and_false,Do,if_false];rw [sm];dsimp only;rw [if_pos rfl,iC S.ti.ris g3];dsimp only;rw [he];dsimp only;refine gt (wpAny_isSame_ref_self ?_);refine gt (Cp ?_);simp only [if_true];exact rec' e
   | false=>
    simp only [Bool.not_false,if_true];refine gt (iY h8 hk stored ?_);simp only [Do,if_false];rw [he];dsimp only;refine gt (CN (knd.eqBool hu (S.is x hxm) hk ?_));refine gt (wpAny_setState_of S.get S.data S.fits ?_);dsimp only
    by_cases e:x.1=k
    ·rw [decide_eq_true e];simp only [Bool.and_self,if_true];exact Cp (hq.1 (Cu.mpr ⟨x,hxm,e⟩))
    ·rw [Dc e];simp only [Bool.and_false,Do,if_false];rw [sm];dsimp only;rw [if_pos rfl,iC S.ti.ris g3];dsimp only;rw [he];dsimp only;refine gt (wpAny_isSame_ref_self ?_);refine gt (Cp ?_);simp only [if_true];exact rec' e
  ·rw [g6] at hp2;subst hp2;dsimp only;refine Cp (hq.2 λhmem=>?_)
   obtain⟨x,hxm,e⟩:=Cu.mp hmem;obtain⟨i,hi⟩:=List.mem_iff_getElem?.mp hxm;have hsz:=S.ti.sz;rw [Cv] at hsz;have hlt:i < t.place.size:=by
    have:=(CW.mp hi).1;omega
   have hpl:t.place[i]?=some t.place[i]:=by simp [hlt]
   obtain⟨m2,q1,q2⟩:=S.ti.met (h:=knd.hash k) (i:=i) (j:=t.place[i]) hN (by rw [CQ,hi]; show some (knd.hash x.1)=_; rw [e]) hpl
   rw [<- q2] at hpl
   by_cases z:m2 < m
   ·exact hbef m2 i x z hpl hi e
   ·exact g5 m2 i (by omega) q1 hpl (by rw [sh hi,e])
theorem fU.store {h:DD} {a:Dv} (hV:∀ b,V b->b≠a) {o:DP} {es:DJ (Int×Du)} {ep:Nat} {t:SetTable} {xs':List (K×Dv)} {es':DJ (Int×Du)} {t':SetTable} (ho:h.get? a=some o) (hex:o.ExactSet) (hd:o.data=.set es ep t) (he:es'.toList=xs'.map (rm knd)) (hi:∀ x∈xs',knd.is V h x.1 x.2) (T:TI t' (xs'.map λx=>knd.hash x.1)) (hl:wL t'):
  fU knd V (h.update a (Obj.putSet es' t')) a {o with data:=.set es' (ep+1) t'} es' (ep+1) t' xs':=by
 have hg:(h.update a (Obj.putSet es' t')).get? a=some {o with data:=.set es' (ep+1) t'}:=by
  have:=Heap.get?_update_self (Obj.putSet es' t') ho (by rw [putSet_of es' t' hd]; rfl)
  rw [putSet_of es' t' hd] at this;exact this
 exact⟨hg,hex,rfl,he,λx hx=>s9 hV (hi x hx) (Ds h a _),T,hl⟩
theorem sY {a:Dv} (hV:∀ b,V b->b≠a) {o:DP} {es:DJ (Int×Du)} {ep:Nat} {t:SetTable} {xs:List (K×Dv)} {n:Nat} (ho:s.heap.get? a=some o) (hex:o.ExactSet) (hd:o.data=.set es ep t) (he:es.toList=xs.map (rm knd)) (hi:∀ x∈xs,knd.is V s.heap x.1 x.2) (hf:t.fits es.size=true) (hx:xs.length=n+1) (M:m5 (sizeAbove (grown (n+1)) - 1)) (hl:(n+1)*5 < (sizeAbove (grown (n+1)) - 1)*3) {Q:Unit->Dt->Prop}
  (h:∀ h' o' es' ep' t' xs',Heap.SameBut a s.heap h'->fU knd V h' a o' es' ep' t' xs'->xs'.length=xs.length->(∀ x,x∈xs'↔x∈xs)->Q () {s with heap:=h'}):wpAny (model prog w) A (setRelay a (grown (n+1))) Q E s:=by
 have hes:es.size=n+1:=by rw [<- Dl,he,Cv,hx]
 obtain⟨t',order,l1,l2,l3,l4,l5,l6,l7,l8,l9⟩:=vA M t.finger (t.movedTo (sizeAbove (grown (n+1)) - 1)) t.led t.plain (es.map (·.1)) (by rw [Array.size_map,hes]; omega)
 rw [Array.size_map] at l7 l8 l9
 have hmap:(es.map (·.1)).toList=xs.map λx=>knd.hash x.1:=by
  rw [Array.toList_map,he,C3]
  rfl
 rw [hmap,t4 (by rw [hx,<- hes]; exact l8)] at l2
 have e1:(order.filterMap (es[·]?)).toList=(order.toList.filterMap λk=>xs[k]?).map (rm knd):=by
  rw [Array.toList_filterMap,List.map_filterMap]
  congr 1
  funext k
  rw [<- Array.getElem?_toList,he,CQ]
 have len:(order.toList.filterMap λk=>xs[k]?).length=n+1:=by
  rw [tY (n:=n+1) hx (by rw [<- hes]; exact l8),Dl,l7,hes]
 have sz:(order.filterMap (es[·]?)).size=n+1:=by rw [<- Dl,e1,Cv,len]
 have mem:∀ x,x∈(order.toList.filterMap λk=>xs[k]?)↔x∈xs:=λx=>by
  rw [List.mem_filterMap]
  constructor
  ·rintro⟨k,_,h2⟩;exact List.mem_of_getElem? h2
  ·intro h2;obtain⟨k,hk⟩:=List.mem_iff_getElem?.mp h2;exact⟨k,l9 k (by rw [hes,<- hx]; exact(CW.mp hk).1),hk⟩
 have lx:wL t':=by
  unfold wL;have:=l2.sz;rw [Cv,len] at this;rw [this,l3];exact hl
 unfold setRelay;refine gt (wpAny_setState_of ho hd hf ?_);dsimp only;rw [if_neg (by
  have:sizeAbove (grown (n+1))<=128:=by rcases M with z | z | z <;> omega
  exact Nat.not_lt.mpr (CZ this (CJ (rfl:Nat.ble 128 sizeLine=true))))]
 refine gt ?_;have rl:t.relaid (es.map (·.1)) (grown (n+1))=some (t',order):=l1;rw [rl];have ro:∀ R:DJ (Int×Du)×SetTable->Dt->Prop,R (order.filterMap (es[·]?),t') s->wpAny (model prog w) A (do
   let some (t,order):=some (t',order) | unsupported "internal:set-table-without-room"
   let es':=order.filterMap (es[·]?)
   if es'.size != es.size then unsupported "internal:set-table-lost-an-element"
   pure (es',t)) R E s:=λR hR=>by
  dsimp only;rw [sz,hes];simp only [bne_self_eq_false,Do,if_false];exact Cp hR
 refine ro _ ?_;refine wpAny_storeSet_of ho hd ?_ (by rw [sz]; have:=hl; exact CZ (show n+1<=128 by rcases M with z | z | z <;> omega) (CJ (rfl:Nat.ble 128 sizeLine=true)))
 exact h _ _ _ _ _ _ (Ds s.heap a _) (fU.store hV ho hex hd e1 (λx hx=>hi x ((mem x).mp hx)) l2 lx) (by rw [len,hx]) mem
theorem yk (h8:knd.dep < 8) {a:Dv} (hV:∀ b,V b->b≠a) {o:DP} {es:DJ (Int×Du)} {ep:Nat} {t:SetTable} {xs:List (K×Dv)} (hu:A.units+2*knd.dep < cLine) (S:fU knd V s.heap a o es ep t xs) {k:K} {b:Dv} (hk:knd.is V s.heap k b) (hn:xs.length < 76) {Q:DM->Dt->Prop}
  (yes:k∈xs.map (·.1)->Q false s)
  (no:k∉xs.map (·.1)->∀ h' o' es' ep' t' xs',Heap.SameBut a s.heap h'->fU knd V h' a o' es' ep' t' xs'->xs'.length=xs.length+1->(∀ x,x∈xs'↔x=(k,b)\/x∈xs)->Q true {s with heap:=h'}):
  wpAny (model prog w) A (setAddHashed a (.ref b) (knd.hash k)) Q E s:=by
 obtain⟨N,hb,hN,hl⟩:=S.ti.ends (by rw [Cv]; exact S.len) (knd.hash k)
 unfold setAddHashed setAddHashedIn;refine CN (gt (wpAny_setState_of S.get S.data S.fits ?_));dsimp only;rw [show byScan (.ref b) es=false from rfl]
 simp only [Do,if_false];refine gt ?_;unfold setSearch;have mk:=S.ti.msk;have hm:t.mask<=127:=by rcases mk with z | z | z <;> omega
 refine lw h8 hu S hk hN hl hb ⟨λhin=>?_,λhout=>?_⟩ 100000 0 none (Dd _) (by omega) rfl (λm' i x z=>by omega)
 ·exact Cp (yes hin)
 ·dsimp only;refine gt (wpAny_setState_of S.get S.data S.fits ?_);dsimp only;have hsz:=S.size;have hlen:=S.len;have hlax:=S.lax;have tsz:=S.ti.sz;rw [Cv] at tsz;have T1:=S.ti.put hN hl;have psz:=v6 S.ti (j:=(sq t.mask (knd.hash k) N).j);have ple:=pB t S.ti.ris (sq t.mask (knd.hash k) N).j;have pm:(t.put (sq t.mask (knd.hash k) N).j).1.mask=t.mask:=rfl;generalize hP:(t.put (sq t.mask (knd.hash k) N).j).2=p at*
  generalize hT:(t.put (sq t.mask (knd.hash k) N).j).1=t1 at*
  have hx1:(xs.take p++(k,b)::xs.drop p).map (λx=>knd.hash x.1)=(xs.map λx=>knd.hash x.1).take p++knd.hash k::(xs.map λx=>knd.hash x.1).drop p:=by
   rw [List.map_append,CG,List.map_take,List.map_drop]
  rw [<- hx1] at T1;have he1:(insertAt es p (knd.hash k,Value.ref b)).toList=(xs.take p++(k,b)::xs.drop p).map (rm knd):=by
   rw [SetTable.toList_insertAt,S.ent,List.map_append,CG,List.map_take,List.map_drop]
   rfl
  have len1:(xs.take p++(k,b)::xs.drop p).length=xs.length+1:=by
   rw [CK,List.length_take,CH,List.length_drop];omega
  have es1:(insertAt es p (knd.hash k,Value.ref b)).size=xs.length+1:=by rw [<- Dl,he1,Cv,len1]
  have mem1:∀ x,x∈xs.take p++(k,b)::xs.drop p↔x=(k,b)\/x∈xs:=λx=>by
   rw [List.mem_append,Cz]
   constructor
   ·rintro(z | z | z)
    ·exact .inr (List.mem_of_mem_take z)
    ·exact .inl z
    ·exact .inr (List.mem_of_mem_drop z)
   ·rintro(z | z)
    ·exact .inr (.inl z)
    ·rw [<- List.take_append_drop p xs] at z;rcases List.mem_append.mp z with z | z
     ·exact .inl z
     ·exact .inr (.inr z)
  have hi1:∀ x∈xs.take p++(k,b)::xs.drop p,knd.is V s.heap x.1 x.2:=λx hx=>by
   rcases(mem1 x).mp hx with rfl | hx
   ·exact hk
   ·exact S.is x hx
  have fin:∀ T:SetTable,TI T ((xs.take p++(k,b)::xs.drop p).map λx=>knd.hash x.1)->T.mask=t.mask->wpAny (model prog w) A (do
    storeSet a (insertAt es p (knd.hash k,Value.ref b)) T
    if (!false && T.tooFull) = true then do
        setRelay a (grown (es.size+1))
        pure true
     else pure true) Q E s:=λT hT hm2=>by
   refine gt (wpAny_storeSet_of S.get S.data ?_ (by rw [es1]; exact CZ (show xs.length+1<=128 by omega) (CJ (rfl:Nat.ble 128 sizeLine=true))))
   have Tsz:=hT.sz;rw [Cv,len1] at Tsz;have tf:T.tooFull=decide ((xs.length+1)*5 ≥ t.mask*3):=by
    unfold SetTable.tooFull SetTable.fill;rw [hT.dm,Tsz,hm2]
    rfl
   rw [tf]
   by_cases full:(xs.length+1)*5 ≥ t.mask*3
   ·rw [decide_eq_true full,if_pos (by decide)]
    have hg:(s.heap.update a (Obj.putSet (insertAt es p (knd.hash k,Value.ref b)) T)).get? a=some {o with data:=.set (insertAt es p (knd.hash k,Value.ref b)) (ep+1) T}:=by
     have:=Heap.get?_update_self (Obj.putSet (insertAt es p (knd.hash k,Value.ref b)) T) S.get (by rw [putSet_of _ T S.data]; rfl)
     rw [putSet_of _ T S.data] at this;exact this
    have lx0:xs.length*5 < t.mask*3:=by
     unfold wL at hlax;rw [tsz] at hlax;exact hlax
    obtain⟨gm1,gm2⟩:=sT mk lx0 full hn;have ff:T.fits (insertAt es p (knd.hash k,Value.ref b)).size=true:=by
     have:=hT.fits (by rw [Cv,len1,hm2]; rcases mk with z | z | z <;> omega)
     rw [Cv,len1] at this;rw [es1];exact this
    have up:=Ds s.heap a (Obj.putSet (insertAt es p (knd.hash k,Value.ref b)) T);refine gt ?_;rw [hsz];refine sY hV (s:={s with heap:=s.heap.update a (Obj.putSet (insertAt es p (knd.hash k,Value.ref b)) T)}) hg S.ex rfl he1 (λx hx=>s9 hV (hi1 x hx) up) ff len1 gm1 gm2 λh' o' es' ep' t' xs' sb SH l m=>Cp ?_
    exact no hout h' o' es' ep' t' xs' (up.trans sb) SH (by rw [l,len1]) λx=>(m x).trans (mem1 x)
   ·rw [Dc full,if_neg (by decide)]
    exact Cp (no hout _ _ _ _ _ _ (Ds s.heap a _) (fU.store hV S.get S.ex S.data he1 hi1 hT (by unfold wL; rw [Tsz,hm2]; omega)) len1 mem1)
  split
  ·refine gt (knd.hby 8 h8 hk λc=>?_)
   cases c with
   | true=>exact fin t1 T1 pm
   | false=>exact fin {t1 with plain:=false} (T1.plain false) pm
  ·exact gt (Cp (fin t1 T1 pm))
end
section
variable {prog:Dy} {w:DC} {K:Type} [DecidableEq K] {knd:HK prog w K} {V:Dv->Prop} {A:Dz} {R:Result->Dt->Prop} {I:Dv} {fp wr:List Dv} {G:DJ GenState->DJ GenState->Prop} {n:Nat} {P:Nat->Du->Prop} {St:Nat->Dt->Prop}
def jX (knd:HK prog w K) (V:Dv->Prop) (h:DD) (S:Dv) (l:List K):Prop:=∃ o es ep t xs,fU knd V h S o es ep t xs/\xs.length=(dd l).length/\(∀ k,k∈xs.map (·.1)↔k∈dd l)/\∀ x∈xs,V x.2
theorem lF {s s':Dt} {k:K} {b:Dv} (hm:Moved wr G s s') (hVw:∀ b,V b->b∉wr) (x:knd.is V s.heap k b):knd.is V s'.heap k b:=knd.keep x λb o vb e=>hm.heap b o (hVw b vb) e
theorem jX.moved {s s':Dt} {S:Dv} {l:List K} (hm:Moved wr G s s') (hVw:∀ b,V b->b∉wr) (hw:S∉wr) (x:jX knd V s.heap S l):jX knd V s'.heap S l:=by
 obtain⟨o,es,ep,t,xs,s1,r1,r2,r3⟩:=x;exact⟨o,es,ep,t,xs,⟨hm.heap S _ hw s1.get,s1.ex,s1.data,s1.ent,λx hx=>lF hm hVw (s1.is x hx),s1.ti,s1.lax⟩,r1,r2,r3⟩
theorem Af (h8:knd.dep < 8) (hVw:∀ b,V b->b∉wr) (W:WalksS prog w A.in1 I fp wr G n P St) (S:Dv) (hVS:∀ b,V b->b≠S) (hSf:S∉fp) (ks:List K) (ad:Nat->Dv) (hn:ks.length=n) (hP:∀ i v,P i v->v=.ref (ad i)) (hb:n<=76) (hu:A.units+1+2*knd.dep < cLine) (hw:∀ i,i < n->V (ad i)):
  ∀ (k i:Nat) (s:Dt),n - i=k->i<=n->St i s->jX knd V s.heap S (ks.take i)->(∀ i (h:i < n),knd.is V s.heap (ks[i]'(by omega)) (ad i))->
   (∀ s',Moved (S::wr) G s s'->jX knd V s'.heap S ks->R (.ok (.ret .none)) s')->
   codeAny (model prog w) A (.builtin "set.update.loop" ⟨[.ref S,.ref I],[]⟩) R s:=by
 have hSw:S∉wr:=λh=>hSf (W.sub _ h)
 have hsub:∀ b∈wr,b∈S::wr:=λb hb=>CC _ hb
 intro k
 induction k with
 | zero=>
  intro i s hk hi hst hS hkeys hR;have hin:i=n:=by omega
  subst hin;refine codeAny_builtin F.entry_set_update_loop ?_;rw [Around.under_plainId F.plain_set_update_loop _]
  show wpAny _ A.in1 (pyNext (.ref I) >>= _) _ _ s
  refine gt (W.done s _ _ hst λs' hm=>?_)
  show wpAny _ A.in1 (ret Value.none) _ _ s'
  rw [List.take_of_length_le (by omega)] at hS
  exact Cp (hR s' (hm.mono hsub) (hS.moved hm hVw hSw))
 | succ k ih=>
  intro i s hk hi hst hS hkeys hR;have hlt:i < n:=by omega
  refine codeAny_builtin F.entry_set_update_loop ?_;rw [Around.under_plainId F.plain_set_update_loop _]
  show wpAny _ A.in1 (pyNext (.ref I) >>= _) _ _ s
  refine gt (W.item i s _ _ hlt hst λv s' hPv hst' hm=>?_)
  have hv:=hP i v hPv;subst hv;obtain⟨o,es,ep,t,xs,s2,hl,hmem,hxw⟩:=hS.moved hm hVw hSw;have hkeys':∀ i (h:i < n),knd.is V s'.heap (ks[i]'(by omega)) (ad i):=λi h=>lF hm hVw (hkeys i h)
  show wpAny _ A.in1 (holding [Value.ref (ad i)] (setAdd S (.ref (ad i))) >>= _) _ _ s'
  refine gt (CN ?_);unfold setAdd;refine CN ?_;have hu1:A.in1.units+2*knd.dep < cLine:=hu;refine gt (knd.pyHash (k:=ks[i]'(by omega)) hu1 (hkeys' i hlt) ?_)
  have tk:ks.take (i+1)=ks.take i++[ks[i]'(by omega)]:=by rw [List.take_succ_eq_append_getElem (by omega)]
  have hxl:xs.length < 76:=by
   have:=pL (ks.take i) [];rw [List.length_take] at this;unfold dd at hl;simp at this;omega
  have ds:=lb (a:=dd (ks.take i)) (k:=ks[i]'(by omega))
  refine yk h8 (hV:=hVS) (s:={s' with toks:=s'.toks+knd.draws (ks[i]'(by omega))}) hu1 s2 (hkeys' i hlt) hxl (λhin=>?_) (λhout h' o' es' ep' t' xs' sb SH l m=>?_)
  ·have hin':=(hmem _).mp hin;rw [if_pos hin'] at ds;refine Cp ⟨plainId_quiet F.plain_set_update_loop _,ih (i+1) _ (by omega) hlt (W.frame _ s' _ _ hst' (Nat.le_add_right _ _) λb hb o e=>e) ⟨o,es,ep,t,xs,s2,?_,λx=>?_,hxw⟩ hkeys' λs'' hm'' hS''=>hR s'' (Moved.trans W.gtrans ((hm.mono hsub).then_heap (Nat.le_add_right _ _) λb o hb e=>e) hm'') hS''⟩
   ·rw [tk,jo,ds]; exact hl
   ·rw [tk,jo,iW,hmem x];exact⟨.inr,λz=>z.elim (λz=>by rw [z]; exact hin') id⟩
  ·have hout':ks[i]'(by omega)∉dd (ks.take i):=λz=>hout ((hmem _).mpr z)
   rw [if_neg hout'] at ds;have hkeep:∀ k b,knd.is V s'.heap k b->knd.is V h' k b:=λk b x=>s9 hVS x sb
   refine Cp ⟨plainId_quiet F.plain_set_update_loop _,ih (i+1) _ (by omega) hlt (W.frame _ s' _ _ hst' (Nat.le_add_right _ _) λb hb o e=>?_) ⟨o',es',ep',t',xs',SH,?_,λx=>?_,λx hx=>?_⟩ (λi h=>hkeep _ _ (hkeys' i h)) λs'' hm'' hS''=>hR s'' (Moved.trans W.gtrans ((hm.mono hsub).then_heap (Nat.le_add_right _ _) λb o hb e=>?_) hm'') hS''⟩
   ·rw [sb.2 b (λh:b=S=>hSf (by rw [<- h]; exact hb))]; exact e
   ·rw [tk,jo,ds,l,hl]
   ·rw [tk,jo,iW,<- hmem x,Cu,Cu]
    constructor
    ·rintro⟨y,hy,rfl⟩;rcases(m y).mp hy with rfl | hy
     ·exact .inl rfl
     ·exact .inr ⟨y,hy,rfl⟩
    ·rintro(rfl | ⟨y,hy,rfl⟩)
     ·exact⟨_,(m _).mpr (.inl rfl),rfl⟩
     ·exact⟨y,(m y).mpr (.inr hy),rfl⟩
   ·rcases(m x).mp hx with rfl | hx
    ·exact hw i hlt
    ·exact hxw x hx
   ·rw [sb.2 b (λh:b=S=>hb (by rw [h]; exact CB))]; exact e
end
end SU
namespace SU
open PySem PySem.SetTable PySem.Spec PyProof.Rows PySem.Builtin ST
section
variable {prog:Dy} {w:DC} {K:Type} [DecidableEq K] {knd:HK prog w K} {A:Dz} {E:Du->Dt->Prop} {s:Dt}
set_option maxRecDepth 100000 in
set_option maxHeartbeats 3200000 in
theorem kH {l:Dv} {items:DJ Du} {ks:List K} {ad:Nat->Dv} {led:DM} {R:Result->Dt->Prop} (hh:A.handled=none) (hl:s.heap.IsTuple l items) (h3:knd.dep<=3) (hu:A.units+16 < cLine) (hn:ks.length=items.size) (hb:items.size<=76) (hP:∀ (i:Nat) (v:Du),items[i]?=some v->v=.ref (ad i)) (hk:∀ (i:Nat) (h:i < items.size),knd.is (· < s.heap.objs.size) s.heap (ks[i]'(by omega)) (ad i))
  (h:∀ (h':DD) (tk:Nat),jX knd (· < s.heap.objs.size) h' s.heap.objs.size ks->(∀ b o,b < s.heap.objs.size->s.heap.get? b=some o->h'.get? b=some o)->R (.ok (.ret Value.none)) {s with heap:=h',toks:=tk}):
  wpAny (model prog w) A (Builtin.«set.__init__» ⟨[.ref s.heap.objs.size,.ref l],[]⟩) (λfin s'=>∃ v,fin=Fin.done (Flow.ret v)/\R (.ok (.ret v)) s') (λe s'=>R (.error e) s') {s with heap:=s.heap.push (uE led)}:=by
 obtain⟨⟨ocls,odict,odata,oslots⟩,hol,hcl,nl,hdl⟩:=id hl;simp only at hcl hdl
 subst hcl hdl;have hS:(s.heap.push (uE led)).get? s.heap.objs.size=some (uE led):=Cq _ rfl;have hol':=Co (h:=s.heap) (uE led) hol;have s1:=F.sub_tuple_set;have s2:=F.sub_tuple_frozenset;have hne:(Value.type "tuple" == Value.type "dict")=false:=by decide
 unfold Builtin.«set.__init__» noKeywords Builtin.Frozenset.updateFrom;generalize hPI:pyIter=PI
 wp_walk
 subst hPI;have hl1:(s.heap.push (uE led)).IsTuple l items:=⟨_,hol',rfl,nl,rfl⟩;have hlt:l < s.heap.objs.size:=Cs hol;have hsz:(s.heap.push (uE led)).objs.size=s.heap.objs.size+1:=Df _ _;refine wpAny_pyIter_tuple hl1 (gt (wpAny_runValue ?_));have hadl:∀ i,i < items.size->ad i < s.heap.objs.size:=λi h=>by have:=knd.own (hk i h); exact this
 have up2:∀ (b:Dv) (kk:K),knd.is (· < s.heap.objs.size) s.heap kk b->knd.is (· < s.heap.objs.size) ((s.heap.push (uE led)).push {cls:=.type "tuple_iterator",data:=.fields #[.ref l,.int 0 0]}) kk b:=λb kk x=>knd.keep x λb o _ e=>Co _ (Co _ e)
 refine Af (knd:=knd) (V:=(· < s.heap.objs.size)) (by omega) (λb vb=>by rw [hsz]; simp only [Cz,CI,or_false]; exact CA (Nat.lt_succ_of_lt vb)) ((Walks.tuple (by simp [hh]) _ l (by rw [hsz]; exact CA (Nat.lt_succ_of_lt hlt)) items).toS) s.heap.objs.size (λb vb=>CA vb)
  (by rw [hsz]; simp only [Cz,CI,or_false,not_or]; exact⟨CA (Nat.lt_succ_self _),Nat.ne_of_gt hlt⟩) ks ad hn hP hb (by have h1:A.in1.units=A.units+1:=rfl; have h2:A.in1.in1.units=A.units+2:=rfl; have h3:A.in1.in1.in1.units=A.units+3:=rfl; omega)
  (λi h=>hadl i h) (items.size - 0) 0 _ (by omega) (Dd _)
  ⟨⟨_,Cq _ rfl,rfl,rfl⟩,hl1.push _⟩ ?setA (λi h=>up2 _ _ (hk i h)) ?setB
 case setA=>
  exact⟨uE led,#[],0,.fresh 0 0 led,[],⟨Co _ hS,⟨rfl,rfl,rfl⟩,rfl,rfl,(λ_ h=>by cases h),TI.fresh 0 0 led,by show 0*5 < 7*3; decide⟩,rfl,(λk=>by show k∈[]↔k∈dd ([]:List K); exact Iff.rfl),λ_ h=>by cases h⟩
 case setB=>
  rintro⟨h',g',d',tk',os'⟩ hm hS';cases (show g'=s.gens from hm.gens)
  cases (show d'=s.drawn from hm.drawn)
  cases (show os'=s.os from hm.os)
  refine Cp (Cp ⟨_,rfl,h h' tk' (by obtain⟨o,es,ep,t,xs,q1,q2,q3,_⟩:=hS'; exact⟨o,es,ep,t,xs,q1,q2,q3,λx hx=>by have:=knd.own (q1.is x hx); exact this⟩) λb o hlb e=>?_⟩)
  refine hm.heap b o ?_ (Co _ (Co _ e));rw [hsz];simp only [Cz,CI,or_false,not_or];exact⟨CA hlb,CA (Nat.lt_succ_of_lt hlb)⟩
set_option maxRecDepth 100000 in
set_option maxHeartbeats 3200000 in
theorem call_set_tupK {l:Dv} {items:DJ Du} {ks:List K} {ad:Nat->Dv} {Q:Du->Dt->Prop} (hh:A.handled=none) (hl:s.heap.IsTuple l items) (h3:knd.dep<=3) (hu:A.units+24 < cLine) (hn:ks.length=items.size) (hb:items.size<=76) (hP:∀ (i:Nat) (v:Du),items[i]?=some v->v=.ref (ad i)) (hk:∀ (i:Nat) (h:i < items.size),knd.is (· < s.heap.objs.size) s.heap (ks[i]'(by omega)) (ad i))
  (h:∀ (h':DD) (tk:Nat),jX knd (· < s.heap.objs.size) h' s.heap.objs.size ks->(∀ b o,b < s.heap.objs.size->s.heap.get? b=some o->h'.get? b=some o)->Q (.ref s.heap.objs.size) {s with heap:=h',toks:=tk}):
  wpAny (model prog w) A (call (.type "set") [.ref l]) Q E s:=by
 obtain⟨c,tl,g1⟩:=F.called_set.mro;have g2:=F.called_set.made;have g3:=F.called_set.sub;have g4:=F.called_set.notType;have g5:=F.called_set.canCreate;have g6:=F.typeCall_set_1 (.ref l);refine wpAny_call (codeAny_of_tree (show wpAny _ _ (callAny (.type "set") _) _ _ _ from Cp ⟨Code.quiet_builtin _ (by decide +kernel),codeAny_builtin F.entry_type_call ?_⟩))
 rw [Around.under_plain (weight_type_call_type "set" [.ref l] []) rfl]
 repeat (any_goals (first | assumption | wp_step))
 generalize hL:(!w.params.followText "set-order")=led
 refine codeAny_mono (kE (.ref l) (E:=E) (Q₁:=λv t=>v=.ref s.heap.objs.size/\t={s with heap:=s.heap.push (uE led)}) ⟨rfl,by rw [hL]⟩) λr t hr=>?_
 match r,hr with
 | .error e,hr=>exact hr
 | .ok (.ret v),⟨e1,e2⟩=>
  subst e1 e2;have hT:Shared.TypeIs {s with heap:=s.heap.push (uE led)} (.ref s.heap.objs.size) "set":=⟨_,Cq _ rfl,rfl⟩
  have g7:=F.called_set.init.lookup;have g8:=F.called_set.init.bind (.ref s.heap.objs.size)
  repeat (any_goals (first | assumption | wp_step))
  refine codeAny_mono (codeAny_call_builtin (R:=wants (λr t=>r=.none/\∃ h' tk,t={s with heap:=h',toks:=tk}/\Q (.ref s.heap.objs.size) {s with heap:=h',toks:=tk}) E) F.called_set.init.plain F.entry_set_init (check_set_init_1 hT ?_)) λr2 t2 hr2=>?_
  ·refine wpAny_mono (kH (R:=wants (λr t=>r=.none/\∃ h' tk,t={s with heap:=h',toks:=tk}/\Q (.ref s.heap.objs.size) {s with heap:=h',toks:=tk}) E) (by simp [hh]) hl h3 (Nat.lt_of_le_of_lt (by show _<=A.units+24; simp only; omega) hu) hn hb hP hk λh' tk a b=>⟨rfl,h',tk,rfl,h h' tk a b⟩) ?_ ?_
   ·rintro fin t ⟨v,rfl,q⟩;exact q
   ·exact λ_ _ e=>e
  ·match r2,hr2 with
   | .error e,hr2=>exact hr2
   | .ok (.ret v),⟨e1,h',tk,e2,q⟩=>
    subst e1 e2
    repeat (any_goals (first | assumption | wp_step))
end
end SU
namespace L2
open PySem PySem.Spec PyProof.Rows ST SU
def T0 (K:PySem.W.Frag) (H:Hp) (ks:List Int) (a:Dv):Prop:=e_ K H a (ks.map V.int)
def TN {α:Type} (P:α->Dv->Prop) (K:PySem.W.Frag) (H:Hp) (ks:List α) (a:Dv):Prop:=∃ bs:List (α×Dv),bs.map (·.1)=ks/\e_ K H a (bs.map λq=>V.ref q.2)/\∀ q∈bs,P q.1 q.2
theorem iR {α:Type}:∀ {bs:List (α×Dv)} {us:List Du},aF (bs.map λq=>V.ref q.2) us->us=bs.map λq=>Value.ref q.2
 | [],us,h=>by cases h; rfl
 | q::bs,us,h=>by
  rw [CG] at h;cases h with
  | cons h1 h2=>
   cases h1;rw [iR h2]
   rfl
theorem rX {prog:Dy} {w:DC} {α:Type} [DecidableEq α] {knd:HK prog w α} {V:Dv->Prop} {h:DD}:∀ {bs:List (α×Dv)},(∀ q∈bs,knd.is V h q.1 q.2)->on knd V h (bs.map (·.1)) (bs.map λq=>Value.ref q.2)
 | [],_=>.nil
 | q::bs,hq=>.cons (hq q CB) (rX λq' h'=>hq q' (CC _ h'))
section
variable {X:Cx}
theorem yV {DQ:List (Dv×DP)} {s:Dt} {σ:St} {H:Hp} (I:aw X DQ σ H s) {ks:List Int} {a:Dv} (h:T0 X.K H ks a):(qm X.prog X.w).is (· < s.heap.objs.size) s.heap ks a:=by
 obtain⟨its,r1,⟨o,w1,w2,w3,w4⟩,_⟩:=I.tuple h;exact⟨Cs w1,o,its.toArray,w3,w1,w2,w4,by simpa using gw r1⟩
theorem wF {DQ:List (Dv×DP)} {s:Dt} {σ:St} {H:Hp} (I:aw X DQ σ H s) {α:Type} [DecidableEq α] {knd:HK X.prog X.w α} {P:α->Dv->Prop} (hP:∀ k a,P k a->knd.is (· < s.heap.objs.size) s.heap k a) {ks:List α} {a:Dv} (h:TN P X.K H ks a):(jY knd).is (· < s.heap.objs.size) s.heap ks a:=by
 obtain⟨bs,rfl,ht,hb⟩:=h;obtain⟨its,r1,⟨o,w1,w2,w3,w4⟩,_⟩:=I.tuple ht;have e:=iR r1;subst e;exact⟨Cs w1,o,_,w3,w1,w2,w4,by simpa using rX λq hq=>hP _ _ (hb q hq)⟩
abbrev Pk:=List (List (List Int))
abbrev T2 (K:PySem.W.Frag) (H:Hp):Pk->Dv->Prop:=TN (TN (T0 K H) K H) K H
theorem oq (hc:X.calm=true) {m:Nat} (hr:cw m X.A):bS X (.type "set") (λxs H Q=>∃ (a:Dv) (bs:List (Pk×Dv)),xs=[.ref a]/\e_ X.K H a (bs.map λq=>V.ref q.2)/\(∀ q∈bs,T2 X.K H q.1 q.2)/\bs.length<=76/\∀ p,H p=none->Q (.ref p) (aZ H p (.ext (AF p (dd (bs.map (·.1))).length)))):=by
 intro DQ s σ H xs us Q I r h;obtain⟨a,bs,rfl,hq,ht,hl,q⟩:=h;obtain⟨u,rfl,rx⟩:=nJ r;cases rx;obtain⟨its,r',⟨o,g1,g2,n,g4⟩,hz⟩:=I.tuple hq;have e:=iR r';subst e;have hu:=hr.units;have hk:∀ (i:Nat) (h:i < (bs.map λq=>Value.ref q.2).toArray.size),(jY (jY (qm X.prog X.w))).is (· < s.heap.objs.size) s.heap ((bs.map (·.1))[i]'(by simpa using h)) ((λi=>(bs.getD i ([],0)).2) i):=λi h=>by
  have hb:i < bs.length:=by simpa using h
  have hm:bs[i]∈bs:=Dm hb;have eg:bs.getD i ([],0)=bs[i]:=by rw [CU,CO hb]; rfl
  show(jY (jY (qm X.prog X.w))).is _ _ _ (bs.getD i ([],0)).2
  rw [eg,List.getElem_map];exact wF I (λk a h=>wF I (λk a h=>yV I h) h) (ht _ hm)
 refine SU.call_set_tupK (knd:=jY (jY (qm X.prog X.w))) (ks:=bs.map (·.1)) (ad:=λi=>(bs.getD i ([],0)).2) (items:=(bs.map λq=>Value.ref q.2).toArray) (I.ok.hd hc) ⟨o,g1,g2,n,g4⟩ (by show 0+1+1<=3; decide) (by omega) (by simp) (by simpa using hl) (λi v hv=>?_) hk λh' tk hH kp=>?_
 ·rw [List.getElem?_toArray,CQ] at hv
  show v=.ref (bs.getD i ([],0)).2
  rw [CU];cases hb:bs[i]? with
  | none=>rw [hb] at hv; cases hv
  | some q=>rw [hb] at hv; cases hv; rfl
 ·obtain⟨o',es,ep,t,ys,SH,l1,_,_⟩:=hH;have hsz:es.size=(dd (bs.map (·.1))).length:=by rw [SH.size,l1]
  have hlt:(dd (bs.map (·.1))).length < 4096:=by
   have:=pL (bs.map (·.1)) [];unfold dd;simp at this;omega
  have φ:AF s.heap.objs.size (dd (bs.map (·.1))).length h':=⟨o',es,ep,t,SH.get,SH.ex,SH.data,SH.fits,hsz,hlt⟩;refine⟨.ref s.heap.objs.size,_,I.laid (t':=tk) (λb o z=>kp b o (Cs z) z) (Ct _) (show cU X.prog X.w _ h' _ (.ext (AF s.heap.objs.size (dd (bs.map (·.1))).length)) from⟨φ,⟨_,SH.get⟩,λh1 h2 ⟨o,es,ep,t,z,r⟩ k=>⟨o,es,ep,t,k o z,r⟩⟩),rfl,q _ (I.hok.fresh (Ct _))⟩
end
end L2
namespace DL
open PySem PySem.Spec PyProof.Rows L2 ST
abbrev BN (f:List Int):D:=.tup (f.map D.int)
abbrev Cd (f:List (List Int)):D:=.tup (f.map BN)
abbrev BU (f:Pk):D:=.tup (f.map Cd)
theorem zZ {K:Fg} {H:Hp} {f:List Int} {v:V} (h:a_ K H (BN f) v):∃ a,v=V.ref a/\T0 K H f a:=by
 obtain⟨b,xs,rfl,t,j⟩:=aT.mp h;have e:=jz j;subst e;exact⟨b,rfl,t⟩
theorem lN {K:Fg} {H:Hp} {α:Type} {g:α->D} {P:α->Dv->Prop} (hP:∀ f v,a_ K H (g f) v->∃ a,v=V.ref a/\P f a):∀ {fs:List α} {vs:List V},IsDs K H (fs.map g) vs->∃ bs:List (α×Dv),bs.map (·.1)=fs/\vs=bs.map (λq=>V.ref q.2)/\∀ q∈bs,P q.1 q.2
 | [],vs,h=>⟨[],rfl,di.mp h,λ_ z=>by cases z⟩
 | f::fs,vs,h=>by
  obtain⟨u,r,rfl,h1,h2⟩:=bh.mp h;obtain⟨b,rfl,hp⟩:=hP _ _ h1;obtain⟨bs,e1,rfl,e3⟩:=lN hP h2;refine⟨(f,b)::bs,by rw [CG,e1],rfl,λq hq=>?_⟩
  rcases Cz.mp hq with rfl | hq
  ·exact hp
  ·exact e3 q hq
theorem wA {K:Fg} {H:Hp} {α:Type} {g:α->D} {P:α->Dv->Prop} (hP:∀ f v,a_ K H (g f) v->∃ a,v=V.ref a/\P f a) {fs:List α} {v:V} (h:a_ K H (.tup (fs.map g)) v):∃ a,v=V.ref a/\TN P K H fs a:=by
 obtain⟨b,xs,rfl,t,j⟩:=aT.mp h;obtain⟨bs,e1,rfl,e3⟩:=lN hP j;exact⟨b,rfl,bs,e1,t,e3⟩
def sV (g:DE):DE:=λL S k=>g L S λd S1=>match d with
 | .tup ds=>∃ nss:List Pk,ds=nss.map BU/\nss.length<=76/\k (.int ((dd nss).length:Nat)) S1
 | _=>False
theorem ou {X:Cx} {n:Nat} (hr:cw n X.A) {e:Dx} {g:DE} {p1 p2 pos1 pos2:Pos} (hc:X.calm=true) (hg1:Gl X "len") (hm1:X.mg "len"=none) (hv1:bootBuiltins "len"=some (.builtin "len")) (hg2:Gl X "set") (hm2:X.mg "set"=none) (hv2:bootBuiltins "set"=some (.type "set")) (he:EJ X e g)
  (s1:starEach [e] X.env=(false,eval e X.env)::starEach [] X.env:=by exact bf rfl) (s2:(backTo pos2 (starEach [] X.env)).any (·.1)=false:=by exact cK rfl)
  (s3:starEach [.Call (.Name "set" p2) [e] [] pos2] X.env=(false,eval (.Call (.Name "set" p2) [e] [] pos2) X.env)::starEach [] X.env:=by exact bf rfl) (s4:(backTo pos1 (starEach [] X.env)).any (·.1)=false:=by exact cK rfl):
  EJ X (.Call (.Name "len" p1) [.Call (.Name "set" p2) [e] [] pos2] [] pos1) (sV g):=
 ⟨PE.imp (nQ o9 hg1 hm1 hv1 (cV (lA (oq hc hr) hg2 hm2 hv2 (cV he.h fE s1) (by decide) (by decide) s1 s2) fE s3) (by decide) (by decide) s3 s4) fun σ H Q ⟨L,S,k,hL,hS,h,n⟩=>up.go hL hS h λd S1 v H1 h1 k1 hL1 hS1 i1=>by
  cases d with
  | tup ds=>
   obtain⟨nss,rfl,hl,w⟩:=h1;obtain⟨b,xs,rfl,t,j⟩:=aT.mp i1;obtain⟨bs,rfl,rfl,ht⟩:=lN (P:=T2 X.K H1) (λf v hv=>wA (λf v hv=>wA (λf v hv=>zZ hv) hv) hv) j
   refine⟨_,bs,rfl,t,ht,by simpa using hl,λp hp=>⟨p,_,rfl,br,n _ S1 _ _ w (k1.trans (Kp.new hp)) (hS1.new hp) (isInt.mpr rfl)⟩⟩
  | _=>exact(show False from h1).elim⟩
end DL
namespace My
abbrev FN (K:PySem.W.Frag) (n:PySem.Str) (st:PySem.Stmt) (f:PySem.Addr) (fd:PySem.FuncData):=L2.qX K n n st f fd
variable {P:Dy} {w:DC} {K:Fg} {mg:Str->Dw Du} {base:DD} {f:Dv} {fd:FuncData}
open PySem PySem.Spec PyProof.Rows L2 DL HM
set_option maxHeartbeats 4000000
def d_ (i : Nat) : DF := PySem.Challenge.pw_hingedraw_k36_whole_swings_and_weights.main.body.getD i (.Pass ⟨0, 0, 0, 0⟩)
abbrev cC:DF:=d_ 5
abbrev lX:DF:=d_ 6
abbrev oJ:DF:=d_ 7
abbrev mx:DF:=d_ 8
abbrev mR:DF:=d_ 9
abbrev gJ:DF:=d_ 10
abbrev gC:DF:=d_ 12
abbrev fF:DF:=d_ 13
abbrev cj:DF:=d_ 14
abbrev b7:DF:=d_ 18
abbrev iN:DF:=d_ 21
abbrev eW:DF:=d_ 20
abbrev iV:DF:=d_ 22
abbrev cA:DF:=d_ 19
abbrev fI:DF:=d_ 24
abbrev dX:DF:=d_ 27
abbrev eQ:DF:=d_ 28
abbrev o_:DF:=d_ 29
abbrev eZ:DF:=d_ 30
abbrev dr:DF:=d_ 31
abbrev fL:DF:=d_ 33
abbrev jx:DF:=d_ 34
abbrev iH:DF:=d_ 23
abbrev dZ:DF:=d_ 32
abbrev dD:DF:=d_ 41
abbrev eV:DF:=d_ 42
abbrev ft:DF:=d_ 43
abbrev dG:DF:=d_ 44
abbrev eK:DF:=d_ 45
abbrev fT:DF:=d_ 46
abbrev eP:DF:=d_ 48
abbrev cR:DF:=d_ 49
abbrev cb:DF:=d_ 50
abbrev df:DF:=d_ 51
abbrev iA:DF:=d_ 16
abbrev iE:DF:=d_ 35
abbrev iT:DF:=d_ 36
abbrev fD:DF:=d_ 37
abbrev gG:DF:=d_ 38
abbrev gD:DF:=d_ 39
abbrev eG:DF:=d_ 52
abbrev dR:DF:=d_ 53
abbrev sP:DF:=d_ 54
theorem oO:bootBuiltins "abs"=some (.builtin "abs"):=by decide +kernel
theorem uC:bootBuiltins "range"=some (.type "range"):=by decide +kernel
theorem bU:bootBuiltins "len"=some (.builtin "len"):=by decide +kernel
theorem ci:bootBuiltins "tuple"=some (.type "tuple"):=by decide +kernel
theorem tj:bootBuiltins "all"=some (.builtin "all"):=by decide +kernel
theorem xz:bootBuiltins "max"=some (.builtin "max"):=by decide +kernel
theorem xC:bootBuiltins "min"=some (.builtin "min"):=by decide +kernel
theorem ya:bootBuiltins "set"=some (.type "set"):=by decide +kernel
theorem xK {y:Int} {A B:Prop} (h1:y≠0->A) (h2:y=0->B):if (!decide (y=0))=true then A else B:=by
 by_cases h:y=0
 ·rw [if_neg (by simp [h])]; exact h2 h
 ·rw [if_pos (by simp [h])]; exact h1 h
theorem cH {p:Prop} [Decidable p] {A B:Prop} (h1:p->A) (h2:¬ p->B):if decide p=true then A else B:=by
 by_cases h:p
 ·rw [if_pos (by simp [h])]; exact h1 h
 ·rw [if_neg (by simp [h])]; exact h2 h
theorem ic {p:Prop} [Decidable p] {A B:Prop} (h1:¬ p->A) (h2:p->B):if (!decide p)=true then A else B:=by
 by_cases h:p
 ·rw [if_neg (by simp [h])]; exact h2 h
 ·rw [if_pos (by simp [h])]; exact h1 h
theorem gp {c:DM} {A B:Prop} (h1:c=true->A) (h2:c=false->B):if c=true then A else B:=by
 cases c
 ·exact BD (h2 rfl)
 ·exact Bx (h1 rfl)
theorem v_ {ds:List D} {i:Int} (h0:0<=i) (h1:i < (ds.length:Int)):∃ d,L2.atI ds i=some d/\d∈ds:=by
 obtain⟨n,rfl⟩:=Int.eq_ofNat_of_zero_le h0;have hn:n < ds.length:=by omega
 exact⟨ds[n],cZ (by simp [hn]),Dm hn⟩
theorem nC {ok:DH->Prop} {g:DG} {b:DS} {M:im} {P:D->Prop} (Iv:Lo->DH->Prop) (hok:∀ L S,Iv L S->ok S)
  (hs:∀ d L S N,P d->Iv L S->(∀ L' S',Iv L' S'->N L' S')->g d L S λL1 S1=>b {M with nx:=N,ct:=N,bk:=M.nx} L1 S1) (hd:∀ L S,Iv L S->M.nx L S):∀ r,(∀ d∈r,P d)->∀ L S,Iv L S->dE ok g b M r L S
 | [],_,L,S,i=>⟨hok L S i,hd L S i⟩
 | d::r,hp,L,S,i=>⟨hok L S i,hs d L S _ (hp d CB) i λL' S' i'=>nC Iv hok hs hd r (λe he=>hp e (CC _ he)) L' S' i'⟩
instance {n:Nat} {x:Int}:Decidable (Bt n x):=inferInstanceAs (Decidable (x.natAbs < 2 ^ n))
theorem bQ {ds:List D} (h:Nat.ble ds.length sizeLine=true:=by rfl):ds.length<=sizeLine:=CJ h
def jl (S:DH) (a:Dv):Prop:=∃ n b,S a=some (.lst [.int n,.bl b])/\(b=false->0<=n/\n < 2147483647)
def Dr (a:Dv) (S S':DH):Prop:=jl S' a/\∀ b o,b≠a->S b=some o->S' b=some o
theorem Dr.trans {a:Dv} {S S1 S2:DH} (h1:Dr a S S1) (h2:Dr a S1 S2):Dr a S S2:=⟨h2.1,λb o n e=>h2.2 b o n (h1.2 b o n e)⟩
theorem jl.ne {a p:Dv} {S:DH} (h:jl S a) (hp:S p=none):p≠a:=by
 obtain⟨n,b,e,_⟩:=h;intro z;subst z;rw [e] at hp;cases hp
theorem jl.new {a p:Dv} {S:DH} {o:DO} (h:jl S a) (hp:S p=none):jl (put S p o) a:=by
 have z:=h.ne hp;obtain⟨n,b,e,q⟩:=h;exact⟨n,b,by rw [aG (Ne.symm z)]; exact e,q⟩
theorem Dr.new {a p:Dv} {S:DH} {o:DO} (h:jl S a) (hp:S p=none):Dr a S (put S p o):=
 ⟨h.new hp,λb u n e=>by rw [aG (tL e hp)]; exact e⟩
theorem rH {x:Int} (h1:0<=x) (h2:x < 2147483648):Bt 31 x:=by
 unfold Bt;omega
def N (u a b:Rat):D:=.tup [fr a,fr (ss b*u)]
theorem yd {q:Rat}:D.tup [.int (-q.num),.int (q.den:Int)]=fr (-q):=by
 show _=D.tup [.int (-q).num,.int ((-q).den:Int)]
 rw [Rat.neg_num,Rat.neg_den]
theorem rV {n:Nat} {t b:Int} (h:b≠0) (hb:Bt n b):Bt n ((Int.gcd t b:Nat):Int):=by
 refine hb.le ?_;have h1:Int.gcd t b ∣ b.natAbs:=by
  have:=Int.gcd_dvd_right t b;exact(by have:=Int.natAbs_dvd_natAbs.mpr this; simpa using this)
 have:=Nat.le_of_dvd (by omega) h1
 omega
def be:bW:=λds S k=>match ds with
 | [.int a,.int b]=>k (.int ((Int.gcd a b:Nat):Int)) S
 | _=>False
theorem bL:aq ["one","other","rest"] ["one","other"] (ai cC):=dY
theorem ib (Fn:FN K "common_divisor" cC f fd) (jN:mg "abs"=none):
  aW P w K mg base cx 1 f fd ["one","other"] (cO K be):=by
 refine Fn.okJ bL (λds S k h=>?_) (λcdv A outer s H E hr=>⟨_,(af (jI PassesOwn.never (ax yY (ae 1) ag (aC _)) (af (ak (i:=2) bL.nd (au i8 (ae 0) (ae 1))) (af (ak (i:=0) bL.nd (ae 1)) (ah (ak (i:=1) bL.nd (ae 2)))))) (ah (ao (aK sI rfl jN oO (aE 0 ac))))),λds S k h=>?_⟩)
 ·unfold be at h
  split at h
  ·rfl
  ·exact h.elim
 ·unfold be at h
  split at h
  ·rename_i a b
   refine⟨λm L S'=>S'=S/\∃ x y r,L=[some (.int x),some (.int y),r]/\m=y.natAbs/\Int.gcd x y=Int.gcd a b,⟨_,rfl,a,b,_,rfl,rfl,rfl⟩,?_⟩
   rintro m L S' ⟨rfl,x,y,r,rfl,rfl,e⟩;refine xK (λhy=>⟨λL' S''=>∃ m',m' < y.natAbs/\S''=S'/\∃ x y r,L'=[some (.int x),some (.int y),r]/\m'=y.natAbs/\Int.gcd x y=Int.gcd a b,λ_ _ z=>z,hy,?_⟩) (λhy=>?_)
   ·exact⟨_,pU x y hy,rfl,y,x.fmod y,_,rfl,rfl,(nK x y).trans e⟩
   ·subst hy;have e2:=oj x;rw [e] at e2
    show k (.int (if x < 0 then -x else x)) S'
    rw [<- e2];exact h
  ·exact h.elim
def eR:bW:=λds S k=>match ds with
 | [.int t,.int b]=>b≠0/\Bt 8000 b/\k (fr (Rat.divInt t b)) S
 | _=>False
theorem j8 {S:DH} {k:DK} {t b:Int} {q:Rat} (e:Rat.divInt t b=q) (h0:b≠0) (hb:Bt 8000 b) (h:k (fr q) S):eR [.int t,.int b] S k:=by subst e; exact⟨h0,hb,h⟩
theorem jK:aq ["top","bottom","shared"] ["top","bottom"] (ai lX):=dY
theorem tu (Fn:FN K "ratio" lX f fd) (aI:bH P w K mg base "common_divisor" 1 be):
  aW P w K mg base cx 2 f fd ["top","bottom"] (cO K eR):=by
 refine Fn.okJ jK (λds S k h=>?_) (λcdv A outer s H E hr=>⟨_,(af (aJ (ax BG (ae 1) ag (aC _)) (ah o7) aM) (af (ak (i:=2) jK.nd (dq aI hr (aE 0 (aE 1 ac)))) (af (aJ (ax qO (ae 1) ag (aC _)) (ah (ak (i:=2) jK.nd (kU kO (ae 2)))) aM) (ah (ao (ay (aa (au gk (ae 0) (ae 2)) (aa (au gk (ae 1) (ae 2)) ac)))))))),λds S k h=>?_⟩)
 ·unfold eR at h
  split at h
  ·rfl
  ·exact h.elim
 ·unfold eR at h
  split at h
  ·rename_i t b
   obtain⟨h0,hb,q⟩:=h;have hg:=rV (t:=t) h0 hb;have hs:=ug (t:=t) h0;have e1:=mT (t:=t) h0;have e2:=mG (t:=t) h0;have qq:k (.tup [.int (t.fdiv (rN t b)),.int (b.fdiv (rN t b))]) S:=by rw [e1,e2]; exact q
   unfold rN at qq hs
   refine cH (λz=>absurd z h0) (λ_=>cH (λhl=>?_) (λhl=>?_))
   ·rw [if_pos hl] at qq hs
    exact⟨rM hs hg.neg,rM hs hg.neg,bQ,qq⟩
   ·rw [if_neg hl] at qq hs
    exact⟨rM hs hg,rM hs hg,bQ,qq⟩
  ·exact h.elim
def pA:bW:=λds S k=>∃ p q:Rat,ds=[fr p,fr q]/\Sz 4000 p/\Sz 4000 q/\k (fr (p+q)) S
theorem v7:aq ["one","other"] ["one","other"] (ai oJ):=dY
theorem vj (Fn:FN K "plus" oJ f fd) (c9:bH P w K mg base "ratio" 2 eR):
  aW P w K mg base cx 3 f fd ["one","other"] (cO K pA):=by
 refine Fn.okJ v7 (λds S k h=>?_) (λcdv A outer s H E hr=>⟨_,(ah (ao (dq c9 hr (aa (au dL (au bB (bX 0) (bX 1)) (au bB (bX 1) (bX 0))) (aa (au bB (bX 0) (bX 1)) ac))))),λds S k h=>?_⟩)
 ·obtain⟨_,_,rfl,_⟩:=h
  rfl
 ·obtain⟨p,q,rfl,hp,hq,w⟩:=h;exact⟨gO hp.num hq.den,gO hq.num hp.den,gO hp.den hq.den,j8 (rP p q) (cE p q) ((hp.den.mul hq.den).mono (by decide)) w⟩
def my:bW:=λds S k=>∃ p q:Rat,ds=[fr p,fr q]/\Sz 4000 p/\Sz 4000 q/\k (fr (p - q)) S
theorem ux:aq ["one","other"] ["one","other"] (ai mx):=dY
theorem tU (Fn:FN K "minus" mx f fd) (c9:bH P w K mg base "ratio" 2 eR):
  aW P w K mg base cx 3 f fd ["one","other"] (cO K my):=by
 refine Fn.okJ ux (λds S k h=>?_) (λcdv A outer s H E hr=>⟨_,(ah (ao (dq c9 hr (aa (au i6 (au bB (bX 0) (bX 1)) (au bB (bX 1) (bX 0))) (aa (au bB (bX 0) (bX 1)) ac))))),λds S k h=>?_⟩)
 ·obtain⟨_,_,rfl,_⟩:=h
  rfl
 ·obtain⟨p,q,rfl,hp,hq,w⟩:=h;exact⟨gO hp.num hq.den,gO hq.num hp.den,gO hp.den hq.den,j8 (wX p q) (cE p q) ((hp.den.mul hq.den).mono (by decide)) w⟩
def mr:bW:=λds S k=>∃ p q:Rat,ds=[fr p,fr q]/\Sz 4000 p/\Sz 4000 q/\k (fr (p*q)) S
theorem s_:aq ["one","other"] ["one","other"] (ai mR):=dY
theorem ur (Fn:FN K "times" mR f fd) (c9:bH P w K mg base "ratio" 2 eR):
  aW P w K mg base cx 3 f fd ["one","other"] (cO K mr):=by
 refine Fn.okJ s_ (λds S k h=>?_) (λcdv A outer s H E hr=>⟨_,(ah (ao (dq c9 hr (aa (au bB (bX 0) (bX 1)) (aa (au bB (bX 0) (bX 1)) ac))))),λds S k h=>?_⟩)
 ·obtain⟨_,_,rfl,_⟩:=h
  rfl
 ·obtain⟨p,q,rfl,hp,hq,w⟩:=h;exact⟨gO hp.num hq.num,gO hp.den hq.den,j8 (oU p q) (cE p q) ((hp.den.mul hq.den).mono (by decide)) w⟩
def jR:bW:=λds S k=>∃ q:Rat,ds=[fr q]/\k (fr (-q)) S
theorem nW:aq ["one"] ["one"] (ai gJ):=dY
theorem og (Fn:FN K "negative" gJ f fd):
  aW P w K mg base cx 1 f fd ["one"] (cO K jR):=by
 refine Fn.okJ nW (λds S k h=>?_) (λcdv A outer s H E hr=>⟨_,(ah (ao (ay (aa (kU kO (bX 0)) (aa (bX 0) ac))))),λds S k h=>?_⟩)
 ·obtain⟨_,rfl,_⟩:=h
  rfl
 ·obtain⟨q,rfl,w⟩:=h;rw [<- yd] at w;exact⟨bQ,w⟩
set_option maxHeartbeats 4000000
def bs (u b d:Rat):Rat:=Ao b d*Ao b d*u
set_option maxHeartbeats 4000000
def bg (S S':DH):Prop:=∀ b o,S b=some o->S' b=some o
theorem bg.trans {S S1 S2:DH} (a:bg S S1) (b:bg S1 S2):bg S S2:=λc o h=>b c o (a c o h)
theorem bg.new {S:DH} {p:Dv} {o:DO} (h:S p=none):bg S (put S p o):=λb u e=>by
 unfold put
 split
 ·rename_i z; subst z; rw [h] at e; cases e
 ·exact e
theorem bg.put {S S1:DH} {p:Dv} {o:DO} (e:bg S S1) (h:S p=none):bg S (put S1 p o):=λb u z=>by
 unfold DL.put
 split
 ·rename_i y; subst y; rw [h] at z; cases z
 ·exact e b u z
theorem bg.none {S S1:DH} {p:Dv} (e:bg S S1) (h:S1 p=none):S p=none:=by
 cases q:S p with
 | none=>rfl
 | some o=>rw [e p o q] at h; cases h
abbrev Q:=Rat×Rat
def qs (x y:Q):Q:=(x.1 - y.1,x.2 - y.2)
def W (x y:Rat):D:=.tup [fr x,fr y]
def PP (x y:Rat):D:=.tup [.tup [fr x,fr 0],.tup [fr y,fr 0]]
def jZ:bW:=λds S k=>∃ x y:Rat,ds=[PP x y]/\k (W x y) S
theorem oi:aq ["point"] ["point"] (ai gC):=dY
theorem nz (Fn:FN K "place_of" gC f fd):
  aW P w K mg base cx 1 f fd ["point"] (cO K jZ):=by
 refine Fn.okJ oi (λds S k h=>?_) (λcdv A outer s H E hr=>⟨_,(ah (ao (ay (aa (aA cT (bX 0) ag Zf) (aa (aA cT (bX 0) ag Zf) ac))))),λds S k h=>?_⟩)
 ·obtain⟨_,_,rfl,_⟩:=h
  rfl
 ·obtain⟨x,y,rfl,w⟩:=h;exact⟨bQ,w⟩
def fB:bW:=λds S k=>∃ x y z v:Rat,ds=[W x y,W z v]/\Sz 4000 x/\Sz 4000 y/\Sz 4000 z/\Sz 4000 v/\k (W (z - x) (v - y)) S
theorem mU:aq ["one","other"] ["one","other"] (ai fF):=dY
theorem mi (Fn:FN K "plain_way" fF f fd) (dI:bH P w K mg base "minus" 3 my):
  aW P w K mg base cx 4 f fd ["one","other"] (cO K fB):=by
 refine Fn.okJ mU (λds S k h=>?_) (λcdv A outer s H E hr=>⟨_,(ah (ao (ay (aa (dq dI hr (aa (bX 1) (aa (bX 0) ac))) (aa (dq dI hr (aa (bX 1) (aa (bX 0) ac))) ac))))),λds S k h=>?_⟩)
 ·obtain⟨_,_,_,_,rfl,_⟩:=h
  rfl
 ·obtain⟨x,y,z,v,rfl,hx,hy,hz,hv,w⟩:=h;exact⟨z,x,rfl,hz,hx,v,y,rfl,hv,hy,bQ,w⟩
def dM:bW:=λds S k=>∃ x y z v:Rat,ds=[W x y,W z v]/\Sz 900 x/\Sz 900 y/\Sz 900 z/\Sz 900 v/\k (fr (x*z+y*v)) S
theorem gI:aq ["one","other"] ["one","other"] (ai cj):=dY
theorem gF (Fn:FN K "product_of_ways" cj f fd) (gM:bH P w K mg base "plus" 3 pA) (cI:bH P w K mg base "times" 3 mr):
  aW P w K mg base cx 4 f fd ["one","other"] (cO K dM):=by
 refine Fn.okJ gI (λds S k h=>?_) (λcdv A outer s H E hr=>⟨_,(ah (ao (dq gM hr (aa (dq cI hr (aa (bX 0) (aa (bX 1) ac))) (aa (dq cI hr (aa (bX 0) (aa (bX 1) ac))) ac))))),λds S k h=>?_⟩)
 ·obtain⟨_,_,_,_,rfl,_⟩:=h
  rfl
 ·obtain⟨x,y,z,v,rfl,hx,hy,hz,hv,w⟩:=h;exact⟨x,z,rfl,hx.mono (by decide),hz.mono (by decide),y,v,rfl,hy.mono (by decide),hv.mono (by decide),_,_,rfl,(hx.mul hz).mono (by decide),(hy.mul hv).mono (by decide),w⟩
set_option maxHeartbeats 4000000
abbrev iL (vs:List Int):DO:=.lst (vs.map D.int)
theorem gK {n:Nat} (h:n < 300):n < sizeLine:=CD h (CJ (rfl:Nat.ble 300 sizeLine=true))
def wn (s:Nat) (q:Rat):Int:=q.num*((s / q.den:Nat):Int)
theorem qF {s:Nat} {q:Rat} (h:q.den ∣ s):((wn s q:Int):Rat)=q*s:=by
 obtain⟨t,rfl⟩:=h;unfold wn;rw [Nat.mul_div_cancel_left t q.den_pos,Cr];have h1:=dP q;have h2:((q.den*t:Nat):Rat)=(q.den:Rat)*(t:Rat):=by rw [Rat.natCast_mul]
 rw [h2,Rat.intCast_natCast];have h3:=jO q;grind
def bj (W A:Nat) (q:Rat):Prop:=q.den ∣ W/\q.num.natAbs<=A*q.den
theorem qJ {W A s:Nat} {q:Rat} (h:bj W A q) (hs:s ∣ W) (hq:q.den ∣ s) (h0:0 < W):(wn s q).natAbs<=A*W:=by
 obtain⟨t,rfl⟩:=hq;unfold wn;rw [Nat.mul_div_cancel_left t q.den_pos,Di,Int.natAbs_natCast];have h1:=Nat.le_of_dvd h0 hs
 calc q.num.natAbs*t<=A*q.den*t:=Nat.mul_le_mul_right t h.2
  _=A*(q.den*t):=Nat.mul_assoc ..
  _<=A*W:=Nat.mul_le_mul_left A h1
theorem b3 {α:Type} {f g:α->D} {all:List α} {S:DH} {p:Dv} {ok:DH->Prop} {bd:DB} {k:DK} {L1:Lo} (hp:S p=none) (hok:∀ S',bg S S'->ok S')
  (hbd:∀ (x:α) (S':DH) (k':Dw D->DH->Prop),x∈all->bg S S'->k' (some (g x)) S'->bd (some (f x)::L1) S' k'):
  ∀ (r:List α) (acc:List D) (l0:Dw D),(∀ x∈r,x∈all)->acc.length+r.length<=100->(∀ S',bg S S'->S' p=some (.lst (acc++r.map g))->k (.ref p) S')->bA ok p (fq 0) bd k (r.map f) acc (l0::L1) (put S p (.lst acc))
 | [],acc,l0,_,_,w=>⟨hok _ (bg.new hp),w _ (bg.new hp) (by rw [am]; simp)⟩
 | x::r,acc,l0,hr,hl,w=>by
  have hl:acc.length+(r.length+1)<=100:=hl;refine⟨hok _ (bg.new hp),hbd x _ _ (hr x CB) (bg.new hp) ⟨am,gK (by omega),?_⟩⟩
  rw [mX];exact b3 hp hok hbd r _ _ (λy hy=>hr y (CC _ hy)) (by rw [CK]; show acc.length+1+r.length<=100; omega) λS' e h=>w S' e (by rw [h,List.append_assoc]; rfl)
theorem xY (s d:Nat):s / Nat.gcd s d*d=Nat.lcm s d:=by
 unfold Nat.lcm;rw [Nat.div_mul_right_comm (Nat.gcd_dvd_left s d)]
theorem gU (a b:Nat):((a:Nat):Int).fdiv ((b:Nat):Int)=((a / b:Nat):Int):=by
 rw [Int.fdiv_eq_ediv_of_nonneg _ (by omega),Int.natCast_ediv]
def dg:bW:=λds S k=>∃ (a:Dv) (qs:List Rat) (W A:Nat),ds=[.ref a]/\S a=some (.lst (qs.map fr))/\(∀ q∈qs,bj W A q)/\0 < W/\W<=2 ^ 15/\A<=2 ^ 15/\qs.length<=100/\∀ (s:Nat) p S',0 < s->s ∣ W->(∀ q∈qs,q.den ∣ s)->S p=none->bg S S'->S' p=some (iL (qs.map (wn s)))->k (.ref p) S'
theorem bC:aq ["row","shared","cell"] ["row"] (ai b7):=dY
theorem gh (Fn:FN K "in_whole_numbers" b7 f fd) (aI:bH P w K mg base "common_divisor" 1 be):
  aW P w K mg base cx 2 f fd ["row"] (cO K dg):=by
 refine Fn.okJ bC (λds S k h=>?_) (λcdv A outer s H E hr=>⟨_,(af (ak (i:=1) bC.nd ag) (af (da PassesOwn.never rfl (ae 0) (ap (i:=2) bC.nd) (ah (ak (i:=1) bC.nd (au bB (au gk (ae 1) (dq aI hr (aE 1 (aa (bX 2) ac)))) (bX 2))))) (ah (ao (bY rfl (bG (N:=["cell","shared"]) (cap:=[none,some 1]) rfl rfl rfl rfl ⟨rfl,trivial⟩ rfl rfl ⟨⟨rfl,.inl rfl,.inl rfl⟩,trivial⟩) (ae 0) (λ_ _ _ _=>(ap (i:=0) (show List.Nodup (["cell","shared"]:List Str) from by decide +kernel))) (λ_ _ _ _=>(au bB (bX 0) (au gk (ae 1) (bX 0))))))))),λds S k h=>?_⟩)
 ·obtain⟨_,_,_,_,rfl,_⟩:=h
  rfl
 ·obtain⟨a,qs,W,A,rfl,ha,hq,w0,hW,hA,hl,w⟩:=h;have bs:∀ s:Nat,0 < s->s ∣ W->Bt 20 (s:Int):=λs _ h=>by
   have:=Nat.le_of_dvd w0 h;unfold Bt;rw [Int.natAbs_natCast];exact Nat.lt_of_le_of_lt (CZ this hW) (by decide)
  refine⟨(qs.map fr,some a),by simp only [ar,ha],?_⟩
  refine bD (λr L S'=>∃ (s:Nat) (rs:List Rat) (l2:Dw D),L=[some (.ref a),some (.int (s:Nat)),l2]/\S'=S/\r=rs.map fr/\0 < s/\s ∣ W/\(∀ q∈rs,q∈qs)/\∀ q∈qs,q∈rs\/q.den ∣ s) (λr L S' ⟨_,_,_,_,e,_⟩=>by subst e; exact ha) ?_ ?_ _ _ _ ⟨1,qs,none,rfl,rfl,rfl,by decide,Nat.one_dvd _,λ_ h=>h,λ_ h=>.inl h⟩
  ·rintro d r L S1 N1 ⟨s,rs,l2,rfl,rfl,er,s0,sW,hin,hall⟩ hN;cases rs with
   | nil=>cases er
   | cons q rs=>
    cases er;have dW:=(hq q (hin q CB)).1;have g0:0 < Nat.gcd s q.den:=Nat.gcd_pos_of_pos_left _ s0;have gW:Nat.gcd s q.den ∣ W:=Nat.dvd_trans (Nat.gcd_dvd_left _ _) sW;have lW:Nat.lcm s q.den ∣ W:=Nat.lcm_dvd sW dW;have l0:0 < Nat.lcm s q.den:=Nat.lcm_pos s0 q.den_pos;have eg:Int.gcd (s:Int) (q.den:Int)=Nat.gcd s q.den:=rfl;have sg:s / Nat.gcd s q.den ∣ W:=Nat.dvd_trans (Nat.div_dvd_of_dvd (Nat.gcd_dvd_left _ _)) sW;have s1:0 < s / Nat.gcd s q.den:=Nat.div_pos (Nat.le_of_dvd s0 (Nat.gcd_dvd_left _ _)) g0;refine⟨rM (show ((Nat.gcd s q.den:Nat):Int)≠0 by omega) (bs _ g0 gW),gO (n:=20) (m:=20) (by show Bt 20 (((s:Nat):Int).fdiv ((Nat.gcd s q.den:Nat):Int)); rw [gU]; exact bs _ s1 sg) (bs _ q.den_pos dW),?_⟩
    refine hN _ _ ⟨Nat.lcm s q.den,rs,some (fr q),?_,rfl,rfl,l0,lW,λx hx=>hin x (CC _ hx),λx hx=>?_⟩
    ·show [some (D.ref a),some (.int (((s:Nat):Int).fdiv ((Nat.gcd s q.den:Nat):Int)*((q.den:Nat):Int))),some (fr q)]=_
     rw [gU,<- Int.natCast_mul,xY]
    ·rcases hall x hx with h | h
     ·rcases Cz.mp h with rfl | h
      ·exact .inr (Nat.dvd_lcm_right _ _)
      ·exact .inl h
     ·exact .inr (Nat.dvd_trans h (Nat.dvd_lcm_left _ _))
  ·rintro L S1 ⟨s,rs,l2,rfl,rfl,er,s0,sW,hin,hall⟩;cases rs with
   | cons q rs=>cases er
   | nil=>
    have hall:∀ q∈qs,q.den ∣ s:=λq hq=>(hall q hq).resolve_left (λh=>by cases h)
    refine⟨(qs.map fr,some a),by simp only [ar,ha],λp hp=>?_⟩
    refine b3 (g:=λq=>.int (wn s q)) (all:=qs) hp (λS' e=>e _ _ ha) ?bb qs [] none (λ_ h=>h) (by show 0+qs.length<=100; omega) λS' e h=>w s p S' s0 sW hall hp e ?mm
    case bb=>
     intro q S' k' hqq e hk;have hd:=hall q hqq;have sd:s / q.den ∣ W:=Nat.dvd_trans (Nat.div_dvd_of_dvd hd) sW;have s1:0 < s / q.den:=Nat.div_pos (Nat.le_of_dvd s0 hd) q.den_pos;have hn:Bt 40 q.num:=by
      have h1:=(hq q hqq).2;have h2:=Nat.le_of_dvd w0 (hq q hqq).1;have h3:A*q.den<=2 ^ 15*2 ^ 15:=Nat.mul_le_mul hA (CZ h2 hW);exact Nat.lt_of_le_of_lt (CZ h1 h3) (by decide)
     have ev:q.num*(((s:Nat):Int).fdiv ((q.den:Nat):Int))=wn s q:=by unfold wn; rw [gU]
     refine⟨rM (show ((q.den:Nat):Int)≠0 by have:=q.den_pos; omega) (bs _ q.den_pos (hq q hqq).1),gO (m:=40) (n:=20) hn (by show Bt 20 (((s:Nat):Int).fdiv ((q.den:Nat):Int)); rw [gU]; exact bs _ s1 sd),?_⟩
     show k' (some (.int (q.num*(((s:Nat):Int).fdiv ((q.den:Nat):Int))))) S'
     rw [ev];exact hk
    case mm=>
     rw [h];simp
theorem nq {g:Int->Int->Int} {all:List (Int×Int)} {S:DH} {p:Dv} {ok:DH->Prop} {bd:DB} {k:DK} {L1:Lo} (hp:S p=none) (hok:∀ S',bg S S'->ok S')
  (hbd:∀ (x:Int×Int) (S':DH) (k':Dw D->DH->Prop),x∈all->bg S S'->k' (some (.int (g x.1 x.2))) S'->bd (some (.int x.1)::some (.int x.2)::L1) S' k'):
  ∀ (r:List (Int×Int)) (acc:List D) (l0 l1:Dw D),(∀ x∈r,x∈all)->acc.length+r.length<=100->(∀ S',bg S S'->S' p=some (.lst (acc++r.map λx=>.int (g x.1 x.2)))->k (.ref p) S')->bA ok p (um 2 (pi (fq 0) (pi (fq 1) wE))) bd k (r.map λx=>.tup [.int x.1,.int x.2]) acc (l0::l1::L1) (put S p (.lst acc))
 | [],acc,l0,l1,_,_,w=>⟨hok _ (bg.new hp),w _ (bg.new hp) (by rw [am]; simp)⟩
 | x::r,acc,l0,l1,hr,hl,w=>by
  have hl:acc.length+(r.length+1)<=100:=hl;refine⟨hok _ (bg.new hp),([.int x.1,.int x.2],none),rfl,rfl,rfl,hbd x _ _ (hr x CB) (bg.new hp) ⟨am,gK (by omega),?_⟩⟩
  rw [mX];exact nq hp hok hbd r _ _ _ (λy hy=>hr y (CC _ hy)) (by rw [CK]; show acc.length+1+r.length<=100; omega) λS' e h=>w S' e (by rw [h,List.append_assoc]; rfl)
theorem m9:∀ (vs ws:List Int),fg (vs.map D.int) (ws.map D.int)=(vs.zip ws).map λx=>.tup [.int x.1,.int x.2]
 | [],_=>by simp [fg]
 | _::_,[]=>by simp [fg]
 | v::vs,w::ws=>by
  have:=m9 vs ws;unfold fg at this ⊢;simp only [CG,List.zipWith_cons_cons,List.zip_cons_cons];rw [this]
theorem gy {vs:List Int} {c:Nat} (h:c < vs.length):L2.atI (vs.map D.int) ((c:Nat):Int)=some (.int (vs.getD c 0)):=L2.cZ (by rw [CQ,CO h,CU,CO h]; rfl)
theorem et {vs:List Int} {c:Nat} (h:c < vs.length):vs.getD c 0∈vs:=by
 rw [CU,CO h];exact Dm h
def nt (vs ws:List Int) (c:Nat) (dv:Int):List Int:=(vs.zip ws).map λx=>(ws.getD c 0*x.1 - vs.getD c 0*x.2).fdiv dv
def kW:bW:=λds S k=>∃ (a b:Dv) (vs ws:List Int) (c:Nat) (dv:Int),ds=[.ref a,.ref b,.int (c:Nat),.int dv]/\S a=some (iL vs)/\S b=some (iL ws)/\vs.length=ws.length/\c < vs.length/\vs.length<=100/\dv≠0/\Bt 500 dv/\(∀ v∈vs,Bt 500 v)/\(∀ v∈ws,Bt 500 v)/\∀ p S',S p=none->bg S S'->S' p=some (iL (nt vs ws c dv))->k (.ref p) S'
theorem gH:aq ["row","lead","column","divisor","head","factor"] ["row","lead","column","divisor"] (ai iN):=dY
theorem oY (Fn:FN K "cleared" iN f fd) (fk:mg "zip"=none):
  aW P w K mg base cx 1 f fd ["row","lead","column","divisor"] (cO K kW):=by
 refine Fn.okJ gH (λds S k h=>?_) (λcdv A outer s H E hr=>⟨_,(af (ak (i:=4) gH.nd (aA cT (ae 1) (ae 2) Zf)) (af (ak (i:=5) gH.nd (aA cT (ae 0) (ae 2) Zf)) (ah (ao (tN rfl (bG (N:=["cell","above","divisor","head","factor"]) (cap:=[none,none,some 3,some 4,some 5]) rfl rfl rfl rfl ⟨rfl,rfl,rfl,trivial⟩ rfl rfl ⟨⟨rfl,.inl rfl,.inl rfl⟩,⟨rfl,.inl rfl,.inl rfl⟩,⟨rfl,.inl rfl,.inl rfl⟩,trivial⟩) rfl fk (aE 0 (aE 1 ac)) (λ_ _ _ _=>(dN (n:=2) rfl (aO (ap (i:=0) (show List.Nodup (["cell","above","divisor","head","factor"]:List Str) from by decide +kernel)) (aO (ap (i:=1) (show List.Nodup (["cell","above","divisor","head","factor"]:List Str) from by decide +kernel)) cN)))) (λ_ _ _ _=>(au gk (au i6 (au bB (ae 3) (ae 0)) (au bB (ae 4) (ae 1))) (ae 2)))))))),λds S k h=>?_⟩)
 ·obtain⟨_,_,_,_,_,_,rfl,_⟩:=h
  rfl
 ·obtain⟨a,b,vs,ws,c,dv,rfl,ha,hb,hl,hc,h100,d0,hd,hv,hw,w⟩:=h;refine⟨_,_,hb,gy (by omega),_,_,ha,gy hc,?_⟩
  refine⟨(vs.map D.int,some a),(ws.map D.int,some b),by simp only [ar,ha],by simp only [ar,hb],λp hp=>?_⟩
  rw [m9];refine nq (g:=λx y=>(ws.getD c 0*x - vs.getD c 0*y).fdiv dv) (all:=vs.zip ws) hp (λS' e=>⟨e _ _ ha,e _ _ hb⟩) ?bb _ [] none none (λ_ h=>h) (by rw [List.length_zip]; show 0+_<=100; omega) λS' e h=>w p S' hp e ?mm
  case bb=>
   rintro⟨x,y⟩ S' k' hx e hk;have h1:=hv x (List.of_mem_zip hx).1;have h2:=hw y (List.of_mem_zip hx).2;have h3:=hw _ (et (c:=c) (vs:=ws) (by omega))
   have h4:=hv _ (et hc);exact⟨gO h3 h1,gO h4 h2,rM d0 hd,hk⟩
  case mm=>
   rw [h];unfold nt;simp
structure fN (S:DH) (r:Dv) (as:List Dv) (vss:List (List Int)):Prop where
 own:S r=some (.lst (as.map D.ref))
 len:as.length=vss.length
 row:∀ (i:Nat) (a:Dv) (v:List Int),as[i]?=some a->vss[i]?=some v->S a=some (iL v)
theorem fN.get {S:DH} {r:Dv} {as:List Dv} {vss:List (List Int)} (h:fN S r as vss) {i:Nat} (hi:i < vss.length):∃ a,L2.atI (as.map D.ref) ((i:Nat):Int)=some (.ref a)/\S a=some (iL vss[i])/\as[i]?=some a:=by
 have hi2:i < as.length:=by rw [h.len]; exact hi
 refine⟨as[i],L2.cZ (by rw [CQ,CO hi2]; rfl),h.row i _ _ (CO hi2) (CO hi),CO hi2⟩
def hG:bW:=λds S k=>∃ (r:Dv) (as:List Dv) (vss:List (List Int)) (st c m:Nat),ds=[.ref r,.int (st:Nat),.int (c:Nat)]/\fN S r as vss/\(∀ v∈vss,v.length=m)/\c < m/\vss.length<=100/\st<=vss.length/\(∀ (i:Nat) (hi:i < vss.length),st<=i->vss[i].getD c 0≠0->k (.int (i:Nat)) S)/\((∀ (i:Nat) (hi:i < vss.length),st<=i->vss[i].getD c 0=0)->k .non S)
theorem gr:aq ["rows","start","column","at"] ["rows","start","column"] (ai eW):=dY
theorem kB (Fn:FN K "first_with" eW f fd) (aH:mg "range"=none) (aX:mg "len"=none):
  aW P w K mg base cx 1 f fd ["rows","start","column"] (cO K hG):=by
 refine Fn.okJ gr (λds S k h=>?_) (λcdv A outer s H E hr=>⟨_,(af (pC PassesOwn.never rfl rfl aH (aE 1 (aa (aK b8 rfl aX bU (aE 0 ac)) ac)) (ap (i:=3) gr.nd) (ah (aJ (ax yY (aA cT (aA cT (ae 0) (ae 3) Zf) (ae 2) Zf) ag (aC _)) (ah (ao (ae 3))) aM))) (ah (ao uB))),λds S k h=>?_⟩)
 ·obtain⟨_,_,_,_,_,_,rfl,_⟩:=h
  rfl
 ·obtain⟨r,as,vss,st,c,m,rfl,hR,hm,hc,h100,hst,w1,w2⟩:=h;have la:(as.map D.ref).length=vss.length:=by rw [Cv,hR.len]
  refine⟨_,hR.own,⟨by omega,by omega,by omega,by omega⟩,?_⟩
  refine bD (λrr L S'=>∃ (j:Nat) (l3:Dw D),L=[some (.ref r),some (.int (st:Nat)),some (.int (c:Nat)),l3]/\S'=S/\rr=gj ((j:Nat):Int) ((as.map D.ref).length:Int)/\j<=vss.length/\st<=j/\∀ (i:Nat) (hi:i < vss.length),st<=i->i < j->vss[i].getD c 0=0) (λ_ _ _ _=>trivial) ?_ ?_ _ _ _ ⟨st,none,rfl,rfl,rfl,hst,Ct _,λi hi h1 h2=>absurd h2 (by omega)⟩
  ·rintro d rr L S1 N1 ⟨j,l3,rfl,rfl,er,hj,hsj,hz⟩ hN;have hlt:j < vss.length:=by
    rcases Nat.lt_or_ge j vss.length with h | h
    ·exact h
    ·have:gj ((j:Nat):Int) ((as.map D.ref).length:Int)=[]:=by unfold gj; rw [show (((as.map D.ref).length:Int) - ((j:Nat):Int)).toNat=0 by omega]; rfl
     rw [this] at er;cases er
   have e2:gj ((j:Nat):Int) ((as.map D.ref).length:Int)=.int ((j:Nat):Int)::gj (((j+1:Nat):Nat):Int) ((as.map D.ref).length:Int):=by
    unfold gj;rw [show (((as.map D.ref).length:Int) - ((j:Nat):Int)).toNat=(((as.map D.ref).length:Int) - ((j+1:Nat):Int)).toNat+1 by omega,List.range_succ_eq_map,CG,C3]
    refine congr (congrArg List.cons ?_) ?_
    ·show D.int (((j:Nat):Int)+((0:Nat):Int))=D.int ((j:Nat):Int)
     rw [show ((j:Nat):Int)+((0:Nat):Int)=((j:Nat):Int) by omega]
    ·refine List.map_congr_left λi _=>?_
     show D.int (((j:Nat):Int)+((i+1:Nat):Int))=D.int (((j+1:Nat):Int)+((i:Nat):Int))
     congr 1; omega
   rw [e2] at er;cases er;obtain⟨a,ha,hv,_⟩:=hR.get hlt;refine⟨_,_,hR.own,ha,_,_,hv,gy (by rw [hm _ (Dm hlt)]; exact hc),ic (λh=>w1 j hlt hsj h) (λh=>hN _ _ ⟨j+1,_,rfl,rfl,rfl,hlt,by omega,λi hi h1 h2=>?_⟩)⟩
   by_cases hij:i=j
   ·subst hij; exact h
   ·exact hz i hi h1 (by omega)
  ·rintro L S1 ⟨j,l3,rfl,rfl,er,hj,hsj,hz⟩;refine w2 λi hi h1=>hz i hi h1 ?_
   rcases Nat.lt_or_ge j vss.length with h | h
   ·have:=congrArg List.length er;unfold gj at this;rw [Cv,List.length_range] at this;have:0=(((as.map D.ref).length:Int) - ((j:Nat):Int)).toNat:=this;omega
   ·omega
set_option maxHeartbeats 4000000
open DT in
structure RS (M:Mx) (many m:Nat) (P C Qo:Nat->Nat) (k:Nat) (d:Int) (z:Nat->Nat->Rat) (vss:List (List Int)) (cc:Nat):Prop where
 bs:BS M P C k (d:Rat) z
 len:vss.length=m
 row:∀ v∈vss,v.length=many
 km:k<=m
 ld:∀ i v x,vss[i]?=some v->i < k->x < many->((v.getD x 0:Int):Rat)=uO d z i x
 ot:∀ i v x,vss[i]?=some v->k<=i->x < many->((v.getD x 0:Int):Rat)=otE M C k d z (Qo i) x
 zero:∀ i v x,vss[i]?=some v->k<=i->x < cc->x < many->v.getD x 0=0
 col:∀ j,j < k->C j < cc
 inc:∀ i j,i < j->j < k->C i < C j
 prm:∀ r,r < k->P r < m
 qrm:∀ i,k<=i->i < m->Qo i < m
 cov:∀ q,q < m->(∃ r,r < k/\P r=q)\/∃ i,k<=i/\i < m/\Qo i=q
theorem zh {k:Nat} (h:k<=12):DT.fac (k+1)*(2 ^ 30) ^ (k+1) < 2 ^ 500:=by
 have:k=0\/k=1\/k=2\/k=3\/k=4\/k=5\/k=6\/k=7\/k=8\/k=9\/k=10\/k=11\/k=12:=by omega
 rcases this with rfl | rfl | rfl | rfl | rfl | rfl | rfl | rfl | rfl | rfl | rfl | rfl | rfl <;> decide +kernel
theorem At {k:Nat} (h:k<=12):DT.fac k*(2 ^ 30) ^ k < 2 ^ 500:=by
 cases k with
 | zero=>decide +kernel
 | succ k=>exact zh (by omega)
theorem pd {b:Nat} {v:Int} {q:Rat} (h:DT.IsN b q) (e:(v:Rat)=q) (hb:b < 2 ^ 500):Bt 500 v:=by
 obtain⟨w,hw,hl⟩:=h;have:v=w:=by rw [hw] at e; exact_mod_cast e
 subst this;exact Nat.lt_of_le_of_lt hl hb
theorem RS.bt {M:DT.Mx} {many m:Nat} {P C Qo:Nat->Nat} {k:Nat} {d:Int} {z:Nat->Nat->Rat} {vss:List (List Int)} {cc:Nat} (h:RS M many m P C Qo k d z vss cc) (hM:∀ r c,DT.IsN (2 ^ 30) (M r c)) (hk:k<=12) {v:List Int} (hv:v∈vss):∀ x∈v,Bt 500 x:=by
 intro x hx;obtain⟨i,hi,rfl⟩:=List.mem_iff_getElem.mp hv;obtain⟨j,hj,rfl⟩:=List.mem_iff_getElem.mp hx;have hlen:=h.row _ (Dm hi);have e:vss[i][j]=vss[i].getD j 0:=by rw [CU,CO hj]; rfl
 rw [e];rcases Nat.lt_or_ge i k with hik | hik
 ·exact pd (h.bs.ld hM hik) (h.ld i _ j (CO hi) hik (by omega)) (At hk)
 ·exact pd (h.bs.ot hM) (h.ot i _ j (CO hi) hik (by omega)) (zh hk)
theorem RS.dbt {M:DT.Mx} {many m:Nat} {P C Qo:Nat->Nat} {k:Nat} {d:Int} {z:Nat->Nat->Rat} {vss:List (List Int)} {cc:Nat} (h:RS M many m P C Qo k d z vss cc) (hM:∀ r c,DT.IsN (2 ^ 30) (M r c)) (hk:k<=12):Bt 500 d/\d≠0:=
 ⟨pd (DT.IsN.det λr c _ _=>hM _ _) h.bs.det (At hk),λe=>h.bs.ne (by rw [e]; rfl)⟩
theorem oC {n d t:Int} (hd:d≠0) (h:n=d*t):n.fdiv d=t:=by rw [h]; exact Int.mul_fdiv_cancel_left t hd
theorem qd {vs ws:List Int} {c:Nat} {dv:Int} (h:vs.length=ws.length):(nt vs ws c dv).length=vs.length:=by
 unfold nt;rw [Cv,List.length_zip];omega
theorem tX {vs ws:List Int} {c x:Nat} {dv:Int} (h:vs.length=ws.length) (hx:x < vs.length):(nt vs ws c dv).getD x 0=(ws.getD c 0*vs.getD x 0 - vs.getD c 0*ws.getD x 0).fdiv dv:=by
 have hw:x < ws.length:=by omega
 have hz:(vs.zip ws)[x]?=some (vs[x],ws[x]):=List.getElem?_zip_eq_some.mpr ⟨CO hx,CO hw⟩;unfold nt;rw [CU,CQ,hz];rw [CU (l:=vs) (i:=x),CO hx,CU (l:=ws) (i:=x),CO hw]
 rfl
theorem lU {α:Type} {W:List α} {a:α} {k i:Nat} (hk:k<=W.length):(W.take k++a::W.drop k)[i]?=if i < k then W[i]? else if i=k then some a else W[i - 1]?:=by
 have hl:(W.take k).length=k:=by rw [List.length_take]; omega
 by_cases h1:i < k
 ·rw [if_pos h1,List.getElem?_append_left (by omega),List.getElem?_take_of_lt h1]
 ·rw [if_neg h1,List.getElem?_append_right (by omega),hl]
  by_cases h2:i=k
  ·rw [if_pos h2,h2,Nat.sub_self]; rfl
  ·rw [if_neg h2,show i - k=(i - 1 - k)+1 by omega,List.getElem?_cons_succ,List.getElem?_drop,show k+(i - 1 - k)=i - 1 by omega]
theorem RS.skip {M:DT.Mx} {many m:Nat} {P C Qo:Nat->Nat} {k:Nat} {d:Int} {z:Nat->Nat->Rat} {vss:List (List Int)} {cc:Nat} (h:RS M many m P C Qo k d z vss cc) (h0:∀ i v,vss[i]?=some v->k<=i->v.getD cc 0=0):RS M many m P C Qo k d z vss (cc+1):=
 ⟨h.bs,h.len,h.row,h.km,h.ld,h.ot,λi v x hv hi hx hm=>by
  by_cases e:x=cc
  ·rw [e]; exact h0 i v hv hi
  ·exact h.zero i v x hv hi (by omega) hm,λj hj=>by have:=h.col j hj; omega,h.inc,h.prm,h.qrm,h.cov⟩
def qn (Qo:Nat->Nat) (gq:Nat):Nat->Nat:=λi=>if i - 1 < gq then Qo (i - 1) else Qo i
theorem RS.step {M:DT.Mx} {many m:Nat} {P C Qo:Nat->Nat} {k:Nat} {d:Int} {z:Nat->Nat->Rat} {vss:List (List Int)} {cc gq:Nat} {lead:List Int} (h:RS M many m P C Qo k d z vss cc) (hM:∀ r c,DT.IsN (2 ^ 30) (M r c)) (hcc:cc < many) (hat:vss[gq]?=some lead) (hk:k<=gq) (hne:lead.getD cc 0≠0):
  RS M many m (DT.ups P k (Qo gq)) (DT.ups C k cc) (qn Qo gq) (k+1) (lead.getD cc 0) (DT.zn M C k d z (Qo gq) cc) (((vss.eraseIdx gq).map λv=>nt v lead cc d).take k++lead::((vss.eraseIdx gq).map λv=>nt v lead cc d).drop k) (cc+1):=by
 have hatl:gq < vss.length:=(CW.mp hat).1;have hlead:lead∈vss:=List.mem_of_getElem? hat;have ll:=h.row _ hlead;have eH:((lead.getD cc 0:Int):Rat)=DT.otE M C k d z (Qo gq) cc:=h.ot gq lead cc hat hk hcc;have eX:∀ x,x < many->((lead.getD x 0:Int):Rat)=DT.otE M C k d z (Qo gq) x:=λx hx=>h.ot gq lead x hat hk hx
 have hn:DT.otE M C k d z (Qo gq) cc≠0:=by rw [<- eH]; exact λe=>hne (by exact_mod_cast e)
 have hd0:d≠0:=λe=>h.bs.ne (by rw [e]; rfl)
 have B:=h.bs.step hn;have lW:((vss.eraseIdx gq).map λv=>nt v lead cc d).length=m - 1:=by rw [Cv,List.length_eraseIdx_of_lt hatl,h.len]
 have hkW:k<=((vss.eraseIdx gq).map λv=>nt v lead cc d).length:=by rw [lW]; have:=h.len; omega
 have new:∀ i v,(((vss.eraseIdx gq).map λv=>nt v lead cc d).take k++lead::((vss.eraseIdx gq).map λv=>nt v lead cc d).drop k)[i]?=some v->
   (i < k/\∃ u,vss[i]?=some u/\v=nt u lead cc d)\/(i=k/\v=lead)\/(k < i/\∃ j u,vss[j]?=some u/\k<=j/\Qo j=qn Qo gq i/\v=nt u lead cc d):=λi v hv=>by
  rw [lU hkW] at hv
  by_cases h1:i < k
  ·rw [if_pos h1,CQ,List.getElem?_eraseIdx_of_lt (by omega)] at hv
   cases hu:vss[i]? with
   | none=>rw [hu] at hv; cases hv
   | some u=>rw [hu] at hv; cases hv; exact .inl ⟨h1,u,rfl,rfl⟩
  ·rw [if_neg h1] at hv
   by_cases h2:i=k
   ·rw [if_pos h2] at hv; cases hv; exact .inr (.inl ⟨h2,rfl⟩)
   ·rw [if_neg h2,CQ] at hv
    by_cases h3:i - 1 < gq
    ·rw [List.getElem?_eraseIdx_of_lt h3] at hv;cases hu:vss[i - 1]? with
     | none=>rw [hu] at hv; cases hv
     | some u=>rw [hu] at hv; cases hv; exact .inr (.inr ⟨by omega,i - 1,u,hu,by omega,by unfold qn; rw [if_pos h3],rfl⟩)
    ·rw [List.getElem?_eraseIdx_of_ge (by omega),show i - 1+1=i by omega] at hv
     cases hu:vss[i]? with
     | none=>rw [hu] at hv; cases hv
     | some u=>rw [hu] at hv; cases hv; exact .inr (.inr ⟨by omega,i,u,hu,by omega,by unfold qn; rw [if_neg h3],rfl⟩)
 have clrv:∀ (u:List Int) (t:Rat) (x:Nat),u∈vss->x < many->(∃ b,DT.IsN b t)->((lead.getD cc 0:Int):Rat)*((u.getD x 0:Int):Rat) - ((u.getD cc 0:Int):Rat)*((lead.getD x 0:Int):Rat)=(d:Rat)*t->(((nt u lead cc d).getD x 0:Int):Rat)=t:=λu t x hu hx ⟨b,w,hw,_⟩ e=>by
  have lu:=h.row _ hu;rw [tX (by omega) (by omega),hw]
  rw [hw] at e;have e2:lead.getD cc 0*u.getD x 0 - u.getD cc 0*lead.getD x 0=d*w:=by exact_mod_cast e
  rw [oC hd0 e2]
 refine⟨?_,?_,λv hv=>?_,?_,λi v x hv hi hx=>?_,λi v x hv hi hx=>?_,λi v x hv hi hx hm=>?_,λj hj=>?_,λi j hij hj=>?_,λr hr=>?_,λi hi him=>?_,λq hq=>?_⟩
 ·rw [eH]; exact B
 ·rw [CK,CH,List.length_take,List.length_drop,lW];have:=h.len;omega
 ·obtain⟨i,hi,rfl⟩:=List.mem_iff_getElem.mp hv;rcases new i _ (CO hi) with ⟨_,u,hu,e⟩ | ⟨_,e⟩ | ⟨_,j,u,hu,_,_,e⟩
  ·rw [e,qd (by rw [h.row _ (List.mem_of_getElem? hu),ll])]; exact h.row _ (List.mem_of_getElem? hu)
  ·rw [e]; exact ll
  ·rw [e,qd (by rw [h.row _ (List.mem_of_getElem? hu),ll])]; exact h.row _ (List.mem_of_getElem? hu)
 ·have:=h.len; omega
 ·rcases new i v hv with ⟨h1,u,hu,rfl⟩ | ⟨rfl,rfl⟩ | ⟨h1,_⟩
  ·rw [eH];refine clrv u _ x (List.mem_of_getElem? hu) hx ⟨_,B.ld hM (by omega)⟩ ?_
   rw [eH,eX x hx,h.ld i u x hu h1 hx,h.ld i u cc hu h1 hcc];exact DT.ld_new h.bs.ne hn h1
  ·rw [eH,eX x hx];exact(DT.ld_own hn).symm
  ·omega
 ·rcases new i v hv with ⟨h1,_⟩ | ⟨h1,_⟩ | ⟨h1,j,u,hu,hj,hq,rfl⟩
  ·omega
  ·omega
  ·rw [eH,<- hq];refine clrv u _ x (List.mem_of_getElem? hu) hx ⟨_,B.ot hM⟩ ?_;rw [eH,eX x hx,h.ot j u x hu hj hx,h.ot j u cc hu hj hcc];exact DT.ot_new h.bs.ne hn
 ·rcases new i v hv with ⟨h1,_⟩ | ⟨h1,_⟩ | ⟨h1,j,u,hu,hj,hq,rfl⟩
  ·omega
  ·omega
  ·have lu:=h.row _ (List.mem_of_getElem? hu);rw [tX (by omega) (by omega)]
   by_cases e:x=cc
   ·subst e;rw [Int.mul_comm,Int.sub_self];exact Int.zero_fdiv _
   ·rw [h.zero j u x hu hj (by omega) hm,h.zero gq lead x hat hk (by omega) hm,Int.mul_zero,Int.mul_zero,Int.sub_zero]
    exact Int.zero_fdiv _
 ·unfold DT.ups
  split
  ·omega
  ·have:=h.col j (by omega); omega
 ·unfold DT.ups
  by_cases e:j=k
  ·rw [if_pos e,if_neg (by omega)]; exact h.col i (by omega)
  ·rw [if_neg e,if_neg (by omega)]; exact h.inc i j hij (by omega)
 ·unfold DT.ups
  split
  ·exact h.qrm gq hk (by have:=h.len; omega)
  ·exact h.prm r (by omega)
 ·unfold qn
  split
  ·exact h.qrm (i - 1) (by omega) (by omega)
  ·exact h.qrm i (by omega) him
 ·rcases h.cov q hq with ⟨r,hr,e⟩ | ⟨i,hi,him,e⟩
  ·exact .inl ⟨r,by omega,by unfold DT.ups; rw [if_neg (by omega)]; exact e⟩
  ·by_cases e1:i=gq
   ·exact .inl ⟨k,by omega,by unfold DT.ups; rw [if_pos rfl,<- e1]; exact e⟩
   ·by_cases e2:i < gq
    ·exact .inr ⟨i+1,by omega,by have:=h.len; omega,by unfold qn; rw [Nat.add_sub_cancel,if_pos e2]; exact e⟩
    ·exact .inr ⟨i,by omega,him,by unfold qn; rw [if_neg (by omega)]; exact e⟩
set_option maxHeartbeats 4000000
theorem iI {β:Type} {S:DH} {p:Dv} {ok:DH->Prop} {bd:DB} {k:DK} {L1:Lo} {R:Dv×β->List Int->Prop} {all:List (Dv×β)} (hp:S p=none) (hok:∀ S',bg S S'->ok S')
  (hbd:∀ (x:Dv×β) (S':DH) (k':Dw D->DH->Prop),x∈all->bg S S'->(∀ q vs S2,S' q=none->bg S' S2->R x vs->S2 q=some (iL vs)->k' (some (.ref q)) S2)->bd (some (.ref x.1)::L1) S' k'):
  ∀ (r:List (Dv×β)) (as:List Dv) (vss:List (List Int)) (S1:DH) (l0:Dw D),(∀ x∈r,x∈all)->bg S S1->fN S1 p as vss->(∀ a∈as,a≠p)->as.length+r.length<=100->(∀ as' wss S',bg S S'->fN S' p as' (vss++wss)->(∀ a∈as',a≠p)->wss.length=r.length->(∀ (i:Nat) x v,r[i]?=some x->wss[i]?=some v->R x v)->(∀ a∈as',a∈as\/S a=none)->k (.ref p) S')->
  bA ok p (fq 0) bd k (r.map λx=>.ref x.1) (as.map D.ref) (l0::L1) S1
 | [],as,vss,S1,l0,_,e1,h1,hne,_,w=>⟨hok _ e1,w as [] S1 e1 (by rw [CL]; exact h1) hne rfl (λi x v h=>by simp at h) λa h=>.inl h⟩
 | x::r,as,vss,S1,l0,hr,e1,h1,hne,hl,w=>by
  have hl:as.length+(r.length+1)<=100:=hl;refine⟨hok _ e1,hbd x S1 _ (hr x CB) e1 λq vs S2 hq e2 hR h2=>?_⟩
  have hqp:q≠p:=λz=>by rw [z,h1.own] at hq; cases hq
  refine⟨e2 _ _ h1.own,by rw [Cv]; exact gK (by omega),?_⟩
  have ea:as.map D.ref++[.ref q]=(as++[q]).map D.ref:=by rw [List.map_append]; rfl
  rw [ea];have e3:bg S (put S2 p (.lst ((as++[q]).map D.ref))):=(e1.trans e2).put hp;refine iI hp hok hbd r (as++[q]) (vss++[vs]) _ _ (λy hy=>hr y (CC _ hy)) e3 ⟨am,by rw [CK,CK,h1.len]; rfl,λi a v hi hv=>?_⟩ (λa ha=>?_) (by rw [CK]; show as.length+1+r.length<=100; omega) λas' wss S' e' hR' hne' hl' hw' hold=>w as' (vs::wss) S' e' (by rw [List.append_assoc] at hR'; exact hR') hne' (by show wss.length+1=r.length+1; omega) (λi y v hi hv=>?_) (λa ha=>?_)
  ·rcases Nat.lt_or_ge i as.length with h | h
   ·rw [List.getElem?_append_left h] at hi;rw [List.getElem?_append_left (by rw [<- h1.len]; exact h)] at hv
    rw [aG (hne a (List.mem_of_getElem? hi))];exact e2 _ _ (h1.row i a v hi hv)
   ·have hi2:=(CW.mp hi).1;have hi3:i < as.length+1:=by simpa using hi2
    have e:i=as.length:=by omega
    subst e;rw [List.getElem?_append_right (Ct _),Nat.sub_self] at hi;rw [List.getElem?_append_right (by rw [h1.len]; exact Ct _),h1.len,Nat.sub_self] at hv
    have hi:some q=some a:=hi;have hv:some vs=some v:=hv;cases hi;cases hv;rw [aG hqp];exact h2
  ·rcases List.mem_append.mp ha with h | h
   ·exact hne a h
   ·simp only [Cz,CI,or_false] at h; subst h; exact hqp
  ·cases i with
   | zero=>cases hi; cases hv; exact hR
   | succ i=>exact hw' i y v hi hv
  ·rcases hold a ha with h | h
   ·rcases List.mem_append.mp h with h | h
    ·exact .inl h
    ·simp only [Cz,CI,or_false] at h; subst h; exact .inr (e1.none hq)
   ·exact .inr h
def fZ (vss:List (List Int)):DT.Mx:=λq x=>(((vss.getD q []).getD x 0:Int):Rat)
theorem RS.k_le {M:DT.Mx} {many m:Nat} {P C Qo:Nat->Nat} {k:Nat} {d:Int} {z:Nat->Nat->Rat} {vss:List (List Int)} {cc:Nat} (h:RS M many m P C Qo k d z vss cc):k<=cc:=by
 have:∀ j,j < k->j<=C j:=λj=>by
  induction j with
  | zero=>intro _; omega
  | succ j ih=>intro hj; have h1:=ih (by omega); have h2:=h.inc j (j+1) (by omega) hj; omega
 rcases Nat.eq_zero_or_pos k with h0 | h0
 ·omega
 ·have h1:=this (k - 1) (by omega)
  have h2:=h.col (k - 1) (by omega)
  omega
theorem oM {vss:List (List Int)} {i x:Nat} {v:List Int} (h:vss[i]?=some v):fZ vss i x=((v.getD x 0:Int):Rat):=by
 unfold fZ;rw [CU (l:=vss),h]
 rfl
theorem RS.start {vss:List (List Int)} {many:Nat} (h:∀ v∈vss,v.length=many):RS (fZ vss) many vss.length id id id 0 1 (λ_ _=>0) vss 0:=
 ⟨DT.BS.start,rfl,h,Dd _,λi v x _ hi=>absurd hi (by omega),λi v x hv _ _=>by
  have e:((1:Int):Rat)=1:=rfl;rw [e,DT.otE_start];exact(oM hv).symm,λi v x _ _ hx=>absurd hx (by omega),λj hj=>absurd hj (by omega),λi j _ hj=>absurd hj (by omega),λr hr=>absurd hr (by omega),λi _ hi=>hi,λq hq=>.inr ⟨q,Dd _,hq,rfl⟩⟩
theorem vh {vss:List (List Int)} (h:∀ v∈vss,∀ x∈v,x.natAbs<=2 ^ 30) (r c:Nat):DT.IsN (2 ^ 30) (fZ vss r c):=by
 refine⟨(vss.getD r []).getD c 0,rfl,?_⟩;rw [CU,CU];cases h1:vss[r]? with
 | none=>simp
 | some v=>
  cases h2:v[c]? with
  | none=>simp [h2]
  | some x=>
   have:=h v (List.mem_of_getElem? h1) x (List.mem_of_getElem? h2)
   simpa [h2] using this
set_option maxHeartbeats 4000000
theorem x8 {ds:List D} {j:Nat} (h:j<=ds.length):DL.eA ds none (some (j:Nat))=ds.take j:=by
 unfold DL.eA;have h1:HT.bM ds.length 0 none=0:=rfl;have h2:HT.bM ds.length ds.length (some ((j:Nat):Int))=j:=by unfold HT.bM; simp; rw [if_neg (by omega),Nat.min_eq_left h]
 rw [h1,h2];simp
theorem p8 {i n:Nat} (h:i < n):seqIndex? ((i:Nat):Int) n=some i:=by
 unfold seqIndex?;simp;omega
theorem uQ {as:List Dv} {vss:List (List Int)} (h:as.length=vss.length):(as.zip vss).map (λx=>D.ref x.1)=as.map D.ref:=by
 have:(as.zip vss).map (λx=>x.1)=as:=List.map_fst_zip (by omega)
 calc (as.zip vss).map (λx=>D.ref x.1)=((as.zip vss).map (λx=>x.1)).map D.ref:=by rw [C3]; rfl
  _=as.map D.ref:=by rw [this]
theorem kQ {α β:Type} (f:α->β):∀ (l:List α) (i:Nat),(l.map f).eraseIdx i=(l.eraseIdx i).map f
 | [],_=>rfl
 | _::_,0=>rfl
 | x::l,i+1=>by show f x::(l.map f).eraseIdx i=f x::(l.eraseIdx i).map f; rw [kQ f l i]
def ir:bW:=λds S k'=>∃ (r:Dv) (rs:List (Dv×List Rat)) (many W A:Nat),ds=[.ref r,.int (many:Nat)]/\S r=some (.lst (rs.map λx=>.ref x.1))/\(∀ x∈rs,S x.1=some (.lst (x.2.map fr))/\x.2.length=many/\∀ q∈x.2,bj W A q)/\0 < W/\W<=2 ^ 15/\A<=2 ^ 15/\many<=14/\rs.length<=14/\(many<=12\/rs.length<=12)/\
 ∀ (vss0 vss:List (List Int)) (k:Nat) (P C Qo:Nat->Nat) (d:Int) (z:Nat->Nat->Rat) (p1 p2:Dv) (as:List Dv) (S':DH),vss0.length=rs.length->(∀ (i:Nat) x v,rs[i]?=some x->vss0[i]?=some v->∃ s,0 < s/\s ∣ W/\(∀ q∈x.2,q.den ∣ s)/\v=x.2.map (wn s))->RS (fZ vss0) many rs.length P C Qo k d z vss many->(∀ r c,DT.IsN (2 ^ 30) (fZ vss0 r c))->k<=12->bg S S'->fN S' p1 as (vss.take k)->S' p2=some (.lst ((List.range k).map λj=>.int (C j:Nat)))->k' (.tup [.ref p1,.ref p2,.int d]) S'
theorem bz:aq ["rows","many","columns","divisor","column","place","at","lead"] ["rows","many"] (ai iV):=dY
theorem oD (Fn:FN K "reduced" iV f fd) (b5:bH P w K mg base "in_whole_numbers" 2 dg) (eM:bH P w K mg base "first_with" 1 hG) (iO:bH P w K mg base "cleared" 1 kW) (aH:mg "range"=none) (aX:mg "len"=none):
  aW P w K mg base cx 3 f fd ["rows","many"] (cO K ir):=by
 refine Fn.okJ bz (λds S k h=>?_) (λcdv A outer s H E hr=>⟨_,(af (i5 (iv:=0) bz.nd rfl (bG (N:=["row"]) (cap:=[none]) rfl rfl rfl rfl trivial rfl rfl trivial) (ae 0) (λ_ _ _ _=>(ap (i:=0) (show List.Nodup (["row"]:List Str) from by decide +kernel))) (λ_ _ _ _=>(dq b5 hr (aE 0 ac)))) (af (ak (i:=2) bz.nd (bV ac)) (af (ak (i:=3) bz.nd ag) (af (eC PassesOwn.never rfl rfl aH (aE 1 ac) (ap (i:=4) bz.nd) (af (ak (i:=5) bz.nd (aK b8 rfl aX bU (aE 2 ac))) (af (ak (i:=6) bz.nd (dq eM hr (aE 0 (aE 5 (aE 4 ac))))) (ah (aJ (ax lL (ae 6) uB (aC _)) (af (ak (i:=7) bz.nd (qf (ae 0) (ae 6))) (af (i5 (iv:=0) bz.nd rfl (bG (N:=["row","lead","column","divisor"]) (cap:=[none,some 7,some 4,some 3]) rfl rfl rfl rfl ⟨rfl,rfl,rfl,trivial⟩ rfl rfl ⟨⟨rfl,.inl rfl,.inl rfl⟩,⟨rfl,.inl rfl,.inl rfl⟩,⟨rfl,.inl rfl,.inl rfl⟩,trivial⟩) (ae 0) (λ_ _ _ _=>(ap (i:=0) (show List.Nodup (["row","lead","column","divisor"]:List Str) from by decide +kernel))) (λ_ _ _ _=>(dq iO hr (aE 0 (aE 1 (aE 2 (aE 3 ac))))))) (af (bI (yb (ae 0) (ae 5) (ae 7))) (af (bI (ke (ae 2) (ae 4))) (ah (ak (i:=3) bz.nd (aA cT (ae 7) (ae 4) Zf))))))) aM))))) (ah (ao (ay (aa (vw (ae 0) kh (jT (aK b8 rfl aX bU (aE 2 ac)))) (aE 2 (aE 3 ac)))))))))),λds S k h=>?_⟩)
 ·obtain⟨_,_,_,_,_,rfl,_⟩:=h
  rfl
 ·obtain⟨r,rs,many,W,A,rfl,hr,hx,w0,hW,hA,hmany,hrs,h12,w⟩:=h;refine⟨(rs.map λx=>.ref x.1,some r),by simp only [ar,hr],λpr0 hpr0=>?_⟩
  refine iI (R:=λx v=>∃ s,0 < s/\s ∣ W/\(∀ q∈x.2,q.den ∣ s)/\v=x.2.map (wn s)) (all:=rs) hpr0 (λS' e=>e _ _ hr) ?bb rs [] [] _ none (λ_ h=>h) (bg.new hpr0) ⟨am,rfl,(λi a v h=>by simp at h)⟩ (λa h=>by cases h) (by show 0+rs.length<=100; omega) ?mm
  case bb=>
   intro x S' kk hxx e hk;obtain⟨h1,h2,h3⟩:=hx x hxx;exact⟨x.1,x.2,W,A,rfl,e _ _ h1,h3,w0,hW,hA,by omega,λs p S2 s0 sW sd hp e2 h=>hk p _ S2 hp e2 ⟨s,s0,sW,sd,rfl⟩ h⟩
  case mm=>
   intro as0 vss0 S1 e1 R1 ne1 l0 rel0 _;rw [List.nil_append] at R1;have vlen:∀ v∈vss0,v.length=many/\∀ y∈v,y.natAbs<=2 ^ 30:=λv hv=>by
    obtain⟨i,hi,rfl⟩:=List.mem_iff_getElem.mp hv;have hi2:i < rs.length:=by omega
    obtain⟨s,s0,sW,sd,e⟩:=rel0 i _ _ (CO hi2) (CO hi);obtain⟨_,h2,h3⟩:=hx _ (Dm hi2);rw [e];refine⟨by rw [Cv]; exact h2,λy hy=>?_⟩
    obtain⟨q,hq,rfl⟩:=Cu.mp hy;exact CZ (qJ (h3 q hq) sW (sd q hq) w0) (CZ (Nat.mul_le_mul hA hW) (by decide))
   have hM:=vh (vss:=vss0) λv hv=>(vlen v hv).2
   have st:=RS.start (vss:=vss0) (many:=many) λv hv=>(vlen v hv).1
   rw [l0] at st;refine⟨bQ,λpc hpc=>⟨⟨by omega,by omega⟩,?_⟩⟩
   have spc:S pc=none:=e1.none hpc;have e2:bg S (put S1 pc (.lst [])):=e1.put spc;have npc:pr0≠pc:=λzz=>by rw [<- zz,R1.own] at hpc; cases hpc
   have nac:∀ a∈as0,a≠pc:=λa ha zz=>by
    obtain⟨i,hi,rfl⟩:=List.mem_iff_getElem.mp ha;have hi2:i < vss0.length:=by rw [<- R1.len]; exact hi
    have:=R1.row i _ _ (CO hi) (CO hi2);rw [zz,hpc] at this;cases this
   refine bD (λrr L S'=>∃ (j k:Nat) (P C Qo:Nat->Nat) (d:Int) (z:Nat->Nat->Rat) (vss:List (List Int)) (pr:Dv) (as:List Dv) (l4 l5 l6 l7:Dw D),L=[some (.ref pr),some (.int (many:Nat)),some (.ref pc),some (.int d),l4,l5,l6,l7]/\bg S S'/\S pr=none/\pr≠pc/\fN S' pr as vss/\(∀ a∈as,a≠pr/\a≠pc)/\S' pc=some (.lst ((List.range k).map λj=>.int (C j:Nat)))/\RS (fZ vss0) many rs.length P C Qo k d z vss j/\j<=many/\rr=(List.range' j (many - j)).map fun(i:Nat)=>D.int (i:Nat)) (λ_ _ _ _=>trivial) ?_ ?_ _ _ _ ⟨0,0,id,id,id,1,_,vss0,pr0,as0,none,none,none,none,rfl,e2,hpr0,npc,⟨by rw [aG npc]; exact R1.own,R1.len,λi a v hi hv=>by rw [aG (nac a (List.mem_of_getElem? hi))]; exact R1.row i a v hi hv⟩,λa ha=>⟨ne1 a ha,nac a ha⟩,am,st,Dd _,by rw [Dk,List.range_eq_range',Nat.sub_zero]⟩
   ·rintro dd rr L S2 N1 ⟨j,k,P,C,Qo,d,z,vss,pr,as,l4,l5,l6,l7,rfl,e3,hpr,nrc,R2,na,hcs,hRS,hj,er⟩ hN;have hlt:j < many:=by
     rcases Nat.lt_or_ge j many with h | h
     ·exact h
     ·rw [show many - j=0 by omega] at er; cases er
    rw [show many - j=(many - (j+1))+1 by omega] at er
    have er:dd::rr=D.int (j:Nat)::((List.range' (j+1) (many - (j+1))).map fun(i:Nat)=>D.int (i:Nat)):=er
    cases er;have hk12:k<=12:=by have h1:=hRS.km; have h2:=hRS.k_le; omega
    have lc:((List.range k).map λj=>D.int (C j:Nat)).length=k:=by rw [Cv,List.length_range]
    refine⟨_,hcs,?_⟩;refine⟨pr,as,vss,_,j,many,rfl,R2,hRS.row,hlt,by have:=hRS.len; omega,by rw [lc,hRS.len]; exact hRS.km,λi hi hki hne=>?_,λhz=>?_⟩
    ·rw [lc] at hki;obtain⟨a,_,hva,hai⟩:=R2.get hi;have hat:vss[i]?=some vss[i]:=CO hi;have hil:i < as.length:=by rw [R2.len]; exact hi
     have ham:a∈as:=List.mem_of_getElem? hai;have hvl:=hRS.len;have el:(as.map D.ref).eraseIdx i=(as.eraseIdx i).map D.ref:=(kQ _ _ _);refine⟨⟨_,R2.own⟩,_,i,.ref a,R2.own,by omega,by omega,p8 (by rw [Cv]; exact hil),by rw [CQ,hai]; rfl,?_⟩
     rw [el];have e4:bg S (put S2 pr (.lst ((as.eraseIdx i).map D.ref))):=e3.put hpr;have R3:fN (put S2 pr (.lst ((as.eraseIdx i).map D.ref))) pr (as.eraseIdx i) (vss.eraseIdx i):=by
      refine⟨am,by rw [List.length_eraseIdx_of_lt hil,List.length_eraseIdx_of_lt hi,R2.len],λn b v hb hv=>?_⟩
      have hb2:b∈as:=List.mem_of_mem_eraseIdx (List.mem_of_getElem? hb);rw [aG (na b hb2).1];rcases Nat.lt_or_ge n i with h | h
      ·rw [List.getElem?_eraseIdx_of_lt h] at hb hv
       exact R2.row n b v hb hv
      ·rw [List.getElem?_eraseIdx_of_ge h] at hb hv
       exact R2.row (n+1) b v hb hv
     have h5:put S2 pr (.lst ((as.eraseIdx i).map D.ref)) a=some (iL vss[i]):=by rw [aG (na a ham).1]; exact hva
     have h6:put S2 pr (.lst ((as.eraseIdx i).map D.ref)) pc=some (.lst ((List.range k).map λj=>.int (C j:Nat))):=by rw [aG (Ne.symm nrc)]; exact hcs
     generalize put S2 pr (.lst ((as.eraseIdx i).map D.ref))=S3 at e4 R3 h5 h6 ⊢
     have bt:∀ v∈vss,∀ x∈v,Bt 500 x:=λv hv=>hRS.bt hM hk12 hv
     have db:=hRS.dbt hM hk12;have zl:=uQ (as:=as.eraseIdx i) (vss:=vss.eraseIdx i) R3.len;refine⟨((as.eraseIdx i).map D.ref,some pr),by simp only [ar,R3.own],λpn hpn=>?_⟩
     rw [<- zl];refine iI (R:=λx v=>v=nt x.2 vss[i] j d) (all:=(as.eraseIdx i).zip (vss.eraseIdx i)) hpn (λS' e=>by show S' pr=some (.lst _); rw [zl]; exact e _ _ R3.own) ?b2 _ [] [] _ none (λ_ h=>h) (bg.new hpn) ⟨am,rfl,(λi a v h=>by simp at h)⟩ (λa h=>by cases h) (by rw [List.length_zip,R3.len,Nat.min_self,List.length_eraseIdx_of_lt hi]; have:=hRS.len; show 0+_<=100; omega) ?m2
     case b2=>
      rintro⟨b,v⟩ S' kk hxx e hk;obtain⟨n,hn,en⟩:=List.mem_iff_getElem.mp hxx;have hb:(as.eraseIdx i)[n]?=some b/\(vss.eraseIdx i)[n]?=some v:=List.getElem?_zip_eq_some.mp (by rw [CO hn,en])
      have hv2:v∈vss:=List.mem_of_mem_eraseIdx (List.mem_of_getElem? hb.2);exact⟨b,a,v,vss[i],j,d,rfl,e _ _ (R3.row n b v hb.1 hb.2),e _ _ h5,by rw [hRS.row v hv2,hRS.row _ (Dm hi)],by rw [hRS.row v hv2]; exact hlt,by rw [hRS.row v hv2]; omega,db.2,db.1,bt _ hv2,bt _ (Dm hi),λp S' hp e2 h=>hk p _ S' hp e2 rfl h⟩
     case m2=>
      intro as2 wss S4 e5 R4 ne4 l4' rel4 old4;rw [List.nil_append] at R4;have lz:wss.length=(vss.eraseIdx i).length:=by rw [l4',List.length_zip,R3.len,Nat.min_self]
      have ew:wss=(vss.eraseIdx i).map λv=>nt v vss[i] j d:=by
       refine List.ext_getElem (by rw [Cv]; exact lz) λn h1 h2=>?_
       have h3:n < (vss.eraseIdx i).length:=by omega
       have h4:n < (as.eraseIdx i).length:=by rw [R3.len]; exact h3
       have hz:((as.eraseIdx i).zip (vss.eraseIdx i))[n]?=some ((as.eraseIdx i)[n],(vss.eraseIdx i)[n]):=List.getElem?_zip_eq_some.mpr ⟨CO h4,CO h3⟩;rw [rel4 n _ _ hz (CO h1),List.getElem_map]
      have hkw:k<=wss.length:=by rw [lz,List.length_eraseIdx_of_lt hi]; omega
      have hka:k<=as2.length:=by rw [R4.len]; exact hkw
      have nnc:pn≠pc:=λzz=>by rw [zz,h6] at hpn; cases hpn
      have nan:a≠pn:=λzz=>by rw [<- zz,h5] at hpn; cases hpn
      have o4:∀ b∈as2,b≠pn/\b≠pc:=λb hb=>⟨ne4 b hb,λzz=>by
       rcases old4 b hb with h | h
       ·cases h
       ·rw [zz,h6] at h; cases h⟩
      have hw14:wss.length<=14:=by rw [lz,List.length_eraseIdx_of_lt hi]; omega
      have h7:=e5 _ _ h6;have h8:=e5 _ _ h5;refine⟨⟨_,R4.own⟩,k,_,congrArg D.int (congrArg Nat.cast lc),R4.own,by rw [Cv]; exact hka,by rw [Cv,R4.len]; omega,?_⟩
      have ei:(as2.map D.ref).take k++.ref a::(as2.map D.ref).drop k=(as2.take k++a::as2.drop k).map D.ref:=by rw [List.map_append,CG,List.map_take,List.map_drop]
      rw [ei];have g7:put S4 pn (.lst ((as2.take k++a::as2.drop k).map D.ref)) pc=some (.lst ((List.range k).map λj=>.int (C j:Nat))):=by rw [aG (Ne.symm nnc)]; exact h7
      refine⟨⟨_,g7⟩,_,g7,by rw [lc]; exact gK (by omega),?_⟩
      have g8:put (put S4 pn (.lst ((as2.take k++a::as2.drop k).map D.ref))) pc (.lst (((List.range k).map λj=>D.int (C j:Nat))++[.int (j:Nat)])) a=some (iL vss[i]):=by rw [aG (na a ham).2,aG nan]; exact h8
      refine⟨_,_,g8,gy (by rw [hRS.row _ (Dm hi)]; exact hlt),?_⟩
      have spn:S pn=none:=e4.none hpn;refine hN _ _ ⟨j+1,k+1,DT.ups P k (Qo i),DT.ups C k j,qn Qo i,vss[i].getD j 0,DT.zn (fZ vss0) C k d z (Qo i) j,_,pn,as2.take k++a::as2.drop k,_,_,_,_,rfl,((e4.trans e5).put spn).put spc,spn,nnc,⟨by rw [aG nnc]; exact am,?_,λn b v hb hv=>?_⟩,λb hb=>?_,?_,hRS.step hM hlt hat hki hne,hlt,rfl⟩
      ·rw [<- ew,CK,CK,CH,CH,List.length_take,List.length_take,List.length_drop,List.length_drop,R4.len]
      ·rw [<- ew] at hv;rw [lU hka] at hb;rw [lU hkw] at hv;have hbb:put (put S4 pn (.lst ((as2.take k++a::as2.drop k).map D.ref))) pc (.lst (((List.range k).map λj=>D.int (C j:Nat))++[.int (j:Nat)])) b=S4 b\/b=a:=by
        by_cases h1:n < k
        ·rw [if_pos h1] at hb;have:=o4 b (List.mem_of_getElem? hb)
         left; rw [aG this.2,aG this.1]
        ·rw [if_neg h1] at hb
         by_cases h2:n=k
         ·rw [if_pos h2] at hb; cases hb; exact .inr rfl
         ·rw [if_neg h2] at hb;have:=o4 b (List.mem_of_getElem? hb)
          left; rw [aG this.2,aG this.1]
       by_cases h1:n < k
       ·rw [if_pos h1] at hb hv
        have:=o4 b (List.mem_of_getElem? hb);rw [aG this.2,aG this.1];exact R4.row n b v hb hv
       ·rw [if_neg h1] at hb hv
        by_cases h2:n=k
        ·rw [if_pos h2] at hb hv
         cases hb;cases hv;exact g8
        ·rw [if_neg h2] at hb hv
         have:=o4 b (List.mem_of_getElem? hb);rw [aG this.2,aG this.1];exact R4.row (n - 1) b v hb hv
      ·rcases List.mem_append.mp hb with h | h
       ·exact o4 b (List.mem_of_mem_take h)
       ·rcases Cz.mp h with rfl | h
        ·exact⟨nan,(na b ham).2⟩
        ·exact o4 b (List.mem_of_mem_drop h)
      ·rw [am,List.range_succ,List.map_append]
       congr 3
       ·refine List.map_congr_left λn hn=>?_
        have:=Dh.mp hn;unfold DT.ups;rw [if_neg (by omega)]
       ·show [D.int (j:Nat)]=[D.int (DT.ups C k j k:Nat)]
        unfold DT.ups;rw [if_pos rfl]
    ·refine hN _ _ ⟨j+1,k,P,C,Qo,d,z,vss,pr,as,_,_,_,_,rfl,e3,hpr,nrc,R2,na,hcs,hRS.skip λi v hv hki=>?_,hlt,rfl⟩
     obtain⟨hi,e⟩:=CW.mp hv;have:=hz i hi (by rw [lc]; exact hki)
     rw [e] at this;exact this
   ·rintro L S2 ⟨j,k,P,C,Qo,d,z,vss,pr,as,l4,l5,l6,l7,rfl,e3,hpr,nrc,R2,na,hcs,hRS,hj,er⟩;have hjm:j=many:=by
     have:=congrArg List.length er;rw [Cv,List.length_range'] at this;have:0=many - j:=this;omega
    subst hjm;have hk12:k<=12:=by have h1:=hRS.km; have h2:=hRS.k_le; omega
    have lc:((List.range k).map λj=>D.int (C j:Nat)).length=k:=by rw [Cv,List.length_range]
    have kv:k<=vss.length:=by rw [hRS.len]; exact hRS.km
    refine⟨_,hcs,_,R2.own,λp1 hp1=>⟨bQ,?_⟩⟩
    have ec:DL.eA (as.map D.ref) none (some (((List.range k).map λj=>D.int (C j:Nat)).length:Nat))=(as.take k).map D.ref:=by rw [lc,x8 (by rw [Cv,R2.len]; exact kv),List.map_take]
    rw [ec];have e5:=bg.new (o:=.lst ((as.take k).map D.ref)) hp1;refine w vss0 vss k P C Qo d z p1 pc (as.take k) _ l0 rel0 hRS hM hk12 (e3.trans e5) ⟨am,by rw [List.length_take,List.length_take,R2.len],λi a v hi hv=>?_⟩ (e5 _ _ hcs)
    rw [List.getElem?_take] at hi hv
    split at hi
    ·rw [if_pos (by assumption)] at hv
     exact e5 _ _ (R2.row i a v hi hv)
    ·cases hi
set_option maxHeartbeats 4000000
def eE:bW:=λds S k=>∃ (a:Dv) (vs:List Int),ds=[.ref a]/\S a=some (iL vs)/\(∃ v∈vs,v≠0)/\(∀ v∈vs,Bt 500 v)/\vs.length<=100/\∀ (g:Nat) p S',0 < g->(∀ v∈vs,(g:Int) ∣ v)->S p=none->bg S S'->S' p=some (iL (vs.map λv=>v.fdiv (g:Int)))->k (.ref p) S'
theorem bJ:aq ["numbers","shared","number"] ["numbers"] (ai cA):=dY
theorem ig (Fn:FN K "without_shared" cA f fd) (aI:bH P w K mg base "common_divisor" 1 be):
  aW P w K mg base cx 2 f fd ["numbers"] (cO K eE):=by
 refine Fn.okJ bJ (λds S k h=>?_) (λcdv A outer s H E hr=>⟨_,(af (ak (i:=1) bJ.nd ag) (af (da PassesOwn.never rfl (ae 0) (ap (i:=2) bJ.nd) (ah (ak (i:=1) bJ.nd (dq aI hr (aE 1 (aE 2 ac)))))) (ah (ao (bY rfl (bG (N:=["number","shared"]) (cap:=[none,some 1]) rfl rfl rfl rfl ⟨rfl,trivial⟩ rfl rfl ⟨⟨rfl,.inl rfl,.inl rfl⟩,trivial⟩) (ae 0) (λ_ _ _ _=>(ap (i:=0) (show List.Nodup (["number","shared"]:List Str) from by decide +kernel))) (λ_ _ _ _=>(au gk (ae 0) (ae 1)))))))),λds S k h=>?_⟩)
 ·obtain⟨_,_,rfl,_⟩:=h
  rfl
 ·obtain⟨a,vs,rfl,ha,⟨v0,hv0,hne⟩,hb,hl,w⟩:=h;refine⟨(vs.map D.int,some a),by simp only [ar,ha],?_⟩
  refine bD (λr L S'=>∃ (s:Nat) (rs:List Int) (l2:Dw D),L=[some (.ref a),some (.int (s:Nat)),l2]/\S'=S/\r=rs.map D.int/\(∀ v∈rs,v∈vs)/\∀ v∈vs,v∈rs\/(s:Int) ∣ v) (λr L S' ⟨_,_,_,_,e,_⟩=>by subst e; exact ha) ?_ ?_ _ _ _ ⟨0,vs,none,rfl,rfl,rfl,λ_ h=>h,λ_ h=>.inl h⟩
  ·rintro d r L S1 N1 ⟨s,rs,l2,rfl,rfl,er,hin,hall⟩ hN;cases rs with
   | nil=>cases er
   | cons v rs=>
    cases er;refine hN _ _ ⟨Int.gcd (s:Int) v,rs,_,rfl,rfl,rfl,λx hx=>hin x (CC _ hx),λx hx=>?_⟩
    rcases hall x hx with h | h
    ·rcases Cz.mp h with rfl | h
     ·exact .inr (Int.gcd_dvd_right ..)
     ·exact .inl h
    ·exact .inr (Int.dvd_trans (Int.gcd_dvd_left ..) h)
  ·rintro L S1 ⟨s,rs,l2,rfl,rfl,er,hin,hall⟩;cases rs with
   | cons q rs=>cases er
   | nil=>
    have hall:∀ v∈vs,(s:Int) ∣ v:=λv hv=>(hall v hv).resolve_left (λh=>by cases h)
    have s0:0 < s:=by
     rcases Nat.eq_zero_or_pos s with h | h
     ·have:=hall v0 hv0;rw [h] at this;exact absurd (Int.zero_dvd.mp this) hne
     ·exact h
    have sb:Bt 500 (s:Int):=by
     have h1:s ∣ v0.natAbs:=by have:=Int.natAbs_dvd_natAbs.mpr (hall v0 hv0); simpa using this
     have h2:=Nat.le_of_dvd (by omega) h1
     have h3:=hb v0 hv0;unfold Bt at h3 ⊢;rw [Int.natAbs_natCast];exact Nat.lt_of_le_of_lt h2 h3
    refine⟨(vs.map D.int,some a),by simp only [ar,ha],λp hp=>?_⟩
    refine b3 (f:=D.int) (g:=λv=>.int (v.fdiv (s:Int))) (all:=vs) hp (λS' e=>e _ _ ha) ?bb vs [] none (λ_ h=>h) (by show 0+vs.length<=100; omega) λS' e h=>w s p S' s0 hall hp e ?mm
    case bb=>
     intro v S' k' hv e hk;exact⟨rM (by omega) sb,hk⟩
    case mm=>
     rw [h];simp
theorem nM {C:Nat->Nat} {c:Nat}:∀ k:Nat,oo (m6 (.int (c:Nat))) (((List.range k).map λj=>D.int (C j:Nat)).map m6)=decide (∃ j,j < k/\C j=c)
 | 0=>by
  have:¬ ∃ j,j < 0/\C j=c:=λ⟨j,h,_⟩=>absurd h (by omega)
  rw [Dc this]; rfl
 | k+1=>by
  have ih:=nM (C:=C) (c:=c) k;rw [List.range_succ,List.map_append,List.map_append];unfold oo at ih ⊢;rw [List.any_append,ih]
  show(decide _ || (tt (V.int (C k:Nat)) (V.int (c:Nat)) || false))=_
  rw [Bool.or_false]
  show(decide _ || (((C k:Nat):Int) == ((c:Nat):Int)))=_
  by_cases h:C k=c
  ·rw [decide_eq_true (show ∃ j,j < k+1/\C j=c from⟨k,by omega,h⟩)]
   have:(((C k:Nat):Int) == ((c:Nat):Int))=true:=by simp [h]
   rw [this,Bool.or_true]
  ·have:(((C k:Nat):Int) == ((c:Nat):Int))=false:=by simp; omega
   rw [this,Bool.or_false]
   by_cases h2:∃ j,j < k/\C j=c
   ·rw [decide_eq_true h2,decide_eq_true];obtain⟨j,h3,h4⟩:=h2;exact⟨j,by omega,h4⟩
   ·rw [Dc h2,Dc];rintro⟨j,h3,h4⟩
    by_cases e:j=k
    ·subst e; exact h h4
    ·exact h2 ⟨j,by omega,h4⟩
structure gs (many k:Nat) (C:Nat->Nat) (d:Int) (vss:List (List Int)) (c g:Nat) (w:List Int):Prop where
 lt:c < many
 free:∀ j,j < k->C j≠c
 pos:0 < g
 len:w.length=many
 own:w.getD c 0=d
 piv:∀ j v,j < k->vss[j]?=some v->w.getD (C j) 0=- v.getD c 0
 oth:∀ x,x < many->x≠c->(∀ j,j < k->C j≠x)->w.getD x 0=0
 dvd:∀ v∈w,(g:Int) ∣ v
 bt:∀ v∈w,Bt 500 v
abbrev qL (x:Dv×(Nat×Nat×List Int)):D:=.ref x.1
theorem gY {w:List Int} {i x:Nat} {a:Int} (h:i < w.length):(w.set i a).getD x 0=if x=i then a else w.getD x 0:=by
 rw [CU,List.getElem?_set]
 by_cases e:i=x
 ·subst e;rw [if_pos rfl,if_pos h,if_pos rfl]; rfl
 ·rw [if_neg e,if_neg (Ne.symm e),CU]
theorem lT {n i:Nat} (h:i < n):o0 n ((i:Nat):Int)=some i:=by
 unfold o0;simp;omega
theorem sn (n:Nat):(List.replicate n [D.int 0]).flatten=(List.replicate n (0:Int)).map D.int:=by
 induction n with
 | zero=>rfl
 | succ n ih=>rw [List.replicate_succ,List.flatten_cons,ih,List.replicate_succ]; rfl
theorem uk {as:List Dv} {C:Nat->Nat} {k:Nat} (h:as.length=k):fg (as.map D.ref) ((List.range k).map λj=>D.int (C j:Nat))=(List.range' 0 k).map λt=>.tup [.ref (as.getD t 0),.int (C t:Nat)]:=by
 unfold fg;refine List.ext_getElem (by simp [h]) λn h1 h2=>?_
 have hn:n < as.length:=by simp at h1; omega
 simp [CU,hn]
def fS:bW:=λds S k'=>∃ (r:Dv) (rs:List (Dv×List Rat)) (many W A:Nat),ds=[.ref r,.int (many:Nat)]/\S r=some (.lst (rs.map λx=>.ref x.1))/\(∀ x∈rs,S x.1=some (.lst (x.2.map fr))/\x.2.length=many/\∀ q∈x.2,bj W A q)/\0 < W/\W<=2 ^ 15/\A<=2 ^ 15/\many<=14/\rs.length<=14/\(many<=12\/rs.length<=12)/\
 ∀ (vss0 vss:List (List Int)) (k:Nat) (P C Qo:Nat->Nat) (d:Int) (z:Nat->Nat->Rat) (p:Dv) (fs:List (Dv×(Nat×Nat×List Int))) (S':DH),vss0.length=rs.length->(∀ (i:Nat) x v,rs[i]?=some x->vss0[i]?=some v->∃ s,0 < s/\s ∣ W/\(∀ q∈x.2,q.den ∣ s)/\v=x.2.map (wn s))->RS (fZ vss0) many rs.length P C Qo k d z vss many->k<=12->fs.map (λx=>x.2.1)=(List.range many).filter (λc=>!decide (∃ j,j < k/\C j=c))->(∀ x∈fs,gs many k C d vss x.2.1 x.2.2.1 x.2.2.2/\S' x.1=some (iL (x.2.2.2.map λv=>v.fdiv (x.2.2.1:Nat))))->bg S S'->S' p=some (.lst (fs.map qL))->k' (.ref p) S'
theorem bF:aq ["rows","many","told","found","column","numbers","row","own"] ["rows","many"] (ai fI):=dY
theorem lZ (Fn:FN K "solutions" fI f fd) (dc:bH P w K mg base "reduced" 3 ir) (cB:bH P w K mg base "without_shared" 2 eE) (aH:mg "range"=none) (fk:mg "zip"=none):
  aW P w K mg base cx 4 f fd ["rows","many"] (cO K fS):=by
 refine Fn.okJ bF (λds S k h=>?_) (λcdv A outer s H E hr=>⟨_,(af (ak (i:=2) bF.nd (dq dc hr (aE 0 (aE 1 ac)))) (af (ak (i:=3) bF.nd (bV ac)) (af (eC PassesOwn.never rfl rfl aH (aE 1 ac) (ap (i:=4) bF.nd) (ah (aJ (ax j5 (ae 4) (bX 2) (by with_unfolding_all rfl)) (af (ak (i:=5) bF.nd (au me (bV (aa ag ac)) (ae 1))) (af (cL (bX 2) (gR (ae 5) (ae 4))) (af (iD PassesOwn.never rfl rfl fk (aa (bX 2) (aa (bX 2) ac)) (dN (n:=2) rfl (aO (ap (i:=6) bF.nd) (aO (ap (i:=7) bF.nd) cN))) (ah (cL (kU kO (aA cT (ae 6) (ae 4) Zf)) (gR (ae 5) (ae 7))))) (ah (bI (ke (ae 3) (dq cB hr (aE 5 ac)))))))) aM))) (ah (ao (ae 3)))))),λds S k h=>?_⟩)
 ·obtain⟨_,_,_,_,_,rfl,_⟩:=h
  rfl
 ·obtain⟨r,rs,many,W,A,rfl,hr,hx,w0,hW,hA,hmany,hrs,h12,w⟩:=h;refine⟨r,rs,many,W,A,rfl,hr,hx,w0,hW,hA,hmany,hrs,h12,λvss0 vss k P C Qo d z p1 p2 as S1 l0 rel0 hRS hM hk12 e1 R1 hcs=>?_⟩
  have kv:k<=vss.length:=by rw [hRS.len]; exact hRS.km
  have la:as.length=k:=by rw [R1.len,List.length_take]; omega
  have arow:∀ t v,t < k->vss[t]?=some v->S1 (as.getD t 0)=some (iL v):=λt v ht hv=>by
   have h1:as[t]?=some (as.getD t 0):=by rw [CU,CO (by omega)]; rfl
   exact R1.row t _ v h1 (by rw [List.getElem?_take,if_pos ht]; exact hv)
  have bt:∀ v∈vss,∀ x∈v,Bt 500 x:=λv hv=>hRS.bt hM hk12 hv
  have db:=hRS.dbt hM hk12;refine⟨bQ,λpf hpf=>⟨⟨by omega,by omega⟩,?_⟩⟩
  have spf:S pf=none:=e1.none hpf;refine bD (λrr L S'=>∃ (j:Nat) (fs:List (Dv×(Nat×Nat×List Int))) (l4 l5 l6 l7:Dw D),L=[some (.ref r),some (.int (many:Nat)),some (.tup [.ref p1,.ref p2,.int d]),some (.ref pf),l4,l5,l6,l7]/\bg S1 S'/\S' pf=some (.lst (fs.map qL))/\fs.map (λx=>x.2.1)=(List.range j).filter (λc=>!decide (∃ j,j < k/\C j=c))/\(∀ x∈fs,gs many k C d vss x.2.1 x.2.2.1 x.2.2.2/\S' x.1=some (iL (x.2.2.2.map λv=>v.fdiv (x.2.2.1:Nat)))/\x.1≠pf)/\fs.length<=j/\j<=many/\rr=(List.range' j (many - j)).map fun(i:Nat)=>D.int (i:Nat)) (λ_ _ _ _=>trivial) ?_ ?_ _ _ _ ⟨0,[],none,none,none,none,rfl,bg.new hpf,am,rfl,(λ_ h=>by cases h),Ct _,Dd _,by rw [Dk,List.range_eq_range',Nat.sub_zero]⟩
  ·rintro dd rr L S2 N1 ⟨j,fs,l4,l5,l6,l7,rfl,e2,hf,hfree,hfs,hfl,hj,er⟩ hN;have hlt:j < many:=by
    rcases Nat.lt_or_ge j many with h | h
    ·exact h
    ·rw [show many - j=0 by omega] at er; cases er
   rw [show many - j=(many - (j+1))+1 by omega] at er
   have er:dd::rr=D.int (j:Nat)::((List.range' (j+1) (many - (j+1))).map fun(i:Nat)=>D.int (i:Nat)):=er
   cases er;have hI:=nM (C:=C) (c:=j) k;refine⟨((List.range k).map λj=>.int (C j:Nat),some p2),by simp only [ar,e2 _ _ hcs],rfl,by simp [li],?_⟩
   show(if (!oo (m6 (.int (j:Nat))) (((List.range k).map λj=>D.int (C j:Nat)).map m6))=true then _ else _)
   rw [hI];refine ic (λhno=>?_) (λhyes=>?_)
   ·have hno':∀ t,t < k->C t≠j:=λt ht e=>hno ⟨t,ht,e⟩
    refine⟨bQ,λpz hpz=>⟨_,am,by omega,by omega,?_,λpn hpn=>?_⟩⟩
    ·show 1*many<=sizeLine
     exact Nat.le_of_lt (gK (by omega))
    have rz:(List.replicate ((many:Nat):Int).toNat [D.int 0]).flatten=(List.replicate many (0:Int)).map D.int:=by rw [Dk,sn]
    rw [rz];have e3:bg S2 (put S2 pz (.lst [.int 0])):=bg.new hpz;have s2n:S2 pn=none:=e3.none hpn;have npf:pn≠pf:=λzz=>by rw [zz,hf] at s2n; cases s2n
    refine⟨_,j,am,lT (by rw [Cv,List.length_replicate]; exact hlt),?_⟩
    have es:((List.replicate many (0:Int)).map D.int).set j (.int d)=((List.replicate many (0:Int)).set j d).map D.int:=by rw [List.map_set]
    rw [es];have e4:bg S2 (put (put (put S2 pz (.lst [.int 0])) pn (.lst ((List.replicate many (0:Int)).map D.int))) pn (.lst (((List.replicate many (0:Int)).set j d).map D.int))):=(e3.put s2n).put s2n;have f4:put (put (put S2 pz (.lst [.int 0])) pn (.lst ((List.replicate many (0:Int)).map D.int))) pn (.lst (((List.replicate many (0:Int)).set j d).map D.int)) pn=some (iL ((List.replicate many (0:Int)).set j d)):=am;generalize put (put (put S2 pz (.lst [.int 0])) pn (.lst ((List.replicate many (0:Int)).map D.int))) pn (.lst (((List.replicate many (0:Int)).set j d).map D.int))=T0 at e4 f4 ⊢
    have e14:=e2.trans e4;refine⟨(as.map D.ref,some p1),((List.range k).map λj=>.int (C j:Nat),some p2),by simp only [ar,e14 _ _ R1.own],by simp only [ar,e14 _ _ hcs],?_⟩
    rw [uk la];have lz:(List.replicate many (0:Int)).length=many:=List.length_replicate;have gz:∀ x,((List.replicate many (0:Int)).set j d).getD x 0=if x=j then d else 0:=λx=>by
     rw [gY (by rw [lz]; exact hlt)]
     by_cases h:x=j
     ·rw [if_pos h,if_pos h]
     ·rw [if_neg h,if_neg h,CU,List.getElem?_replicate]
      split <;> rfl
    refine bD (λrr L S'=>∃ (t:Nat) (u:List Int) (l6 l7:Dw D),L=[some (.ref r),some (.int (many:Nat)),some (.tup [.ref p1,.ref p2,.int d]),some (.ref pf),some (.int (j:Nat)),some (.ref pn),l6,l7]/\bg S2 S'/\S' pn=some (iL u)/\u.length=many/\u.getD j 0=d/\(∀ i v,i < t->vss[i]?=some v->u.getD (C i) 0=- v.getD j 0)/\(∀ x,x < many->x≠j->(∀ i,i < t->C i≠x)->u.getD x 0=0)/\(∀ x∈u,Bt 500 x)/\t<=k/\rr=(List.range' t (k - t)).map λt=>.tup [.ref (as.getD t 0),.int (C t:Nat)]) (λrr L S' ⟨_,_,_,_,_,e,_⟩=>⟨(e2.trans e) _ _ R1.own,(e2.trans e) _ _ hcs⟩) ?_ ?_ _ _ _ ⟨0,_,l6,l7,rfl,e4,f4,by rw [List.length_set,lz],by rw [gz,if_pos rfl],λi v h=>absurd h (by omega),λx hx hxj _=>by rw [gz,if_neg hxj],λx hx=>?_,Dd _,by rw [Nat.sub_zero]⟩
    ·rintro dd rr L S3 N2 ⟨t,u,l6,l7,rfl,e5,f5,hu,hud,hup,hu0,hub,htk,er⟩ hN2;have htl:t < k:=by
      rcases Nat.lt_or_ge t k with h | h
      ·exact h
      ·rw [show k - t=0 by omega] at er; cases er
     rw [show k - t=(k - (t+1))+1 by omega] at er
     have er:dd::rr=.tup [.ref (as.getD t 0),.int (C t:Nat)]::((List.range' (t+1) (k - (t+1))).map λt=>.tup [.ref (as.getD t 0),.int (C t:Nat)]):=er
     cases er;have htv:t < vss.length:=by omega
     have hvt:vss[t]?=some vss[t]:=CO htv;have hCt:C t < many:=hRS.col t htl;have hvl:=hRS.row _ (Dm htv);refine⟨(_,none),rfl,rfl,rfl,_,_,(e2.trans e5) _ _ (arow t _ htl hvt),gy (by rw [hvl]; exact hlt),_,C t,f5,lT (by rw [Cv,hu]; exact hCt),?_⟩
     have hCu:C t < u.length:=by rw [hu]; exact hCt
     refine hN2 _ _ ⟨t+1,u.set (C t) (- vss[t].getD j 0),_,_,rfl,e5.put s2n,by rw [am]; show some (DO.lst ((u.map D.int).set (C t) (.int (- vss[t].getD j 0))))=some (DO.lst ((u.set (C t) (- vss[t].getD j 0)).map D.int)); rw [List.map_set],by rw [List.length_set]; exact hu,?_,λi v hi hv=>?_,λx hx hxj hfr=>?_,λx hx=>?_,htl,rfl⟩
     ·rw [gY hCu,if_neg (Ne.symm (hno' t htl))]; exact hud
     ·rw [gY hCu]
      by_cases e:i=t
      ·subst e;rw [if_pos rfl];rw [hvt] at hv;cases hv
       rfl
      ·rw [if_neg (by have:=hRS.inc i t (by omega) htl; omega)]
       exact hup i v (by omega) hv
     ·rw [gY hCu,if_neg (Ne.symm (hfr t (by omega)))]
      exact hu0 x hx hxj λi hi=>hfr i (by omega)
     ·rcases List.mem_or_eq_of_mem_set hx with h | h
      ·exact hub x h
      ·rw [h];exact(bt _ (Dm htv) _ (et (by rw [hvl]; exact hlt))).neg
    ·rintro L S3 ⟨t,u,l6,l7,rfl,e5,f5,hu,hud,hup,hu0,hub,htk,er⟩;have htk2:t=k:=by
      have:=congrArg List.length er;rw [Cv,List.length_range'] at this;have:0=k - t:=this;omega
     subst htk2;have f6:=e5 _ _ hf;have hdm:d∈u:=by rw [<- hud]; exact et (by rw [hu]; exact hlt)
     refine⟨⟨_,f6⟩,pn,u,rfl,f5,⟨d,hdm,db.2⟩,hub,by omega,λg q S5 g0 dv hq e6 h6=>⟨_,e6 _ _ f6,by rw [Cv]; exact gK (by omega),?_⟩⟩
     have hqf:q≠pf:=λzz=>by rw [zz,f6] at hq; cases hq
     have el:fs.map qL++[.ref q]=(fs++[(q,(j,g,u))]).map qL:=by rw [List.map_append]; rfl
     rw [el];refine hN _ _ ⟨j+1,fs++[(q,(j,g,u))],_,_,_,_,rfl,((e2.trans e5).trans e6).put hpf,am,?_,λx hx=>?_,by rw [CK]; show fs.length+1<=j+1; omega,hlt,rfl⟩
     ·rw [List.map_append,hfree,List.range_succ,List.filter_append];have:List.filter (λc=>!decide (∃ j,j < t/\C j=c)) [j]=[j]:=by simp only [List.filter_cons,List.filter_nil]; rw [Dc hno]; rfl
      rw [this]
      rfl
     ·rcases List.mem_append.mp hx with h | h
      ·obtain⟨g1,g2,g3⟩:=hfs x h;exact⟨g1,by rw [aG g3]; exact e6 _ _ (e5 _ _ g2),g3⟩
      ·simp only [Cz,CI,or_false] at h;subst h;exact⟨⟨hlt,hno',g0,hu,hud,λi v hi hv=>hup i v hi hv,hu0,dv,hub⟩,by rw [aG hqf]; exact h6,hqf⟩
    ·rcases List.mem_or_eq_of_mem_set hx with h | h
     ·rw [(List.mem_replicate.mp h).2]; decide
     ·rw [h]; exact db.1
   ·refine hN _ _ ⟨j+1,fs,_,_,_,_,rfl,e2,hf,?_,hfs,by omega,hlt,rfl⟩
    rw [hfree,List.range_succ,List.filter_append];have:List.filter (λc=>!decide (∃ j,j < k/\C j=c)) [j]=[]:=by simp only [List.filter_cons,List.filter_nil]; rw [decide_eq_true hyes]; rfl
    rw [this,CL]
  ·rintro L S2 ⟨j,fs,l4,l5,l6,l7,rfl,e2,hf,hfree,hfs,hfl,hj,er⟩;have hjm:j=many:=by
    have:=congrArg List.length er;rw [Cv,List.length_range'] at this;have:0=many - j:=this;omega
   subst hjm;exact w vss0 vss k P C Qo d z pf fs S2 l0 rel0 hRS hk12 hfree (λx hx=>⟨(hfs x hx).1,(hfs x hx).2.1⟩) (e1.trans e2) hf
set_option maxHeartbeats 4000000
abbrev W2 (v:Rat×Rat):D:=W v.1 v.2
abbrev P2 (v:Rat×Rat):D:=PP v.1 v.2
abbrev bR:=Nat×Nat×Int
abbrev cu (r:bR):D:=.tup [.int (r.1:Nat),.int (r.2.1:Nat),.tup [.int r.2.2,.int 1]]
abbrev bu (f:Nat):D:=.int (f:Nat)
abbrev LK (many:Nat) (fx:List Nat) (rods:List bR):D:=.tup [.int (many:Nat),.tup (fx.map bu),.tup (rods.map cu)]
structure eJ (many:Nat) (fx:List Nat) (rods:List bR):Prop where
 m1:1<=many
 m7:many<=7
 fl:fx.length<=7
 fxl:∀ f∈fx,f < many
 rl:rods.length<=12
 rd:∀ r∈rods,r.1 < many/\r.2.1 < many/\r.1≠r.2.1
 nd:fx.Nodup
structure fo (many:Nat) (pts:List (Rat×Rat)):Prop where
 len:pts.length=many
 ok:∀ p∈pts,bj 24 16 p.1/\bj 24 16 p.2
def aj (many:Nat) (fx:List Nat):List Nat:=(List.range many).filter λj=>!decide (j∈fx)
theorem dF {many:Nat} {fx:List Nat}:(aj many fx).length<=many:=by
 unfold aj;have:=List.length_filter_le (λj=>!decide (j∈fx)) (List.range many)
 rw [List.length_range] at this;exact this
theorem nE {c:Nat}:∀ fx:List Nat,oo (m6 (.int (c:Nat))) ((fx.map bu).map m6)=decide (c∈fx)
 | []=>rfl
 | f::fx=>by
  have ih:=nE (c:=c) fx;unfold oo at ih ⊢;rw [CG,CG,List.any_cons,ih]
  show((((f:Nat):Int) == ((c:Nat):Int)) || decide _)=_
  by_cases h:f=c
  ·rw [decide_eq_true (show c∈f::fx from h▸CB)]
   have:(((f:Nat):Int) == ((c:Nat):Int))=true:=by simp [h]
   rw [this,Bool.true_or]
  ·have:(((f:Nat):Int) == ((c:Nat):Int))=false:=by simp; omega
   rw [this,Bool.false_or];have e:(c∈f::fx)=(c∈fx):=by simp [Cz,Ne.symm h]
   simp only [e]
theorem fu {α:Type} {f g:α->D} {q:α->DM} {all:List α} {S:DH} {p:Dv} {ok:DH->Prop} {bd:DB} {k:DK} {L1:Lo} (hp:S p=none) (hok:∀ S',bg S S'->ok S')
  (hbd:∀ (x:α) (S':DH) (k':Dw D->DH->Prop),x∈all->bg S S'->k' (if q x then some (g x) else none) S'->bd (some (f x)::L1) S' k'):
  ∀ (r:List α) (acc:List D) (l0:Dw D),(∀ x∈r,x∈all)->acc.length+r.length<=100->(∀ S',bg S S'->S' p=some (.lst (acc++(r.filter q).map g))->k (.ref p) S')->bA ok p (fq 0) bd k (r.map f) acc (l0::L1) (put S p (.lst acc))
 | [],acc,l0,_,_,w=>⟨hok _ (bg.new hp),w _ (bg.new hp) (by rw [am]; simp)⟩
 | x::r,acc,l0,hr,hl,w=>by
  have hl:acc.length+(r.length+1)<=100:=hl;refine⟨hok _ (bg.new hp),hbd x _ _ (hr x CB) (bg.new hp) ?_⟩;cases hq:q x with
  | true=>
   refine⟨am,gK (by omega),?_⟩
   rw [mX];exact fu hp hok hbd r _ _ (λy hy=>hr y (CC _ hy)) (by rw [CK]; show acc.length+1+r.length<=100; omega) λS' e h=>w S' e (by rw [h,List.append_assoc,List.filter_cons_of_pos (by rw [hq])]; rfl)
  | false=>
   exact fu hp hok hbd r _ _ (λy hy=>hr y (CC _ hy)) (by omega) λS' e h=>w S' e (by rw [h,List.filter_cons_of_neg (by rw [hq]; decide)])
def bv:bW:=λds S k=>∃ (many:Nat) (fx:List Nat) (rods:List bR),ds=[LK many fx rods]/\eJ many fx rods/\∀ p S',S p=none->bg S S'->S' p=some (.lst ((aj many fx).map bu))->k (.ref p) S'
theorem jP:aq ["linkage"] ["linkage"] (ai dX):=dY
theorem jU (Fn:FN K "free_joints" dX f fd) (aH:mg "range"=none):
  aW P w K mg base cx 1 f fd ["linkage"] (cO K bv):=by
 refine Fn.okJ jP (λds S k h=>?_) (λcdv A outer s H E hr=>⟨_,(ah (ao (kd rfl (bG (N:=["joint","linkage"]) (cap:=[none,some 0]) rfl rfl rfl rfl ⟨rfl,trivial⟩ rfl rfl ⟨⟨rfl,.inl rfl,.inl rfl⟩,trivial⟩) rfl aH (aa (bX 0) ac) (λ_ _ _ _=>(ap (i:=0) (show List.Nodup (["joint","linkage"]:List Str) from by decide +kernel))) (λ_ _ _ _=>(ax j5 (ae 0) (bX 1) (by with_unfolding_all rfl))) (λ_ _ _ _=>(ae 0))))),λds S k h=>?_⟩)
 ·obtain⟨_,_,_,rfl,_⟩:=h
  rfl
 ·obtain⟨many,fx,rods,rfl,ok,w⟩:=h;have:=ok.m7;refine⟨⟨by omega,by omega⟩,λp hp=>?_⟩
  rw [Dk];refine fu (f:=bu) (g:=bu) (q:=λj=>!decide (j∈fx)) (all:=List.range many) hp (λ_ _=>trivial) ?bb (List.range many) [] none (λ_ h=>h) (by rw [List.length_range]; show 0+many<=100; omega) λS' e h=>w p S' hp e h
  case bb=>
   intro x S' k' hx e hk;have hI:=nE (c:=x) fx;refine⟨(fx.map bu,none),rfl,rfl,by simp [li],?_⟩
   show(if (!oo (m6 (.int (x:Nat))) ((fx.map bu).map m6))=true then _ else _)
   rw [hI]
   by_cases h:x∈fx
   ·rw [decide_eq_true h] at hk ⊢;exact hk
   ·rw [Dc h] at hk ⊢;exact hk
theorem bj.to {A:Nat} {q:Rat} (h:bj 24 A q):∃ z:Int,q*24=(z:Rat)/\z.natAbs<=A*24:=
 ⟨wn 24 q,by have:=qF h.1; rw [this]; rfl,qJ h (Nat.dvd_refl _) h.1 (by decide)⟩
theorem bj.of {A:Nat} {q:Rat} {z:Int} (h:q*24=(z:Rat)) (hz:z.natAbs<=A*24):bj 24 A q:=by
 have e:q.num*24=z*q.den:=by
  have h1:=dP q;have:((q.num*24:Int):Rat)=((z*q.den:Int):Rat):=by
   rw [Cr,Cr,<- h,h1,Rat.intCast_natCast];have:((24:Int):Rat)=24:=rfl;rw [this];grind
  exact Rat.intCast_inj.mp this
 have e2:q.num.natAbs*24=z.natAbs*q.den:=by
  have:=congrArg Int.natAbs e;rw [Di,Di] at this;exact this
 refine⟨Nat.Coprime.dvd_of_dvd_mul_left q.reduced.symm ⟨z.natAbs,by rw [e2,Nat.mul_comm]⟩,?_⟩
 refine Nat.le_of_mul_le_mul_right (c:=24) ?_ (by decide)
 rw [e2]
 calc z.natAbs*q.den<=A*24*q.den:=Nat.mul_le_mul_right _ hz
  _=A*q.den*24:=Nat.mul_right_comm ..
theorem bj.sub {A B:Nat} {p q:Rat} (h:bj 24 A p) (h':bj 24 B q):bj 24 (A+B) (p - q):=by
 obtain⟨x,e,l⟩:=h.to;obtain⟨y,e',l'⟩:=h'.to;refine bj.of (z:=x - y) ?_ (by rw [Nat.add_mul]; omega)
 rw [Rat.intCast_sub,<- e,<- e'];grind
theorem bj.neg {A:Nat} {p:Rat} (h:bj 24 A p):bj 24 A (-p):=⟨by rw [Rat.neg_den]; exact h.1,by rw [Rat.neg_num,Rat.neg_den,Int.natAbs_neg]; exact h.2⟩
theorem bj.zero {A:Nat}:bj 24 A 0:=⟨⟨24,rfl⟩,Dd _⟩
theorem bj.sz {n:Nat} {p:Rat} (h:bj 24 (2 ^ n) p):Sz (n+5) p:=by
 have h1:p.den<=24:=Nat.le_of_dvd (by decide) h.1
 have h3:1<=2 ^ n:=Nat.one_le_two_pow;have h2:p.num.natAbs<=2 ^ n*24:=CZ h.2 (Nat.mul_le_mul_left _ h1)
 constructor
 ·unfold Bt;rw [Nat.pow_add];omega
 ·unfold Bt;rw [Nat.pow_add,Int.natAbs_natCast];omega
theorem iU {α:Type} {f:α->D} {l:List α} {c:Nat} {a:α} (h:l[c]?=some a):L2.atI (l.map f) ((c:Nat):Int)=some (f a):=L2.cZ (by rw [CQ,h]; rfl)
def c_:bW:=λds S k=>∃ (r:bR) (pts:List (Rat×Rat)) (a b:Rat×Rat),ds=[cu r,.tup (pts.map P2)]/\pts[r.1]?=some a/\pts[r.2.1]?=some b/\(bj 24 16 a.1/\bj 24 16 a.2)/\(bj 24 16 b.1/\bj 24 16 b.2)/\k (W (b.1 - a.1) (b.2 - a.2)) S
theorem kA:aq ["rod","place"] ["rod","place"] (ai eQ):=dY
theorem kD (Fn:FN K "way_of_rod" eQ f fd) (cf:bH P w K mg base "plain_way" 4 fB) (fc:bH P w K mg base "place_of" 1 jZ):
  aW P w K mg base cx 5 f fd ["rod","place"] (cO K c_):=by
 refine Fn.okJ kA (λds S k h=>?_) (λcdv A outer s H E hr=>⟨_,(ah (ao (dq cf hr (aa (dq fc hr (aa (aA aR (ae 1) (aA aR (ae 0) ag Zf) Zf) ac)) (aa (dq fc hr (aa (aA aR (ae 1) (aA aR (ae 0) ag Zf) Zf) ac)) ac))))),λds S k h=>?_⟩)
 ·obtain⟨_,_,_,_,rfl,_⟩:=h
  rfl
 ·obtain⟨r,pts,a,b,rfl,ha,hb,oa,ob,w⟩:=h;have f1:Sz 9 a.1:=bj.sz (n:=4) oa.1;have f2:Sz 9 a.2:=bj.sz (n:=4) oa.2;have f3:Sz 9 b.1:=bj.sz (n:=4) ob.1;have f4:Sz 9 b.2:=bj.sz (n:=4) ob.2;exact⟨_,rfl,_,iU ha,_,_,rfl,_,rfl,_,iU hb,_,_,rfl,_,_,_,_,rfl,f1.mono (by decide),f2.mono (by decide),f3.mono (by decide),f4.mono (by decide),w⟩
theorem fA {α γ:Type} {f:α->D} {g:γ->D} {R:α->γ->DH->Prop} {J:DH->Prop} {Kq:DH->DH->Prop} {p:Dv} {ok:DH->Prop} {bd:DB} {k:DK} {L1:Lo} {all:List α} (hok:∀ S',J S'->ok S')
  (hKp:∀ S1 S2 o,J S1->Kq S1 S2->S1 p=some o->S2 p=some o) (hKR:∀ S1 S2 x y,Kq S1 S2->R x y S1->R x y S2) (hpR:∀ S1 x y o,R x y S1->R x y (put S1 p o)) (hJ:∀ S1 o,J S1->J (put S1 p o))
  (hbd:∀ (x:α) (S':DH) (k':Dw D->DH->Prop),x∈all->J S'->(∃ o,S' p=some o)->(∀ y S2,J S2->Kq S' S2->R x y S2->k' (some (g y)) S2)->bd (some (f x)::L1) S' k'):
  ∀ (r:List α) (zs:List (α×γ)) (S1:DH) (l0:Dw D),(∀ x∈r,x∈all)->J S1->S1 p=some (.lst (zs.map λz=>g z.2))->(∀ z∈zs,R z.1 z.2 S1)->zs.length+r.length<=100->(∀ (zs':List (α×γ)) S',J S'->S' p=some (.lst (zs'.map λz=>g z.2))->(∀ z∈zs',R z.1 z.2 S')->zs'.map Prod.fst=zs.map Prod.fst++r->k (.ref p) S')->
  bA ok p (fq 0) bd k (r.map f) (zs.map λz=>g z.2) (l0::L1) S1
 | [],zs,S1,l0,_,j1,h1,hz,_,w=>⟨hok _ j1,w zs S1 j1 h1 hz (by rw [CL])⟩
 | x::r,zs,S1,l0,hr,j1,h1,hz,hl,w=>by
  have hl:zs.length+(r.length+1)<=100:=hl;refine⟨hok _ j1,hbd x S1 _ (hr x CB) j1 ⟨_,h1⟩ λy S2 j2 k2 hR=>⟨hKp _ _ _ j1 k2 h1,by rw [Cv]; exact gK (by omega),?_⟩⟩
  have ea:(zs.map λz=>g z.2)++[g y]=(zs++[(x,y)]).map λz=>g z.2:=by rw [List.map_append]; rfl
  rw [ea];refine fA hok hKp hKR hpR hJ hbd r (zs++[(x,y)]) _ _ (λy hy=>hr y (CC _ hy)) (hJ _ _ j2) am (λz hz'=>?_) (by rw [CK]; show zs.length+1+r.length<=100; omega) λzs' S' j' h' hR' he=>w zs' S' j' h' hR' (by rw [he,List.map_append,List.append_assoc]; rfl)
  refine hpR _ _ _ _ ?_;rcases List.mem_append.mp hz' with h | h
  ·exact hKR _ _ _ _ k2 (hz z h)
  ·simp only [Cz,CI,or_false] at h;subst h;exact hR
set_option maxHeartbeats 4000000
theorem eq_int {n:Nat} {i j:Int}:fW n (.int i) (.int j)=some (i == j):=by cases n <;> rfl
theorem qu {n:Nat} {p q:Rat}:fW (n+1) (fr p) (fr q)=some (decide (p=q)):=by
 show eY (fW n) [.int p.num,.int (p.den:Int)] [.int q.num,.int (q.den:Int)]=_
 show(match fW n (.int p.num) (.int q.num),(match fW n (.int (p.den:Int)) (.int (q.den:Int)),some true with | some a,some b=>some (a && b) | _,_=>none) with | some a,some b=>some (a && b) | _,_=>none)=_
 rw [eq_int,eq_int]
 show some ((p.num == q.num) && (((p.den:Int) == (q.den:Int)) && true))=_
 congr 1
 rw [Bool.and_true,Bool.eq_iff_iff];simp only [C0,beq_iff_eq,decide_eq_true_eq];exact⟨λz9=>by obtain⟨a,b⟩:=z9; exact Rat.ext a (by exact_mod_cast b),λh=>by subst h; exact⟨rfl,rfl⟩⟩
theorem xy {n:Nat} {a b c d:D} {p q:DM} (h1:fW n a c=some p) (h2:fW n b d=some q):fW (n+1) (.tup [a,b]) (.tup [c,d])=some (p && q):=by
 show(match fW n a c,(match fW n b d,some true with | some a,some b=>some (a && b) | _,_=>none) with | some a,some b=>some (a && b) | _,_=>none)=_
 rw [h1,h2]
 show some (p && (q && true))=_
 rw [Bool.and_true]
theorem yJ {p:Rat×Rat}:fW 8 (W2 p) (.tup [fr 0,fr 0])=some (decide (p=(0,0))):=by
 rw [show W2 p=.tup [fr p.1,fr p.2] from rfl,xy (n:=7) qu qu,<- Bool.decide_and]
 congr 1
 exact decide_eq_decide.mpr ⟨λh=>Prod.ext h.1 h.2,λh=>by rw [h]; exact⟨rfl,rfl⟩⟩
def wy (pts:List (Rat×Rat)) (i j:Nat):Rat×Rat:=((pts.getD j (0,0)).1 - (pts.getD i (0,0)).1,(pts.getD j (0,0)).2 - (pts.getD i (0,0)).2)
def gS (pts vs:List (Rat×Rat)) (r:bR):Rat:=(wy pts r.1 r.2.1).1*(wy vs r.1 r.2.1).1+(wy pts r.1 r.2.1).2*(wy vs r.1 r.2.1).2
def fK (fx:List Nat) (rods:List bR) (pts vs:List (Rat×Rat)):DM:=fx.all (λf=>decide (vs.getD f (0,0)=(0,0))) && rods.all (λr=>decide (gS pts vs r=0))
theorem vU {l:List (Rat×Rat)} {i:Nat} (h:i < l.length):l[i]?=some (l.getD i (0,0)):=by
 rw [CU,CO h]; rfl
theorem xJ {l:List (Rat×Rat)} {i:Nat} (h:i < l.length):l.getD i (0,0)∈l:=List.mem_of_getElem? (vU h)
structure kF (n:Nat) (many:Nat) (vs:List (Rat×Rat)):Prop where
 len:vs.length=many
 ok:∀ p∈vs,bj 24 (2 ^ n) p.1/\bj 24 (2 ^ n) p.2
theorem fo.at {many:Nat} {pts:List (Rat×Rat)} (h:fo many pts) {i:Nat} (hi:i < many):pts[i]?=some (pts.getD i (0,0))/\bj 24 16 (pts.getD i (0,0)).1/\bj 24 16 (pts.getD i (0,0)).2:=by
 have hl:i < pts.length:=by rw [h.len]; exact hi
 exact⟨vU hl,h.ok _ (xJ hl)⟩
theorem kF.at {n many:Nat} {pts:List (Rat×Rat)} (h:kF n many pts) {i:Nat} (hi:i < many):pts[i]?=some (pts.getD i (0,0))/\bj 24 (2 ^ n) (pts.getD i (0,0)).1/\bj 24 (2 ^ n) (pts.getD i (0,0)).2:=by
 have hl:i < pts.length:=by rw [h.len]; exact hi
 exact⟨vU hl,h.ok _ (xJ hl)⟩
theorem fo.way {many:Nat} {pts:List (Rat×Rat)} (h:fo many pts) {i j:Nat} (hi:i < many) (hj:j < many):bj 24 32 (wy pts i j).1/\bj 24 32 (wy pts i j).2:=
 ⟨(h.at hj).2.1.sub (h.at hi).2.1,(h.at hj).2.2.sub (h.at hi).2.2⟩
def t3:bW:=λds S k=>∃ (many:Nat) (fx:List Nat) (rods:List bR) (pts vs:List (Rat×Rat)),ds=[LK many fx rods,.tup (pts.map P2),.tup (vs.map W2)]/\eJ many fx rods/\fo many pts/\kF 501 many vs/\k (.bl (fK fx rods pts vs)) S
theorem jn:aq ["linkage","place","speeds","joint","rod","apart"] ["linkage","place","speeds"] (ai o_):=dY
theorem u8 (Fn:FN K "keep" o_ f fd) (cf:bH P w K mg base "plain_way" 4 fB) (cr:bH P w K mg base "product_of_ways" 4 dM) (ba:bH P w K mg base "way_of_rod" 5 c_) (ca:kj K mg "REST" [[0,1],[0,1]]) (eB:u7 K mg "NOUGHT" [0,1]):
  aW P w K mg base cx 6 f fd ["linkage","place","speeds"] (cO K t3):=by
 refine Fn.okJ jn (λds S k h=>?_) (λcdv A outer s H E hr=>⟨_,(af (da PassesOwn.never rfl (aA aR (ae 0) ag Zf) (ap (i:=3) jn.nd) (ah (aJ (ax (wg hr) (aA aR (ae 2) (ae 3) Zf) (hZ ca rfl) (aC _)) (ah (ao dj)) aM))) (af (da PassesOwn.never rfl (aA aR (ae 0) ag Zf) (ap (i:=4) jn.nd) (af (ak (i:=5) jn.nd (dq cf hr (aa (aA aR (ae 2) (aA aR (ae 4) ag Zf) Zf) (aa (aA aR (ae 2) (aA aR (ae 4) ag Zf) Zf) ac)))) (ah (aJ (ax (wg hr) (dq cr hr (aa (dq ba hr (aE 4 (aE 1 ac))) (aE 5 ac))) (uF eB rfl) (aC _)) (ah (ao dj)) aM)))) (ah (ao dj)))),λds S k h=>?_⟩)
 ·obtain⟨_,_,_,_,_,rfl,_⟩:=h
  rfl
 ·obtain⟨many,fx,rods,pts,vs,rfl,ok,pl,sp,w⟩:=h;refine⟨_,rfl,(fx.map bu,none),rfl,?_⟩;refine bD (λr L S'=>∃ (rs:List Nat) (l3:Dw D),L=[some (LK many fx rods),some (.tup (pts.map P2)),some (.tup (vs.map W2)),l3,none,none]/\S'=S/\r=rs.map bu/\(∀ f∈rs,f < many)/\fx.all (λf=>decide (vs.getD f (0,0)=(0,0)))=rs.all (λf=>decide (vs.getD f (0,0)=(0,0)))) (λ_ _ _ _=>trivial) ?_ ?_ _ _ _ ⟨fx,none,rfl,rfl,rfl,ok.fxl,rfl⟩
  ·rintro d r L S1 N1 ⟨rs,l3,rfl,rfl,er,hlt,hall⟩ hN;cases rs with
   | nil=>cases er
   | cons f rs=>
    cases er;have hf:=hlt f CB;refine⟨_,iU (sp.at hf).1,_,yJ,ic (λhne=>?_) (λhe=>?_)⟩
    ·have:fK fx rods pts vs=false:=by unfold fK; rw [hall,List.all_cons,Dc hne]; rfl
     rw [this] at w;exact w
    ·refine hN _ _ ⟨rs,_,rfl,rfl,rfl,λg hg=>hlt g (CC _ hg),?_⟩
     rw [hall,List.all_cons,decide_eq_true he,Bool.true_and]
  ·rintro L S1 ⟨rs,l3,rfl,rfl,er,hlt,hall⟩;cases rs with
   | cons f rs=>cases er
   | nil=>
    refine⟨_,rfl,(rods.map cu,none),rfl,?_⟩;refine bD (λr L S'=>∃ (rs:List bR) (l4 l5:Dw D),L=[some (LK many fx rods),some (.tup (pts.map P2)),some (.tup (vs.map W2)),l3,l4,l5]/\S'=S1/\r=rs.map cu/\(∀ f∈rs,f∈rods)/\fK fx rods pts vs=rs.all (λr=>decide (gS pts vs r=0))) (λ_ _ _ _=>trivial) ?_ ?_ _ _ _ ⟨rods,none,none,rfl,rfl,rfl,λ_ h=>h,by unfold fK; rw [hall]; rfl⟩
    ·rintro d r L S2 N1 ⟨rs,l4,l5,rfl,rfl,er,hin,hk⟩ hN;cases rs with
     | nil=>cases er
     | cons f rs=>
      cases er;obtain⟨h1,h2,_⟩:=ok.rd f (hin f CB);have a1:=sp.at h1;have a2:=sp.at h2;have b1:=pl.at h1;have b2:=pl.at h2;have wp:=pl.way h1 h2;have d1:bj 24 (2 ^ 502) (wy vs f.1 f.2.1).1:=a2.2.1.sub a1.2.1;have d2:bj 24 (2 ^ 502) (wy vs f.1 f.2.1).2:=a2.2.2.sub a1.2.2;have e1:Sz 10 (wy pts f.1 f.2.1).1:=bj.sz (n:=5) wp.1;have e2:Sz 10 (wy pts f.1 f.2.1).2:=bj.sz (n:=5) wp.2;refine⟨_,rfl,_,iU a1.1,_,rfl,_,iU a2.1,_,_,_,_,rfl,a1.2.1.sz.mono (by decide),a1.2.2.sz.mono (by decide),a2.2.1.sz.mono (by decide),a2.2.2.sz.mono (by decide),?_⟩
      refine⟨f,pts,_,_,rfl,b1.1,b2.1,b1.2,b2.2,_,_,_,_,rfl,e1.mono (by decide),e2.mono (by decide),d1.sz.mono (by decide),d2.sz.mono (by decide),_,qu (q:=0),ic (λhne=>?_) (λhe=>?_)⟩
      ·have hne:¬ gS pts vs f=0:=hne;rw [List.all_cons,Dc hne] at hk;rw [hk] at w;exact w
      ·have he:gS pts vs f=0:=he;refine hN _ _ ⟨rs,_,_,rfl,rfl,rfl,λg hg=>hin g (CC _ hg),?_⟩
       rw [hk,List.all_cons,decide_eq_true he,Bool.true_and]
    ·rintro L S2 ⟨rs,l4,l5,rfl,rfl,er,hin,hk⟩;cases rs with
     | cons f rs=>cases er
     | nil=>
      rw [hk] at w;exact w
def aL (w:Rat×Rat) (r:bR) (j:Nat):List Rat:=if j=r.2.1 then [w.1,w.2] else if j=r.1 then [-w.1,-w.2] else [0,0]
def aV (pts:List (Rat×Rat)) (js:List Nat) (r:bR):List Rat:=js.flatMap (aL (wy pts r.1 r.2.1) r)
theorem fY {pts:List (Rat×Rat)} {r:bR}:∀ js:List Nat,(aV pts js r).length=2*js.length
 | []=>rfl
 | j::js=>by
  have ih:=fY (pts:=pts) (r:=r) js;unfold aV at ih ⊢;rw [List.flatMap_cons,CK,ih];have:(aL (wy pts r.1 r.2.1) r j).length=2:=by
   unfold aL
   split
   ·rfl
   ·split <;> rfl
  rw [this,CH];omega
theorem sH {pts:List (Rat×Rat)} {r:bR} {js:List Nat} {j:Nat}:aV pts (js++[j]) r=aV pts js r++aL (wy pts r.1 r.2.1) r j:=by
 unfold aV;rw [List.flatMap_append];simp
theorem lY {pts:List (Rat×Rat)} {r:bR} {js:List Nat} (h:bj 24 32 (wy pts r.1 r.2.1).1/\bj 24 32 (wy pts r.1 r.2.1).2):∀ q∈aV pts js r,bj 24 32 q:=by
 intro q hq;obtain⟨j,_,hj⟩:=List.mem_flatMap.mp hq;unfold aL at hj
 split at hj
 ·simp only [Cz,CI,or_false] at hj;rcases hj with rfl | rfl
  ·exact h.1
  ·exact h.2
 ·split at hj
  ·simp only [Cz,CI,or_false] at hj;rcases hj with rfl | rfl
   ·exact h.1.neg
   ·exact h.2.neg
  ·simp only [Cz,CI,or_false] at hj;rcases hj with rfl | rfl <;> exact bj.zero
def g_:bW:=λds S k=>∃ (many:Nat) (r:bR) (pts:List (Rat×Rat)) (a:Dv) (js:List Nat),ds=[cu r,.tup (pts.map P2),.ref a]/\S a=some (.lst (js.map bu))/\js.length<=7/\fo many pts/\r.1 < many/\r.2.1 < many/\∀ p S',S p=none->bg S S'->S' p=some (.lst ((aV pts js r).map fr))->k (.ref p) S'
theorem cJ:aq ["rod","place","joints","way","row","joint"] ["rod","place","joints"] (ai eZ):=dY
theorem kI (Fn:FN K "row_of_rod" eZ f fd) (ba:bH P w K mg base "way_of_rod" 5 c_) (eI:bH P w K mg base "negative" 1 jR) (ca:kj K mg "REST" [[0,1],[0,1]]):
  aW P w K mg base cx 6 f fd ["rod","place","joints"] (cO K g_):=by
 refine Fn.okJ cJ (λds S k h=>?_) (λcdv A outer s H E hr=>⟨_,(af (ak (i:=3) cJ.nd (dq ba hr (aE 0 (aE 1 ac)))) (af (ak (i:=4) cJ.nd (bV ac)) (af (da PassesOwn.never rfl (ae 2) (ap (i:=5) cJ.nd) (ah (aJ (ax (ey hr) (ae 5) (bX 0) (aC _)) (ah (bI (lO (ae 4) (ae 3)))) (ah (aJ (ax (ey hr) (ae 5) (bX 0) (aC _)) (ah (bI (lO (ae 4) (bV (aa (dq eI hr (aa (bX 3) ac)) (aa (dq eI hr (aa (bX 3) ac)) ac)))))) (ah (bI (lO (ae 4) (hZ ca rfl))))))))) (ah (ao (ae 4)))))),λds S k h=>?_⟩)
 ·obtain⟨_,_,_,_,_,rfl,_⟩:=h
  rfl
 ·obtain⟨many,r,pts,a,js,rfl,ha,hjs,pl,h1,h2,w⟩:=h;have b1:=pl.at h1;have b2:=pl.at h2;refine⟨r,pts,_,_,rfl,b1.1,b2.1,b1.2,b2.2,bQ,λp hp=>⟨(js.map bu,some a),by simp only [ar,(bg.new hp) _ _ ha],?_⟩⟩
  refine bD (λrr L S'=>∃ (dn rs:List Nat) (l5:Dw D),L=[some (cu r),some (.tup (pts.map P2)),some (.ref a),some (W2 (wy pts r.1 r.2.1)),some (.ref p),l5]/\js=dn++rs/\rr=rs.map bu/\bg S S'/\S' p=some (.lst ((aV pts dn r).map fr))) (λrr L S' ⟨_,_,_,_,_,_,e,_⟩=>e _ _ ha) ?_ ?_ _ _ _ ⟨[],js,none,rfl,rfl,rfl,bg.new hp,am⟩
  ·rintro d rr L S1 N1 ⟨dn,rs,l5,rfl,ej,er,e1,f1⟩ hN;cases rs with
   | nil=>cases er
   | cons j rs=>
    cases er;have ej2:js=(dn++[j])++rs:=by rw [ej,List.append_assoc]; rfl
    have ld:dn.length<=7:=by
     have:=congrArg List.length ej;rw [CK] at this;omega
    have lr:((aV pts dn r).map fr).length=2*dn.length:=by rw [Cv,fY]
    have fin:∀ S2,bg S S2->S2 p=some (.lst ((aV pts dn r).map fr++(aL (wy pts r.1 r.2.1) r j).map fr))->N1 [some (cu r),some (.tup (pts.map P2)),some (.ref a),some (W2 (wy pts r.1 r.2.1)),some (.ref p),some (.int (j:Nat))] S2:=λS2 e2 f2=>hN _ _ ⟨dn++[j],rs,_,rfl,ej2,rfl,e2,by rw [f2,sH,List.map_append]⟩
    refine⟨_,eq_int,gp (λh=>?_) (λh=>?_)⟩
    ·have h:((j:Nat):Int)=((r.2.1:Nat):Int):=eq_of_beq h;have hj:j=r.2.1:=by omega
     refine⟨⟨_,f1⟩,_,f1,by rw [lr]; exact Nat.le_of_lt (gK (by show 2*dn.length+2 < 300; omega)),fin _ (e1.put hp) ?_⟩
     rw [am];unfold aL;rw [if_pos hj]
     rfl
    ·have h:¬ ((j:Nat):Int)=((r.2.1:Nat):Int):=λe=>by rw [e] at h; simp at h
     have hj:¬ j=r.2.1:=by omega
     refine⟨_,eq_int,gp (λh=>?_) (λh=>?_)⟩
     ·have h:((j:Nat):Int)=((r.1:Nat):Int):=eq_of_beq h;have hj2:j=r.1:=by omega
      refine⟨⟨_,f1⟩,_,rfl,_,rfl,bQ,λq hq=>⟨_,_,(bg.new hq) _ _ f1,am,by rw [lr]; exact Nat.le_of_lt (gK (by show 2*dn.length+2 < 300; omega)),fin _ ((e1.put (e1.none hq)).put hp) ?_⟩⟩
      rw [am];unfold aL;rw [if_neg hj,if_pos hj2]
      rfl
     ·have h:¬ ((j:Nat):Int)=((r.1:Nat):Int):=λe=>by rw [e] at h; simp at h
      have hj2:¬ j=r.1:=by omega
      refine⟨⟨_,f1⟩,_,f1,by rw [lr]; exact Nat.le_of_lt (gK (by show 2*dn.length+2 < 300; omega)),fin _ (e1.put hp) ?_⟩
      rw [am];unfold aL;rw [if_neg hj,if_neg hj2]
      rfl
  ·rintro L S1 ⟨dn,rs,l5,rfl,ej,er,e1,f1⟩;cases rs with
   | cons j rs=>cases er
   | nil=>
    rw [CL] at ej;subst ej;exact w p S1 hp e1 f1
def cv:bW:=λds S k=>∃ (many:Nat) (fx:List Nat) (rods:List bR) (pts:List (Rat×Rat)),ds=[LK many fx rods,.tup (pts.map P2)]/\eJ many fx rods/\fo many pts/\∀ p (zs:List (bR×Dv)) S',S p=none->bg S S'->S' p=some (.lst (zs.map λz=>.ref z.2))->(∀ z∈zs,S' z.2=some (.lst ((aV pts (aj many fx) z.1).map fr)))->zs.map Prod.fst=rods->k (.ref p) S'
theorem fj:aq ["linkage","place","joints"] ["linkage","place"] (ai dr):=dY
theorem jf (Fn:FN K "rows_of_rods" dr f fd) (av:bH P w K mg base "free_joints" 1 bv) (eO:bH P w K mg base "row_of_rod" 6 g_):
  aW P w K mg base cx 7 f fd ["linkage","place"] (cO K cv):=by
 refine Fn.okJ fj (λds S k h=>?_) (λcdv A outer s H E hr=>⟨_,(af (ak (i:=2) fj.nd (dq av hr (aE 0 ac))) (ah (ao (bY rfl (bG (N:=["rod","place","joints"]) (cap:=[none,some 1,some 2]) rfl rfl rfl rfl ⟨rfl,rfl,trivial⟩ rfl rfl ⟨⟨rfl,.inl rfl,.inl rfl⟩,⟨rfl,.inl rfl,.inl rfl⟩,trivial⟩) (bX 0) (λ_ _ _ _=>(ap (i:=0) (show List.Nodup (["rod","place","joints"]:List Str) from by decide +kernel))) (λ_ _ _ _=>(dq eO hr (aE 0 (aE 1 (aE 2 ac))))))))),λds S k h=>?_⟩)
 ·obtain⟨_,_,_,_,rfl,_⟩:=h
  rfl
 ·obtain⟨many,fx,rods,pts,rfl,ok,pl,w⟩:=h;refine⟨many,fx,rods,rfl,ok,λpj S1 hpj e1 hj=>⟨(rods.map cu,none),rfl,λp hp=>?_⟩⟩
  refine fA (f:=cu) (g:=D.ref) (R:=λr q S'=>S' q=some (.lst ((aV pts (aj many fx) r).map fr))/\q≠p) (J:=bg S1) (Kq:=bg) (all:=rods) (λ_ _=>trivial) (λ_ _ o _ e h=>e _ _ h) (λ_ _ _ _ e h=>⟨e _ _ h.1,h.2⟩) (λ_ _ _ _ h=>⟨by rw [aG h.2]; exact h.1,h.2⟩) (λ_ _ e=>e.put hp) ?bb rods [] _ none (λ_ h=>h) (bg.new hp) am (λ_ h=>by cases h) (by show 0+rods.length<=100; have:=ok.rl; omega) λzs S' e h hR hz=>w p zs S' (e1.none hp) (e1.trans e) h (λz hz=>(hR z hz).1) hz
  intro r S' k' hr e2 ⟨o,ho⟩ hk;obtain⟨h1,h2,_⟩:=ok.rd r hr;refine⟨many,r,pts,pj,_,rfl,e2 _ _ hj,CZ dF ok.m7,pl,h1,h2,λq S2 hq e3 h3=>hk q S2 (e2.trans e3) e3 ⟨h3,λz=>by rw [z,ho] at hq; cases hq⟩⟩
set_option maxHeartbeats 4000000
theorem t6 (n:Nat):(List.replicate n [W2 (0,0)]).flatten=(List.replicate n ((0,0):Rat×Rat)).map W2:=by
 induction n with
 | zero=>rfl
 | succ n ih=>rw [List.replicate_succ,List.flatten_cons,ih,List.replicate_succ]; rfl
theorem nH {l:List (Rat×Rat)} {i j:Nat} {v:Rat×Rat} (h:i < l.length):(l.set i v).getD j (0,0)=if j=i then v else l.getD j (0,0):=by
 rw [CU,List.getElem?_set]
 by_cases e:i=j
 ·subst e;rw [if_pos rfl,if_pos h,if_pos rfl]; rfl
 ·rw [if_neg e,if_neg (Ne.symm e),CU]
theorem pN {many:Nat} {fx:List Nat}:(aj many fx).Nodup:=List.Nodup.sublist List.filter_sublist List.nodup_range
theorem tM {many:Nat} {fx:List Nat} {j:Nat} (h:j∈aj many fx):j < many/\j∉fx:=by
 unfold aj at h;obtain⟨h1,h2⟩:=List.mem_filter.mp h;exact⟨Dh.mp h1,by simpa using h2⟩
theorem uw {n:Int} (h:Bt 500 n):bj 24 (2 ^ 500) (n:Rat):=by
 refine⟨⟨24,rfl⟩,?_⟩
 show n.natAbs<=2 ^ 500*1
 rw [Nat.mul_one];exact Nat.le_of_lt h
theorem kF.set {n many:Nat} {us:List (Rat×Rat)} {j:Nat} {v:Rat×Rat} (h:kF n many us) (hv:bj 24 (2 ^ n) v.1/\bj 24 (2 ^ n) v.2):kF n many (us.set j v):=
 ⟨by rw [List.length_set]; exact h.len,λp hp=>by
  rcases List.mem_or_eq_of_mem_set hp with h' | h'
  ·exact h.ok p h'
  ·rw [h']; exact hv⟩
def i9:bW:=λds S k=>∃ (many:Nat) (fx:List Nat) (rods:List bR) (a:Dv) (ns:List Int) (x:Unit),ds=[LK many fx rods,.ref a]/\eJ many fx rods/\S a=some (iL ns)/\ns.length=2*(aj many fx).length/\(∀ n∈ns,Bt 500 n)/\∀ vs S',kF 500 many vs->bg S S'->(∀ i j,(aj many fx)[i]?=some j->vs.getD j (0,0)=(((ns.getD (2*i) 0:Int):Rat),((ns.getD (2*i+1) 0:Int):Rat)))->(∀ j,j∈fx->vs.getD j (0,0)=(0,0))->k (.tup (vs.map W2)) S'
theorem cX:aq ["linkage","numbers","speeds","at","joint"] ["linkage","numbers"] (ai fL):=dY
theorem lM (Fn:FN K "speeds_of" fL f fd) (av:bH P w K mg base "free_joints" 1 bv) (fR:mg "enumerate"=none) (aY:mg "tuple"=none) (ca:kj K mg "REST" [[0,1],[0,1]]):
  aW P w K mg base cx 2 f fd ["linkage","numbers"] (cO K i9):=by
 refine Fn.okJ cX (λds S k h=>?_) (λcdv A outer s H E hr=>⟨_,(af (ak (i:=2) cX.nd (au me (bV (aa (hZ ca rfl) ac)) (bX 0))) (af (pK PassesOwn.never rfl rfl fR (aa (dq av hr (aE 0 ac)) ac) (dN (n:=2) rfl (aO (ap (i:=3) cX.nd) (aO (ap (i:=4) cX.nd) cN))) (ah (cL (ay (aa (ay (aa (aA cT (ae 1) (au me ag (ae 3)) Zf) (aa ag ac))) (aa (ay (aa (aA cT (ae 1) (au dL (au me ag (ae 3)) ag) Zf) (aa ag ac))) ac))) (gR (ae 2) (ae 4))))) (ah (ao (cp c8 rfl aY ci (aE 2 ac)))))),λds S k h=>?_⟩)
 ·obtain⟨_,_,_,_,_,_,rfl,_⟩:=h
  rfl
 ·obtain⟨many,fx,rods,a,ns,_,rfl,ok,ha,hl,hb,w⟩:=h;have m7:=ok.m7;have fl:=dF (many:=many) (fx:=fx);refine⟨bQ,λp0 hp0=>⟨_,am,by omega,by omega,?_,λp hp=>?_⟩⟩
  ·show 1*many<=sizeLine
   exact Nat.le_of_lt (gK (by omega))
  have rz:(List.replicate ((many:Nat):Int).toNat [D.tup (List.map (λns=>D.tup (List.map D.int ns)) [[0,1],[0,1]])]).flatten=(List.replicate many ((0,0):Rat×Rat)).map W2:=by rw [Dk,<- t6]; rfl
  rw [rz];have sp:S p=none:=(bg.new hp0).none hp;have e1:bg S (put (put S p0 (DO.lst [D.tup (List.map (λns=>D.tup (List.map D.int ns)) [[0,1],[0,1]])])) p (DO.lst ((List.replicate many ((0,0):Rat×Rat)).map W2))):=(bg.new hp0).put sp
  have f1:put (put S p0 (DO.lst [D.tup (List.map (λns=>D.tup (List.map D.int ns)) [[0,1],[0,1]])])) p (DO.lst ((List.replicate many ((0,0):Rat×Rat)).map W2)) p=some (.lst ((List.replicate many ((0,0):Rat×Rat)).map W2)):=am
  generalize put (put S p0 (DO.lst [D.tup (List.map (λns=>D.tup (List.map D.int ns)) [[0,1],[0,1]])])) p (DO.lst ((List.replicate many ((0,0):Rat×Rat)).map W2))=S1 at e1 f1 ⊢
  refine⟨many,fx,rods,rfl,ok,λpj S2 hpj e2 hj=>⟨((aj many fx).map bu,some pj),by simp only [ar,hj],?_⟩⟩
  have hpp:p≠pj:=λz=>by rw [<- z,f1] at hpj; cases hpj
  have hpj0:S pj=none:=e1.none hpj;refine bD (λrr L S'=>∃ (dn rs:List Nat) (us:List (Rat×Rat)) (l3 l4:Dw D),L=[some (LK many fx rods),some (.ref a),some (.ref p),l3,l4]/\aj many fx=dn++rs/\rr=j9 dn.length (rs.map bu)/\bg S S'/\S' p=some (.lst (us.map W2))/\S' pj=some (.lst ((aj many fx).map bu))/\kF 500 many us/\(∀ (i:Nat) j,dn[i]?=some j->us.getD j (0,0)=(((ns.getD (2*i) 0:Int):Rat),((ns.getD (2*i+1) 0:Int):Rat)))/\(∀ j,j∈fx->us.getD j (0,0)=(0,0))) (λrr L S' ⟨_,_,_,_,_,_,_,_,_,_,h,_⟩=>h) ?_ ?_ _ _ _ ⟨[],aj many fx,List.replicate many (0,0),none,none,rfl,rfl,rfl,e1.trans e2,e2 _ _ f1,hj,⟨List.length_replicate,λq hq=>by rw [(List.mem_replicate.mp hq).2]; exact⟨bj.zero,bj.zero⟩⟩,λi j h=>by simp at h,λj _=>by rw [CU,List.getElem?_replicate]; split <;> rfl⟩
  ·rintro d rr L S3 N1 ⟨dn,rs,us,l3,l4,rfl,ej,er,e3,f3,g3,hsp,hdn,hfx⟩ hN;cases rs with
   | nil=>cases er
   | cons j rs=>
    cases er;have hmem:j∈aj many fx:=by rw [ej]; exact CF _ CB
    obtain⟨hjm,hjf⟩:=tM hmem;have hjd:j∉dn:=λhd=>by
     have:=pN (many:=many) (fx:=fx);rw [ej] at this;exact(List.nodup_append.mp this).2.2 j hd j CB rfl
    have ll:=congrArg List.length ej;rw [CK,CH] at ll;have ej2:aj many fx=(dn++[j])++rs:=by rw [ej,List.append_assoc]; rfl
    have i0:2*dn.length < ns.length:=by omega
    have i1:2*dn.length+1 < ns.length:=by omega
    have bd:Bt 4 ((dn.length:Nat):Int):=by unfold Bt; rw [Int.natAbs_natCast]; show dn.length < 16; omega
    have hju:j < us.length:=by rw [hsp.len]; exact hjm
    have c1:=uw (hb _ (et i0));have c2:=uw (hb _ (et i1));refine⟨([.int (dn.length:Nat),.int (j:Nat)],none),rfl,rfl,rfl,gO (show Bt 2 2 by decide) bd,_,_,e3 _ _ ha,gy i0,bQ,gO (show Bt 2 2 by decide) bd,_,_,e3 _ _ ha,gy i1,bQ,bQ,?_⟩
    refine⟨_,j,f3,lT (by rw [Cv]; exact hju),?_⟩
    have es:(us.map W2).set j (D.tup [D.tup [D.int (ns.getD (2*dn.length) 0),D.int 1],D.tup [D.int (ns.getD (2*dn.length+1) 0),D.int 1]])=(us.set j (((ns.getD (2*dn.length) 0:Int):Rat),((ns.getD (2*dn.length+1) 0:Int):Rat))).map W2:=by rw [List.map_set]; rfl
    rw [es];refine hN _ _ ⟨dn++[j],rs,_,_,_,rfl,ej2,by rw [CK]; rfl,e3.put sp,am,by rw [aG (Ne.symm hpp)]; exact g3,hsp.set ⟨c1,c2⟩,λi jj hi=>?_,λjj hjj=>?_⟩
    ·rw [nH hju];rcases Nat.lt_or_ge i dn.length with h | h
     ·rw [List.getElem?_append_left h] at hi;have:jj≠j:=λz=>hjd (z▸List.mem_of_getElem? hi)
      rw [if_neg this];exact hdn i jj hi
     ·have hi2:=(CW.mp hi).1;have hi3:i < dn.length+1:=by simpa using hi2
      have e:i=dn.length:=by omega
      subst e;rw [List.getElem?_append_right (Ct _),Nat.sub_self] at hi;have hi:some j=some jj:=hi;cases hi;rw [if_pos rfl]
    ·rw [nH hju,if_neg (λz:jj=j=>hjf (z▸hjj))]
     exact hfx jj hjj
  ·rintro L S3 ⟨dn,rs,us,l3,l4,rfl,ej,er,e3,f3,g3,hsp,hdn,hfx⟩;cases rs with
   | cons j rs=>cases er
   | nil=>
    rw [CL] at ej;exact⟨_,f3,w us S3 hsp e3 (λi j h=>hdn i j (by rw [<- ej]; exact h)) hfx⟩
structure uX (many:Nat) (fx:List Nat) (kk:Nat) (C:Nat->Nat) (d:Int) (vss:List (List Int)) (x:Nat×Nat×List Int) (vs:List (Rat×Rat)):Prop where
 sol:gs (2*(aj many fx).length) kk C d vss x.1 x.2.1 x.2.2
 sp:kF 500 many vs
 free:∀ i j,(aj many fx)[i]?=some j->vs.getD j (0,0)=((((x.2.2.map λv=>v.fdiv (x.2.1:Nat)).getD (2*i) 0:Int):Rat),(((x.2.2.map λv=>v.fdiv (x.2.1:Nat)).getD (2*i+1) 0:Int):Rat))
 fix:∀ j,j∈fx->vs.getD j (0,0)=(0,0)
def nc:bW:=λds S k'=>∃ (many:Nat) (fx:List Nat) (rods:List bR) (pts:List (Rat×Rat)),ds=[LK many fx rods,.tup (pts.map P2)]/\eJ many fx rods/\fo many pts/\∀ (vss0 vss:List (List Int)) (k:Nat) (P C Qo:Nat->Nat) (d:Int) (z:Nat->Nat->Rat) p (ys:List ((Nat×Nat×List Int)×List (Rat×Rat))) S',vss0.length=rods.length->(∀ (i:Nat) x v,rods[i]?=some x->vss0[i]?=some v->∃ s,0 < s/\s ∣ 24/\(∀ q∈aV pts (aj many fx) x,q.den ∣ s)/\v=(aV pts (aj many fx) x).map (wn s))->RS (fZ vss0) (2*(aj many fx).length) rods.length P C Qo k d z vss (2*(aj many fx).length)->k<=12->ys.map (λy=>y.1.1)=(List.range (2*(aj many fx).length)).filter (λc=>!decide (∃ j,j < k/\C j=c))->(∀ y∈ys,uX many fx k C d vss y.1 y.2)->S p=none->bg S S'->S' p=some (.lst (ys.map λy=>.tup (y.2.map W2)))->k' (.ref p) S'
theorem kL:aq ["linkage","place","many"] ["linkage","place"] (ai jx):=dY
theorem rh (Fn:FN K "swings" jx f fd) (av:bH P w K mg base "free_joints" 1 bv) (ce:bH P w K mg base "solutions" 4 fS) (aQ:bH P w K mg base "rows_of_rods" 7 cv) (fv:bH P w K mg base "speeds_of" 2 i9) (aX:mg "len"=none):
  aW P w K mg base cx 8 f fd ["linkage","place"] (cO K nc):=by
 refine Fn.okJ kL (λds S k h=>?_) (λcdv A outer s H E hr=>⟨_,(af (ak (i:=2) kL.nd (au bB ag (aK b8 rfl aX bU (aa (dq av hr (aE 0 ac)) ac)))) (ah (ao (bY rfl (bG (N:=["numbers","linkage"]) (cap:=[none,some 0]) rfl rfl rfl rfl ⟨rfl,trivial⟩ rfl rfl ⟨⟨rfl,.inl rfl,.inl rfl⟩,trivial⟩) (dq ce hr (aa (dq aQ hr (aE 0 (aE 1 ac))) (aE 2 ac))) (λ_ _ _ _=>(ap (i:=0) (show List.Nodup (["numbers","linkage"]:List Str) from by decide +kernel))) (λ_ _ _ _=>(dq fv hr (aE 1 (aE 0 ac)))))))),λds S k h=>?_⟩)
 ·obtain⟨_,_,_,_,rfl,_⟩:=h
  rfl
 ·obtain⟨many,fx,rods,pts,rfl,ok,pl,w⟩:=h;have m7:=ok.m7;have fl:=dF (many:=many) (fx:=fx);refine⟨many,fx,rods,rfl,ok,λpj S1 hpj e1 hj=>?_⟩
  have bl:Bt 4 ((((aj many fx).map bu).length:Nat):Int):=by unfold Bt; rw [Int.natAbs_natCast,Cv]; show(aj many fx).length < 16; omega
  refine⟨_,hj,gO (show Bt 2 2 by decide) bl,?_⟩
  refine⟨many,fx,rods,pts,rfl,ok,pl,λpr zs S2 hpr e2 hr hzs hzr=>?_⟩
  have hn:(2:Int)*((((aj many fx).map bu).length:Nat):Int)=((2*(aj many fx).length:Nat):Int):=by rw [Cv]; omega
  have zl0:zs.length=rods.length:=by
   have:=congrArg List.length hzr;rw [Cv] at this;exact this
  have zl:zs.length<=12:=by
   have:=ok.rl;omega
  refine⟨pr,zs.map λz=>(z.2,aV pts (aj many fx) z.1),2*(aj many fx).length,24,32,congrArg (λx=>[D.ref pr,D.int x]) hn,by rw [hr,C3]; rfl,λx hx=>?_,by decide,by decide,by decide,by omega,by rw [Cv]; omega,.inr (by rw [Cv]; exact zl),λvss0 vss kk P C Qo d z p fs S3 l0 rel hRS k12 hfree hfs e3 hp3=>?_⟩
  ·obtain⟨z,hz,rfl⟩:=Cu.mp hx;have hzm:z.1∈rods:=by rw [<- hzr]; exact List.mem_map_of_mem hz
   obtain⟨h1,h2,_⟩:=ok.rd z.1 hzm;exact⟨hzs z hz,fY _,lY (pl.way h1 h2)⟩
  ·refine⟨(fs.map qL,some p),by simp only [ar,hp3],λq hq=>?_⟩
   have fsl:fs.length<=14:=by
    have h1:=congrArg List.length hfree;rw [Cv] at h1;have h2:=List.length_filter_le (λc=>!decide (∃ j,j < kk/\C j=c)) (List.range (2*(aj many fx).length))
    rw [List.length_range] at h2;omega
   rw [Cv,zl0] at l0 hRS
   refine fA (f:=qL) (g:=λvs=>.tup (vs.map W2)) (R:=λx vs _=>uX many fx kk C d vss x.2 vs) (J:=bg S3) (Kq:=bg) (all:=fs) (λS' e=>e _ _ hp3) (λ_ _ o _ e h=>e _ _ h) (λ_ _ _ _ _ h=>h) (λ_ _ _ _ h=>h) (λ_ _ e=>e.put hq) ?bb fs [] _ none (λ_ h=>h) (bg.new hq) am (λ_ h=>by cases h) (by show 0+fs.length<=100; omega) λys S' e h hR hz=>w vss0 vss kk P C Qo d z q (ys.map λy=>(y.1.2,y.2)) S' l0 (λi x v hi hv=>?_) hRS k12 ?_ (λy hy=>?_) ((e1.trans (e2.trans e3)).none hq) ((e1.trans (e2.trans e3)).trans e) (by rw [h,C3]; rfl)
   ·intro x S' k' hx e4 ⟨o,ho⟩ hk;obtain⟨so,hx2⟩:=hfs x hx;refine⟨many,fx,rods,x.1,_,(),rfl,ok,e4 _ _ hx2,by rw [Cv]; exact so.len,λn hn=>?_,λvs S5 hsp e5 h5 h6=>hk vs S5 (e4.trans e5) e5 ⟨so,hsp,h5,h6⟩⟩
    obtain⟨v,hv,rfl⟩:=Cu.mp hn;exact(so.bt v hv).le (HM.dA _ _)
   ·have h1:zs[i]?.map Prod.fst=some x:=by rw [<- CQ,hzr]; exact hi
    cases hz:zs[i]? with
    | none=>rw [hz] at h1; cases h1
    | some z0=>
     rw [hz] at h1;have h1:some z0.1=some x:=h1;cases h1;exact rel i (z0.2,aV pts (aj many fx) z0.1) v (by rw [CQ,hz]; rfl) hv
   ·rw [<- hfree];have hz:ys.map Prod.fst=fs:=hz;rw [<- hz,C3,C3]
    rfl
   ·obtain⟨y0,hy0,rfl⟩:=Cu.mp hy;exact hR y0 hy0
set_option maxHeartbeats 4000000
def kM:bW:=λds S k'=>∃ (r:Dv) (rs:List (Dv×List Rat)) (many W A:Nat),ds=[.ref r,.int (many:Nat)]/\S r=some (.lst (rs.map λx=>.ref x.1))/\(∀ x∈rs,S x.1=some (.lst (x.2.map fr))/\x.2.length=many/\∀ q∈x.2,bj W A q)/\0 < W/\W<=2 ^ 15/\A<=2 ^ 15/\many<=14/\rs.length<=14/\(many<=12\/rs.length<=12)/\
 ∀ (vss0 vss:List (List Int)) (k:Nat) (P C Qo:Nat->Nat) (d:Int) (z:Nat->Nat->Rat) (S':DH),vss0.length=rs.length->(∀ (i:Nat) x v,rs[i]?=some x->vss0[i]?=some v->∃ s,0 < s/\s ∣ W/\(∀ q∈x.2,q.den ∣ s)/\v=x.2.map (wn s))->RS (fZ vss0) many rs.length P C Qo k d z vss many->k<=12->bg S S'->k' (.int (k:Nat)) S'
theorem oK:aq ["rows","many"] ["rows","many"] (ai iH):=dY
theorem ph (Fn:FN K "rank_of" iH f fd) (dc:bH P w K mg base "reduced" 3 ir) (aX:mg "len"=none):
  aW P w K mg base cx 4 f fd ["rows","many"] (cO K kM):=by
 refine Fn.okJ oK (λds S k h=>?_) (λcdv A outer s H E hr=>⟨_,(ah (ao (aK b8 rfl aX bU (aa (aA cT (dq dc hr (aE 0 (aE 1 ac))) ag Zf) ac)))),λds S k h=>?_⟩)
 ·obtain⟨_,_,_,_,_,rfl,_⟩:=h
  rfl
 ·obtain⟨r,rs,many,W,A,rfl,hr,hx,w0,hW,hA,hmany,hrs,h12,w⟩:=h;refine⟨r,rs,many,W,A,rfl,hr,hx,w0,hW,hA,hmany,hrs,h12,λvss0 vss k P C Qo d z p1 p2 as S1 l0 rel0 hRS hM hk12 e1 R1 hcs=>?_⟩
  have:=w vss0 vss k P C Qo d z S1 l0 rel0 hRS hk12 e1;refine⟨_,hcs,?_⟩;rw [Cv,List.length_range];exact this
def ef:bW:=λds S k'=>∃ (many:Nat) (fx:List Nat) (rods:List bR) (pts:List (Rat×Rat)),ds=[LK many fx rods,.tup (pts.map P2)]/\eJ many fx rods/\fo many pts/\∀ (vss0 vss:List (List Int)) (k:Nat) (P C Qo:Nat->Nat) (d:Int) (z:Nat->Nat->Rat) (S':DH),vss0.length=rods.length->(∀ (i:Nat) x v,rods[i]?=some x->vss0[i]?=some v->∃ s,0 < s/\s ∣ 24/\(∀ q∈aV pts (aj many fx) x,q.den ∣ s)/\v=(aV pts (aj many fx) x).map (wn s))->RS (fZ vss0) (2*(aj many fx).length) rods.length P C Qo k d z vss (2*(aj many fx).length)->k<=12->bg S S'->k' (.int ((2*(aj many fx).length:Nat) - (k:Nat))) S'
theorem fJ:aq ["linkage","place","many"] ["linkage","place"] (ai dZ):=dY
theorem jJ (Fn:FN K "many_swings" dZ f fd) (av:bH P w K mg base "free_joints" 1 bv) (iS:bH P w K mg base "rank_of" 4 kM) (aQ:bH P w K mg base "rows_of_rods" 7 cv) (aX:mg "len"=none):
  aW P w K mg base cx 8 f fd ["linkage","place"] (cO K ef):=by
 refine Fn.okJ fJ (λds S k h=>?_) (λcdv A outer s H E hr=>⟨_,(af (ak (i:=2) fJ.nd (au bB ag (aK b8 rfl aX bU (aa (dq av hr (aE 0 ac)) ac)))) (ah (ao (au i6 (ae 2) (dq iS hr (aa (dq aQ hr (aE 0 (aE 1 ac))) (aE 2 ac))))))),λds S k h=>?_⟩)
 ·obtain⟨_,_,_,_,rfl,_⟩:=h
  rfl
 ·obtain⟨many,fx,rods,pts,rfl,ok,pl,w⟩:=h;have m7:=ok.m7;have fl:=dF (many:=many) (fx:=fx);refine⟨many,fx,rods,rfl,ok,λpj S1 hpj e1 hj=>?_⟩
  have bl:Bt 4 ((((aj many fx).map bu).length:Nat):Int):=by unfold Bt; rw [Int.natAbs_natCast,Cv]; show(aj many fx).length < 16; omega
  refine⟨_,hj,gO (show Bt 2 2 by decide) bl,?_⟩
  refine⟨many,fx,rods,pts,rfl,ok,pl,λpr zs S2 hpr e2 hr hzs hzr=>?_⟩
  have hn:(2:Int)*((((aj many fx).map bu).length:Nat):Int)=((2*(aj many fx).length:Nat):Int):=by rw [Cv]; omega
  have zl:zs.length=rods.length:=by
   have:=congrArg List.length hzr;rw [Cv] at this;exact this
  have rl:=ok.rl;refine⟨pr,zs.map λz=>(z.2,aV pts (aj many fx) z.1),2*(aj many fx).length,24,32,congrArg (λx=>[D.ref pr,D.int x]) hn,by rw [hr,C3]; rfl,λx hx=>?_,by decide,by decide,by decide,by omega,by rw [Cv]; omega,.inr (by rw [Cv]; omega),λvss0 vss kk P C Qo d z S3 l0 rel hRS k12 e3=>?_⟩
  ·obtain⟨z,hz,rfl⟩:=Cu.mp hx;have hzm:z.1∈rods:=by rw [<- hzr]; exact List.mem_map_of_mem hz
   obtain⟨h1,h2,_⟩:=ok.rd z.1 hzm;exact⟨hzs z hz,fY _,lY (pl.way h1 h2)⟩
  ·rw [Cv,zl] at l0 hRS
   have:=w vss0 vss kk P C Qo d z S3 l0 (λi x v hi hv=>?_) hRS k12 ((e1.trans e2).trans e3)
   ·show k (.int ((2:Int)*((((aj many fx).map bu).length:Nat):Int) - ((kk:Nat):Int))) S3
    rw [hn];exact this
   ·have h1:zs[i]?.map Prod.fst=some x:=by rw [<- CQ,hzr]; exact hi
    cases hz:zs[i]? with
    | none=>rw [hz] at h1; cases h1
    | some z0=>
     rw [hz] at h1;have h1:some z0.1=some x:=h1;cases h1;exact rel i (z0.2,aV pts (aj many fx) z0.1) v (by rw [CQ,hz]; rfl) hv
set_option maxHeartbeats 4000000
theorem RS.hall {M:DT.Mx} {many m:Nat} {P C Qo:Nat->Nat} {k:Nat} {d:Int} {z:Nat->Nat->Rat} {vss:List (List Int)} (h:RS M many m P C Qo k d z vss many):∀ q,q < m->∀ x,x < many->M q x=DT.sm k (λj=>z j x*M q (C j)):=λq hq x hx=>by
 rcases h.cov q hq with ⟨r,hr,rfl⟩ | ⟨i,hi,him,rfl⟩
 ·exact(h.bs.sol r hr x).symm
 ·have hv:vss[i]?=some (vss[i]'(by rw [h.len]; exact him)):=CO _
  have e:=h.ot i _ x hv hi hx;rw [h.zero i _ x hv hi hx hx] at e;have e:(0:Rat)=(d:Rat)*(M (Qo i) x - DT.sm k λj=>z j x*M (Qo i) (C j)):=e
  have d0:=h.bs.ne;grind
def Mt (pts:List (Rat×Rat)) (js:List Nat) (rods:List bR):DT.Mx:=λq x=>24*((rods[q]?.map (aV pts js)).getD []).getD x 0
theorem wJ {pts:List (Rat×Rat)} {js:List Nat} {rods:List bR} {q:Nat} {r:bR} (h:rods[q]?=some r) (x:Nat):Mt pts js rods q x=24*(aV pts js r).getD x 0:=by
 unfold Mt;rw [h]
 rfl
theorem vv {q:Rat} {A:Nat} (h:bj 24 A q):DT.IsN (24*A) (24*q):=by
 obtain⟨⟨t,ht⟩,hn⟩:=h;refine⟨q.num*(t:Int),?_,?_⟩
 ·have e:(24:Rat)=((q.den:Nat):Rat)*((t:Nat):Rat):=by
   have:((24:Nat):Rat)=((q.den*t:Nat):Rat):=by rw [<- ht]
   rw [Rat.natCast_mul] at this;exact this
  have h1:=dP q;have h3:=jO q;rw [e,Cr,Rat.intCast_natCast];grind
 ·rw [Di,Int.natAbs_natCast]
  calc q.num.natAbs*t<=A*q.den*t:=Nat.mul_le_mul_right t hn
   _=A*(q.den*t):=Nat.mul_assoc ..
   _=24*A:=by rw [<- ht,Nat.mul_comm]
theorem mv {p:Nat->DM}:∀ l:List Nat,(l.filter λj=>!p j).length+(l.filter p).length=l.length
 | []=>rfl
 | x::l=>by
  have ih:=mv (p:=p) l;cases h:p x with
  | true=>rw [List.filter_cons_of_neg (by rw [h]; decide),List.filter_cons_of_pos h,CH,CH]; omega
  | false=>rw [List.filter_cons_of_pos (by rw [h]; rfl),List.filter_cons_of_neg (by rw [h]; decide),CH,CH]; omega
theorem sJ {many:Nat} {fx:List Nat} (hf:∀ f∈fx,f < many) (nd:fx.Nodup):(aj many fx).length+fx.length=many:=by
 have h1:((List.range many).filter λj=>decide (j∈fx)).length=fx.length:=by
  refine(List.Perm.length_eq ?_);refine(List.perm_ext_iff_of_nodup (List.nodup_range.sublist List.filter_sublist) nd).mpr λj=>?_
  rw [List.mem_filter,Dh,decide_eq_true_eq];exact⟨λh=>h.2,λh=>⟨hf j h,h⟩⟩
 have h2:=mv (p:=λj=>decide (j∈fx)) (List.range many)
 rw [List.length_range,h1] at h2;exact h2
theorem ia {n:Nat} {F:Nat->Rat}:DT.sm (n+1) F=F 0+DT.sm n (λi=>F (i+1)):=by
 rw [DT.sm_sk (j:=0) (by omega)]
 congr 1
theorem sf {N c:Nat} {F:Nat->Rat} {a:Rat}:c < N->DT.sm N (λx=>F x*(if x=c then a else 0))=F c*a:=by
 induction N with
 | zero=>intro h; omega
 | succ n ih=>
  intro h
  show DT.sm n (λx=>F x*(if x=c then a else 0))+F n*(if n=c then a else 0)=F c*a
  by_cases e:n=c
  ·subst e;rw [if_pos rfl,DT.sm_zero (λi hi=>by rw [if_neg (by omega)]; grind)]
   grind
  ·rw [if_neg e,ih (by omega)]
   grind
theorem vD {k j0 x:Nat} {C:Nat->Nat} {a:Nat->Rat} (inj:∀ i j,i < k->j < k->C i=C j->i=j) (h:j0 < k) (e:x=C j0):DT.sm k (λj=>if x=C j then a j else 0)=a j0:=by
 have:DT.sm k (λj=>if x=C j then a j else 0)=DT.sm k (λj=>1*(if j=j0 then a j0 else 0)):=DT.sm_congr λj hj=>by
  by_cases e2:j=j0
  ·rw [if_pos (by rw [e2]; exact e),if_pos e2,e2]; grind
  ·rw [if_neg (λz=>e2 (inj j j0 hj h (by rw [<- z,e]))),if_neg e2]; grind
 rw [this,sf (F:=λ_=>1) h]
 grind
theorem sD {N k:Nat} {C:Nat->Nat} {F W:Nat->Rat} {c:Nat} {d:Rat} {a:Nat->Rat} (inj:∀ i j,i < k->j < k->C i=C j->i=j) (hC:∀ j,j < k->C j < N) (hc:c < N) (fr:∀ j,j < k->C j≠c) (own:W c=d) (piv:∀ j,j < k->W (C j)=a j) (oth:∀ x,x < N->x≠c->(∀ j,j < k->C j≠x)->W x=0):DT.sm N (λx=>F x*W x)=F c*d+DT.sm k (λj=>F (C j)*a j):=by
 have e1:DT.sm N (λx=>F x*W x)=DT.sm N (λx=>F x*(if x=c then d else 0)+DT.sm k (λj=>F x*(if x=C j then a j else 0))):=DT.sm_congr λx hx=>by
  rw [DT.sm_mul]
  by_cases h1:x=c
  ·subst h1;rw [if_pos rfl,own,DT.sm_zero (n:=k) (λj hj=>if_neg (λz=>fr j hj z.symm))]
   grind
  ·rw [if_neg h1]
   by_cases h2:∃ j,j < k/\C j=x
   ·obtain⟨j,hj,rfl⟩:=h2;rw [piv j hj,vD inj hj rfl];grind
   ·rw [oth x hx h1 (λj hj z=>h2 ⟨j,hj,z⟩),DT.sm_zero (n:=k) (λj hj=>if_neg (λz=>h2 ⟨j,hj,z.symm⟩))]
    grind
 rw [e1,DT.sm_add,sf hc,DT.sm_swap]
 congr 1
 exact DT.sm_congr λj hj=>sf (hC j hj)
theorem yw {n:Nat} {F:Nat->Rat}:DT.sm (2*(n+1)) F=F 0+F 1+DT.sm (2*n) (λi=>F (i+2)):=by
 rw [show 2*(n+1)=2*n+1+1 by omega,ia,ia]
 show F 0+(F 1+DT.sm (2*n) (λi=>F (i+1+1)))=_
 grind
def uJ (w:Rat×Rat) (v:Rat×Rat):Rat:=w.1*v.1+w.2*v.2
theorem qC {pts:List (Rat×Rat)} {r:bR} {f:Nat->Rat×Rat} (hr:r.1≠r.2.1):∀ (js:List Nat) (U:Nat->Rat),js.Nodup->(∀ i j,js[i]?=some j->U (2*i)=(f j).1/\U (2*i+1)=(f j).2)->DT.sm (2*js.length) (λx=>(aV pts js r).getD x 0*U x)=(if r.2.1∈js then uJ (wy pts r.1 r.2.1) (f r.2.1) else 0) - (if r.1∈js then uJ (wy pts r.1 r.2.1) (f r.1) else 0)
 | [],U,_,_=>by
  rw [if_neg (CI),if_neg (CI)]
  show(0:Rat)=0 - 0
  grind
 | j::js,U,nd,h=>by
  have nj:=(C8.mp nd).1;have ih:=qC (pts:=pts) (f:=f) hr js (λx=>U (x+2)) (C8.mp nd).2 (λi j' hi=>h (i+1) j' hi)
  obtain⟨u0,u1⟩:=h 0 j rfl;have u0:U 0=(f j).1:=u0;have u1:U 1=(f j).2:=u1;rw [CH,yw];have ec:aV pts (j::js) r=aL (wy pts r.1 r.2.1) r j++aV pts js r:=by unfold aV; rw [List.flatMap_cons]
  have key:∀ a b:Rat,aL (wy pts r.1 r.2.1) r j=[a,b]->(aV pts (j::js) r).getD 0 0=a/\(aV pts (j::js) r).getD 1 0=b/\∀ x,(aV pts (j::js) r).getD (x+2) 0=(aV pts js r).getD x 0:=λa b e=>by
   rw [ec,e];exact⟨rfl,rfl,λx=>rfl⟩
  have fin:∀ a b:Rat,aL (wy pts r.1 r.2.1) r j=[a,b]->(aV pts (j::js) r).getD 0 0*U 0+(aV pts (j::js) r).getD 1 0*U 1+DT.sm (2*js.length) (λi=>(aV pts (j::js) r).getD (i+2) 0*U (i+2))=a*(f j).1+b*(f j).2+((if r.2.1∈js then uJ (wy pts r.1 r.2.1) (f r.2.1) else 0) - (if r.1∈js then uJ (wy pts r.1 r.2.1) (f r.1) else 0)):=λa b e=>by
   obtain⟨k0,k1,k2⟩:=key a b e;rw [k0,k1,u0,u1,<- ih]
   congr 1
   exact DT.sm_congr λi _=>by rw [k2]
  by_cases h1:j=r.2.1
  ·rw [fin _ _ (by unfold aL; rw [if_pos h1]),h1,if_neg (by rw [<- h1]; exact nj),if_pos CB]
   have e2:(r.1∈r.2.1::js)=(r.1∈js):=by simp [Cz,hr]
   simp only [e2];unfold uJ;grind
  ·by_cases h2:j=r.1
   ·rw [fin _ _ (by unfold aL; rw [if_neg h1,if_pos h2]),h2,if_neg (c:=r.1∈js) (by rw [<- h2]; exact nj),if_pos (c:=r.1∈r.1::js) CB]
    have e2:(r.2.1∈r.1::js)=(r.2.1∈js):=by simp [Cz,Ne.symm hr]
    simp only [e2];unfold uJ;grind
   ·rw [fin _ _ (by unfold aL; rw [if_neg h1,if_neg h2])]
    have e1:(r.1∈j::js)=(r.1∈js):=by simp [Cz,Ne.symm h2]
    have e2:(r.2.1∈j::js)=(r.2.1∈js):=by simp [Cz,Ne.symm h1]
    simp only [e1,e2];grind
theorem nT {many:Nat} {fx:List Nat} {j:Nat}:j∈aj many fx↔j < many/\j∉fx:=by
 unfold aj;rw [List.mem_filter,Dh];simp
theorem n_ {many:Nat} {fx:List Nat} {pts vs:List (Rat×Rat)} {r:bR} {U:Nat->Rat} (hr:r.1≠r.2.1) (h1:r.1 < many) (h2:r.2.1 < many) (hU:∀ i j,(aj many fx)[i]?=some j->U (2*i)=(vs.getD j (0,0)).1/\U (2*i+1)=(vs.getD j (0,0)).2) (hf:∀ j,j∈fx->vs.getD j (0,0)=(0,0)):gS pts vs r=DT.sm (2*(aj many fx).length) (λx=>(aV pts (aj many fx) r).getD x 0*U x):=by
 rw [qC (f:=λj=>vs.getD j (0,0)) hr _ U pN hU]
 have z:∀ j,j < many->(if j∈aj many fx then uJ (wy pts r.1 r.2.1) (vs.getD j (0,0)) else 0)=uJ (wy pts r.1 r.2.1) (vs.getD j (0,0)):=λj hj=>by
  by_cases m:j∈aj many fx
  ·rw [if_pos m]
  ·rw [if_neg m,hf j (Classical.byContradiction λn=>m (nT.mpr ⟨hj,n⟩))]
   unfold uJ;grind
 rw [z _ h1,z _ h2];unfold gS uJ wy;grind
theorem RS.inj {M:DT.Mx} {many m:Nat} {P C Qo:Nat->Nat} {k:Nat} {d:Int} {z:Nat->Nat->Rat} {vss:List (List Int)} {cc:Nat} (h:RS M many m P C Qo k d z vss cc):∀ i j,i < k->j < k->C i=C j->i=j:=λi j hi hj e=>by
 rcases Nat.lt_trichotomy i j with l | l | l
 ·have:=h.inc i j l hj; omega
 ·exact l
 ·have:=h.inc j i l hi; omega
theorem kS {M:DT.Mx} {N m:Nat} {P C Qo:Nat->Nat} {k:Nat} {d:Int} {z:Nat->Nat->Rat} {vss:List (List Int)} {c g:Nat} {w:List Int} (h:RS M N m P C Qo k d z vss N) (s:gs N k C d vss c g w) {q:Nat} (hq:q < m):DT.sm N (λx=>M q x*((w.getD x 0:Int):Rat))=0:=by
 have e:=sD (F:=λx=>M q x) (W:=λx=>((w.getD x 0:Int):Rat)) (a:=λj=>-((d:Rat)*z j c)) h.inj h.col s.lt s.free (congrArg (λv:Int=>(v:Rat)) s.own) (λj hj=>by
  have hv:vss[j]?=some (vss[j]'(by rw [h.len]; have:=h.km; omega)):=CO _
  have e1:=s.piv j _ hj hv;have e2:=h.ld j _ c hv hj s.lt
  show((w.getD (C j) 0:Int):Rat)=_
  rw [e1,Rat.intCast_neg,e2]
  rfl) (λx hx n f=>by
  show((w.getD x 0:Int):Rat)=0
  rw [s.oth x hx n f]
  rfl)
 rw [e];have ha:=h.hall q hq c s.lt;have e2:DT.sm k (λj=>M q (C j)*-((d:Rat)*z j c))=(-(d:Rat))*DT.sm k (λj=>z j c*M q (C j)):=by
  rw [<- DT.sm_mul];exact DT.sm_congr λj _=>by grind
 show M q c*(d:Rat)+DT.sm k (λj=>M q (C j)*-((d:Rat)*z j c))=0
 rw [e2,<- ha];grind
abbrev rG (pts:List (Rat×Rat)) (js:List Nat) (rods:List bR) (vss0:List (List Int)):Prop:=∀ (i:Nat) x v,rods[i]?=some x->vss0[i]?=some v->∃ s,0 < s/\s ∣ 24/\(∀ q∈aV pts js x,q.den ∣ s)/\v=(aV pts js x).map (wn s)
theorem tE {pts:List (Rat×Rat)} {js:List Nat} {rods:List bR} {vss0:List (List Int)} (l0:vss0.length=rods.length) (rel:rG pts js rods vss0) (q:Nat) (hq:q < rods.length):∃ s:Rat,s≠0/\∀ x,fZ vss0 q x=s*(aV pts js (rods[q])).getD x 0:=by
 have h1:rods[q]?=some rods[q]:=CO hq;have h2:vss0[q]?=some (vss0[q]'(by omega)):=CO _
 obtain⟨s,s0,_,hd,ev⟩:=rel q _ _ h1 h2;refine⟨(s:Rat),λz=>by have:=Rat.natCast_eq_zero_iff.mp z; omega,λx=>?_⟩
 rw [oM h2,ev,CU,CQ,CU];cases e:(aV pts js rods[q])[x]? with
 | none=>
  show(((0:Int):Int):Rat)=(s:Rat)*0
  rw [Rat.mul_zero]
  rfl
 | some v=>
  show((wn s v:Int):Rat)=(s:Rat)*v
  rw [qF (hd v (List.mem_of_getElem? e)),Rat.mul_comm]
theorem B_ {pts:List (Rat×Rat)} {js:List Nat} {rods:List bR} {vss0:List (List Int)} (l0:vss0.length=rods.length) (rel:rG pts js rods vss0):∃ t:Nat->Rat,(∀ q,q < rods.length->t q≠0)/\∀ q,q < rods.length->∀ x,x < 2*js.length->Mt pts js rods q x=t q*fZ vss0 q x:=by
 have:∀ q,∃ t:Rat,q < rods.length->t≠0/\∀ x,Mt pts js rods q x=t*fZ vss0 q x:=λq=>by
  by_cases hq:q < rods.length
  ·obtain⟨s,s0,hs⟩:=tE l0 rel q hq;refine⟨24 / s,λ_=>⟨by grind,λx=>?_⟩⟩
   rw [hs x,wJ (CO hq)];grind
  ·exact⟨0,λh=>absurd h hq⟩
 obtain⟨t,ht⟩:=Classical.axiomOfChoice this;exact⟨t,λq hq=>(ht q hq).1,λq hq x _=>(ht q hq).2 x⟩
theorem lg {N k:Nat} {C:Nat->Nat} (inj:∀ i j,i < k->j < k->C i=C j->i=j) (hC:∀ j,j < k->C j < N):((List.range N).filter (λc=>!decide (∃ j,j < k/\C j=c))).length+k=N:=by
 have h2:=mv (p:=λc=>decide (∃ j,j < k/\C j=c)) (List.range N)
 have nd:((List.range k).map C).Nodup:=by
  unfold List.Nodup;rw [List.pairwise_map];refine List.Pairwise.imp_of_mem ?_ (List.nodup_range (n:=k));intro a b ha hb n e;exact n (inj a b (Dh.mp ha) (Dh.mp hb) e)
 have h1:((List.range N).filter λc=>decide (∃ j,j < k/\C j=c)).length=k:=by
  have:((List.range N).filter λc=>decide (∃ j,j < k/\C j=c)).length=((List.range k).map C).length:=by
   refine(List.Perm.length_eq ?_);refine(List.perm_ext_iff_of_nodup (List.nodup_range.sublist List.filter_sublist) nd).mpr λc=>?_
   rw [List.mem_filter,Dh,decide_eq_true_eq,Cu]
   constructor
   ·rintro⟨_,j,hj,e⟩;exact⟨j,Dh.mpr hj,e⟩
   ·rintro⟨j,hj,rfl⟩;have hj:=Dh.mp hj;exact⟨hC j hj,j,hj,rfl⟩
  rw [this,Cv,List.length_range]
 rw [h1,List.length_range] at h2;exact h2
theorem nZ {b:Nat}:DT.IsN b 0:=⟨0,rfl,Dd _⟩
theorem yi {vss:List (List Int)} (h:∀ v∈vss,∀ x∈v,x.natAbs<=768) (r c:Nat):DT.IsN 768 (fZ vss r c):=by
 unfold fZ;refine⟨_,rfl,?_⟩;rw [CU,CU];cases e:vss[r]? with
 | none=>exact Dd _
 | some v=>
  show(v[c]?.getD 0).natAbs<=768
  cases e2:v[c]? with
  | none=>exact Dd _
  | some x=>exact h v (List.mem_of_getElem? e) x (List.mem_of_getElem? e2)
theorem x9 {many:Nat} {fx:List Nat} {pts:List (Rat×Rat)} {rods:List bR} {vss0:List (List Int)} (ok:eJ many fx rods) (pl:fo many pts) (l0:vss0.length=rods.length) (rel:rG pts (aj many fx) rods vss0) (r c:Nat):DT.IsN 768 (fZ vss0 r c):=by
 refine yi (λv hv x hx=>?_) r c
 obtain⟨i,hi,e⟩:=List.mem_iff_getElem.mp hv;have h1:rods[i]?=some (rods[i]'(by omega)):=CO _
 obtain⟨s,s0,s12,hd,ev⟩:=rel i _ v h1 (by rw [<- e]; exact CO hi)
 rw [ev] at hx;obtain⟨q,hq,rfl⟩:=Cu.mp hx;obtain⟨m1,m2,_⟩:=ok.rd _ (List.mem_of_getElem? h1);exact qJ (lY (pl.way m1 m2) q hq) s12 (hd q hq) (by decide)
theorem Au {k:Nat} (h:k<=12):DT.fac k*768 ^ k<=2 ^ 150:=by
 have:k=0\/k=1\/k=2\/k=3\/k=4\/k=5\/k=6\/k=7\/k=8\/k=9\/k=10\/k=11\/k=12:=by omega
 rcases this with rfl | rfl | rfl | rfl | rfl | rfl | rfl | rfl | rfl | rfl | rfl | rfl | rfl <;> decide +kernel
def uu (x:Nat×Nat×List Int) (c:Nat):Int:=(x.2.2.map λv=>v.fdiv (x.2.1:Nat)).getD c 0
theorem pS {N k:Nat} {C:Nat->Nat} {d:Int} {vss:List (List Int)} {x:Nat×Nat×List Int} (s:gs N k C d vss x.1 x.2.1 x.2.2) (c:Nat):x.2.2.getD c 0=(x.2.1:Nat)*uu x c:=by
 unfold uu;rw [CU,CU,CQ];cases e:x.2.2[c]? with
 | none=>
  show(0:Int)=_*0
  omega
 | some v=>
  obtain⟨t,ht⟩:=s.dvd v (List.mem_of_getElem? e)
  show v=(x.2.1:Nat)*v.fdiv (x.2.1:Nat)
  have g0:((x.2.1:Nat):Int)≠0:=by have:=s.pos; omega
  rw [ht,Int.mul_fdiv_cancel_left _ g0]
theorem wD {M:DT.Mx} {N m:Nat} {P C Qo:Nat->Nat} {k:Nat} {d:Int} {z:Nat->Nat->Rat} {vss:List (List Int)} {x:Nat×Nat×List Int} (h:RS M N m P C Qo k d z vss N) (hM:∀ r c,DT.IsN 768 (M r c)) (k12:k<=12) (s:gs N k C d vss x.1 x.2.1 x.2.2) (c:Nat):DT.IsN (2 ^ 150) ((uu x c:Int):Rat):=by
 have hw:(x.2.2.getD c 0).natAbs<=2 ^ 150:=by
  rcases Nat.lt_or_ge c N with hc | hc
  ·by_cases h1:c=x.1
   ·rw [h1,s.own];have hd:DT.IsN (DT.fac k*768 ^ k) (d:Rat):=by
     rw [h.bs.det];exact DT.IsN.det λ_ _ _ _=>hM _ _
    obtain⟨v,ev,hv⟩:=hd;rw [show d=v from Rat.intCast_inj.mp ev]
    exact CZ hv (Au k12)
   ·by_cases h2:∃ j,j < k/\C j=c
    ·obtain⟨j,hj,rfl⟩:=h2;have hv:vss[j]?=some (vss[j]'(by rw [h.len]; have:=h.km; omega)):=CO _
     have e2:=h.ld j _ x.1 hv hj s.lt;rw [s.piv j _ hj hv,Int.natAbs_neg];obtain⟨v,ev,hb⟩:=h.bs.ld hM (x:=x.1) hj;rw [ev] at e2;rw [Rat.intCast_inj.mp e2];exact CZ hb (Au k12)
    ·rw [s.oth c hc h1 (λj hj z=>h2 ⟨j,hj,z⟩)]
     exact Dd _
  ·rw [CU,List.getElem?_eq_none (by rw [s.len]; exact hc)]
   exact Dd _
 refine⟨_,rfl,CZ ?_ hw⟩;rw [pS s c,Di,Int.natAbs_natCast];exact Nat.le_mul_of_pos_left _ s.pos
theorem su {M:DT.Mx} {many m:Nat} {fx:List Nat} {P C Qo:Nat->Nat} {k:Nat} {d:Int} {z:Nat->Nat->Rat} {vss:List (List Int)} {x:Nat×Nat×List Int} {vs:List (Rat×Rat)} (h:RS M (2*(aj many fx).length) m P C Qo k d z vss (2*(aj many fx).length)) (hM:∀ r c,DT.IsN 768 (M r c)) (k12:k<=12) (s:uX many fx k C d vss x vs):∀ v∈vs,DT.IsN (2 ^ 150) v.1/\DT.IsN (2 ^ 150) v.2:=by
 intro v hv;obtain⟨j,hj,e⟩:=List.mem_iff_getElem.mp hv;have ev:v=vs.getD j (0,0):=by rw [CU,CO hj,e]; rfl
 have jm:j < many:=by rw [<- s.sp.len]; exact hj
 by_cases hf:j∈fx
 ·rw [ev,s.fix j hf];exact⟨nZ,nZ⟩
 ·obtain⟨i,hi,e2⟩:=List.mem_iff_getElem.mp (nT.mpr ⟨jm,hf⟩);rw [ev,s.free i j (by rw [<- e2]; exact CO hi)]
  exact⟨wD h hM k12 s.sol _,wD h hM k12 s.sol _⟩
theorem qh {many:Nat} {fx:List Nat} {pts:List (Rat×Rat)} {rods:List bR} {vss0 vss:List (List Int)} {P C Qo:Nat->Nat} {k:Nat} {d:Int} {z:Nat->Nat->Rat} {x:Nat×Nat×List Int} {vs:List (Rat×Rat)} (ok:eJ many fx rods) (l0:vss0.length=rods.length) (rel:rG pts (aj many fx) rods vss0) (h:RS (fZ vss0) (2*(aj many fx).length) rods.length P C Qo k d z vss (2*(aj many fx).length)) (s:uX many fx k C d vss x vs):fK fx rods pts vs=true:=by
 unfold fK;rw [C0,Dg,Dg];refine⟨λf hf=>decide_eq_true (s.fix f hf),λr hr=>decide_eq_true ?_⟩
 obtain⟨q,hq,e⟩:=List.mem_iff_getElem.mp hr;obtain⟨m1,m2,mn⟩:=ok.rd r hr;obtain⟨t,t0,ht⟩:=tE l0 rel q hq;rw [e] at ht;rw [n_ (U:=λc=>((uu x c:Int):Rat)) mn m1 m2 (λi j hi=>by rw [s.free i j hi]; exact⟨rfl,rfl⟩) s.fix]
 have e1:=kS h s.sol hq;have g0:((x.2.1:Nat):Rat)≠0:=λz=>by have:=Rat.natCast_eq_zero_iff.mp z; have:=s.sol.pos; omega
 have e2:DT.sm (2*(aj many fx).length) (λc=>fZ vss0 q c*((x.2.2.getD c 0:Int):Rat))=(t*((x.2.1:Nat):Rat))*DT.sm (2*(aj many fx).length) (λc=>(aV pts (aj many fx) r).getD c 0*((uu x c:Int):Rat)):=by
  rw [<- DT.sm_mul];exact DT.sm_congr λc _=>by
   rw [ht c,pS s.sol c,Cr,Rat.intCast_natCast];grind
 rw [e2] at e1;grind
set_option maxHeartbeats 4000000
theorem uH {M:DT.Mx} {P' C':Nat->Nat} {k k' R N:Nat} {d':Rat} {z':Nat->Nat->Rat} {z B:Nat->Nat->Rat} (h':DT.BS M P' C' k' d' z') (hP':∀ r,r < k'->P' r < R) (hC':∀ r,r < k'->C' r < N) (hall:∀ q,q < R->∀ x,x < N->M q x=DT.sm k (λj=>z j x*B q j)):k'<=k:=by
 rcases Nat.lt_or_ge k k' with hlt | hge
 ·obtain⟨y,⟨j1,hj1,hy1⟩,hs⟩:=DT.null_vec k k' (λj i=>z j (C' i)) hlt
  exfalso
  have key:∀ r,r < k'->DT.sm k' (λi=>y i*M (P' r) (C' i))=0:=λr hr=>by
   have e1:DT.sm k' (λi=>y i*M (P' r) (C' i))=DT.sm k' (λi=>DT.sm k (λj=>y i*(z j (C' i)*B (P' r) j))):=DT.sm_congr λi hi=>by
    rw [hall _ (hP' r hr) _ (hC' i hi),DT.sm_mul]
   rw [e1,DT.sm_swap];refine DT.sm_zero λj hj=>?_
   have e2:DT.sm k' (λi=>y i*(z j (C' i)*B (P' r) j))=B (P' r) j*DT.sm k' (λi=>y i*z j (C' i)):=by
    rw [<- DT.sm_mul];exact DT.sm_congr λi _=>by grind
   rw [e2,hs j hj];grind
  have hc:=DT.cramer (n:=k') (j:=j1) (M:=λr c=>M (P' r) (C' c)) (z:=y) (u:=λ_=>0) hj1 key
  have hd:DT.det k' (DT.cl (λr c=>M (P' r) (C' c)) j1 λ_=>0)=0:=by
   have:=DT.det_mul (n:=k') (a:=j1) (M:=λr c=>M (P' r) (C' c)) (u:=λ_=>0) (k:=0) hj1
   have e:(λr:Nat=>(0:Rat)*(λ_:Nat=>(0:Rat)) r)=λ_=>0:=by funext r; grind
   rw [e] at this;grind
  rw [hd] at hc;have:=h'.ne;rw [h'.det] at this;grind
 ·exact hge
def fh (M:DT.Mx) (R N k:Nat):Prop:=∃ z B:Nat->Nat->Rat,∀ q,q < R->∀ x,x < N->M q x=DT.sm k (λj=>z j x*B q j)
def Rk (M:DT.Mx) (R N k:Nat):Prop:=fh M R N k/\∀ k',fh M R N k'->k<=k'
theorem Rk.of_bs {M:DT.Mx} {P C:Nat->Nat} {k R N:Nat} {d:Rat} {z:Nat->Nat->Rat} (h:DT.BS M P C k d z) (pr:∀ r,r < k->P r < R) (cn:∀ r,r < k->C r < N) (al:∀ q,q < R->∀ x,x < N->M q x=DT.sm k (λj=>z j x*M q (C j))):Rk M R N k:=by
 refine⟨⟨z,λq j=>M q (C j),al⟩,λk' h2=>?_⟩
 obtain⟨z',B,h'⟩:=h2;exact uH h pr cn h'
theorem Rk.one {M:DT.Mx} {R N k k':Nat} (h:Rk M R N k) (h':Rk M R N k'):k=k':=Nat.le_antisymm (h.2 _ h'.1) (h'.2 _ h.1)
theorem ww {n:Nat} {f:Nat->Rat} {q:Nat} (hq:q < n):DT.sm n (λj=>f j*(if j=q then 1 else 0))=f q:=by
 cases n with
 | zero=>omega
 | succ n=>
  rw [DT.sm_sk (j:=q) hq,DT.sm_zero (λi _=>?_),if_pos rfl]
  ·grind
  ·have:DT.sk q i≠q:=by unfold DT.sk; split <;> omega
   rw [if_neg this];grind
theorem fh.rows {M:DT.Mx} {R N:Nat}:fh M R N R:=⟨λj x=>M j x,λq j=>if j=q then 1 else 0,λq hq x _=>(ww (f:=λj=>M j x) hq).symm⟩
theorem fh.cols {M:DT.Mx} {R N:Nat}:fh M R N N:=⟨λj x=>if j=x then 1 else 0,λq j=>M q j,λq _ x hx=>by
 rw [<- ww (f:=λj=>M q j) hx]
 exact DT.sm_congr λj _=>by grind⟩
theorem fh.sub {M M':DT.Mx} {R N R' N' k:Nat} (f g:Nat->Nat) (hf:∀ q,q < R'->f q < R) (hg:∀ x,x < N'->g x < N) (e:∀ q,q < R'->∀ x,x < N'->M' q x=M (f q) (g x)) (h:fh M R N k):fh M' R' N' k:=by
 obtain⟨z,B,h⟩:=h;exact⟨λj x=>z j (g x),λq j=>B (f q) j,λq hq x hx=>by rw [e q hq x hx,h _ (hf q hq) _ (hg x hx)]⟩
theorem fh.scale {M M':DT.Mx} {R N k:Nat} (t:Nat->Rat) (e:∀ q,q < R->∀ x,x < N->M' q x=t q*M q x) (h:fh M R N k):fh M' R N k:=by
 obtain⟨z,B,h⟩:=h;refine⟨z,λq j=>t q*B q j,λq hq x hx=>?_⟩
 rw [e q hq x hx,h q hq x hx,<- DT.sm_mul];exact DT.sm_congr λj _=>by grind
theorem fh.more {M:DT.Mx} {R N k a:Nat} (ha:a < R+1) (h:fh (λq x=>M (DT.sk a q) x) R N k):fh M (R+1) N (k+1):=by
 obtain⟨z,B,h⟩:=h;refine⟨λj x=>if j=k then M a x else z j x,λq j=>if q=a then(if j=k then 1 else 0) else if j=k then 0 else B (if q < a then q else q - 1) j,λq hq x hx=>?_⟩
 show M q x=DT.sm k (λj=>(if j=k then M a x else z j x)*(if q=a then(if j=k then 1 else 0) else if j=k then 0 else B (if q < a then q else q - 1) j))+(if k=k then M a x else z k x)*(if q=a then(if k=k then 1 else 0) else if k=k then 0 else B (if q < a then q else q - 1) k)
 rw [if_pos rfl]
 by_cases e:q=a
 ·subst e;rw [if_pos rfl,if_pos rfl,DT.sm_zero (λj hj=>?_)]
  ·grind
  ·rw [if_pos rfl,if_neg (by omega:¬ j=k)]
   grind
 ·rw [if_neg e,if_pos rfl];have hp:DT.sk a (if q < a then q else q - 1)=q:=by
   unfold DT.sk
   by_cases l:q < a
   ·rw [if_pos l,if_pos l]
   ·rw [if_neg l,if_neg (by omega)]; omega
  have hl:(if q < a then q else q - 1) < R:=by split <;> omega
  have:=h _ hl x hx;simp only [hp] at this;rw [this];have e2:DT.sm k (λj=>z j x*B (if q < a then q else q - 1) j)=DT.sm k (λj=>(if j=k then M a x else z j x)*(if q=a then(if j=k then 1 else 0) else if j=k then 0 else B (if q < a then q else q - 1) j)):=DT.sm_congr λj hj=>by
   rw [if_neg (by omega:¬ j=k),if_neg e,if_neg (by omega:¬ j=k)]
  rw [e2];grind
theorem fh.ker {M:DT.Mx} {R N k c:Nat} {v:Nat->Rat} (hc:c < N+1) (v0:v c≠0) (hv:∀ q,q < R->DT.sm (N+1) (λx=>v x*M q x)=0) (h:fh (λq x=>M q (DT.sk c x)) R N k):fh M R (N+1) k:=by
 obtain⟨z,B,h⟩:=h;have h:∀ q,q < R->∀ x,x < N->M q (DT.sk c x)=DT.sm k (λj=>z j x*B q j):=h
 refine⟨λj x=>if x=c then -(v c)⁻¹*DT.sm N (λy=>v (DT.sk c y)*z j y) else z j (if x < c then x else x - 1),B,λq hq x hx=>?_⟩
 by_cases e:x=c
 ·subst e;have h1:=hv q hq;rw [DT.sm_sk (j:=x) hc] at h1;have h2:DT.sm N (λi=>v (DT.sk x i)*M q (DT.sk x i))=DT.sm k (λj=>DT.sm N (λy=>v (DT.sk x y)*z j y)*B q j):=by
   rw [show DT.sm N (λi=>v (DT.sk x i)*M q (DT.sk x i))=DT.sm N (λi=>DT.sm k (λj=>v (DT.sk x i)*(z j i*B q j))) from DT.sm_congr λi hi=>by rw [h q hq i hi,DT.sm_mul],DT.sm_swap]
   refine DT.sm_congr λj _=>?_
   rw [Rat.mul_comm,<- DT.sm_mul];exact DT.sm_congr λi _=>by grind
  have h3:M q x=-(v x)⁻¹*DT.sm k (λj=>DT.sm N (λy=>v (DT.sk x y)*z j y)*B q j):=by
   rw [<- h2];have:v x*(v x)⁻¹=1:=Rat.mul_inv_cancel _ v0;generalize DT.sm N (λi=>v (DT.sk x i)*M q (DT.sk x i))=s at*
   grind
  rw [h3,<- DT.sm_mul];exact DT.sm_congr λj _=>by dsimp only; rw [if_pos rfl]; grind
 ·have hp:DT.sk c (if x < c then x else x - 1)=x:=by
   unfold DT.sk
   by_cases l:x < c
   ·rw [if_pos l,if_pos l]
   ·rw [if_neg l,if_neg (by omega)]; omega
  have hl:(if x < c then x else x - 1) < N:=by split <;> omega
  have:=h q hq _ hl;rw [hp] at this;rw [this];exact DT.sm_congr λj _=>by dsimp only; rw [if_neg e]
theorem vq {M:DT.Mx} {N c:Nat} {v:Nat->Rat} {q:Nat} (hc:c < N+1) (v0:v c=0) (hv:DT.sm (N+1) (λx=>v x*M q x)=0):DT.sm N (λx=>v (DT.sk c x)*M q (DT.sk c x))=0:=by
 rw [DT.sm_sk (j:=c) hc,v0] at hv;grind
theorem Rk.less {M:DT.Mx} {R N k k' a:Nat} (ha:a < R+1) (h:Rk M (R+1) N k) (h':Rk (λq x=>M (DT.sk a q) x) R N k'):k'<=k/\k<=k'+1:=
 ⟨h'.2 _ (h.1.sub (DT.sk a) id (λq hq=>by unfold DT.sk; split <;> omega) (λ_ h=>h) (λ_ _ _ _=>rfl)),h.2 _ (h'.1.more ha)⟩
theorem Rk.le_rows {M:DT.Mx} {R N k:Nat} (h:Rk M R N k):k<=R:=h.2 _ fh.rows
theorem Rk.same {M M':DT.Mx} {R N k k':Nat} (h:Rk M R N k) (h':Rk M' R N k') (to:∀ k,fh M R N k->fh M' R N k) (fro:∀ k,fh M' R N k->fh M R N k):k=k':=Nat.le_antisymm (h.2 _ (fro _ h'.1)) (h'.2 _ (to _ h.1))
def cM (f:Nat->Rat×Rat) (x:Nat):Rat:=if x % 2=0 then(f (x / 2)).1 else(f (x / 2)).2
theorem wd {c x:Nat} (h:x < c):DT.sk c x=x:=by unfold DT.sk; rw [if_pos h]
theorem zP {c x:Nat} (h:c<=x):DT.sk c x=x+1:=by unfold DT.sk; rw [if_neg (by omega)]
theorem pW {M:DT.Mx} {R m k:Nat} (h1:∀ q,q < R->DT.sm (2*m+2) (λx=>cM (λ_=>(1,0)) x*M q x)=0) (h2:∀ q,q < R->DT.sm (2*m+2) (λx=>cM (λ_=>(0,1)) x*M q x)=0) (h:fh M R (2*m) k):fh M R (2*m+2) k:=by
 have a0:cM (λ_=>(1,0)) (2*m)=1:=by unfold cM; rw [if_pos (by omega)]
 have a1:cM (λ_=>(0,1)) (2*m)=0:=by unfold cM; rw [if_pos (by omega)]
 have a2:cM (λ_=>(0,1)) (2*m+1)=1:=by unfold cM; rw [if_neg (by omega)]
 refine fh.ker (N:=2*m+1) (c:=2*m) (v:=cM λ_=>(1,0)) (by omega) (by rw [a0]; decide) h1 ?_
 refine fh.ker (N:=2*m) (c:=2*m) (v:=λx=>cM (λ_=>(0,1)) (DT.sk (2*m) x)) (by omega) (by show cM _ (DT.sk (2*m) (2*m))≠0; rw [zP (Ct _),a2]; decide) (λq hq=>vq (by omega) a1 (h2 q hq)) ?_
 exact h.sub id id (λ_ h=>h) (λ_ h=>h) λq _ x hx=>by
  show M q (DT.sk (2*m) (DT.sk (2*m) x))=M q x
  rw [wd hx,wd hx]
theorem qK {N:Nat} {f:Nat->Rat} (h:f N=0):DT.sm (N+1) f=DT.sm N f:=by
 show DT.sm N f+f N=_
 rw [h];grind
theorem rJ {M:DT.Mx} {R m:Nat} {f:Nat->Rat×Rat} {i:Nat} (h1:∀ q,q < R->DT.sm (2*m+2) (λx=>cM (λ_=>(1,0)) x*M q x)=0) (h2:∀ q,q < R->DT.sm (2*m+2) (λx=>cM (λ_=>(0,1)) x*M q x)=0) (h3:∀ q,q < R->DT.sm (2*m+2) (λx=>cM f x*M q x)=0) (fl:f m=(0,0)) (hi:i < m) (fi:f i≠(0,0)):fh M R (2*m+2) (2*m - 1):=by
 refine pW h1 h2 ?_;have b1:cM f (2*m+1)=0:=by unfold cM; rw [if_neg (by omega),show(2*m+1) / 2=m by omega,fl]
 have b0:cM f (2*m)=0:=by unfold cM; rw [if_pos (by omega),show 2*m / 2=m by omega,fl]
 have k2:∀ q,q < R->DT.sm (2*m) (λx=>cM f x*M q x)=0:=λq hq=>by
  have:=h3 q hq;rw [qK (N:=2*m+1) (by rw [b1]; grind),qK (N:=2*m) (by rw [b0]; grind)] at this
  exact this
 have hc:∃ c,c < 2*m/\cM f c≠0:=by
  by_cases z:(f i).1=0
  ·refine⟨2*i+1,by omega,?_⟩
   unfold cM;rw [if_neg (by omega),show(2*i+1) / 2=i by omega]
   exact λy=>fi (Prod.ext z y)
  ·refine⟨2*i,by omega,?_⟩
   unfold cM;rw [if_pos (by omega),show 2*i / 2=i by omega]
   exact z
 obtain⟨c,hc,c0⟩:=hc;obtain⟨n,rfl⟩:∃ n,m=n+1:=⟨m - 1,by omega⟩
 exact fh.ker (N:=2*n+1) (c:=c) (by omega) c0 k2 fh.cols
set_option maxHeartbeats 4000000
theorem bj.to12 {A:Nat} {q:Rat} (h:bj 12 A q):∃ z:Int,q*12=(z:Rat)/\z.natAbs<=A*12:=
 ⟨wn 12 q,by have:=qF h.1; rw [this]; rfl,qJ h (Nat.dvd_refl _) h.1 (by decide)⟩
structure q9 (many:Nat) (pts:List (Rat×Rat)):Prop where
 len:pts.length=many
 ok:∀ p∈pts,bj 12 4 p.1/\bj 12 4 p.2
theorem bj.up {q:Rat} (h:bj 12 4 q):bj 24 16 q:=⟨Nat.dvd_trans h.1 ⟨2,rfl⟩,CZ h.2 (Nat.mul_le_mul_right _ (by decide))⟩
theorem q9.up {many:Nat} {pts:List (Rat×Rat)} (h:q9 many pts):fo many pts:=⟨h.len,λp hp=>⟨(h.ok p hp).1.up,(h.ok p hp).2.up⟩⟩
theorem bj.of12 {A:Nat} {q:Rat} {z:Int} (h:q*12=(z:Rat)) (hz:z.natAbs<=A*12):bj 12 A q:=by
 have e:q.num*12=z*q.den:=by
  have h1:=dP q;have:((q.num*12:Int):Rat)=((z*q.den:Int):Rat):=by
   rw [Cr,Cr,<- h,h1,Rat.intCast_natCast];have:((12:Int):Rat)=12:=rfl;rw [this];grind
  exact Rat.intCast_inj.mp this
 have e2:q.num.natAbs*12=z.natAbs*q.den:=by
  have:=congrArg Int.natAbs e;rw [Di,Di] at this;exact this
 refine⟨Nat.Coprime.dvd_of_dvd_mul_left q.reduced.symm ⟨z.natAbs,by rw [e2,Nat.mul_comm]⟩,?_⟩
 refine Nat.le_of_mul_le_mul_right (c:=12) ?_ (by decide)
 rw [e2]
 calc z.natAbs*q.den<=A*12*q.den:=Nat.mul_le_mul_right _ hz
  _=A*q.den*12:=Nat.mul_right_comm ..
def fz:bW:=λds S k=>∃ (ns:List Int) (i:Int),ds=[.rl (List.map D.int ns),.int i]/\0<=i/\∀ c:Int,k (.int c) S
theorem jg:aq ["script","k"] ["script","k"] (ai dD):=dY
theorem i_ (Fn:FN K "_law_cell_at" dD f fd) (aX:mg "len"=none):
  aW P w K mg base cx 1 f fd ["script","k"] (cO K fz):=by
 refine Fn.okJ jg (λds S k h=>?_) (λcdv A outer s H E hr=>⟨_,(af (aJ (ax qO (ae 1) (aK b8 rfl aX bU (aE 0 ac)) (aC _)) (ah (ao (aA cT (ae 0) (ae 1) Zf))) aM) (ah (ao ag))),λds S k h=>?_⟩)
 ·obtain⟨_,_,rfl,_⟩:=h
  rfl
 ·obtain⟨ns,i,rfl,h0,q⟩:=h;refine cH (λhl=>?_) (λ_=>q 0)
  obtain⟨n,rfl⟩:=Int.eq_ofNat_of_zero_le h0;have hn:n < ns.length:=by rw [Cv] at hl; omega
  have e:L2.atI (List.map D.int ns) (n:Int)=some (.int ns[n]):=cZ (by rw [CQ,CO hn] <;> rfl)
  exact⟨_,e,q _⟩
def h_:bW:=λds S k=>∃ ns i,ds=[.rl (List.map D.int ns),.int i]/\0<=i/\∀ (p:Dv) (n:Int) (b:DM),S p=none->(b=false->0<=n/\n < 2147483647)->k (.ref p) (put S p (.lst [.int n,.bl b]))
theorem gm:aq ["script","k","cell"] ["script","k"] (ai eV):=dY
theorem kz (Fn:FN K "_law_state" eV f fd) (de:bH P w K mg base "_law_cell_at" 1 fz):
  aW P w K mg base cx 2 f fd ["script","k"] (cO K h_):=by
 refine Fn.okJ gm (λds S k h=>?_) (λcdv A outer s H E hr=>⟨_,(af (ak (i:=2) gm.nd (dq de hr (aE 0 (aE 1 ac)))) (af (aJ (ax AQ (ae 2) (au wK ag ag) (aC _)) (ah (ao (bV (aa (au i6 (ae 2) (au wK ag ag)) (aa dj ac))))) aM) (ah (ao (bV (aa (au i8 (ae 2) ag) (aa dj ac))))))),λds S k h=>?_⟩)
 ·obtain⟨_,_,rfl,_⟩:=h
  rfl
 ·obtain⟨ns,i,rfl,h0,q⟩:=h;have hp:yf 10 18:=⟨by decide,by decide,by decide⟩
  refine⟨ns,i,rfl,h0,λc=>⟨hp,cH (λhl=>⟨hp,bQ,λp hn=>?_⟩) (λhl=>⟨(by show(2147483647:Int)≠0; decide),bQ,λp hn=>?_⟩)⟩⟩
  ·exact q p _ _ hn (λz=>by cases z)
  ·exact q p _ _ hn (λ_=>⟨Da _ (by decide),Dn _ (by decide)⟩)
def dH:bW:=λds S k=>∃ a m,ds=[.ref a,.int m]/\0 < m/\Bt 200 m/\jl S a/\∀ r S',0<=r->r < m->Dr a S S'->k (.int r) S'
theorem cW:aq ["state","many","mixed","found"] ["state","many"] (ai ft):=dY
theorem mO (Fn:FN K "_law_take" ft f fd):
  aW P w K mg base cx 1 f fd ["state","many"] (cO K dH):=by
 refine Fn.okJ cW (λds S k h=>?_) (λcdv A outer s H E hr=>⟨_,(af (aJ (qa (bX 0)) (af (ak (i:=3) cW.nd (au i8 (bX 0) (ae 1))) (af (cL (au gk (bX 0) (ae 1)) (gR (ae 0) ag)) (ah (ao (ae 3))))) aM) (af (cL (au i8 (au dL (au bB (bX 0) ag) ag) ag) (gR (ae 0) ag)) (af (ak (i:=2) cW.nd (au i8 (au dL (au dL (au bB (bX 0) (bX 0)) (au bB ag (bX 0))) ag) ag)) (af (ak (i:=2) cW.nd (au i8 (au dL (au bB (ae 2) (ae 2)) (au bB ag (ae 2))) ag)) (ah (ao (au i8 (au gk (ae 2) ag) (ae 1)))))))),λds S k h=>?_⟩)
 ·obtain⟨_,_,rfl,_⟩:=h
  rfl
 ·obtain⟨a,m,rfl,hm,hb,⟨n,b,hS,hn⟩,q⟩:=h;have put_dr:∀ (n':Int) (b':DM),(b'=false->0<=n'/\n' < 2147483647)->Dr a S (put S a (.lst [.int n',.bl b'])):=λn' b' h'=>
   ⟨⟨n',b',am,h'⟩,λc o z e=>by rw [aG z]; exact e⟩
  refine⟨_,_,hS,AY,?_⟩;cases b with
  | true=>
   refine⟨_,_,hS,pG,(show m≠0 by omega),_,_,hS,pG,rM (by omega) hb,_,_,hS,zN,?_⟩
   exact q _ _ (Da _ hm) (Dn _ hm) (put_dr _ _ λz=>by cases z)
  | false=>
   obtain⟨n0,n1⟩:=hn rfl;have b31:=rH n0 (by omega)
   refine⟨_,_,hS,pG,gO (n:=31) b31 (rH (by decide) (by decide)),(show (2147483647:Int)≠0 by decide),_,_,hS,zN,?_⟩
   have c0:0<=(n*48271+29).fmod 2147483647:=Da _ (by decide)
   have c1:(n*48271+29).fmod 2147483647 < 2147483647:=Dn _ (by decide)
   have bx:=rH c0 (by omega)
   refine⟨_,_,am,pG,_,_,am,pG,gO bx bx,_,_,am,pG,gO (m:=31) (rH (by decide) (by decide)) bx,(show (2147483629:Int)≠0 by decide),?_⟩
   have d0:0<=((n*48271+29).fmod 2147483647*(n*48271+29).fmod 2147483647+39373*(n*48271+29).fmod 2147483647+7).fmod 2147483629:=Da _ (by decide)
   have d1:((n*48271+29).fmod 2147483647*(n*48271+29).fmod 2147483647+39373*(n*48271+29).fmod 2147483647+7).fmod 2147483629 < 2147483629:=Dn _ (by decide)
   have by':=rH d0 (by omega)
   refine⟨gO by' by',gO (m:=31) (rH (by decide) (by decide)) by',(show (2147483587:Int)≠0 by decide),⟨by decide,by decide +kernel⟩,(show m≠0 by omega),?_⟩
   exact q _ _ (Da _ hm) (Dn _ hm) (put_dr _ _ λ_=>⟨c0,c1⟩)
theorem uR (a b:Int):Int.gcd (nD a) (nD b)=Int.gcd a b:=by
 have e:∀ x:Int,(nD x).natAbs=x.natAbs:=λx=>by unfold nD; split <;> omega
 unfold Int.gcd;rw [e,e]
def fM:bW:=λds S k=>∃ a b,ds=[.int a,.int b]/\k (.int ((Int.gcd a b:Nat):Int)) S
theorem b4:aq ["one","other"] ["one","other"] (ai dG):=dY
theorem jc (Fn:FN K "_law_divisor" dG f fd) (jN:mg "abs"=none):
  aW P w K mg base cx 1 f fd ["one","other"] (cO K fM):=by
 refine Fn.okJ b4 (λds S k h=>?_) (λcdv A outer s H E hr=>⟨_,(af (ak (i:=0) b4.nd (aK sI rfl jN oO (aE 0 ac))) (af (ak (i:=1) b4.nd (aK sI rfl jN oO (aE 1 ac))) (af (jI PassesOwn.never (ax Am (ae 1) ag (aC _)) (ah (tP (i:=0) (j:=1) rfl b4.nd (by decide) (aE 1 (aa (au i8 (ae 0) (ae 1)) ac))))) (ah (ao (ae 0)))))),λds S k h=>?_⟩)
 ·obtain⟨_,_,rfl,_⟩:=h
  rfl
 ·obtain⟨a,b,rfl,q⟩:=h;refine⟨λm L S'=>S'=S/\∃ x y,L=[some (.int x),some (.int y)]/\m=y.natAbs/\0<=x/\0<=y/\Int.gcd x y=Int.gcd a b,⟨_,rfl,nD a,nD b,rfl,rfl,qr a,qr b,uR a b⟩,?_⟩
  rintro m L S' ⟨rfl,x,y,rfl,rfl,hx,hy,e⟩;refine cH (λhl=>⟨λL' S''=>∃ m',m' < y.natAbs/\S''=S'/\∃ x y,L'=[some (.int x),some (.int y)]/\m'=y.natAbs/\0<=x/\0<=y/\Int.gcd x y=Int.gcd a b,λ_ _ z=>z,by omega,?_⟩) (λhl=>?_)
  ·exact⟨_,pU x y (by omega),rfl,y,x.fmod y,rfl,rfl,hy,Da _ hl,(nK x y).trans e⟩
  ·have z:y=0:=by omega
   subst z;have e2:=oj x;rw [e,if_neg (by omega)] at e2
   rw [e2] at q;exact q
def cm:bW:=λds S k=>∃ t b,ds=[.int t,.int b]/\b≠0/\Bt 8000 b/\k (fr (Rat.divInt t b)) S
theorem dU:aq ["top","bottom","by"] ["top","bottom"] (ai eK):=dY
theorem kx (Fn:FN K "_law_ratio" eK f fd) (dk:bH P w K mg base "_law_divisor" 1 fM):
  aW P w K mg base cx 2 f fd ["top","bottom"] (cO K cm):=by
 refine Fn.okJ dU (λds S k h=>?_) (λcdv A outer s H E hr=>⟨_,(af (ak (i:=2) dU.nd (dq dk hr (aE 0 (aE 1 ac)))) (af (aJ (ax qO (ae 1) ag (aC _)) (ah (ak (i:=2) dU.nd (au i6 ag (ae 2)))) aM) (ah (ao (ay (aa (au gk (ae 0) (ae 2)) (aa (au gk (ae 1) (ae 2)) ac))))))),λds S k h=>?_⟩)
 ·obtain⟨_,_,rfl,_⟩:=h
  rfl
 ·obtain⟨t,b,rfl,h0,hb,q⟩:=h;have hg:=rV (t:=t) h0 hb;have hs:=ug (t:=t) h0;have e1:=mT (t:=t) h0;have e2:=mG (t:=t) h0;have qq:k (.tup [.int (t.fdiv (rN t b)),.int (b.fdiv (rN t b))]) S:=by rw [e1,e2]; exact q
  unfold rN at qq hs
  refine⟨t,b,rfl,cH (λhl=>?_) (λhl=>?_)⟩
  ·rw [if_pos hl] at qq hs
   rw [<- Int.zero_sub] at qq hs
   have hd:∀ x:Int,qp x (0 - ((Int.gcd t b:Nat):Int)):=λx=>rM hs (by rw [Int.zero_sub]; exact hg.neg)
   exact⟨hd _,hd _,bQ,qq⟩
  ·rw [if_neg hl] at qq hs
   exact⟨rM hs hg,rM hs hg,bQ,qq⟩
theorem k9 {S:DH} {k:DK} {t b:Int} {q:Rat} (e:Rat.divInt t b=q) (h0:b≠0) (hb:Bt 8000 b) (h:k (fr q) S):cm [.int t,.int b] S k:=by subst e; exact⟨_,_,rfl,h0,hb,h⟩
def fC:bW:=λds S k=>∃ p q:Rat,ds=[fr p,fr q]/\Sz 4000 p/\Sz 4000 q/\k (fr (p+q)) S
theorem mH:aq ["one","other"] ["one","other"] (ai fT):=dY
theorem mY (Fn:FN K "_law_plus" fT f fd) (bc:bH P w K mg base "_law_ratio" 2 cm):
  aW P w K mg base cx 3 f fd ["one","other"] (cO K fC):=by
 refine Fn.okJ mH (λds S k h=>?_) (λcdv A outer s H E hr=>⟨_,(ah (ao (dq bc hr (aa (au dL (au bB (bX 0) (bX 1)) (au bB (bX 1) (bX 0))) (aa (au bB (bX 0) (bX 1)) ac))))),λds S k h=>?_⟩)
 ·obtain⟨_,_,rfl,_⟩:=h
  rfl
 ·obtain⟨p,q,rfl,hp,hq,w⟩:=h;exact⟨gO hp.num hq.den,gO hq.num hp.den,gO hp.den hq.den,k9 (rP p q) (cE p q) ((hp.den.mul hq.den).mono (by decide)) w⟩
def eU:bW:=λds S k=>∃ p q:Rat,ds=[fr p,fr q]/\Sz 4000 p/\Sz 4000 q/\k (fr (p*q)) S
theorem kJ:aq ["one","other"] ["one","other"] (ai eP):=dY
theorem kw (Fn:FN K "_law_times" eP f fd) (bc:bH P w K mg base "_law_ratio" 2 cm):
  aW P w K mg base cx 3 f fd ["one","other"] (cO K eU):=by
 refine Fn.okJ kJ (λds S k h=>?_) (λcdv A outer s H E hr=>⟨_,(ah (ao (dq bc hr (aa (au bB (bX 0) (bX 1)) (aa (au bB (bX 0) (bX 1)) ac))))),λds S k h=>?_⟩)
 ·obtain⟨_,_,rfl,_⟩:=h
  rfl
 ·obtain⟨p,q,rfl,hp,hq,w⟩:=h;exact⟨gO hp.num hq.num,gO hp.den hq.den,k9 (oU p q) (cE p q) ((hp.den.mul hq.den).mono (by decide)) w⟩
theorem bj.frac {t b:Int} (h1:1<=b) (h4:b<=4) (ht:t.natAbs<=4):bj 12 4 (Rat.divInt t b):=by
 have key:∀ c:Int,c*b=12->0<=c->c<=12->bj 12 4 (Rat.divInt t b):=λc hc c0 c12=>by
  refine bj.of12 (z:=t*c) ?_ ?_
  ·rw [CV,Cr];have hb:((b:Int):Rat)≠0:=by rw [<- Rat.intCast_zero]; intro h; have:=Rat.intCast_inj.mp h; omega
   have h12:((c:Int):Rat)*((b:Int):Rat)=12:=by rw [<- Cr,hc]; rfl
   grind
  ·rw [Di];exact Nat.mul_le_mul ht (by omega)
 have:b=1\/b=2\/b=3\/b=4:=by omega
 rcases this with rfl | rfl | rfl | rfl
 ·exact key 12 rfl (by decide) (by decide)
 ·exact key 6 rfl (by decide) (by decide)
 ·exact key 4 rfl (by decide) (by decide)
 ·exact key 3 rfl (by decide) (by decide)
def cQ:bW:=λds S k=>∃ (a:Dv) (m:Int),ds=[.ref a,.int m]/\1<=m/\m<=4/\jl S a/\∀ q S',bj 12 4 q->Dr a S S'->k (fr q) S'
theorem iF:aq ["state","most"] ["state","most"] (ai cR):=dY
theorem iQ (Fn:FN K "_law_fraction" cR f fd) (bc:bH P w K mg base "_law_ratio" 2 cm) (aB:bH P w K mg base "_law_take" 1 dH):
  aW P w K mg base cx 3 f fd ["state","most"] (cO K cQ):=by
 refine Fn.okJ iF (λds S k h=>?_) (λcdv A outer s H E hr=>⟨_,(ah (ao (dq bc hr (aa (au i6 (dq aB hr (aE 0 (aa (au dL (au bB ag (ae 1)) ag) ac))) (ae 1)) (aa (au dL ag (dq aB hr (aE 0 (aa (aA cT (bV (aa ag (aa ag (aa ag (aa ag ac))))) (dq aB hr (aE 0 (aa ag ac))) Zf) ac)))) ac))))),λds S k h=>?_⟩)
 ·obtain⟨_,_,rfl,_⟩:=h
  rfl
 ·obtain⟨a,m,rfl,m1,m4,hS,w⟩:=h;have bm:Bt 4 m:=by unfold Bt; omega
  have b9:Bt 5 (2*m+1):=by unfold Bt; omega
  refine⟨gO (show Bt 2 2 by decide) bm,a,2*m+1,rfl,by omega,b9.mono (by decide),hS,λr1 S1 h1 h1' d1=>⟨bQ,λp hp=>⟨a,4,rfl,by decide,by decide,d1.1.new hp,λr2 S2 h2 h2' d2=>?_⟩⟩⟩
  have hp3:=d2.2 p _ (d1.1.ne hp) am;obtain⟨c,hc,hm⟩:=v_ (ds:=[.int 1,.int 1,.int 1,.int 4]) h2 h2';have hc2:∃ s:Int,c=.int s/\1<=s/\s<=4:=by
   simp only [Cz,CI,or_false] at hm;rcases hm with rfl | rfl | rfl | rfl
   ·exact⟨1,rfl,by decide,by decide⟩
   ·exact⟨1,rfl,by decide,by decide⟩
   ·exact⟨1,rfl,by decide,by decide⟩
   ·exact⟨4,rfl,by decide,by decide⟩
  obtain⟨s,rfl,s0,s1⟩:=hc2;have bs:Bt 4 s:=by unfold Bt; omega
  refine⟨_,_,hp3,hc,a,s,rfl,by omega,bs.mono (by decide),d2.1,λr3 S3 h3 h3' d3=>?_⟩
  have b1:Bt 4 (r1 - m):=by unfold Bt; omega
  have b2:Bt 4 (1+r3):=by unfold Bt; omega
  exact⟨_,_,rfl,by omega,b2.mono (by decide),w _ _ (bj.frac (by omega) (by omega) (by omega)) (d1.trans ((Dr.new d1.1 hp).trans (d2.trans d3)))⟩
def dw:bW:=λds S k=>∃ a m,ds=[.ref a,.int m]/\1<=m/\m<=4/\jl S a/\∀ v S',bj 12 4 v.1/\bj 12 4 v.2->Dr a S S'->k (P2 v) S'
theorem gf:aq ["state","most"] ["state","most"] (ai cb):=dY
theorem f' (Fn:FN K "_law_plain_point" cb f fd) (aU:bH P w K mg base "_law_fraction" 3 cQ):
  aW P w K mg base cx 4 f fd ["state","most"] (cO K dw):=by
 refine Fn.okJ gf (λds S k h=>?_) (λcdv A outer s H E hr=>⟨_,(ah (ao (ay (aa (ay (aa (dq aU hr (aE 0 (aE 1 ac))) (aa (ay (aa ag (aa ag ac))) ac))) (aa (ay (aa (dq aU hr (aE 0 (aE 1 ac))) (aa (ay (aa ag (aa ag ac))) ac))) ac))))),λds S k h=>?_⟩)
 ·obtain⟨_,_,rfl,_⟩:=h
  rfl
 ·obtain⟨a,m,rfl,m1,m4,hS,w⟩:=h;exact⟨a,m,rfl,m1,m4,hS,λx S1 hx d1=>⟨bQ,bQ,a,m,rfl,m1,m4,d1.1,λy S2 hy d2=>⟨bQ,bQ,bQ,w (x,y) S2 ⟨hx,hy⟩ (d1.trans d2)⟩⟩⟩
set_option maxHeartbeats 4000000
theorem jl.set {a q:Dv} {S:DH} {o:DO} (h:jl S a) (z:q≠a):jl (put S q o) a:=by
 obtain⟨n,b,e,w⟩:=h;exact⟨n,b,by rw [aG (Ne.symm z)]; exact e,w⟩
theorem Dr.put {a p:Dv} {S S1:DH} {o:DO} (d:Dr a S S1) (hp:S p=none) (hne:p≠a):Dr a S (put S1 p o):=
 ⟨jl.set d.1 hne,λb u n e=>by rw [aG (tL e hp)]; exact d.2 b u n e⟩
theorem Dr.none {a p:Dv} {S S1:DH} (d:Dr a S S1) (h:S1 p=none):S p=none:=by
 cases e:S p with
 | none=>rfl
 | some o=>rw [d.2 p o (d.1.ne h) e] at h; cases h
theorem fP {S:DH} {a p:Dv} {ok:DH->Prop} {bd:DB} {k:DK} {L1:Lo} {n:Nat} (hp:S p=none) (hne:p≠a) (hok:∀ S',ok S')
  (hbd:∀ (x:Nat) (S':DH) (k':Dw D->DH->Prop),jl S' a->(∀ (b:DM) S2,Dr a S' S2->k' (if b then some (bu x) else none) S2)->bd (some (bu x)::L1) S' k'):
  ∀ (r acc:List Nat) (S1:DH) (l0:Dw D),(acc++r).Nodup->(∀ x∈acc,x < n)->(∀ x∈r,x < n)->Dr a S S1->S1 p=some (.lst (acc.map bu))->acc.length+r.length<=7->(∀ (fx:List Nat) S',fx.Nodup->(∀ f∈fx,f < n)->fx.length<=7->Dr a S S'->S' p=some (.lst (fx.map bu))->k (.ref p) S')->bA ok p (fq 0) bd k (r.map bu) (acc.map bu) (l0::L1) S1
 | [],acc,S1,l0,nd,ha,_,d1,h1,hl,w=>⟨hok _,w acc S1 (by rw [CL] at nd; exact nd) ha (by simpa using hl) d1 h1⟩
 | x::r,acc,S1,l0,nd,ha,hr,d1,h1,hl,w=>by
  have hl:acc.length+(r.length+1)<=7:=hl;refine⟨hok _,hbd x S1 _ d1.1 λb S2 d2=>?_⟩
  have h2:=d2.2 p _ hne h1;cases b with
  | true=>
   refine⟨h2,by rw [Cv]; exact gK (by omega),?_⟩
   have ea:acc.map bu++[bu x]=(acc++[x]).map bu:=by rw [List.map_append]; rfl
   rw [ea];exact fP hp hne hok hbd r (acc++[x]) _ _ (by rw [List.append_assoc]; exact nd) (λy hy=>(List.mem_append.mp hy).elim (ha y) λh=>by simp at h; subst h; exact hr _ CB) (λy hy=>hr y (CC _ hy)) ((d1.trans d2).put hp hne) am (by rw [CK]; show acc.length+1+r.length<=7; omega) w
  | false=>exact fP hp hne hok hbd r acc _ _ (nd.sublist (List.Sublist.append_left (List.sublist_cons_self x r) acc)) ha (λy hy=>hr y (CC _ hy)) (d1.trans d2) h2 (by omega) w
theorem kP {α β:Type} {f:α->β}:∀ (l:List α) (n:Nat),(l.map f).eraseIdx n=(l.eraseIdx n).map f
 | [],_=>rfl
 | _::_,0=>rfl
 | x::l,n+1=>by
  show f x::(l.map f).eraseIdx n=f x::(l.eraseIdx n).map f
  rw [kP l n]
abbrev ku (x:Nat×Nat):D:=.tup [.int (x.1:Nat),.int (x.2:Nat)]
def fO:bW:=λds S k=>∃ a,ds=[.ref a]/\jl S a/\∀ (many:Nat) (fx:List Nat) (rods:List bR) (pts:List (Rat×Rat)) S',eJ many fx rods->q9 many pts->Dr a S S'->k (.tup [LK many fx rods,.tup (pts.map P2)]) S'
theorem aD:aq ["state","many","fixed","pairs","one","rods","k","place","other"] ["state"] (ai df):=dY
theorem ji (Fn:FN K "_law_linkage" df f fd) (aB:bH P w K mg base "_law_take" 1 dH) (b6:bH P w K mg base "_law_plain_point" 4 dw) (aY:mg "tuple"=none) (aH:mg "range"=none) (aX:mg "len"=none):
  aW P w K mg base cx 5 f fd ["state"] (cO K fO):=by
 refine Fn.okJ aD (λds S k h=>?_) (λcdv A outer s H E hr=>⟨_,(af (ak (i:=1) aD.nd (au dL ag (dq aB hr (aE 0 (aa ag ac))))) (af (ak (i:=2) aD.nd (cp c8 rfl aY ci (aa (kd rfl (bG (N:=["joint","state"]) (cap:=[none,some 0]) rfl rfl rfl rfl ⟨rfl,trivial⟩ rfl rfl ⟨⟨rfl,.inl rfl,.inl rfl⟩,trivial⟩) rfl aH (aE 1 ac) (λ_ _ _ _=>(ap (i:=0) (show List.Nodup (["joint","state"]:List Str) from by decide +kernel))) (λ_ _ _ _=>(ax (ey hr) (dq aB hr (aE 1 (aa ag ac))) ag (aC _))) (λ_ _ _ _=>(ae 0))) ac))) (af (ak (i:=3) aD.nd (bV ac)) (af (eC PassesOwn.never rfl rfl aH (aE 1 ac) (ap (i:=4) aD.nd) (ah (bI (yt (ae 3) (q8 rfl (bG (N:=["other","one"]) (cap:=[none,some 4]) rfl rfl rfl rfl ⟨rfl,trivial⟩ rfl rfl ⟨⟨rfl,.inl rfl,.inl rfl⟩,trivial⟩) rfl aH (aa (au dL (ae 4) ag) (aE 1 ac)) (λ_ _ _ _=>(ap (i:=0) (show List.Nodup (["other","one"]:List Str) from by decide +kernel))) (λ_ _ _ _=>(ay (aE 1 (aE 0 ac))))))))) (af (ak (i:=5) aD.nd (bV ac)) (af (eC PassesOwn.never rfl rfl aH (aa (dq aB hr (aE 0 (aa ag ac))) ac) (ap (i:=6) aD.nd) (ah (aJ (ax (kl hr) (ae 3) (bV ac) (aC _)) (af (cL (qf (ae 3) (dq aB hr (aE 0 (aa (aK b8 rfl aX bU (aE 3 ac)) ac)))) (dN (n:=2) rfl (aO (ap (i:=4) aD.nd) (aO (ap (i:=8) aD.nd) cN)))) (ah (bI (ke (ae 5) (ay (aE 4 (aE 8 (aa (ay (aa (au dL ag (dq aB hr (aE 0 (aa ag ac)))) (aa ag ac))) ac)))))))) aM))) (af (ak (i:=7) aD.nd (nB rfl (bG (N:=["joint","state"]) (cap:=[none,some 0]) rfl rfl rfl rfl ⟨rfl,trivial⟩ rfl rfl ⟨⟨rfl,.inl rfl,.inl rfl⟩,trivial⟩) rfl aH (aE 1 ac) (λ_ _ _ _=>(ap (i:=0) (show List.Nodup (["joint","state"]:List Str) from by decide +kernel))) (λ_ _ _ _=>(dq b6 hr (aE 1 (aa ag ac)))))) (af (aJ (ax (ey hr) (dq aB hr (aE 0 (aa ag ac))) ag (aC _)) (ah (ak (i:=7) aD.nd (bY rfl (bG (N:=["point","place"]) (cap:=[none,some 7]) rfl rfl rfl rfl ⟨rfl,trivial⟩ rfl rfl ⟨⟨rfl,.inl rfl,.inl rfl⟩,trivial⟩) (ae 7) (λ_ _ _ _=>(ap (i:=0) (show List.Nodup (["point","place"]:List Str) from by decide +kernel))) (λ_ _ _ _=>(ay (aa (aA aR (ae 0) ag Zf) (aa (aA aR (aA aR (ae 1) ag Zf) ag Zf) ac))))))) aM) (ah (ao (ay (aa (ay (aE 1 (aE 2 (aa (cp c8 rfl aY ci (aE 5 ac)) ac)))) (aa (cp c8 rfl aY ci (aE 7 ac)) ac))))))))))))),λds S k h=>?_⟩)
 ·obtain⟨_,rfl,_⟩:=h
  rfl
 ·obtain⟨a,rfl,hS,w⟩:=h;refine⟨a,7,rfl,by decide,by decide,hS,λr0 S1 h0 h0' d1=>?_⟩
  obtain⟨m,rfl⟩:=Int.eq_ofNat_of_zero_le h0;have hm:m < 7:=by omega
  have em:(1:Int)+((m:Nat):Int)=((m+1:Nat):Int):=by omega
  refine⟨⟨by omega,by omega⟩,λp1 hp1=>?_⟩
  rw [em];have hM1:1<=m+1:=by omega
  have hM7:m+1<=7:=by omega
  generalize m+1=M at hM1 hM7 ⊢
  clear em h0 h0' hm;have np1:p1≠a:=d1.1.ne hp1;rw [Dk];refine fP (n:=M) hp1 np1 (λ_=>trivial) ?bb (List.range M) [] _ none List.nodup_range (λ_ h=>by cases h) (λx hx=>Dh.mp hx) ((Dr.new d1.1 hp1)) am (by rw [List.length_range]; show 0+M<=7; omega) λfx S2 hnd hfx hfl d2 hf=>?_
  case bb=>
   intro x S' k' hS' hk;exact⟨a,3,rfl,by decide,by decide,hS',λr S2 _ _ d=>⟨_,eq_int,gp (λ_=>hk true S2 d) (λ_=>hk false S2 d)⟩⟩
  have d2:=d1.trans d2;refine⟨_,hf,bQ,λp2 hp2=>⟨⟨by omega,by omega⟩,?_⟩⟩
  clear hf;have np2:p2≠a:=d2.1.ne hp2;have s2:S p2=none:=d2.none hp2;rw [Dk];refine bD (λrr L S'=>∃ (j:Nat) (prs:List (Nat×Nat)) (l4:Dw D),L=[some (.ref a),some (.int (M:Nat)),some (.tup (fx.map bu)),some (.ref p2),l4,none,none,none,none]/\Dr a S S'/\S' p2=some (.lst (prs.map ku))/\(∀ x∈prs,x.1 < x.2/\x.2 < M)/\prs.length<=7*j/\j<=M/\rr=(List.range' j (M - j)).map fun(i:Nat)=>D.int (i:Nat)) (λ_ _ _ _=>trivial) ?_ ?_ _ _ _ ⟨0,[],none,rfl,d2.put s2 np2,am,(λ_ h=>by cases h),Dd _,Dd _,by rw [List.range_eq_range',Nat.sub_zero]⟩
  ·rintro d rr L S3 N1 ⟨j,prs,l4,rfl,d3,h3,hx,hl,hj,er⟩ hN;have hlt:j < M:=by
    rcases Nat.lt_or_ge j M with h | h
    ·exact h
    ·rw [show M - j=0 by omega] at er; cases er
   rw [show M - j=(M - (j+1))+1 by omega] at er
   have er:d::rr=D.int (j:Nat)::((List.range' (j+1) (M - (j+1))).map fun(i:Nat)=>D.int (i:Nat)):=er
   cases er;refine⟨⟨_,h3⟩,⟨by omega,by omega,by omega,by omega⟩,λp3 hp3=>?_⟩
   have er2:gj (((j:Nat):Int)+1) ((M:Nat):Int)=(List.range' (j+1) (M - (j+1))).map bu:=by
    unfold gj;rw [show (((M:Nat):Int) - (((j:Nat):Int)+1)).toNat=M - (j+1) by omega,List.range'_eq_map_range,C3]
    refine List.map_congr_left λi _=>?_
    show D.int (((j:Nat):Int)+1+((i:Nat):Int))=D.int ((j+1+i:Nat):Int)
    exact congrArg D.int (by omega)
   rw [er2];refine b3 (f:=bu) (g:=λi=>ku (j,i)) (all:=List.range' (j+1) (M - (j+1))) hp3 (λ_ _=>trivial) ?_ (List.range' (j+1) (M - (j+1))) [] none (λ_ h=>h) (by rw [List.length_range']; show 0+(M - (j+1))<=100; omega) λS4 e4 h4=>?_
   ·intro x S' k' hx e hk;exact⟨bQ,hk⟩
   ·have h4:S4 p3=some (.lst ((List.range' (j+1) (M - (j+1))).map λi=>ku (j,i))):=h4
    have h5:=e4 _ _ h3;refine⟨_,_,h5,h4,by rw [Cv,Cv,List.length_range']; exact Nat.le_of_lt (gK (by omega)),?_⟩
    have ea:prs.map ku++(List.range' (j+1) (M - (j+1))).map (λi=>ku (j,i))=(prs++(List.range' (j+1) (M - (j+1))).map λi=>(j,i)).map ku:=by rw [List.map_append,C3]; rfl
    rw [ea];have d4:Dr a S S4:=⟨by obtain⟨n,b,e,w⟩:=d3.1; exact⟨n,b,e4 _ _ e,w⟩,λb o n e=>e4 _ _ (d3.2 b o n e)⟩
    refine hN _ _ ⟨j+1,_,_,rfl,d4.put s2 np2,am,λx hx'=>?_,by rw [CK,Cv,List.length_range']; omega,hlt,rfl⟩
    rcases List.mem_append.mp hx' with h | h
    ·exact hx x h
    ·obtain⟨i,hi,rfl⟩:=Cu.mp h;have:=List.mem_range'.mp hi;obtain⟨i',hi',rfl⟩:=this
     constructor <;> omega
  ·rintro L S3 ⟨j,prs,l4,rfl,d3,h3,hx,hl,hj,er⟩;have pl:prs.length<=49:=by omega
   refine⟨bQ,λp3 hp3=>?_⟩
   have np3:p3≠a:=d3.1.ne hp3;have s3:S p3=none:=d3.none hp3;have n23:p2≠p3:=λz=>by rw [z,hp3] at h3; cases h3
   have d4:Dr a S (put S3 p3 (.lst [])):=d3.put s3 np3;refine⟨a,13,rfl,by decide,by decide,d4.1,λr S4 r0 r1 d5=>⟨⟨by omega,by omega⟩,?_⟩⟩
   have d6:=d4.trans d5;have g2:S4 p2=some (.lst (prs.map ku)):=d5.2 _ _ np2 (by rw [aG n23]; exact h3)
   have g3:S4 p3=some (.lst []):=d5.2 _ _ np3 am;obtain⟨R,rfl⟩:=Int.eq_ofNat_of_zero_le r0;rw [Dk];refine bD (λrr L S'=>∃ (j:Nat) (prs:List (Nat×Nat)) (rods:List bR) (l4 l6 l8:Dw D),L=[some (.ref a),some (.int (M:Nat)),some (.tup (fx.map bu)),some (.ref p2),l4,some (.ref p3),l6,none,l8]/\Dr a S S'/\S' p2=some (.lst (prs.map ku))/\S' p3=some (.lst (rods.map cu))/\(∀ x∈prs,x.1 < x.2/\x.2 < M)/\prs.length<=49/\(∀ r∈rods,r.1 < M/\r.2.1 < M/\r.1≠r.2.1)/\rods.length<=j/\j<=R/\rr=(List.range' j (R - j)).map fun(i:Nat)=>D.int (i:Nat)) (λ_ _ _ _=>trivial) ?_ ?_ _ _ _ ⟨0,prs,[],l4,none,none,rfl,d6,g2,g3,hx,pl,(λ_ h=>by cases h),Ct _,Dd _,by rw [List.range_eq_range',Nat.sub_zero]⟩
   ·rintro d rr L S5 N1 ⟨j,prs,rods,l4,l6,l8,rfl,d7,g2,g3,hx,pl,hr,hrl,hj,er⟩ hN;have hlt:j < R:=by
     rcases Nat.lt_or_ge j R with h | h
     ·exact h
     ·rw [show R - j=0 by omega] at er; cases er
    rw [show R - j=(R - (j+1))+1 by omega] at er
    have er:d::rr=D.int (j:Nat)::((List.range' (j+1) (R - (j+1))).map fun(i:Nat)=>D.int (i:Nat)):=er
    cases er;refine⟨bQ,λpe hpe=>?_⟩
    have npe:pe≠a:=d7.1.ne hpe;have se:S pe=none:=d7.none hpe;have d8:Dr a S (put S5 pe (.lst [])):=d7.put se npe;have ne2:p2≠pe:=λz=>by rw [z,hpe] at g2; cases g2
    have ne3:p3≠pe:=λz=>by rw [z,hpe] at g3; cases g3
    have f2:put S5 pe (.lst []) p2=some (.lst (prs.map ku)):=by rw [aG ne2]; exact g2
    have f3:put S5 pe (.lst []) p3=some (.lst (rods.map cu)):=by rw [aG ne3]; exact g3
    have fe:put S5 pe (.lst []) pe=some (.lst []):=am;generalize put S5 pe (.lst [])=T at d8 f2 f3 fe ⊢
    cases prs with
    | nil=>exact⟨_,_,true,f2,fe,.inl ⟨rfl,rfl⟩,hN _ _ ⟨j+1,[],rods,_,_,_,rfl,d8,f2,f3,hx,pl,hr,by omega,hlt,rfl⟩⟩
    | cons x0 xs=>
     have bl:Bt 200 ((((x0::xs).map ku).length:Nat):Int):=by
      unfold Bt;rw [Int.natAbs_natCast,Cv];exact Nat.lt_of_le_of_lt pl (by decide)
     refine⟨_,_,false,f2,fe,.inr ⟨by simp,rfl⟩,⟨_,f2⟩,_,f2,a,_,rfl,by rw [Cv,CH]; omega,bl,d8.1,λr S6 r0 r1 d9=>?_⟩
     obtain⟨n,rfl⟩:=Int.eq_ofNat_of_zero_le r0;have hn:n < ((x0::xs).map ku).length:=by omega
     have hn2:n < (x0::xs).length:=by rw [Cv] at hn; exact hn
     have u2:=d9.2 _ _ np2 f2;have u3:=d9.2 _ _ np3 f3;have d10:=d8.trans d9;have hc:((x0::xs).map ku)[n]?=some (ku ((x0::xs)[n])):=by rw [CQ,CO hn2]; rfl
     refine ⟨_, n, _, u2, by omega, by have : ((x0 :: xs).map ku).length ≤ 49 := by { rw [List.length_map]; exact pl }
                                       omega,p8 hn,hc,([.int (((x0::xs)[n]).1:Nat),.int (((x0::xs)[n]).2:Nat)],none),rfl,rfl,rfl,?_⟩
     have ee:((x0::xs).map ku).eraseIdx n=((x0::xs).eraseIdx n).map ku:=kP _ _;rw [ee];have hmem:(x0::xs)[n]∈x0::xs:=Dm hn2;have hxn:=hx _ hmem;generalize (x0::xs)[n]=y at hxn ⊢;have hsub:∀ z∈(x0::xs).eraseIdx n,z∈x0::xs:=λz hz=>List.mem_of_mem_eraseIdx hz
     have hlen:((x0::xs).eraseIdx n).length<=49:=by rw [List.length_eraseIdx]; split <;> omega
     generalize (x0::xs).eraseIdx n=ys at hsub hlen ⊢
     have d11:Dr a S (put S6 p2 (.lst (ys.map ku))):=d10.put s2 np2;have v3:put S6 p2 (.lst (ys.map ku)) p3=some (.lst (rods.map cu)):=by rw [aG (Ne.symm n23)]; exact u3
     have v2:put S6 p2 (.lst (ys.map ku)) p2=some (.lst (ys.map ku)):=am;generalize put S6 p2 (.lst (ys.map ku))=T2 at d11 v3 v2 ⊢
     refine⟨⟨_,v3⟩,a,9,rfl,by decide,by decide,d11.1,λc S7 c0 c1 d12=>⟨bQ,bQ,_,d12.2 _ _ np3 v3,by rw [Cv]; exact gK (by omega),?_⟩⟩
     have ea:rods.map cu++[D.tup [.int (y.1:Nat),.int (y.2:Nat),.tup [.int (1+c),.int 1]]]=(rods++[(y.1,y.2,1+c)]).map cu:=by rw [List.map_append]; rfl
     rw [ea];refine hN _ _ ⟨j+1,ys,rods++[(y.1,y.2,1+c)],_,_,_,rfl,(d11.trans d12).put s3 np3,by rw [aG n23]; exact d12.2 _ _ np2 v2,am,λz hz=>hx z (hsub z hz),hlen,λr hr'=>?_,by rw [CK]; show rods.length+1<=j+1; omega,hlt,rfl⟩
     rcases List.mem_append.mp hr' with h | h
     ·exact hr r h
     ·simp only [Cz,CI,or_false] at h;subst h;refine⟨?_,hxn.2,?_⟩
      ·show y.1 < M; omega
      ·show y.1≠y.2; omega
   ·rintro L S5 ⟨j,prs,rods,l4,l6,l8,rfl,d7,g2,g3,hx,pl,hr,hrl,hj,er⟩;have lk:eJ M fx rods:=⟨hM1,hM7,hfl,hfx,by omega,hr,hnd⟩
    refine⟨⟨by omega,by omega⟩,λp4 hp4=>?_⟩
    have np4:p4≠a:=d7.1.ne hp4;rw [Dk];refine fA (f:=bu) (g:=P2) (R:=λ_ v _=>bj 12 4 v.1/\bj 12 4 v.2) (J:=Dr a S5) (Kq:=Dr a) (all:=List.range M) (λ_ _=>trivial) (λ_ _ o _ e h=>e.2 _ _ np4 h) (λ_ _ _ _ _ h=>h) (λ_ _ _ _ h=>h) (λ_ _ e=>e.put hp4 np4) ?bb (List.range M) [] _ none (λ_ h=>h) (Dr.new d7.1 hp4) am (λ_ h=>by cases h) (by rw [List.length_range]; show 0+M<=100; omega) λzs S6 d8 h hR hz=>?_
    ·intro x S' k' hx' dd ho hk;exact⟨a,4,rfl,by decide,by decide,dd.1,λv S2 hv d=>hk v S2 (dd.trans d) d hv⟩
    ·have zl:(zs.map Prod.snd).length=M:=by
      have:=congrArg List.length hz;rw [Cv] at this;rw [Cv,this]
      show(List.range M).length=M
      rw [List.length_range]
     have pk:q9 M (zs.map Prod.snd):=⟨zl,λv hv=>by obtain⟨z,hz',rfl⟩:=Cu.mp hv; exact hR z hz'⟩
     have h:S6 p4=some (.lst ((zs.map Prod.snd).map P2)):=by rw [h,C3]; rfl
     generalize zs.map Prod.snd=pts at pk h
     have q3:=d8.2 _ _ np3 g3;have d9:=d7.trans d8;have s4:S p4=none:=d7.none hp4;refine⟨a,3,rfl,by decide,by decide,d8.1,λr S7 _ _ d10=>⟨_,eq_int,gp (λ_=>?_) (λ_=>?_)⟩⟩
     ·have h7:=d10.2 _ _ np4 h;have q7:=d10.2 _ _ np3 q3;have d11:=d9.trans d10;have lp:0 < pts.length:=by rw [pk.len]; omega
      refine⟨(pts.map P2,some p4),by simp only [ar,h7],λp5 hp5=>?_⟩
      refine b3 (f:=P2) (g:=λv=>P2 (v.1,(pts.getD 0 (0,0)).2)) (all:=pts) hp5 (λS' e=>e _ _ h7) ?_ pts [] none (λ_ h=>h) (by show 0+pts.length<=100; rw [pk.len]; omega) λS8 e8 h8=>?_
      ·intro v S' k' hv e hk;exact⟨_,rfl,_,_,e _ _ h7,iU (c:=0) (vU lp),_,rfl,bQ,hk⟩
      ·have e9:S8 p5=some (.lst ((pts.map λv=>(v.1,(pts.getD 0 (0,0)).2)).map P2)):=by rw [h8,C3]; rfl
       have d12:Dr a S S8:=⟨by obtain⟨n,b,e,w⟩:=d11.1; exact⟨n,b,e8 _ _ e,w⟩,λb o n e=>e8 _ _ (d11.2 b o n e)⟩
       exact⟨_,e8 _ _ q7,bQ,_,e9,bQ,w M fx rods _ S8 lk ⟨by rw [Cv]; exact pk.len,λv hv=>by obtain⟨z,hz',rfl⟩:=Cu.mp hv; exact⟨(pk.ok z hz').1,(pk.ok _ (xJ lp)).2⟩⟩ d12⟩
     ·exact⟨_,d10.2 _ _ np3 q3,bQ,_,d10.2 _ _ np4 h,bQ,w M fx rods pts S7 lk pk (d9.trans d10)⟩
set_option maxHeartbeats 4000000
theorem y8 {p q:Rat} {v w:Int} {m n:Nat} (hp:p=v) (hq:q=w) (hv:Bt m v) (hw:Bt n w) (q0:q≠0) (hm:m<=n):Sz n (p / q):=by
 subst hp hq;have w0:w≠0:=λz=>q0 (by rw [z]; rfl)
 rw [<- CV];exact Sz.divInt (hv.mono hm) hw w0
abbrev BR (x:bR×Rat):D:=.tup [cu x.1,fr x.2]
theorem uy:∀ (rods:List bR) (ws:List Rat),fg (rods.map cu) (ws.map fr)=(rods.zip ws).map BR
 | [],_=>by simp [fg]
 | _::_,[]=>by simp [fg]
 | r::rods,w::ws=>by
  have:=uy rods ws;unfold fg at this ⊢;rw [CG,CG,List.zipWith_cons_cons,this,List.zip_cons_cons,CG]
def nU (pts:List (Rat×Rat)) (j:Nat) (x:bR×Rat):Rat×Rat:=if j=x.1.1 then((wy pts x.1.1 x.1.2.1).1*x.2,(wy pts x.1.1 x.1.2.1).2*x.2) else if j=x.1.2.1 then(-((wy pts x.1.1 x.1.2.1).1*x.2),-((wy pts x.1.1 x.1.2.1).2*x.2)) else(0,0)
def gl (pts:List (Rat×Rat)) (j:Nat):Rat×Rat->List (bR×Rat)->Rat×Rat
 | acc,[]=>acc
 | acc,x::l=>gl pts j (acc.1+(nU pts j x).1,acc.2+(nU pts j x).2) l
abbrev xj (w:Rat):Prop:=DT.IsN (2 ^ 508) (24*w)
theorem qE {b n:Nat} {q:Rat} (h:DT.IsN b q) (hb:b < 2 ^ n):∃ v:Int,q=v/\Bt n v:=by
 obtain⟨v,e,l⟩:=h;exact⟨v,e,Nat.lt_of_le_of_lt l hb⟩
theorem zj {q:Rat} {b n:Nat} (h:DT.IsN b (24*q)) (hb:b < 2 ^ n) (hn:5<=n):Sz n q:=by
 obtain⟨v,e,bt⟩:=qE h hb;have:=y8 (q:=(24:Rat)) (w:=24) e rfl bt ((show Bt 5 24 by decide).mono hn) (by decide) (Ct n)
 rw [show q=24*q / 24 by grind]
 exact this
theorem mD {q:Rat} {b n:Nat} (h:DT.IsN b (576*q)) (hb:b < 2 ^ n) (hn:10<=n):Sz n q:=by
 obtain⟨v,e,bt⟩:=qE h hb;have:=y8 (q:=(576:Rat)) (w:=576) e rfl bt ((show Bt 10 576 by decide).mono hn) (by decide) (Ct n)
 rw [show q=576*q / 576 by grind]
 exact this
theorem pR {b:Nat} {q:Rat} (h:DT.IsN b q):DT.IsN b (-q):=by
 obtain⟨v,e,l⟩:=h;exact⟨-v,by rw [e,Rat.intCast_neg],by rw [Int.natAbs_neg]; exact l⟩
theorem jt {a w:Rat} (ha:bj 24 32 a) (hw:xj w):DT.IsN (768*2 ^ 508) (576*(a*w)):=by
 have:=(vv ha).mul hw;rw [show (24*a)*(24*w)=576*(a*w) by grind] at this
 exact this
theorem vc {pts:List (Rat×Rat)} {j:Nat} {x:bR×Rat} (h:bj 24 32 (wy pts x.1.1 x.1.2.1).1/\bj 24 32 (wy pts x.1.1 x.1.2.1).2) (hw:xj x.2):DT.IsN (768*2 ^ 508) (576*(nU pts j x).1)/\DT.IsN (768*2 ^ 508) (576*(nU pts j x).2):=by
 have m1:=jt h.1 hw;have m2:=jt h.2 hw;have z:DT.IsN (768*2 ^ 508) (576*(0:Rat)):=by rw [Rat.mul_zero]; exact⟨0,rfl,Dd _⟩
 have n1:=pR m1;have n2:=pR m2;rw [show -(576*((wy pts x.1.1 x.1.2.1).1*x.2))=576*-((wy pts x.1.1 x.1.2.1).1*x.2) by grind] at n1
 rw [show -(576*((wy pts x.1.1 x.1.2.1).2*x.2))=576*-((wy pts x.1.1 x.1.2.1).2*x.2) by grind] at n2
 unfold nU
 split
 ·exact⟨m1,m2⟩
 ·split
  ·exact⟨n1,n2⟩
  ·exact⟨z,z⟩
theorem pQ {n:Nat} {a b:Rat} (ha:DT.IsN (n*(768*2 ^ 508)) (576*a)) (hb:DT.IsN (768*2 ^ 508) (576*b)):DT.IsN ((n+1)*(768*2 ^ 508)) (576*(a+b)):=by
 have:=ha.add hb;rw [show 576*a+576*b=576*(a+b) by grind] at this
 rw [Nat.succ_mul];exact this
theorem Bp {j i:Nat} (h:(((j:Nat):Int) == ((i:Nat):Int))=true):j=i:=by
 have:=beq_iff_eq.mp h;omega
theorem BW {j i:Nat} (h:(((j:Nat):Int) == ((i:Nat):Int))=false):j≠i:=λe=>by
 rw [e,beq_self_eq_true] at h;cases h
def oS (many:Nat) (fx:List Nat) (rods:List bR) (pts:List (Rat×Rat)) (ws:List Rat):DM:=!(ws.all λw=>decide (w=0)) && (aj many fx).all λj=>decide (gl pts j (0,0) (rods.zip ws)=(0,0))
def iw:bW:=λds S k=>∃ (many:Nat) (fx:List Nat) (rods:List bR),ds=[LK many fx rods]/\eJ many fx rods/\k (.int (2*(((aj many fx).length:Nat):Int) - (rods.length:Nat))) S
theorem oI:aq ["linkage"] ["linkage"] (ai iA):=dY
theorem pI (Fn:FN K "freedom" iA f fd) (aX:mg "len"=none):
  aW P w K mg base cx 1 f fd ["linkage"] (cO K iw):=by
 refine Fn.okJ oI (λds S k h=>?_) (λcdv A outer s H E hr=>⟨_,(ah (ao (au i6 (au bB ag (au i6 (aA aR (ae 0) ag Zf) (aK b8 rfl aX bU (aa (aA aR (ae 0) ag Zf) ac)))) (aK b8 rfl aX bU (aa (aA aR (ae 0) ag Zf) ac))))),λds S k h=>?_⟩)
 ·obtain⟨_,_,_,rfl,_⟩:=h
  rfl
 ·obtain⟨many,fx,rods,rfl,ok,w⟩:=h;have m7:=ok.m7;have fcut:=sJ ok.fxl ok.nd;refine⟨_,rfl,_,rfl,gO (show Bt 2 2 by decide) (n:=4) ?b1,_,rfl,?_⟩
  case b1=>
   unfold Bt;rw [Cv]
   show _ < 16
   omega
  rw [show (2:Int)*(((aj many fx).length:Nat):Int) - (rods.length:Nat)=2*(((many:Nat):Int) - (((fx.map bu).length:Nat):Int)) - (((rods.map cu).length:Nat):Int) by rw [Cv,Cv]; omega] at w
  exact w
def lq:bW:=λds S k=>∃ (j:Nat) (many:Nat) (fx:List Nat) (rods:List bR) (pts:List (Rat×Rat)) (ws:List Rat),ds=[.int (j:Nat),LK many fx rods,.tup (pts.map P2),.tup (ws.map fr)]/\eJ many fx rods/\fo many pts/\(∀ w∈ws,xj w)/\k (W2 (gl pts j (0,0) (rods.zip ws))) S
theorem b_:aq ["joint","linkage","place","weights","pull","rod","weight","way"] ["joint","linkage","place","weights"] (ai iE):=dY
theorem pw (Fn:FN K "pull_at" iE f fd) (ba:bH P w K mg base "way_of_rod" 5 c_) (gM:bH P w K mg base "plus" 3 pA) (cI:bH P w K mg base "times" 3 mr) (dI:bH P w K mg base "minus" 3 my) (fk:mg "zip"=none) (ca:kj K mg "REST" [[0,1],[0,1]]):
  aW P w K mg base cx 6 f fd ["joint","linkage","place","weights"] (cO K lq):=by
 refine Fn.okJ b_ (λds S k h=>?_) (λcdv A outer s H E hr=>⟨_,(af (ak (i:=4) b_.nd (hZ ca rfl)) (af (iD PassesOwn.never rfl rfl fk (aa (aA aR (ae 1) ag Zf) (aE 3 ac)) (dN (n:=2) rfl (aO (ap (i:=5) b_.nd) (aO (ap (i:=6) b_.nd) cN))) (af (ak (i:=7) b_.nd (dq ba hr (aE 5 (aE 2 ac)))) (af (aJ (ax (ey hr) (ae 0) (aA aR (ae 5) ag Zf) (aC _)) (ah (ak (i:=4) b_.nd (ay (aa (dq gM hr (aa (aA aR (ae 4) ag Zf) (aa (dq cI hr (aa (aA aR (ae 7) ag Zf) (aE 6 ac))) ac))) (aa (dq gM hr (aa (aA aR (ae 4) ag Zf) (aa (dq cI hr (aa (aA aR (ae 7) ag Zf) (aE 6 ac))) ac))) ac))))) aM) (ah (aJ (ax (ey hr) (ae 0) (aA aR (ae 5) ag Zf) (aC _)) (ah (ak (i:=4) b_.nd (ay (aa (dq dI hr (aa (aA aR (ae 4) ag Zf) (aa (dq cI hr (aa (aA aR (ae 7) ag Zf) (aE 6 ac))) ac))) (aa (dq dI hr (aa (aA aR (ae 4) ag Zf) (aa (dq cI hr (aa (aA aR (ae 7) ag Zf) (aE 6 ac))) ac))) ac))))) aM))))) (ah (ao (ae 4))))),λds S k h=>?_⟩)
 ·obtain⟨_,_,_,_,_,_,rfl,_⟩:=h
  rfl
 ·obtain⟨j,many,fx,rods,pts,ws,rfl,ok,pl,hw,w⟩:=h;refine⟨_,rfl,(rods.map cu,none),(ws.map fr,none),rfl,rfl,?_⟩;rw [uy];have rl:=ok.rl;have zl:(rods.zip ws).length<=12:=by rw [List.length_zip]; omega
  refine bD (λrr L S'=>∃ (rs:List (bR×Rat)) (acc:Rat×Rat) (n:Nat) (l5 l6 l7:Dw D),rr=rs.map BR/\L=[some (.int (j:Nat)),some (LK many fx rods),some (.tup (pts.map P2)),some (.tup (ws.map fr)),some (W2 acc),l5,l6,l7]/\S'=S/\gl pts j acc rs=gl pts j (0,0) (rods.zip ws)/\(∀ x∈rs,x∈rods.zip ws)/\n+rs.length<=12/\DT.IsN (n*(768*2 ^ 508)) (576*acc.1)/\DT.IsN (n*(768*2 ^ 508)) (576*acc.2)) (λ_ _ _ _=>⟨trivial,trivial⟩) ?_ ?_ _ _ _ ⟨rods.zip ws,(0,0),0,none,none,none,rfl,rfl,rfl,rfl,λ_ h=>h,by omega,by rw [Rat.mul_zero]; exact⟨0,rfl,Dd _⟩,by rw [Rat.mul_zero]; exact⟨0,rfl,Dd _⟩⟩
  ·rintro dd rr L S1 N1 ⟨rs,acc,n,l5,l6,l7,er,rfl,rfl,ep,hm,hn,b1,b2⟩ hN;cases rs with
   | nil=>cases er
   | cons x rs=>
    cases er;have hn:n+(rs.length+1)<=12:=hn;have xm:=hm x CB;have xr:=(List.of_mem_zip xm).1;have xw:=hw _ (List.of_mem_zip xm).2;obtain⟨h1,h2,hne⟩:=ok.rd x.1 xr;have wq:=pl.way h1 h2;have a1:=pl.at h1;have a2:=pl.at h2;have pn:=vc (j:=j) wq xw;have fit:∀ m,m<=12->m*(768*2 ^ 508) < 2 ^ 600:=λm hm=>Nat.lt_of_le_of_lt (Nat.mul_le_mul_right _ hm) (by decide +kernel)
    have sA1:=(mD b1 (fit n (by omega)) (by decide)).mono (show 600<=4000 by decide)
    have sA2:=(mD b2 (fit n (by omega)) (by decide)).mono (show 600<=4000 by decide)
    have sw:Sz 4000 x.2:=(zj xw (show 2 ^ 508 < 2 ^ 600 by decide +kernel) (by decide)).mono (by decide)
    have s1:Sz 4000 (wy pts x.1.1 x.1.2.1).1:=(bj.sz (n:=5) wq.1).mono (by decide)
    have s2:Sz 4000 (wy pts x.1.1 x.1.2.1).2:=(bj.sz (n:=5) wq.2).mono (by decide)
    have p1:Sz 4000 ((wy pts x.1.1 x.1.2.1).1*x.2):=(mD (jt wq.1 xw) (show 768*2 ^ 508 < 2 ^ 600 by decide +kernel) (by decide)).mono (by decide)
    have p2:Sz 4000 ((wy pts x.1.1 x.1.2.1).2*x.2):=(mD (jt wq.2 xw) (show 768*2 ^ 508 < 2 ^ 600 by decide +kernel) (by decide)).mono (by decide)
    have nx:∀ acc':Rat×Rat,acc'=(acc.1+(nU pts j x).1,acc.2+(nU pts j x).2)->∀ l5 l6 l7,N1 [some (.int (j:Nat)),some (LK many fx rods),some (.tup (pts.map P2)),some (.tup (ws.map fr)),some (W2 acc'),l5,l6,l7] S1:=λacc' e l5 l6 l7=>hN _ _ ⟨rs,acc',n+1,l5,l6,l7,rfl,rfl,rfl,by rw [e]; exact ep,λy h=>hm y (CC _ h),by omega,by rw [e]; exact pQ b1 pn.1,by rw [e]; exact pQ b2 pn.2⟩
    refine⟨([cu x.1,fr x.2],none),rfl,rfl,rfl,x.1,pts,_,_,rfl,a1.1,a2.1,a1.2,a2.2,_,rfl,_,eq_int,gp (λc=>?_) (λc=>?_)⟩
    ·have c:j=x.1.1:=Bp c;have e1:nU pts j x=((wy pts x.1.1 x.1.2.1).1*x.2,(wy pts x.1.1 x.1.2.1).2*x.2):=by unfold nU; rw [if_pos c]
     refine⟨_,rfl,_,rfl,_,_,rfl,s1,sw,_,_,rfl,sA1,p1,_,rfl,_,rfl,_,_,rfl,s2,sw,_,_,rfl,sA2,p2,bQ,_,rfl,_,eq_int,gp (λc2=>?_) (λ_=>?_)⟩
     ·have c2:j=x.1.2.1:=Bp c2;exact absurd (c.symm.trans c2) hne
     ·exact nx _ (by rw [e1]) _ _ _
    ·have c:j≠x.1.1:=BW c;refine⟨_,rfl,_,eq_int,gp (λc2=>?_) (λc2=>?_)⟩
     ·have c2:j=x.1.2.1:=Bp c2;have e1:nU pts j x=(-((wy pts x.1.1 x.1.2.1).1*x.2),-((wy pts x.1.1 x.1.2.1).2*x.2)):=by unfold nU; rw [if_neg c,if_pos c2]
      refine⟨_,rfl,_,rfl,_,_,rfl,s1,sw,_,_,rfl,sA1,p1,_,rfl,_,rfl,_,_,rfl,s2,sw,_,_,rfl,sA2,p2,bQ,?_⟩;exact nx (acc.1 - (wy pts x.1.1 x.1.2.1).1*x.2,acc.2 - (wy pts x.1.1 x.1.2.1).2*x.2) (by rw [e1,Rat.sub_eq_add_neg,Rat.sub_eq_add_neg]) _ _ _
     ·have c2:j≠x.1.2.1:=BW c2;have e1:nU pts j x=(0,0):=by unfold nU; rw [if_neg c,if_neg c2]
      exact nx acc (by rw [e1,Rat.add_zero,Rat.add_zero]) _ _ _
  ·rintro L S1 ⟨rs,acc,n,l5,l6,l7,er,rfl,rfl,ep,hm,hn,b1,b2⟩;cases rs with
   | cons x rs=>cases er
   | nil=>
    rw [<- ep] at w;exact w
def lj:bW:=λds S k=>∃ (many:Nat) (fx:List Nat) (rods:List bR) (pts:List (Rat×Rat)) (ws:List Rat),ds=[LK many fx rods,.tup (pts.map P2),.tup (ws.map fr)]/\eJ many fx rods/\fo many pts/\ws.length=rods.length/\(∀ w∈ws,xj w)/\∀ S',bg S S'->k (.bl (oS many fx rods pts ws)) S'
theorem oZ:aq ["linkage","place","weights"] ["linkage","place","weights"] (ai iT):=dY
theorem oN (Fn:FN K "balance" iT f fd) (av:bH P w K mg base "free_joints" 1 bv) (iz:bH P w K mg base "pull_at" 6 lq) (qi:mg "all"=none) (ca:kj K mg "REST" [[0,1],[0,1]]) (eB:u7 K mg "NOUGHT" [0,1]):
  aW P w K mg base cx 7 f fd ["linkage","place","weights"] (cO K lj):=by
 refine Fn.okJ oZ (λds S k h=>?_) (λcdv A outer s H E hr=>⟨_,(af (aJ (qa (aK ut rfl qi tj (aa (bY rfl (bG (N:=["weight"]) (cap:=[none]) rfl rfl rfl rfl trivial rfl rfl trivial) (ae 2) (λ_ _ _ _=>(ap (i:=0) (show List.Nodup (["weight"]:List Str) from by decide +kernel))) (λ_ _ _ _=>(ka (ey hr) (ae 0) (uF eB rfl) (aC _)))) ac))) (ah (ao dj)) aM) (ah (ao (aK ut rfl qi tj (aa (bY rfl (bG (N:=["joint","linkage","place","weights"]) (cap:=[none,some 0,some 1,some 2]) rfl rfl rfl rfl ⟨rfl,rfl,rfl,trivial⟩ rfl rfl ⟨⟨rfl,.inl rfl,.inl rfl⟩,⟨rfl,.inl rfl,.inl rfl⟩,⟨rfl,.inl rfl,.inl rfl⟩,trivial⟩) (dq av hr (aE 0 ac)) (λ_ _ _ _=>(ap (i:=0) (show List.Nodup (["joint","linkage","place","weights"]:List Str) from by decide +kernel))) (λ_ _ _ _=>(ka (ey hr) (dq iz hr (aE 0 (aE 1 (aE 2 (aE 3 ac))))) (hZ ca rfl) (aC _)))) ac))))),λds S k h=>?_⟩)
 ·obtain⟨_,_,_,_,_,rfl,_⟩:=h
  rfl
 ·obtain⟨many,fx,rods,pts,ws,rfl,ok,pl,wl,hw,w⟩:=h;have rl:=ok.rl;have m7:=ok.m7;have fl:=dF (many:=many) (fx:=fx);refine⟨(ws.map fr,none),rfl,λp hp=>?_⟩
  refine b3 (f:=fr) (g:=λv=>.bl (decide (v=0))) (all:=ws) hp (λ_ _=>trivial) ?bb ws [] none (λ_ h=>h) (by show 0+ws.length<=100; omega) λS1 e1 h1=>?_
  case bb=>
   intro v S' k' hv e hk;exact⟨_,qu (q:=0),hk⟩
  rw [List.nil_append] at h1;refine⟨(ws.map (λv=>.bl (decide (v=0))),some p),ws.map (λv=>decide (v=0)),by simp only [ar,h1],by rw [C3]; rfl,?_⟩
  have ea:(ws.map (λv=>decide (v=0))).all id=ws.all λv=>decide (v=0):=by rw [List.all_map]; rfl
  rw [ea];refine gp (λc=>?_) (λc=>?_)
  ·have:=w S1 e1;unfold oS at this;rw [c] at this;exact this
  ·refine⟨many,fx,rods,rfl,ok,λpj S2 hpj e2 hj=>⟨((aj many fx).map bu,some pj),by simp only [ar,hj],λq hq=>?_⟩⟩
   refine b3 (f:=bu) (g:=λj=>.bl (decide (gl pts j (0,0) (rods.zip ws)=(0,0)))) (all:=aj many fx) hq (λS' e=>e _ _ hj) ?bb2 (aj many fx) [] none (λ_ h=>h) (by show 0+(aj many fx).length<=100; omega) λS3 e3 h3=>?_
   case bb2=>
    intro j S' k' hj' e hk;exact⟨j,many,fx,rods,pts,ws,rfl,ok,pl,hw,_,yJ,hk⟩
   rw [List.nil_append] at h3;refine⟨((aj many fx).map (λj=>.bl (decide (gl pts j (0,0) (rods.zip ws)=(0,0)))),some q),(aj many fx).map (λj=>decide (gl pts j (0,0) (rods.zip ws)=(0,0))),by simp only [ar,h3],by rw [C3]; rfl,?_⟩
   have:=w S3 ((e1.trans e2).trans e3);unfold oS at this;rw [c] at this;rw [List.all_map];exact this
def iZ:bW:=λds S k=>∃ (a:Dv) (zs:List (Dv×List Rat)) (c:Nat),ds=[.ref a,.int (c:Nat)]/\S a=some (.lst (zs.map λz=>.ref z.1))/\zs.length<=100/\(∀ z∈zs,S z.1=some (.lst (z.2.map fr))/\c < z.2.length)/\∀ p S',S p=none->bg S S'->S' p=some (.lst ((zs.map λz=>z.2.getD c 0).map fr))->k (.ref p) S'
theorem lP:aq ["rows","column"] ["rows","column"] (ai fD):=dY
theorem mB (Fn:FN K "column_of" fD f fd):
  aW P w K mg base cx 1 f fd ["rows","column"] (cO K iZ):=by
 refine Fn.okJ lP (λds S k h=>?_) (λcdv A outer s H E hr=>⟨_,(ah (ao (bY rfl (bG (N:=["row","column"]) (cap:=[none,some 1]) rfl rfl rfl rfl ⟨rfl,trivial⟩ rfl rfl ⟨⟨rfl,.inl rfl,.inl rfl⟩,trivial⟩) (ae 0) (λ_ _ _ _=>(ap (i:=0) (show List.Nodup (["row","column"]:List Str) from by decide +kernel))) (λ_ _ _ _=>(aA aR (ae 0) (ae 1) Zf))))),λds S k h=>?_⟩)
 ·obtain⟨_,_,_,rfl,_⟩:=h
  rfl
 ·obtain⟨a,zs,c,rfl,ha,hl,hz,w⟩:=h;refine⟨(zs.map λz=>.ref z.1,some a),by simp only [ar,ha],λp hp=>?_⟩
  refine b3 (f:=λz:Dv×List Rat=>D.ref z.1) (g:=λz=>fr (z.2.getD c 0)) (all:=zs) hp (λS' e=>e _ _ ha) ?bb zs [] none (λ_ h=>h) (by show 0+zs.length<=100; omega) λS1 e1 h1=>w p S1 hp e1 (by rw [h1,List.nil_append,C3]; rfl)
  intro z S' k' hz' e hk;obtain⟨h1,h2⟩:=hz z hz';refine⟨_,_,e _ _ h1,cZ ?_,hk⟩;rw [CQ,CU,CO h2]
  rfl
abbrev md (pts:List (Rat×Rat)) (js:List Nat) (rods:List bR) (c:Nat):List Rat:=rods.map λr=>(aV pts js r).getD c 0
abbrev rR (pts:List (Rat×Rat)) (js:List Nat) (rods:List bR) (vss0:List (List Int)):Prop:=∀ (c:Nat) v,vss0[c]?=some v->∃ s,0 < s/\s ∣ 24/\(∀ q∈md pts js rods c,q.den ∣ s)/\v=(md pts js rods c).map (wn s)
inductive Al | fre | bnd (ws:List Rat)
def Al.D:Al->DL.D
 | .fre=>.tup [.str (Str.ofString "free")]
 | .bnd ws=>.tup [.str (Str.ofString "bound"),.tup (ws.map fr)]
def jA:bW:=λds S k'=>∃ (many:Nat) (fx:List Nat) (rods:List bR) (pts:List (Rat×Rat)),ds=[LK many fx rods,.tup (pts.map P2)]/\eJ many fx rods/\fo many pts/\∀ (vss0 vss:List (List Int)) (k:Nat) (P C Qo:Nat->Nat) (d:Int) (z:Nat->Nat->Rat) (S':DH),vss0.length=2*(aj many fx).length->rR pts (aj many fx) rods vss0->RS (fZ vss0) rods.length (2*(aj many fx).length) P C Qo k d z vss rods.length->k<=12->bg S S'->∀ pp:Al,((pp=.fre/\k=rods.length)\/(∃ x:Nat×Nat×List Int,gs rods.length k C d vss x.1 x.2.1 x.2.2/\pp=.bnd (x.2.2.map λv=>(((v.fdiv (x.2.1:Nat):Int)):Rat))))->k' pp.D S'
theorem dJ:aq ["linkage","place","rows","columns","found"] ["linkage","place"] (ai gG):=dY
theorem nA (Fn:FN K "paper_of" gG f fd) (aQ:bH P w K mg base "rows_of_rods" 7 cv) (av:bH P w K mg base "free_joints" 1 bv) (fG:bH P w K mg base "column_of" 1 iZ) (ce:bH P w K mg base "solutions" 4 fS) (aH:mg "range"=none) (aX:mg "len"=none) (aY:mg "tuple"=none):
  aW P w K mg base cx 8 f fd ["linkage","place"] (cO K jA):=by
 refine Fn.okJ dJ (λds S k h=>?_) (λcdv A outer s H E hr=>⟨_,(af (ak (i:=2) dJ.nd (dq aQ hr (aE 0 (aE 1 ac)))) (af (n6 (iv:=3) dJ.nd rfl (bG (N:=["at","rows"]) (cap:=[none,some 2]) rfl rfl rfl rfl ⟨rfl,trivial⟩ rfl rfl ⟨⟨rfl,.inl rfl,.inl rfl⟩,trivial⟩) rfl aH (aa (au bB ag (aK b8 rfl aX bU (aa (dq av hr (aE 0 ac)) ac))) ac) (λ_ _ _ _=>(ap (i:=0) (show List.Nodup (["at","rows"]:List Str) from by decide +kernel))) (λ_ _ _ _=>(dq fG hr (aE 1 (aE 0 ac))))) (af (ak (i:=4) dJ.nd (dq ce hr (aE 3 (aa (aK b8 rfl aX bU (aE 2 ac)) ac)))) (af (aJ (ax (ey hr) (aK b8 rfl aX bU (aE 4 ac)) ag (aC _)) (ah (ao (ay (aa j6 ac)))) aM) (ah (ao (ay (aa j6 (aa (cp c8 rfl aY ci (aa (bY rfl (bG (N:=["number"]) (cap:=[none]) rfl rfl rfl rfl trivial rfl rfl trivial) (aA aR (ae 4) ag Zf) (λ_ _ _ _=>(ap (i:=0) (show List.Nodup (["number"]:List Str) from by decide +kernel))) (λ_ _ _ _=>(ay (aE 0 (aa ag ac))))) ac)) ac))))))))),λds S k h=>?_⟩)
 ·obtain⟨_,_,_,_,rfl,_⟩:=h
  rfl
 ·obtain⟨many,fx,rods,pts,rfl,ok,pl,w⟩:=h;have m7:=ok.m7;have rl:=ok.rl;have fl:=dF (many:=many) (fx:=fx);refine⟨many,fx,rods,pts,rfl,ok,pl,λpr zs S1 hpr e1 hr hzs hzr=>?_⟩
  have zl:zs.length=rods.length:=by
   have:=congrArg List.length hzr;rw [Cv] at this;exact this
  refine⟨many,fx,rods,rfl,ok,λpj S2 hpj e2 hj=>?_⟩
  have bl:Bt 4 ((((aj many fx).map bu).length:Nat):Int):=by unfold Bt; rw [Int.natAbs_natCast,Cv]; show(aj many fx).length < 16; omega
  have hn:(2:Int)*((((aj many fx).map bu).length:Nat):Int)=((2*(aj many fx).length:Nat):Int):=by rw [Cv]; omega
  refine⟨_,hj,gO (show Bt 2 2 by decide) bl,⟨by rw [hn]; omega,by rw [hn]; omega⟩,λpc hpc=>?_⟩
  rw [hn,Dk];have e12:=e1.trans e2;have ecol:∀ c,((zs.map λz=>(z.2,aV pts (aj many fx) z.1)).map λz=>z.2.getD c 0)=md pts (aj many fx) rods c:=λc=>by
   unfold md;rw [<- hzr,C3,C3]
   rfl
  refine fA (f:=bu) (g:=D.ref) (R:=λc q S'=>S' q=some (.lst ((md pts (aj many fx) rods c).map fr))/\q≠pc) (J:=bg S2) (Kq:=bg) (all:=List.range (2*(aj many fx).length)) (λ_ _=>trivial) (λ_ _ o _ e h=>e _ _ h) (λ_ _ _ _ e h=>⟨e _ _ h.1,h.2⟩) (λ_ _ _ _ h=>⟨by rw [aG h.2]; exact h.1,h.2⟩) (λ_ _ e=>e.put hpc) ?bb (List.range (2*(aj many fx).length)) [] _ none (λ_ h=>h) (bg.new hpc) am (λ_ h=>by cases h) (by rw [List.length_range]; show 0+_<=100; omega) λcs S3 e3 h3 hR hz=>?_
  case bb=>
   intro c S' k' hc e ⟨o,ho⟩ hk;have hc:=Dh.mp hc;refine⟨pr,zs.map λz=>(z.2,aV pts (aj many fx) z.1),c,rfl,by rw [C3]; exact e _ _ (e2 _ _ hr),by rw [Cv]; omega,λx hx=>?_,λq S4 hq e4 h4=>hk q S4 (e.trans e4) e4 ⟨by rw [h4,ecol],λz=>by rw [z,ho] at hq; cases hq⟩⟩
   obtain⟨z,hz,rfl⟩:=Cu.mp hx;exact⟨e _ _ (e2 _ _ (hzs z hz)),by rw [fY]; exact hc⟩
  have hz:cs.map Prod.fst=List.range (2*(aj many fx).length):=by rw [hz]; rfl
  have cl:cs.length=2*(aj many fx).length:=by
   have:=congrArg List.length hz;rw [Cv,List.length_range] at this;exact this
  have fst_at:∀ (i:Nat) x,cs[i]?=some x->x.1=i:=λi x hx=>by
   have h1:(cs.map Prod.fst)[i]?=some x.1:=by rw [CQ,hx]; rfl
   rw [hz] at h1;have h2:=(CW.mp hx).1;rw [List.getElem?_range (by omega)] at h1
   exact(CS h1).symm
  have hr3:=e3 _ _ (e2 _ _ hr);refine⟨_,hr3,pc,cs.map λz=>(z.2,md pts (aj many fx) rods z.1),rods.length,24,32,by rw [Cv,zl],by rw [h3,C3]; rfl,λx hx=>?cols,by decide,by decide,by decide,by omega,by rw [Cv]; omega,.inl rl,λvss0 vss kk P C Qo d z p fs S4 l0 rel hRS k12 hfree hfs e4 hp4=>?_⟩
  case cols=>
   obtain⟨z,hz',rfl⟩:=Cu.mp hx;refine⟨(hR z hz').1,Cv ..,λq hq=>?_⟩
   obtain⟨r,hr',rfl⟩:=Cu.mp hq;have zc:z.1 < 2*(aj many fx).length:=by
    have:z.1∈cs.map Prod.fst:=List.mem_map_of_mem hz';rw [hz] at this;exact Dh.mp this
   obtain⟨h1,h2,_⟩:=ok.rd r hr';have hl:z.1 < (aV pts (aj many fx) r).length:=by rw [fY]; exact zc
   refine lY (js:=aj many fx) (pl.way h1 h2) _ ?_;rw [CU,CO hl];exact Dm hl
  rw [Cv,cl] at l0 hRS
  have cnt:=lg hRS.inj hRS.col;rw [<- hfree,Cv] at cnt;have rel5:rR pts (aj many fx) rods vss0:=λc v hv=>by
   have hc:=(CW.mp hv).1;have h1:cs[c]?=some (cs[c]'(by omega)):=CO _
   have h2:=fst_at c _ h1;obtain⟨s,s0,s12,sd,ev⟩:=rel c (cs[c].2,md pts (aj many fx) rods cs[c].1) v (by rw [CQ,h1]; rfl) hv
   rw [h2] at sd ev
   exact⟨s,s0,s12,sd,ev⟩
  have W:=λS' e=>w vss0 vss kk P C Qo d z S' l0 rel5 hRS k12 e
  have e14:=(e12.trans e3).trans e4;refine⟨_,hp4,_,eq_int,gp (λc=>?_) (λc=>?_)⟩
  ·have c0:fs.length=0:=by
    have:=beq_iff_eq.mp c;rw [Cv] at this;omega
   exact⟨bQ,W S4 e14 .fre (.inl ⟨rfl,by omega⟩)⟩
  ·cases fs with
   | nil=>cases c
   | cons x fs=>
    obtain⟨so,hx⟩:=hfs x CB;have sl:=so.len;refine⟨_,_,hp4,cZ (j:=0) rfl,((x.2.2.2.map λv=>v.fdiv (x.2.2.1:Nat)).map D.int,some x.1),by simp only [ar,hx,iL],λq hq=>?_⟩
    refine b3 (f:=D.int) (g:=λn:Int=>fr (n:Rat)) (all:=x.2.2.2.map λv=>v.fdiv (x.2.2.1:Nat)) hq (λS' e=>e _ _ hx) ?bb2 (x.2.2.2.map λv=>v.fdiv (x.2.2.1:Nat)) [] none (λ_ h=>h) (by rw [Cv,sl]; show 0+rods.length<=100; omega) λS5 e5 h5=>?_
    case bb2=>
     intro n S' k' hn' e hk;exact⟨bQ,hk⟩
    rw [List.nil_append] at h5;refine⟨_,h5,bQ,?_⟩;have:=W S5 (e14.trans e5) (.bnd _) (.inr ⟨x.2,so,rfl⟩);unfold Al.D at this;dsimp only at this;rw [C3] at this;rw [C3];exact this
def ki:bW:=λds S k'=>∃ (many:Nat) (fx:List Nat) (rods:List bR) (pts:List (Rat×Rat)) (pp:Al),ds=[LK many fx rods,.tup (pts.map P2),pp.D]/\eJ many fx rods/\fo many pts/\match pp with
 | .fre=>∀ (vss0 vss:List (List Int)) (k:Nat) (P C Qo:Nat->Nat) (d:Int) (z:Nat->Nat->Rat) (S':DH),vss0.length=rods.length->rG pts (aj many fx) rods vss0->RS (fZ vss0) (2*(aj many fx).length) rods.length P C Qo k d z vss (2*(aj many fx).length)->bg S S'->k' (.bl (decide (k=rods.length))) S'
 | .bnd ws=>ws.length=rods.length/\(∀ w∈ws,xj w)/\∀ S',bg S S'->k' (.bl (oS many fx rods pts ws)) S'
theorem nG:aq ["linkage","place","paper"] ["linkage","place","paper"] (ai gD):=dY
theorem nN (Fn:FN K "is_right" gD f fd) (aP:bH P w K mg base "many_swings" 8 ef) (cy:bH P w K mg base "freedom" 1 iw) (iq:bH P w K mg base "balance" 7 lj):
  aW P w K mg base cx 9 f fd ["linkage","place","paper"] (cO K ki):=by
 refine Fn.okJ nG (λds S k h=>?_) (λcdv A outer s H E hr=>⟨_,(af (aJ (ax (y_ hr) (aA aR (ae 2) ag Zf) j6 (aC _)) (ah (ao (ka (ey hr) (dq aP hr (aE 0 (aE 1 ac))) (dq cy hr (aE 0 ac)) (aC _)))) aM) (ah (ao (dq iq hr (aE 0 (aE 1 (aa (aA aR (ae 2) ag Zf) ac))))))),λds S k h=>?_⟩)
 ·obtain⟨_,_,_,_,_,rfl,_⟩:=h
  rfl
 ·obtain⟨many,fx,rods,pts,pp,rfl,ok,pl,w⟩:=h;cases pp with
  | fre=>
   refine⟨_,rfl,many,fx,rods,pts,rfl,ok,pl,λvss0 vss k0 P C Qo d z S1 l0 rel hRS k12 e1=>⟨many,fx,rods,rfl,ok,_,eq_int,?_⟩⟩
   have h:=w vss0 vss k0 P C Qo d z S1 l0 rel hRS e1;have e:((((2*(aj many fx).length:Nat):Int) - ((k0:Nat):Int)) == (2*(((aj many fx).length:Nat):Int) - ((rods.length:Nat):Int)))=decide (k0=rods.length):=by
    rw [Bool.eq_iff_iff,beq_iff_eq,decide_eq_true_eq];omega
   rw [e];exact h
  | bnd ws=>
   obtain⟨wl,hw,w⟩:=w;exact⟨_,rfl,_,rfl,many,fx,rods,pts,ws,rfl,ok,pl,wl,hw,w⟩
set_option maxHeartbeats 4000000
def Az:Rat:=⟨-1,2,by decide,by decide⟩
def By (b:Rat):Prop:=b=3\/b=Az\/b=1
theorem vR:Az*2=-1:=by decide +kernel
def xl (b s1 s2:Rat) (p:Rat×Rat):Rat×Rat:=(p.1*b+s1,p.2*b+s2)
theorem By.ne {b:Rat} (h:By b):b≠0:=by rcases h with rfl | rfl | rfl <;> decide +kernel
theorem wz {b s x:Rat} (hb:By b) (hx:bj 12 4 x) (hs:bj 12 4 s):bj 24 16 (x*b+s):=by
 obtain⟨zx,ex,lx⟩:=hx.to12;obtain⟨zs,es,ls⟩:=hs.to12;rcases hb with rfl | rfl | rfl
 ·refine bj.of (z:=6*zx+2*zs) ?_ (by omega)
  rw [Rat.intCast_add,Cr,Cr,<- ex,<- es];have:((6:Int):Rat)=6:=rfl;have:((2:Int):Rat)=2:=rfl;grind
 ·refine bj.of (z:=-zx+2*zs) ?_ (by omega)
  rw [Rat.intCast_add,Rat.intCast_neg,Cr,<- ex,<- es];have:((2:Int):Rat)=2:=rfl;have:=vR;generalize Az=m at*
  grind
 ·refine bj.of (z:=2*zx+2*zs) ?_ (by omega)
  rw [Rat.intCast_add,Cr,Cr,<- ex,<- es];have:((2:Int):Rat)=2:=rfl;grind
theorem zH {many:Nat} {pts:List (Rat×Rat)} {b s1 s2:Rat} (hb:By b) (h:q9 many pts) (h1:bj 12 4 s1) (h2:bj 12 4 s2):fo many (pts.map (xl b s1 s2)):=by
 refine⟨by rw [Cv]; exact h.len,λp hp=>?_⟩
 obtain⟨v,hv,rfl⟩:=Cu.mp hp;exact⟨wz hb (h.ok v hv).1 h1,wz hb (h.ok v hv).2 h2⟩
theorem il {f:Rat×Rat->Rat×Rat} {pts:List (Rat×Rat)} {i:Nat} (h:i < pts.length):(pts.map f).getD i (0,0)=f (pts.getD i (0,0)):=by
 rw [CU,CU,CQ,CO h]
 rfl
theorem zO {pts:List (Rat×Rat)} {b s1 s2:Rat} {i j:Nat} (hi:i < pts.length) (hj:j < pts.length):wy (pts.map (xl b s1 s2)) i j=(b*(wy pts i j).1,b*(wy pts i j).2):=by
 unfold wy;rw [il hi,il hj];unfold xl;exact Prod.ext (by dsimp only; grind) (by dsimp only; grind)
def yE (p:Rat×Rat):Rat×Rat:=(p.2,p.1)
theorem zu {pts:List (Rat×Rat)} {i j:Nat} (hi:i < pts.length) (hj:j < pts.length):wy (pts.map yE) i j=((wy pts i j).2,(wy pts i j).1):=by
 unfold wy;rw [il hi,il hj]
 rfl
theorem yI {many:Nat} {pts:List (Rat×Rat)} (h:fo many pts):fo many (pts.map yE):=by
 refine⟨by rw [Cv]; exact h.len,λp hp=>?_⟩
 obtain⟨v,hv,rfl⟩:=Cu.mp hp;exact⟨(h.ok v hv).2,(h.ok v hv).1⟩
theorem zo {b:Rat} (h:By b):Sz 2 b:=by rcases h with rfl | rfl | rfl <;> exact⟨by decide,by decide⟩
def g9:bW:=λds S k=>∃ (many:Nat) (pts:List (Rat×Rat)) (b:Rat) (s:Rat×Rat),ds=[.tup (pts.map P2),fr b,W2 s]/\q9 many pts/\many<=7/\By b/\bj 12 4 s.1/\bj 12 4 s.2/\∀ S',bg S S'->k (.tup ((pts.map (xl b s.1 s.2)).map P2)) S'
theorem bZ:aq ["place","by","shift","found","point","first","second"] ["place","by","shift"] (ai eG):=dY
theorem ky (Fn:FN K "_law_moved" eG f fd) (bN:bH P w K mg base "_law_plus" 3 fC) (bp:bH P w K mg base "_law_times" 3 eU) (aY:mg "tuple"=none):
  aW P w K mg base cx 4 f fd ["place","by","shift"] (cO K g9):=by
 refine Fn.okJ bZ (λds S k h=>?_) (λcdv A outer s H E hr=>⟨_,(af (ak (i:=3) bZ.nd (bV ac)) (af (da PassesOwn.never rfl (ae 0) (ap (i:=4) bZ.nd) (af (ak (i:=5) bZ.nd (dq bN hr (aa (dq bp hr (aa (aA cT (bX 4) ag Zf) (aE 1 ac))) (aa (bX 2) ac)))) (af (ak (i:=6) bZ.nd (dq bN hr (aa (dq bp hr (aa (aA cT (bX 4) ag Zf) (aE 1 ac))) (aa (bX 2) ac)))) (ah (bI (ke (ae 3) (ay (aa (ay (aE 5 (aa (ay (aa ag (aa ag ac))) ac))) (aa (ay (aE 6 (aa (ay (aa ag (aa ag ac))) ac))) ac))))))))) (ah (ao (cp c8 rfl aY ci (aE 3 ac)))))),λds S k h=>?_⟩)
 ·obtain⟨_,_,_,_,rfl,_⟩:=h
  rfl
 ·obtain⟨many,pts,b,s,rfl,pl,m7,hb,h1,h2,w⟩:=h;have sb:=zo hb;have t1:=bj.sz (n:=4) h1.up;have t2:=bj.sz (n:=4) h2.up;have ln:=pl.len;refine⟨bQ,λq hq=>⟨(pts.map P2,none),rfl,?_⟩⟩
  refine bD (λr L S'=>∃ (m1 m2:List (Rat×Rat)) (l4 l5 l6:Dw D),L=[some (.tup (pts.map P2)),some (fr b),some (W2 s),some (.ref q),l4,l5,l6]/\bg S S'/\S' q=some (.lst ((m1.map (xl b s.1 s.2)).map P2))/\r=m2.map P2/\pts=m1++m2) (λ_ _ _ _=>trivial) ?_ ?_ _ _ _ ⟨[],pts,none,none,none,rfl,bg.new hq,am,rfl,rfl⟩
  ·rintro d r L S1 N1 ⟨m1,m2,l4,l5,l6,rfl,e1,hq1,er,em⟩ hN;cases m2 with
   | nil=>cases er
   | cons v m2=>
    cases er;have lm:pts.length=m1.length+(m2.length+1):=by rw [em,CK]; rfl
    have ok:=pl.ok v (by rw [em]; simp)
    have x1:=bj.sz (n:=4) ok.1.up;have x2:=bj.sz (n:=4) ok.2.up;have lt:((m1.map (xl b s.1 s.2)).map P2).length < sizeLine:=by rw [Cv,Cv]; exact CD (by omega:m1.length < 300) (CJ (rfl:Nat.ble 300 sizeLine=true))
    refine⟨v.1,b,rfl,x1.mono (by decide),sb.mono (by decide),_,_,rfl,(x1.mul sb).mono (by decide),t1.mono (by decide),?_⟩
    refine⟨v.2,b,rfl,x2.mono (by decide),sb.mono (by decide),_,_,rfl,(x2.mul sb).mono (by decide),t2.mono (by decide),?_⟩
    refine⟨⟨_,hq1⟩,bQ,bQ,bQ,bQ,bQ,_,hq1,lt,?_⟩;exact hN _ _ ⟨m1++[v],m2,_,_,_,rfl,e1.put hq,by rw [am,List.map_append,List.map_append]; rfl,rfl,by rw [em,List.append_assoc]; rfl⟩
  ·rintro L S1 ⟨m1,m2,l4,l5,l6,rfl,e1,hq1,er,em⟩;cases m2 with
   | cons v m2=>cases er
   | nil=>
    rw [CL] at em;subst em;exact⟨_,hq1,w S1 e1⟩
set_option maxHeartbeats 4000000
def wv:Rat:=⟨-5,3,by decide,by decide⟩
def uI (a c:Rat×Rat):Rat×Rat:=(a.1*2+c.1*wv,a.2*2+c.2*wv)
abbrev AO (x:(Rat×Rat)×(Rat×Rat)):D:=.tup [W2 x.1,W2 x.2]
theorem t_:∀ (us vs:List (Rat×Rat)),fg (us.map W2) (vs.map W2)=(us.zip vs).map AO
 | [],_=>rfl
 | _::_,[]=>rfl
 | u::us,v::vs=>congrArg (AO (u,v)::·) (t_ us vs)
theorem td {n:Nat} {u:Int} (h:Bt n u) (hn:1<=n):Sz n (u:Rat):=by
 refine⟨by rw [Rat.num_intCast]; exact h,?_⟩
 rw [Rat.den_intCast];exact(show Bt 1 1 by decide).mono hn
theorem mC {q:Rat} (h:DT.IsN (2 ^ 150) q):Sz 151 q:=by
 obtain⟨v,rfl,l⟩:=h;refine td ?_ (by decide)
 unfold Bt;exact Nat.lt_of_le_of_lt l (by decide)
theorem tW {l:List D} (h:0 < l.length):L2.atI l (-1)=l.getLast?:=by
 have e:L2.o0 l.length (-1)=some (l.length - 1):=by
  unfold L2.o0;rw [if_neg (by decide)]
  split
  ·congr 1; omega
  ·omega
 unfold L2.atI;rw [e,List.getLast?_eq_getElem?]
 rfl
def gu:bW:=λds S k=>∃ (q:Dv) (zs:List (List (Rat×Rat))) (us vs:List (Rat×Rat)),ds=[.ref q]/\S q=some (.lst (zs.map λvs=>.tup (vs.map W2)))/\zs.head?=some us/\zs.getLast?=some vs/\us.length<=7/\(∀ v∈us,DT.IsN (2 ^ 150) v.1/\DT.IsN (2 ^ 150) v.2)/\(∀ v∈vs,DT.IsN (2 ^ 150) v.1/\DT.IsN (2 ^ 150) v.2)/\∀ S',bg S S'->k (.tup (((us.zip vs).map λx=>uI x.1 x.2).map W2)) S'
theorem cq:aq ["some","found","one","other"] ["some"] (ai dR):=dY
theorem j7 (Fn:FN K "_law_summed" dR f fd) (bN:bH P w K mg base "_law_plus" 3 fC) (bp:bH P w K mg base "_law_times" 3 eU) (fk:mg "zip"=none) (aY:mg "tuple"=none) (aH:mg "range"=none):
  aW P w K mg base cx 4 f fd ["some"] (cO K gu):=by
 refine Fn.okJ cq (λds S k h=>?_) (λcdv A outer s H E hr=>⟨_,(af (ak (i:=1) cq.nd (bV ac)) (af (iD PassesOwn.never rfl rfl fk (aa (aA aR (ae 0) ag Zf) (aa (aA aR (ae 0) (kU kO ag) Zf) ac)) (dN (n:=2) rfl (aO (ap (i:=2) cq.nd) (aO (ap (i:=3) cq.nd) cN))) (ah (bI (ke (ae 1) (cp c8 rfl aY ci (aa (nB rfl (bG (N:=["k","one","other"]) (cap:=[none,some 2,some 3]) rfl rfl rfl rfl ⟨rfl,rfl,trivial⟩ rfl rfl ⟨⟨rfl,.inl rfl,.inl rfl⟩,⟨rfl,.inl rfl,.inl rfl⟩,trivial⟩) rfl aH (aa ag ac) (λ_ _ _ _=>(ap (i:=0) (show List.Nodup (["k","one","other"]:List Str) from by decide +kernel))) (λ_ _ _ _=>(dq bN hr (aa (dq bp hr (aa (aA aR (ae 1) (ae 0) Zf) (aa (ay (aa ag (aa ag ac))) ac))) (aa (dq bp hr (aa (aA aR (ae 2) (ae 0) Zf) (aa (ay (aa (kU kO ag) (aa ag ac))) ac))) ac))))) ac)))))) (ah (ao (cp c8 rfl aY ci (aE 1 ac)))))),λds S k h=>?_⟩)
 ·obtain⟨_,_,_,_,rfl,_⟩:=h
  rfl
 ·obtain⟨q,zs,us,vs,rfl,hq,hu,hv,lu,iu,iv,w⟩:=h;have s2:Sz 2 (2:Rat):=⟨by decide,by decide⟩
  have s5:Sz 3 wv:=⟨by decide,by decide⟩
  refine⟨bQ,λp hp=>?_⟩
  have hq1:=bg.new (o:=.lst []) hp _ _ hq;have hne:zs≠[]:=λz=>by rw [z] at hu; cases hu
  have h0:L2.atI (zs.map λvs=>D.tup (vs.map W2)) 0=some (.tup (us.map W2)):=by
   cases zs with
   | nil=>exact absurd rfl hne
   | cons a r=>have hu:some a=some us:=hu; cases hu; exact pG
  have h1:L2.atI (zs.map λvs=>D.tup (vs.map W2)) (-1)=some (.tup (vs.map W2)):=by
   rw [tW (by rw [Cv]; exact List.length_pos_iff.mpr hne),List.getLast?_map,hv]
   rfl
  refine⟨_,_,hq1,h0,_,_,hq1,h1,(us.map W2,none),(vs.map W2,none),rfl,rfl,?_⟩;rw [t_];have lz:(us.zip vs).length<=7:=by rw [List.length_zip]; omega
  have ok:∀ x∈us.zip vs,(Sz 151 x.1.1/\Sz 151 x.1.2)/\Sz 151 x.2.1/\Sz 151 x.2.2:=λx hx=>by
   have:=List.of_mem_zip hx;exact⟨⟨mC (iu _ this.1).1,mC (iu _ this.1).2⟩,mC (iv _ this.2).1,mC (iv _ this.2).2⟩
  generalize us.zip vs=xs at*
  refine bD (λr L S'=>∃ (m1 m2:List ((Rat×Rat)×(Rat×Rat))) (l2 l3:Dw D),L=[some (.ref q),some (.ref p),l2,l3]/\bg S S'/\S' p=some (.lst ((m1.map λx=>uI x.1 x.2).map W2))/\r=m2.map AO/\xs=m1++m2) (λ_ _ _ _=>⟨trivial,trivial⟩) ?_ ?_ _ _ _ ⟨[],xs,none,none,rfl,bg.new hp,am,rfl,rfl⟩
  ·rintro d r L S1 N1 ⟨m1,m2,l2,l3,rfl,e1,hp1,er,em⟩ hN;cases m2 with
   | nil=>cases er
   | cons v m2=>
    cases er;have lm:xs.length=m1.length+(m2.length+1):=by rw [em,CK]; rfl
    obtain⟨⟨a1,a2⟩,a3,a4⟩:=ok v (by rw [em]; simp)
    have lt:((m1.map λx=>uI x.1 x.2).map W2).length < sizeLine:=by rw [Cv,Cv]; exact CD (by omega:m1.length < 300) (CJ (rfl:Nat.ble 300 sizeLine=true))
    refine⟨(_,none),rfl,rfl,rfl,⟨_,hp1⟩,⟨by decide,by decide⟩,λp2 hp2=>?_⟩
    refine⟨trivial,_,rfl,bQ,v.1.1,2,rfl,a1.mono (by decide),s2.mono (by decide),_,rfl,bQ,v.2.1,wv,rfl,a3.mono (by decide),s5.mono (by decide),_,_,rfl,(a1.mul s2).mono (by decide),(a3.mul s5).mono (by decide),am,CD (by decide:0 < 300) (CJ (rfl:Nat.ble 300 sizeLine=true)),?_⟩
    refine⟨trivial,_,rfl,bQ,v.1.2,2,rfl,a2.mono (by decide),s2.mono (by decide),_,rfl,bQ,v.2.2,wv,rfl,a4.mono (by decide),s5.mono (by decide),_,_,rfl,(a2.mul s2).mono (by decide),(a4.mul s5).mono (by decide),am,CD (by decide:1 < 300) (CJ (rfl:Nat.ble 300 sizeLine=true)),?_⟩
    have E2:∀ o1 o2 o3,bg S1 (put (put (put S1 p2 o1) p2 o2) p2 o3):=λo1 o2 o3=>((bg.new hp2).put hp2).put hp2
    refine⟨trivial,_,am,_,E2 _ _ _ _ _ hp1,lt,?_⟩;exact hN _ _ ⟨m1++[v],m2,_,_,rfl,(e1.trans (E2 _ _ _)).put hp,by rw [am,List.map_append,List.map_append]; rfl,rfl,by rw [em,List.append_assoc]; rfl⟩
  ·rintro L S1 ⟨m1,m2,l2,l3,rfl,e1,hp1,er,em⟩;cases m2 with
   | cons v m2=>cases er
   | nil=>
    rw [CL] at em;subst em;exact⟨_,hp1,w S1 e1⟩
set_option maxHeartbeats 4000000
def Mr (pts:List (Rat×Rat)) (js:List Nat) (rods:List bR):DT.Mx:=λq x=>((rods[q]?.map (aV pts js)).getD []).getD x 0
theorem jy {pts:List (Rat×Rat)} {js:List Nat} {rods:List bR} {q:Nat} {r:bR} (h:rods[q]?=some r) (x:Nat):Mr pts js rods q x=(aV pts js r).getD x 0:=by
 unfold Mr;rw [h]
 rfl
theorem kR {pts:List (Rat×Rat)} {js:List Nat} {rods:List bR} {vss0 vss:List (List Int)} {k:Nat} {P C Qo:Nat->Nat} {d:Int} {z:Nat->Nat->Rat} (l0:vss0.length=rods.length) (rel:rG pts js rods vss0) (h:RS (fZ vss0) (2*js.length) rods.length P C Qo k d z vss (2*js.length)):Rk (Mr pts js rods) rods.length (2*js.length) k:=by
 have r0:Rk (fZ vss0) rods.length (2*js.length) k:=Rk.of_bs h.bs h.prm h.col h.hall;obtain⟨t,t0,ht⟩:=B_ l0 rel;have e:∀ q,q < rods.length->∀ x,x < 2*js.length->Mr pts js rods q x=t q / 24*fZ vss0 q x:=λq hq x hx=>by
  have:=ht q hq x hx;have e1:=CO hq;rw [wJ e1] at this;rw [jy e1];grind
 have e':∀ q,q < rods.length->∀ x,x < 2*js.length->fZ vss0 q x=24 / t q*Mr pts js rods q x:=λq hq x hx=>by
  rw [e q hq x hx];have:=t0 q hq;have k1:t q*(t q)⁻¹=1:=Rat.mul_inv_cancel _ this;rw [Rat.div_def,Rat.div_def];grind
 exact⟨r0.1.scale _ e,λk' hk=>r0.2 _ (hk.scale _ e')⟩
theorem mP {b:Rat} {l:List Rat} {x:Nat}:(l.map (b*·)).getD x 0=b*l.getD x 0:=by
 rw [CU,CU,CQ];cases l[x]? with
 | none=>show(0:Rat)=b*0; rw [Rat.mul_zero]
 | some v=>rfl
theorem t9 {w:Rat×Rat} {r:bR} {j:Nat} {b:Rat}:aL (b*w.1,b*w.2) r j=(aL w r j).map (b*·):=by
 unfold aL
 split
 ·rfl
 ·split
  ·show [-(b*w.1),-(b*w.2)]=[b*-w.1,b*-w.2]
   rw [show b*-w.1=-(b*w.1) by grind,show b*-w.2=-(b*w.2) by grind]
  ·show [(0:Rat),0]=[b*0,b*0]
   rw [Rat.mul_zero]
theorem qe {w:Rat×Rat} {r:bR} {b:Rat}:∀ js:List Nat,js.flatMap (aL (b*w.1,b*w.2) r)=(js.flatMap (aL w r)).map (b*·)
 | []=>rfl
 | j::js=>by rw [List.flatMap_cons,List.flatMap_cons,List.map_append,t9,qe js]
def rA (x:Nat):Nat:=if x % 2=0 then x+1 else x - 1
theorem vY {w:Rat×Rat} {r:bR} {j:Nat}:∃ a b,aL w r j=[a,b]/\aL (w.2,w.1) r j=[b,a]:=by
 unfold aL
 split
 ·exact⟨_,_,rfl,rfl⟩
 ·split
  ·exact⟨_,_,rfl,rfl⟩
  ·exact⟨_,_,rfl,rfl⟩
theorem n5 {w:Rat×Rat} {r:bR}:∀ (js:List Nat) (x:Nat),(js.flatMap (aL (w.2,w.1) r)).getD x 0=(js.flatMap (aL w r)).getD (rA x) 0
 | [],x=>by simp
 | j::js,x=>by
  obtain⟨a,b,e1,e2⟩:=vY (w:=w) (r:=r) (j:=j);rw [List.flatMap_cons,List.flatMap_cons,e1,e2]
  match x with
  | 0=>rfl
  | 1=>rfl
  | x+2=>
   have e:rA (x+2)=rA x+2:=by unfold rA; split <;> split <;> omega
   rw [e];exact n5 js x
theorem Aj {pts pts':List (Rat×Rat)} {js:List Nat} {rods:List bR} {b:Rat} {k k':Nat} (b0:b≠0) (hw:∀ r∈rods,wy pts' r.1 r.2.1=(b*(wy pts r.1 r.2.1).1,b*(wy pts r.1 r.2.1).2)) (h:Rk (Mr pts js rods) rods.length (2*js.length) k) (h':Rk (Mr pts' js rods) rods.length (2*js.length) k'):k=k':=by
 have e:∀ q,q < rods.length->∀ x,x < 2*js.length->Mr pts' js rods q x=b*Mr pts js rods q x:=λq hq x _=>by
  have e1:=CO hq;rw [jy e1,jy e1];unfold aV;rw [hw _ (Dm hq),qe,mP]
 refine h.same h' (λk hk=>hk.scale (λ_=>b) e) λk hk=>hk.scale (λ_=>b⁻¹) λq hq x hx=>?_
 rw [e q hq x hx];have:b*b⁻¹=1:=Rat.mul_inv_cancel _ b0;grind
theorem za {pts pts':List (Rat×Rat)} {js:List Nat} {rods:List bR} {k k':Nat} (hw:∀ r∈rods,wy pts' r.1 r.2.1=((wy pts r.1 r.2.1).2,(wy pts r.1 r.2.1).1)) (h:Rk (Mr pts js rods) rods.length (2*js.length) k) (h':Rk (Mr pts' js rods) rods.length (2*js.length) k'):k=k':=by
 have lt:∀ x,x < 2*js.length->rA x < 2*js.length:=λx hx=>by unfold rA; split <;> omega
 have ss2:∀ x,rA (rA x)=x:=λx=>by unfold rA; split <;> split <;> omega
 have e:∀ q,q < rods.length->∀ x,Mr pts' js rods q x=Mr pts js rods q (rA x):=λq hq x=>by
  have e1:=CO hq;rw [jy e1,jy e1];unfold aV;rw [hw _ (Dm hq),n5]
 refine h.same h' (λk hk=>hk.sub id rA (λ_ h=>h) lt λq hq x _=>e q hq x) λk hk=>hk.sub id rA (λ_ h=>h) lt λq hq x _=>?_
 show Mr pts js rods q x=Mr pts' js rods q (rA x)
 rw [e q hq,ss2]
theorem vL {pts:List (Rat×Rat)} {js:List Nat} {A B:List bR} {r:bR} {k k':Nat} (h:Rk (Mr pts js (A++r::B)) (A++r::B).length (2*js.length) k) (h':Rk (Mr pts js (A++B)) (A++B).length (2*js.length) k'):k'<=k/\k<=k'+1:=by
 have l:(A++r::B).length=(A++B).length+1:=by rw [CK,CK,CH]; omega
 rw [l] at h;refine h.less (a:=A.length) (by rw [CK]; omega) ?_
 have e:(λq x=>Mr pts js (A++r::B) (DT.sk A.length q) x)=Mr pts js (A++B):=by
  funext q x
  unfold Mr
  congr 3
  unfold DT.sk
  split
  ·rename_i hq
   rw [List.getElem?_append_left hq,List.getElem?_append_left hq]
  ·rename_i hq
   rw [List.getElem?_append_right (by omega),List.getElem?_append_right (by omega),show q+1 - A.length=(q - A.length)+1 by omega]
   rfl
 rw [e];exact h'
set_option maxHeartbeats 4000000
theorem kf (n:Nat):aj n []=List.range n:=by
 unfold aj;rw [List.filter_eq_self];intro a _;simp
theorem kg {pts:List (Rat×Rat)} {n:Nat} {rods:List bR} {f:Nat->Rat×Rat} (ok:∀ r∈rods,r.1 < n/\r.2.1 < n/\r.1≠r.2.1) (hf:∀ r∈rods,(wy pts r.1 r.2.1).1*((f r.2.1).1 - (f r.1).1)+(wy pts r.1 r.2.1).2*((f r.2.1).2 - (f r.1).2)=0):∀ q,q < rods.length->DT.sm (2*n) (λx=>cM f x*Mr pts (aj n []) rods q x)=0:=λq hq=>by
 have e1:=CO hq;obtain⟨h1,h2,h3⟩:=ok _ (Dm hq);have hz:=hf _ (Dm hq);generalize rods[q]=r at*
 have gv:∀ j,j < n->((List.range n).map f).getD j (0,0)=f j:=λj hj=>by
  rw [CU,CQ,List.getElem?_range hj]
  rfl
 have p:=n_ (many:=n) (fx:=[]) (pts:=pts) (vs:=(List.range n).map f) (r:=r) (U:=cM f) h3 h1 h2 (λi j hij=>by
  rw [kf] at hij;have hi:i < n:=by
   have:=(CW.mp hij).1
   rwa [List.length_range] at this
  rw [List.getElem?_range hi] at hij;cases hij;rw [gv _ hi];refine⟨?_,?_⟩
  ·unfold cM; rw [if_pos (by omega),show 2*i / 2=i by omega]
  ·unfold cM; rw [if_neg (by omega),show(2*i+1) / 2=i by omega]) (λj hj=>by cases hj)
 have l:(aj n []).length=n:=by rw [kf,List.length_range]
 rw [l] at p;have z:gS pts ((List.range n).map f) r=0:=by
  unfold gS
  show _*(wy ((List.range n).map f) r.1 r.2.1).1+_*(wy ((List.range n).map f) r.1 r.2.1).2=0
  unfold wy at hz ⊢;rw [gv _ h1,gv _ h2];exact hz
 rw [z] at p;rw [p];exact DT.sm_congr λx _=>by rw [jy e1]; grind
theorem rE {pts:List (Rat×Rat)} {m k:Nat} {rods:List bR} (ok:∀ r∈rods,r.1 < m+1/\r.2.1 < m+1/\r.1≠r.2.1) (h:Rk (Mr pts (aj (m+1) []) rods) rods.length (2*(m+1)) k):k<=2*m:=by
 refine h.2 _ (pW ?_ ?_ fh.cols)
 ·exact kg ok λr _=>by dsimp only; grind
 ·exact kg ok λr _=>by dsimp only; grind
theorem nO {pts:List (Rat×Rat)} {m k:Nat} {rods:List bR} (ok:∀ r∈rods,r.1 < m+1/\r.2.1 < m+1/\r.1≠r.2.1) (h:Rk (Mr pts (aj (m+1) []) rods) rods.length (2*(m+1)) k) {i:Nat} (hi:i < m) (ne:pts.getD i (0,0)≠pts.getD m (0,0)):k<=2*m - 1:=by
 refine h.2 _ (rJ (f:=λj=>(-((pts.getD j (0,0)).2 - (pts.getD m (0,0)).2),(pts.getD j (0,0)).1 - (pts.getD m (0,0)).1)) (i:=i) ?_ ?_ ?_ ?_ hi ?_)
 ·exact kg ok λr _=>by dsimp only; grind
 ·exact kg ok λr _=>by dsimp only; grind
 ·exact kg ok λr _=>by unfold wy; dsimp only; grind
 ·exact Prod.ext (by dsimp only; grind) (by dsimp only; grind)
 ·intro z;have z1:=congrArg Prod.fst z;have z2:=congrArg Prod.snd z;dsimp only at z1 z2
  exact ne (Prod.ext (by grind) (by grind))
theorem pE {pts:List (Rat×Rat)} {m:Nat} (l:pts.length=m+1) (h:∃ p∈pts,∃ p'∈pts,p≠p'):∃ i,i < m/\pts.getD i (0,0)≠pts.getD m (0,0):=by
 apply Classical.byContradiction;intro n;have all:∀ p∈pts,p=pts.getD m (0,0):=λp hp=>by
  obtain⟨i,hi,e⟩:=List.mem_iff_getElem.mp hp;have ei:p=pts.getD i (0,0):=by rw [CU,CO hi,e]; rfl
  by_cases hm:i < m
  ·apply Classical.byContradiction;intro z;exact n ⟨i,hm,λy=>z (by rw [ei,y])⟩
  ·rw [ei,show i=m by omega]
 obtain⟨p,hp,p',hp',ne⟩:=h;exact ne ((all p hp).trans (all p' hp').symm)
theorem mW {us vs:List (Rat×Rat)} {i:Nat} (hu:i < us.length) (hv:i < vs.length):((us.zip vs).map λx=>uI x.1 x.2).getD i (0,0)=uI (us.getD i (0,0)) (vs.getD i (0,0)):=by
 rw [CU,CQ,(List.getElem?_zip_eq_some (z:=(us[i],vs[i]))).mpr ⟨CO hu,CO hv⟩,CU,CU,CO hu,CO hv]
 rfl
theorem sM {many:Nat} {fx:List Nat} {rods:List bR} {pts us vs:List (Rat×Rat)} (ok:eJ many fx rods) (lu:us.length=many) (lv:vs.length=many) (hu:fK fx rods pts us=true) (hv:fK fx rods pts vs=true):fK fx rods pts ((us.zip vs).map λx=>uI x.1 x.2)=true:=by
 unfold fK at*
 rw [C0,Dg,Dg] at*
 refine⟨λf hf=>decide_eq_true ?_,λr hr=>decide_eq_true ?_⟩
 ·have a:=of_decide_eq_true (hu.1 f hf);have b:=of_decide_eq_true (hv.1 f hf);have lf:=ok.fxl f hf;rw [mW (by omega) (by omega),a,b]
  unfold uI;exact Prod.ext (by dsimp only; grind) (by dsimp only; grind)
 ·have a:=of_decide_eq_true (hu.2 r hr);have b:=of_decide_eq_true (hv.2 r hr);obtain⟨h1,h2,_⟩:=ok.rd r hr;unfold gS wy at*
  rw [mW (by omega) (by omega),mW (by omega) (by omega)]
  unfold uI;dsimp only at*
  grind
theorem rW {a c:Rat} (ha:DT.IsN (2 ^ 150) a) (hc:DT.IsN (2 ^ 150) c):bj 24 (2 ^ 501) (a*2+c*wv):=by
 obtain⟨x,rfl,lx⟩:=ha;obtain⟨y,rfl,ly⟩:=hc;have e:wv*3=-5:=by decide +kernel
 refine bj.of (z:=48*x - 40*y) ?_ ?_
 ·rw [Rat.intCast_sub,Cr,Cr];have:((48:Int):Rat)=48:=rfl;have:((40:Int):Rat)=40:=rfl;generalize wv=m at*
  grind
 ·have h:(2:Nat) ^ 150*88<=2 ^ 501*24:=by decide +kernel
  generalize (2:Nat) ^ 501*24=B at*
  generalize (2:Nat) ^ 150=A at*
  omega
theorem wY {many:Nat} {us vs:List (Rat×Rat)} (lu:us.length=many) (lv:vs.length=many) (iu:∀ v∈us,DT.IsN (2 ^ 150) v.1/\DT.IsN (2 ^ 150) v.2) (iv:∀ v∈vs,DT.IsN (2 ^ 150) v.1/\DT.IsN (2 ^ 150) v.2):kF 501 many ((us.zip vs).map λx=>uI x.1 x.2):=by
 refine⟨by rw [Cv,List.length_zip]; omega,λp hp=>?_⟩
 obtain⟨x,hx,rfl⟩:=Cu.mp hp;have:=List.of_mem_zip hx;exact⟨rW (iu _ this.1).1 (iv _ this.2).1,rW (iu _ this.1).2 (iv _ this.2).2⟩
set_option maxHeartbeats 4000000
theorem np {w:Rat×Rat} {r:bR} {j:Nat}:∃ a b,aL w r j=[a,b]:=by
 unfold aL
 split
 ·exact⟨_,_,rfl⟩
 ·split <;> exact⟨_,_,rfl⟩
theorem pD {pts:List (Rat×Rat)} {r:bR}:∀ (js:List Nat) (i j:Nat),js[i]?=some j->(aV pts js r).getD (2*i) 0=(aL (wy pts r.1 r.2.1) r j).getD 0 0/\(aV pts js r).getD (2*i+1) 0=(aL (wy pts r.1 r.2.1) r j).getD 1 0
 | [],i,j,h=>by cases h
 | j0::js,0,j,h=>by
  have h:j0=j:=CS h;subst h;obtain⟨a,b,e⟩:=np (w:=wy pts r.1 r.2.1) (r:=r) (j:=j0);unfold aV;rw [List.flatMap_cons,e];exact⟨rfl,rfl⟩
 | j0::js,i+1,j,h=>by
  have ih:=pD (pts:=pts) (r:=r) js i j h;obtain⟨a,b,e⟩:=np (w:=wy pts r.1 r.2.1) (r:=r) (j:=j0);unfold aV at ih ⊢;rw [List.flatMap_cons,e];exact ih
theorem tI {pts:List (Rat×Rat)} {j:Nat} {r:bR} {w:Rat} (hne:r.1≠r.2.1):nU pts j (r,w)=(-((aL (wy pts r.1 r.2.1) r j).getD 0 0*w),-((aL (wy pts r.1 r.2.1) r j).getD 1 0*w)):=by
 unfold nU aL
 by_cases h1:j=r.1
 ·rw [if_pos h1,if_neg (λz=>hne (h1.symm.trans z)),if_pos h1]
  show _=(-(-(wy pts r.1 r.2.1).1*w),-(-(wy pts r.1 r.2.1).2*w))
  congr 1 <;> grind
 ·rw [if_neg h1]
  by_cases h2:j=r.2.1
  ·rw [if_pos h2,if_pos h2]
   rfl
  ·rw [if_neg h2,if_neg h2,if_neg h1]
   show((0:Rat),(0:Rat))=(-(0*w),-(0*w))
   congr 1 <;> grind
theorem qz {pts:List (Rat×Rat)} {j:Nat}:∀ (rods:List bR) (ws:List Rat) (acc:Rat×Rat),ws.length=rods.length->(∀ r∈rods,r.1≠r.2.1)->gl pts j acc (rods.zip ws)=(acc.1 - DT.sm rods.length (λq=>(aL (wy pts (rods.getD q (0,0,0)).1 (rods.getD q (0,0,0)).2.1) (rods.getD q (0,0,0)) j).getD 0 0*ws.getD q 0),acc.2 - DT.sm rods.length (λq=>(aL (wy pts (rods.getD q (0,0,0)).1 (rods.getD q (0,0,0)).2.1) (rods.getD q (0,0,0)) j).getD 1 0*ws.getD q 0))
 | [],_,acc,_,_=>by
  show acc=(acc.1 - 0,acc.2 - 0)
  rw [show acc.1 - (0:Rat)=acc.1 by grind,show acc.2 - (0:Rat)=acc.2 by grind]
 | r::rods,[],_,h,_=>by cases h
 | r::rods,w::ws,acc,h,hn=>by
  have h:ws.length+1=rods.length+1:=h;rw [List.zip_cons_cons]
  show gl pts j (acc.1+(nU pts j (r,w)).1,acc.2+(nU pts j (r,w)).2) (rods.zip ws)=_
  rw [qz rods ws _ (by omega) (λr hr=>hn r (CC _ hr)),tI (hn r CB),CH,ia,ia]
  show(acc.1+-((aL (wy pts r.1 r.2.1) r j).getD 0 0*w) - DT.sm rods.length (λq=>(aL (wy pts (rods.getD q (0,0,0)).1 (rods.getD q (0,0,0)).2.1) (rods.getD q (0,0,0)) j).getD 0 0*ws.getD q 0),acc.2+-((aL (wy pts r.1 r.2.1) r j).getD 1 0*w) - DT.sm rods.length (λq=>(aL (wy pts (rods.getD q (0,0,0)).1 (rods.getD q (0,0,0)).2.1) (rods.getD q (0,0,0)) j).getD 1 0*ws.getD q 0))=(acc.1 - ((aL (wy pts r.1 r.2.1) r j).getD 0 0*w+DT.sm rods.length (λq=>(aL (wy pts (rods.getD q (0,0,0)).1 (rods.getD q (0,0,0)).2.1) (rods.getD q (0,0,0)) j).getD 0 0*ws.getD q 0)),acc.2 - ((aL (wy pts r.1 r.2.1) r j).getD 1 0*w+DT.sm rods.length (λq=>(aL (wy pts (rods.getD q (0,0,0)).1 (rods.getD q (0,0,0)).2.1) (rods.getD q (0,0,0)) j).getD 1 0*ws.getD q 0)))
  congr 1 <;> grind
theorem qB {pts:List (Rat×Rat)} {js:List Nat} {rods:List bR} {vss0:List (List Int)} (l0:vss0.length=2*js.length) (rel:rR pts js rods vss0) (c:Nat) (hc:c < 2*js.length):∃ s:Rat,s≠0/\∀ q,q < rods.length->fZ vss0 c q=s*(aV pts js (rods.getD q (0,0,0))).getD c 0:=by
 have h2:vss0[c]?=some (vss0[c]'(by omega)):=CO _
 obtain⟨s,s0,_,hd,ev⟩:=rel c _ h2;refine⟨(s:Rat),λz=>by have:=Rat.natCast_eq_zero_iff.mp z; omega,λq hq=>?_⟩
 have e1:(md pts js rods c)[q]?=some ((aV pts js (rods.getD q (0,0,0))).getD c 0):=by
  unfold md;rw [CQ,CO hq,CU (l:=rods),CO hq]
  rfl
 rw [oM h2,ev,CU,CQ,e1]
 show((wn s ((aV pts js (rods.getD q (0,0,0))).getD c 0):Int):Rat)=(s:Rat)*_
 rw [qF (hd _ (List.mem_of_getElem? e1)),Rat.mul_comm]
theorem uG {many:Nat} {fx:List Nat} {rods:List bR} {pts:List (Rat×Rat)} {vss0 vss:List (List Int)} {k:Nat} {P C Qo:Nat->Nat} {d:Int} {z:Nat->Nat->Rat} {x:Nat×Nat×List Int} (ok:eJ many fx rods) (l0:vss0.length=2*(aj many fx).length) (rel:rR pts (aj many fx) rods vss0) (h:RS (fZ vss0) rods.length (2*(aj many fx).length) P C Qo k d z vss rods.length) (s:gs rods.length k C d vss x.1 x.2.1 x.2.2):oS many fx rods pts (x.2.2.map λv=>(((v.fdiv (x.2.1:Nat):Int)):Rat))=true:=by
 have wl:(x.2.2.map λv=>(((v.fdiv (x.2.1:Nat):Int)):Rat)).length=rods.length:=by rw [Cv,s.len]
 have g0:((x.2.1:Nat):Rat)≠0:=λz=>by have:=Rat.natCast_eq_zero_iff.mp z; have:=s.pos; omega
 have wq:∀ q,(x.2.2.map λv=>(((v.fdiv (x.2.1:Nat):Int)):Rat)).getD q 0=((uu x q:Int):Rat):=λq=>by
  unfold uu;rw [CU,CU,CQ,CQ];cases x.2.2[q]? <;> rfl
 have key:∀ c,c < 2*(aj many fx).length->DT.sm rods.length (λq=>(aV pts (aj many fx) (rods.getD q (0,0,0))).getD c 0*((uu x q:Int):Rat))=0:=λc hc=>by
  obtain⟨t,t0,ht⟩:=qB l0 rel c hc;have e1:=kS h s hc;have e2:DT.sm rods.length (λq=>fZ vss0 c q*((x.2.2.getD q 0:Int):Rat))=(t*((x.2.1:Nat):Rat))*DT.sm rods.length (λq=>(aV pts (aj many fx) (rods.getD q (0,0,0))).getD c 0*((uu x q:Int):Rat)):=by
   rw [<- DT.sm_mul];exact DT.sm_congr λq hq=>by
    rw [ht q hq,pS s q,Cr,Rat.intCast_natCast];grind
  rw [e2] at e1;grind
 unfold oS;rw [C0,Dg,Bool.not_eq_true'];refine⟨?_,λj hj=>decide_eq_true ?_⟩
 ·cases e:(x.2.2.map λv=>(((v.fdiv (x.2.1:Nat):Int)):Rat)).all (λw=>decide (w=0)) with
  | false=>rfl
  | true=>
   exfalso
   have lt:x.1 < (x.2.2.map λv=>(((v.fdiv (x.2.1:Nat):Int)):Rat)).length:=by rw [wl]; exact s.lt
   have h1:=Dg.mp e _ (Dm lt);have h1:=of_decide_eq_true h1;have h2:=wq x.1;rw [CU,CO lt] at h2;have h2:((uu x x.1:Int):Rat)=0:=h2.symm.trans h1;have h3:=pS s x.1;rw [Rat.intCast_eq_zero_iff.mp h2,s.own,Int.mul_zero] at h3;have:=h.bs.ne;rw [h3] at this;exact this rfl
 ·obtain⟨i,hi,e⟩:=List.mem_iff_getElem.mp hj;have hij:(aj many fx)[i]?=some j:=by rw [<- e]; exact CO hi
  rw [qz rods _ _ wl (λr hr=>(ok.rd r hr).2.2)]
  have z1:DT.sm rods.length (λq=>(aL (wy pts (rods.getD q (0,0,0)).1 (rods.getD q (0,0,0)).2.1) (rods.getD q (0,0,0)) j).getD 0 0*(x.2.2.map λv=>(((v.fdiv (x.2.1:Nat):Int)):Rat)).getD q 0)=0:=by
   refine Eq.trans (DT.sm_congr λq hq=>?_) (key (2*i) (by omega))
   rw [wq q,(pD (aj many fx) i j hij).1]
  have z2:DT.sm rods.length (λq=>(aL (wy pts (rods.getD q (0,0,0)).1 (rods.getD q (0,0,0)).2.1) (rods.getD q (0,0,0)) j).getD 1 0*(x.2.2.map λv=>(((v.fdiv (x.2.1:Nat):Int)):Rat)).getD q 0)=0:=by
   refine Eq.trans (DT.sm_congr λq hq=>?_) (key (2*i+1) (by omega))
   rw [wq q,(pD (aj many fx) i j hij).2]
  rw [z1,z2]
  show((0:Rat) - 0,(0:Rat) - 0)=(0,0)
  rw [Rat.sub_self]
theorem vC {N k:Nat} {C:Nat->Nat} {d:Int} {vss:List (List Int)} {x:Nat×Nat×List Int} (s:gs N k C d vss x.1 x.2.1 x.2.2):∀ w∈(x.2.2.map λv=>(((v.fdiv (x.2.1:Nat):Int)):Rat)),DT.IsN (2 ^ 500) w:=by
 intro w hw;obtain⟨v,hv,rfl⟩:=Cu.mp hw;refine⟨_,rfl,?_⟩;have b:=s.bt v hv;obtain⟨t,ht⟩:=s.dvd v hv;have g0:=s.pos;have e:v.fdiv (x.2.1:Nat)=t:=by rw [ht]; exact Int.mul_fdiv_cancel_left _ (by omega)
 rw [e];have:t.natAbs<=v.natAbs:=by rw [ht,Di,Int.natAbs_natCast]; exact Nat.le_mul_of_pos_left _ g0
 exact Nat.le_of_lt (Nat.lt_of_le_of_lt this b)
theorem u5 {ds:List D} {j:Nat} (h:j<=ds.length):DL.eA ds none (some (j:Nat))=ds.take j:=by
 unfold DL.eA;have h1:HT.bM ds.length 0 none=0:=rfl;have h2:HT.bM ds.length ds.length (some ((j:Nat):Int))=j:=by unfold HT.bM; simp; rw [if_neg (by omega),Nat.min_eq_left h]
 rw [h1,h2]
 rfl
theorem qN {ds:List D} {j:Nat} (h:j<=ds.length):DL.eA ds (some (j:Nat)) none=ds.drop j:=by
 unfold DL.eA;have h1:HT.bM ds.length ds.length none=ds.length:=rfl;have h2:HT.bM ds.length 0 (some ((j:Nat):Int))=j:=by unfold HT.bM; simp; rw [if_neg (by omega),Nat.min_eq_left h]
 rw [h1,h2,List.take_of_length_le (by rw [List.length_drop]; omega)]
theorem mS {c:DT} {t e b2:DS} {M:im} {L:Lo} {S:DH} (P:Lo->DH->Prop) (h2:∀ L S,P L S->b2 M L S) (h1:(∀ L S,P L S->b2 M L S)->wW c t e {M with nx:=b2 M} L S):xH (wW c t e) b2 M L S:=h1 h2
theorem wV {M:DT.Mx} {N m:Nat} {P C Qo:Nat->Nat} {k:Nat} {d:Int} {z:Nat->Nat->Rat} {vss:List (List Int)} {c g:Nat} {w:List Int} (h:RS M N m P C Qo k d z vss N) (s:gs N k C d vss c g w):k≠N:=λe=>by
 have cnt:=lg h.inj h.col;have:c∈(List.range N).filter (λc=>!decide (∃ j,j < k/\C j=c)):=List.mem_filter.mpr ⟨Dh.mpr s.lt,by
  have:¬ ∃ j,j < k/\C j=c:=λ⟨j,h1,h2⟩=>s.free j h1 h2
  rw [Dc this]
  rfl⟩
 have:=List.length_pos_of_mem this;omega
theorem xk {w:Rat} (h:DT.IsN (2 ^ 500) w):xj w:=by
 obtain⟨v,rfl,l⟩:=h;refine⟨24*v,by rw [Cr]; rfl,?_⟩
 rw [Di];exact CZ (Nat.mul_le_mul_left 24 l) (by decide +kernel)
theorem fh.tr {M:DT.Mx} {R N k:Nat} (h:fh M R N k):fh (λx q=>M q x) N R k:=by
 obtain⟨z,B,h⟩:=h;exact⟨λj q=>B q j,λx j=>z j x,λx hx q hq=>(h q hq x hx).trans (DT.sm_congr λj _=>Rat.mul_comm _ _)⟩
theorem x5 {pts:List (Rat×Rat)} {js:List Nat} {rods:List bR} {vss0 vss:List (List Int)} {k:Nat} {P C Qo:Nat->Nat} {d:Int} {z:Nat->Nat->Rat} (l0:vss0.length=2*js.length) (rel:rR pts js rods vss0) (h:RS (fZ vss0) rods.length (2*js.length) P C Qo k d z vss rods.length):Rk (Mr pts js rods) rods.length (2*js.length) k:=by
 have r0:Rk (fZ vss0) (2*js.length) rods.length k:=Rk.of_bs h.bs h.prm h.col h.hall;have ex:∀ c,∃ t:Rat,c < 2*js.length->t≠0/\∀ q,q < rods.length->fZ vss0 c q=t*Mr pts js rods q c:=λc=>by
  by_cases hc:c < 2*js.length
  ·obtain⟨s,s0,hs⟩:=qB l0 rel c hc;refine⟨s,λ_=>⟨s0,λq hq=>?_⟩⟩
   rw [hs q hq,jy (CO hq),CU (l:=rods),CO hq]
   rfl
  ·exact⟨0,λh=>absurd h hc⟩
 obtain⟨t,ht⟩:=Classical.axiomOfChoice ex;have up:∀ k,fh (λx q=>Mr pts js rods q x) (2*js.length) rods.length k->fh (fZ vss0) (2*js.length) rods.length k:=λk hk=>hk.scale t λc hc q hq=>(ht c hc).2 q hq
 have dn:∀ k,fh (fZ vss0) (2*js.length) rods.length k->fh (λx q=>Mr pts js rods q x) (2*js.length) rods.length k:=λk hk=>hk.scale (λc=>(t c)⁻¹) λc hc q hq=>by
  rw [(ht c hc).2 q hq];have:t c*(t c)⁻¹=1:=Rat.mul_inv_cancel _ (ht c hc).1;grind
 exact⟨(dn _ r0.1).tr,λk' hk=>r0.2 _ (up _ hk.tr)⟩
def vH (p:Rat×Rat):Pk:=[[[p.1.num,(p.1.den:Int)],[0,1]],[[p.2.num,(p.2.den:Int)],[0,1]]]
theorem A0 (pts:List (Rat×Rat)):pts.map P2=(pts.map vH).map BU:=by
 rw [C3]
 rfl
theorem uc {α:Type} [DecidableEq α] {x:α}:∀ (l:List α) (a:List α),x∈l.foldl ST.fH a↔x∈a\/x∈l
 | [],a=>by simp
 | k::l,a=>by
  rw [List.foldl_cons,uc l,ST.iW,Cz]
  constructor
  ·rintro((h | h) | h)
   ·exact .inr (.inl h)
   ·exact .inl h
   ·exact .inr (.inr h)
  ·rintro(h | h | h)
   ·exact .inl (.inr h)
   ·exact .inl (.inl h)
   ·exact .inr h
theorem wP {α:Type} [DecidableEq α]:∀ (l:List α) (a:List α),a.Nodup->(l.foldl ST.fH a).Nodup
 | [],a,h=>h
 | k::l,a,h=>by
  rw [List.foldl_cons];refine wP l _ ?_;unfold ST.fH
  split
  ·exact h
  ·rename_i n
   rw [List.nodup_append];exact⟨h,by simp,λx hx y hy=>by simp at hy; subst hy; exact λe=>n (e▸hx)⟩
theorem rq {pts:List (Rat×Rat)} (h:1 < (ST.dd (pts.map vH)).length):∃ p∈pts,∃ p'∈pts,p≠p':=by
 have nd:(ST.dd (pts.map vH)).Nodup:=wP _ [] List.nodup_nil;have mem:∀ x∈ST.dd (pts.map vH),∃ p∈pts,vH p=x:=λx hx=>by
  have:=(uc (pts.map vH) []).mp hx;rcases this with h | h
  ·cases h
  ·exact Cu.mp h
 cases e:ST.dd (pts.map vH) with
 | nil=>rw [e] at h; exact absurd h (by decide)
 | cons x r=>
  cases r with
  | nil=>rw [e] at h; exact absurd (show 1 < 1 from h) (by decide)
  | cons y r=>
   rw [e] at nd mem
   obtain⟨p,hp,ep⟩:=mem x (by simp)
   obtain⟨p',hp',ep'⟩:=mem y (by simp)
   refine⟨p,hp,p',hp',λz=>?_⟩
   rw [z,ep'] at ep;rw [C8] at nd;exact nd.1 (by rw [<- ep]; simp)
set_option maxHeartbeats 4000000
theorem jl.ex {S S':DH} {a:Dv} (h:jl S a) (e:∀ b o,S b=some o->S' b=some o):jl S' a:=by obtain⟨n,b,z,w⟩:=h; exact⟨n,b,e _ _ z,w⟩
def nw:bW:=λds _ k=>∃ ns:List Int,ds=[.rl (List.map D.int ns)]/\ns.length<=63/\∀ S',k (.bl true) S'
theorem bP:aq ["script","k","state","count","paper","loose","by","moved","swapped","some","linkage","place","many","fixed","rods","at","less"] ["script"] (ai sP):=dY
theorem xq (Fn:FN K "law" sP f fd) (eS:bH P w K mg base "_law_state" 2 h_) (dy:bH P w K mg base "_law_linkage" 5 fO) (aP:bH P w K mg base "many_swings" 8 ef) (gB:bH P w K mg base "paper_of" 8 jA) (cy:bH P w K mg base "freedom" 1 iw) (gA:bH P w K mg base "is_right" 9 ki) (aB:bH P w K mg base "_law_take" 1 dH) (eL:bH P w K mg base "_law_moved" 4 g9) (aU:bH P w K mg base "_law_fraction" 3 cQ) (jH:bH P w K mg base "swings" 8 nc) (oy:bH P w K mg base "keep" 6 t3) (dQ:bH P w K mg base "_law_summed" 4 gu) (aH:mg "range"=none) (uD:mg "max"=none) (tD:mg "min"=none) (aX:mg "len"=none) (uf:mg "set"=none) (aY:mg "tuple"=none):
  aW P w K mg base cx 10 f fd ["script"] (cO K nw):=by
 refine Fn.okJ bP (λds S k h=>?_) (λcdv A outer s H E hr=>⟨_,(af (eC PassesOwn.never rfl rfl aH (aa (aK zq rfl uD xz (aa ag (aa (aK Aa rfl tD xC (aa (aK b8 rfl aX bU (aE 0 ac)) (aa ag ac))) ac))) ac) (ap (i:=1) bP.nd) (af (ak (i:=2) bP.nd (dq eS hr (aE 0 (aE 1 ac)))) (af (cL (dq dy hr (aE 2 ac)) (dN (n:=2) rfl (aO (ap (i:=10) bP.nd) (aO (ap (i:=11) bP.nd) cN)))) (af (cL (ae 10) (dN (n:=3) rfl (aO (ap (i:=12) bP.nd) (aO (ap (i:=13) bP.nd) (aO (ap (i:=14) bP.nd) cN))))) (af (ak (i:=3) bP.nd (dq aP hr (aE 10 (aE 11 ac)))) (af (ak (i:=4) bP.nd (dq gB hr (aE 10 (aE 11 ac)))) (af (aJ (WJ.pt (mj (ax lL (dq gA hr (aE 10 (aE 11 (aE 4 ac)))) dj (aC _)) (jq (ax (kl hr) (ka (ey hr) (ae 4) (ay (aa j6 ac)) (aC _)) (ka (ey hr) (ae 3) (dq cy hr (aE 10 ac)) (aC _)) (aC _))))) (ah (ao dj)) aM) (af (aJ (ax qO (ae 3) (dq cy hr (aE 10 ac)) (aC _)) (ah (ao dj)) aM) (af (aJ (ax (kl hr) (ae 14) (ay ac) (aC _)) (af (ak (i:=15) bP.nd (dq aB hr (aE 2 (aa (aK b8 rfl aX bU (aE 14 ac)) ac)))) (af (ak (i:=16) bP.nd (dq aP hr (aa (ay (aE 12 (aE 13 (aa (au mq (p_ (ae 14) kh (jT (ae 15))) (p_ (ae 14) (jT (au mq (ae 15) ag)) kh)) ac)))) (aE 11 ac)))) (ah (aJ (WJ.pt (mj (ax j5 (ae 16) (ay (aE 3 (aa (au mq (ae 3) ag) ac))) (by with_unfolding_all rfl)) (jq (WJ.pt (lQ (ax (ey hr) (ae 4) (ay (aa j6 ac)) (aC _)) (jB (ax (kl hr) (ae 16) (au mq (ae 3) ag) (aC _)))))))) (ah (ao dj)) aM)))) aM) (af (ak (i:=5) bP.nd (dq aP hr (aa (ay (aE 12 (aa (ay ac) (aE 14 ac)))) (aE 11 ac)))) (af (aJ (WJ.pt (mj (ax qO (ae 5) ag (aC _)) (jq (WJ.pt (lQ (ax Am (ou hr rfl rfl aX bU rfl uf ya (ae 11)) ag (aC _)) (jB (ax qO (ae 5) ag (aC _)))))))) (ah (ao dj)) aM) (af (ak (i:=6) bP.nd (aA aR (bV (aa (ay (aa ag (aa ag ac))) (aa (ay (aa (kU kO ag) (aa ag ac))) (aa (ay (aa ag (aa ag ac))) ac)))) (dq aB hr (aE 2 (aa ag ac))) Zf)) (af (ak (i:=7) bP.nd (dq eL hr (aE 11 (aE 6 (aa (ay (aa (dq aU hr (aE 2 (aa ag ac))) (aa (dq aU hr (aE 2 (aa ag ac))) ac))) ac))))) (af (ak (i:=8) bP.nd (cp c8 rfl aY ci (aa (bY rfl (bG (N:=["point"]) (cap:=[none]) rfl rfl rfl rfl trivial rfl rfl trivial) (ae 11) (λ_ _ _ _=>(ap (i:=0) (show List.Nodup (["point"]:List Str) from by decide +kernel))) (λ_ _ _ _=>(ay (aa (aA aR (ae 0) ag Zf) (aa (aA aR (ae 0) ag Zf) ac))))) ac))) (af (aJ (WJ.pt (mj (ax (kl hr) (dq aP hr (aE 10 (aE 7 ac))) (ae 3) (aC _)) (jq (ax (kl hr) (dq aP hr (aE 10 (aE 8 ac))) (ae 3) (aC _))))) (ah (ao dj)) aM) (af (ak (i:=9) bP.nd (dq jH hr (aE 10 (aE 11 ac)))) (ah (aJ (WJ.pt (lQ (ax (kl hr) (ae 9) (bV ac) (aC _)) (jB (ax lL (dq oy hr (aE 10 (aE 11 (aa (dq dQ hr (aE 9 ac)) ac)))) dj (aC _))))) (ah (ao dj)) aM)))))))))))))))))) (ah (ao dj))),λds S k h=>?_⟩)
 ·obtain⟨_,rfl,_⟩:=h
  rfl
 ·obtain⟨ns,rfl,hl,w⟩:=h;have hb:∀ z:Int,0<=z->z<=63->-(2 ^ 62)<=z/\z < 2 ^ 62:=λz _ _=>by omega
  refine⟨hb _ (by split <;> (try split) <;> omega) (by rw [Cv]; split <;> (try split) <;> omega),?_⟩
  refine nC (P:=λd=>∃ i:Int,d=.int i/\0<=i) (λL S'=>(∃ r1 r2 r3 r4 r5 r6 r7 r8 r9 r10 r11 r12 r13 r14 r15 r16,L=[some (.rl (List.map D.int ns)),r1,r2,r3,r4,r5,r6,r7,r8,r9,r10,r11,r12,r13,r14,r15,r16])) (λ_ _ _=>trivial) ?_ (λL S' _=>w S') _ ?_ _ _ ⟨_,_,_,_,_,_,_,_,_,_,_,_,_,_,_,_,rfl⟩
  ·rintro d L S1 Nx ⟨i,rfl,hi⟩ ⟨r1,r2,r3,r4,r5,r6,r7,r8,r9,r10,r11,r12,r13,r14,r15,r16,rfl⟩ hN;refine⟨ns,i,rfl,hi,λa n0 b hp hnb=>?_⟩
   have hS:jl (put S1 a (.lst [.int n0,.bl b])) a:=⟨n0,b,am,hnb⟩;generalize put S1 a (.lst [.int n0,.bl b])=T1 at hS ⊢;refine⟨a,rfl,hS,λmany fx rods pts S2 ok p12 d2=>?_⟩
   have pl:=p12.up;have m7:=ok.m7;have rl:=ok.rl;have fl:=dF (many:=many) (fx:=fx);refine⟨([LK many fx rods,.tup (pts.map P2)],none),rfl,rfl,rfl,([.int (many:Nat),.tup (fx.map bu),.tup (rods.map cu)],none),rfl,rfl,rfl,?_⟩;refine⟨many,fx,rods,pts,rfl,ok,pl,λvss0 vss k P C Qo d z S3 l0 rel hRS k12 e3=>?_⟩
   have rk:=kR l0 rel hRS;refine⟨many,fx,rods,pts,rfl,ok,pl,λvss1 vss1' k1 P1 C1 Qo1 d1 z1 S4 l1 rel1 hRS1 k112 e4 pp hpp=>?_⟩
   have ek:k1=k:=(x5 l1 rel1 hRS1).one rk;have hcase:(k=rods.length/\pp=.fre)\/(k≠rods.length/\∃ ws,pp=.bnd ws/\ws.length=rods.length/\(∀ w∈ws,xj w)/\oS many fx rods pts ws=true):=by
    rcases hpp with ⟨h1,h2⟩ | ⟨x,s,h2⟩
    ·exact .inl ⟨by omega,h1⟩
    ·exact .inr ⟨by rw [<- ek]; exact wV hRS1 s,_,h2,by rw [Cv,s.len],λv hv=>xk (vC s v hv),uG ok l1 rel1 hRS1 s⟩
   have kr:=rk.le_rows;clear hpp rel1 hRS1;have s4:jl S4 a:=(d2.1.ex e3).ex e4;dsimp only;refine mS (λL' S'=>L'=[some (.rl (List.map D.int ns)),some (.int i),some (.ref a),some (.int (((2*(aj many fx).length:Nat):Int) - ((k:Nat):Int))),some pp.D,r5,r6,r7,r8,r9,some (LK many fx rods),some (.tup (pts.map P2)),some (.int (many:Nat)),some (.tup (fx.map bu)),some (.tup (rods.map cu)),r15,r16]/\jl S' a) ?h2a ?h1a
   case h1a=>
    intro nxt;have eqf:∀ f:DM,(f=decide (k=rods.length))->fW 8 (.int (((2*(aj many fx).length:Nat):Int) - ((k:Nat):Int))) (.int (2*(((aj many fx).length:Nat):Int) - ((rods.length:Nat):Int)))=some f:=λf hf=>by
     rw [eq_int,hf]
     congr 1
     rw [Bool.eq_iff_iff,beq_iff_eq,decide_eq_true_eq];omega
    rcases hcase with ⟨h1,rfl⟩ | ⟨h1,ws,rfl,h2,h3,h4⟩
    ·refine⟨many,fx,rods,pts,.fre,rfl,ok,pl,λvss2 vss2' k2 P2 C2 Qo2 d2' z2 S5 l2 rel2 hRS2 e5=>?_⟩
     have e2:k2=k:=(kR l2 rel2 hRS2).one rk;rw [decide_eq_true (by omega)]
     exact⟨bQ,true,rfl,many,fx,rods,rfl,ok,true,eqf true (decide_eq_true h1).symm,true,rfl,nxt _ _ ⟨rfl,s4.ex e5⟩⟩
    ·refine⟨many,fx,rods,pts,.bnd ws,rfl,ok,pl,h2,h3,λS5 e5=>?_⟩
     rw [h4];exact⟨bQ,false,rfl,many,fx,rods,rfl,ok,false,eqf false (Dc h1).symm,true,rfl,nxt _ _ ⟨rfl,s4.ex e5⟩⟩
   rintro _ S5 ⟨rfl,s5⟩;refine⟨many,fx,rods,rfl,ok,cH (λz=>absurd z (by omega)) (λ_=>?_)⟩
   dsimp only [wo];have cz:(((2*(aj many fx).length:Nat):Int) - ((k:Nat):Int))=2*(((aj many fx).length:Nat):Int) - (k:Int):=by omega
   refine mS (λL' S'=>∃ r15 r16,L'=[some (.rl (List.map D.int ns)),some (.int i),some (.ref a),some (.int (((2*(aj many fx).length:Nat):Int) - ((k:Nat):Int))),some pp.D,r5,r6,r7,r8,r9,some (LK many fx rods),some (.tup (pts.map P2)),some (.int (many:Nat)),some (.tup (fx.map bu)),some (.tup (rods.map cu)),r15,r16]/\jl S' a) ?h2b ?h1b
   case h1b=>
    intro nxt
    by_cases hr:rods=[]
    ·have e:fW 8 (.tup (rods.map cu)) (.tup [])=some true:=by rw [hr]; rfl
     exact⟨bQ,true,e,nxt _ _ ⟨_,_,rfl,s5⟩⟩
    ·have e:fW 8 (.tup (rods.map cu)) (.tup [])=some false:=by
      obtain⟨x,xs,rfl⟩:=List.exists_cons_of_ne_nil hr
      rfl
     have lr:0 < rods.length:=List.length_pos_iff.mpr hr;refine⟨bQ,false,e,a,_,rfl,by rw [Cv]; omega,by rw [Cv]; exact Bt.mono (m:=7) (by unfold Bt; omega) (by decide),s5,λn S6 n0 n1 d6=>?_⟩
     obtain⟨n,rfl⟩:=Int.eq_ofNat_of_zero_le n0;rw [Cv] at n1;have nl:n < rods.length:=by omega
     have c1:DL.eA (rods.map cu) none (some ((n:Nat):Int))=(rods.take n).map cu:=by rw [u5 (by rw [Cv]; omega),List.map_take]
     have c2:DL.eA (rods.map cu) (some (((n:Nat):Int)+1)) none=(rods.drop (n+1)).map cu:=by
      rw [show ((n:Nat):Int)+1=((n+1:Nat):Int) by omega,qN (by rw [Cv]; omega),List.map_drop]
     have sp:rods=rods.take n++rods[n]::rods.drop (n+1):=by rw [List.getElem_cons_drop,List.take_append_drop]
     have ok':eJ many fx (rods.take n++rods.drop (n+1)):=⟨ok.m1,ok.m7,ok.fl,ok.fxl,by rw [CK,List.length_take,List.length_drop]; omega,λr hr'=>ok.rd r (by rcases List.mem_append.mp hr' with h | h; exact List.mem_of_mem_take h; exact List.mem_of_mem_drop h),ok.nd⟩
     refine⟨?len,bQ,many,fx,rods.take n++rods.drop (n+1),pts,?ds,ok',pl,λvss2 vss2' k2 P2' C2 Qo2 d2' z2 S7 l2 rel2 hRS2 k212 e7=>?_⟩
     case len=>rw [c1,c2,Cv,Cv,List.length_take,List.length_drop]; exact CZ (show _<=300 by omega) (CJ (rfl:Nat.ble 300 sizeLine=true))
     case ds=>rw [c1,c2,<- List.map_append]
     have rk2:=kR l2 rel2 hRS2;obtain⟨lo,hi2⟩:=vL (A:=rods.take n) (r:=rods[n]) (B:=rods.drop (n+1)) (by rw [<- sp]; exact rk) rk2
     have r2:=rk2.le_rows;rw [CK,List.length_take,List.length_drop] at r2;have s7:=(d6.1.ex e7);have hin:∀ c x:Int,(x=c\/x=c+1)->oo (.int x) [.int c,.int (c+1)]=true:=λc x h=>by
      rcases h with rfl | rfl
      ·simp [oo,tt]
      ·simp [oo,tt]
     have hx:(((2*(aj many fx).length:Nat):Int) - ((k2:Nat):Int))=(((2*(aj many fx).length:Nat):Int) - ((k:Nat):Int))\/(((2*(aj many fx).length:Nat):Int) - ((k2:Nat):Int))=(((2*(aj many fx).length:Nat):Int) - ((k:Nat):Int))+1:=by omega
     have hf:(!oo (m6 (.int (((2*(aj many fx).length:Nat):Int) - ((k2:Nat):Int)))) (([D.int (((2*(aj many fx).length:Nat):Int) - ((k:Nat):Int)),D.int ((((2*(aj many fx).length:Nat):Int) - ((k:Nat):Int))+1)]).map m6))=false:=by
      show(!oo (.int _) [.int _,.int _])=false
      rw [hin _ _ hx]
      rfl
     refine⟨bQ,([_,_],none),rfl,rfl,rfl,?_⟩
     show(if (!oo (m6 _) (List.map m6 _))=true then _ else _)
     refine gp (λz=>absurd (hf.symm.trans z) (by decide)) λ_=>?_
     rcases hcase with ⟨h1,rfl⟩ | ⟨h1,ws,rfl,h2,h3,h4⟩
     ·exact⟨bQ,true,rfl,true,by rw [eq_int]; congr 1; rw [beq_iff_eq]; omega,nxt _ _ ⟨_,_,rfl,s7⟩⟩
     ·exact⟨bQ,false,rfl,nxt _ _ ⟨_,_,rfl,s7⟩⟩
   rintro _ S6 ⟨r15,r16,rfl,s6⟩;have ok0:eJ many [] rods:=⟨ok.m1,ok.m7,by decide,(λf hf=>by cases hf),ok.rl,ok.rd,List.nodup_nil⟩
   refine⟨bQ,bQ,many,[],rods,pts,rfl,ok0,pl,λvss2 vss2' k2 P2' C2 Qo2 d2' z2 S7 l2 rel2 hRS2 k212 e7=>?_⟩
   have s7:=s6.ex e7;have rk2:=kR l2 rel2 hRS2;clear rel2 hRS2;obtain⟨m,em⟩:∃ m,many=m+1:=⟨many - 1,by have:=ok.m1; omega⟩
   have ln:(aj many []).length=m+1:=by rw [kf,List.length_range,em]
   have rk3:=rk2;rw [ln,em] at rk3;have two:=rE (by rw [<- em]; exact ok.rd) rk3
   have three:1 < (ST.dd (pts.map vH)).length->k2+3<=2*(m+1):=λh=>by
    obtain⟨i,hi,ne⟩:=pE (by rw [pl.len,em]) (rq h)
    have:=nO (by rw [<- em]; exact ok.rd) rk3 hi ne
    omega
   dsimp only;refine mS (λL' S'=>∃ r5,L'=[some (.rl (List.map D.int ns)),some (.int i),some (.ref a),some (.int (((2*(aj many fx).length:Nat):Int) - ((k:Nat):Int))),some pp.D,r5,r6,r7,r8,r9,some (LK many fx rods),some (.tup (pts.map P2)),some (.int (many:Nat)),some (.tup (fx.map bu)),some (.tup (rods.map cu)),r15,r16]/\jl S' a) ?h2c ?h1c
   case h1c=>
    intro nxt;rw [ln];refine cH (λz=>absurd z (by omega)) λ_=>?_
    refine⟨pts.map vH,A0 pts,by rw [Cv,pl.len]; omega,?_⟩
    refine cH (λz=>?_) (λ_=>nxt _ _ ⟨_,rfl,s7⟩)
    refine cH (λz2=>absurd z2 (by have:=three (by omega); omega)) λ_=>nxt _ _ ⟨_,rfl,s7⟩
   rintro _ S8 ⟨r5',rfl,s8⟩;refine⟨bQ,bQ,bQ,bQ,λp hp=>⟨a,3,rfl,by decide,by decide,s8.ex (bg.new hp),λr S9 r0 r3 d9=>?_⟩⟩
   have hby:∃ b,By b/\L2.atI [D.tup [.int 3,.int 1],D.tup [.int (-1),.int 2],D.tup [.int 1,.int 1]] r=some (fr b):=by
    rcases(by omega:r=0\/r=1\/r=2) with rfl | rfl | rfl
    ·exact⟨3,.inl rfl,rfl⟩
    ·exact⟨Az,.inr (.inl rfl),rfl⟩
    ·exact⟨1,.inr (.inr rfl),rfl⟩
   obtain⟨b',hb',ab⟩:=hby;refine⟨_,_,d9.2 p _ (s8.ne hp) am,ab,?_⟩;refine⟨a,4,rfl,by decide,by decide,d9.1,λq1 S10 h1 d10=>⟨a,4,rfl,by decide,by decide,d10.1,λq2 S11 h2 d11=>?_⟩⟩
   refine⟨bQ,many,pts,b',(q1,q2),rfl,p12,m7,hb',h1,h2,λS12 e12=>?_⟩
   have s12:=d11.1.ex e12;refine⟨(pts.map P2,none),rfl,λpc hpc=>?_⟩
   refine b3 (f:=P2) (g:=λp=>P2 (yE p)) (all:=pts) hpc (λ_ _=>trivial) ?bb pts [] none (λ_ h=>h) (by rw [pl.len]; show 0+many<=100; omega) λS13 e13 h13=>?_
   case bb=>
    intro u S' k' hu e hk;exact⟨_,rfl,_,rfl,bQ,hk⟩
   rw [List.nil_append] at h13;refine⟨_,h13,?_⟩;have h14:pts.map (λp=>P2 (yE p))=(pts.map yE).map P2:=by rw [C3]; rfl
   rw [h14];dsimp only;refine⟨many,fx,rods,pts.map (xl b' q1 q2),rfl,ok,zH hb' p12 h1 h2,λvss4 vss4' k4 P4 C4 Qo4 d4 z4 S14 l4 rel4 hRS4 k412 e14=>?_⟩
   have ek4:k=k4:=Aj hb'.ne (λr hr=>zO (by rw [pl.len]; exact(ok.rd r hr).1) (by rw [pl.len]; exact(ok.rd r hr).2.1)) rk (kR l4 rel4 hRS4)
   clear rel4 hRS4;refine⟨true,by rw [eq_int,ek4]; simp,?_⟩
   refine⟨many,fx,rods,pts.map yE,rfl,ok,yI pl,λvss5 vss5' k5 P5 C5 Qo5 d5 z5 S15 l5 rel5 hRS5 k512 e15=>?_⟩
   have ek5:k=k5:=za (λr hr=>zu (by rw [pl.len]; exact(ok.rd r hr).1) (by rw [pl.len]; exact(ok.rd r hr).2.1)) rk (kR l5 rel5 hRS5)
   clear rel5 hRS5;refine⟨true,by rw [eq_int,ek5]; simp,?_⟩
   refine⟨many,fx,rods,pts,rfl,ok,pl,λvss6 vss6' k6 P6 C6 Qo6 d6 z6 p6 ys S16 l6 rel6 hRS6 k612 hys hsw hp6 e16 hS16=>?_⟩
   refine⟨bQ,λpn hpn=>?_⟩
   have g16:put S16 pn (.lst []) p6=some (.lst (ys.map λy=>.tup (y.2.map W2))):=bg.new hpn _ _ hS16
   cases ys with
   | nil=>exact⟨_,_,true,g16,am,.inl ⟨rfl,rfl⟩,hN _ _ ⟨_,_,_,_,_,_,_,_,_,_,_,_,_,_,_,_,rfl⟩⟩
   | cons y ys=>
    refine⟨_,_,false,g16,am,.inr ⟨λz=>(by cases z),rfl⟩,?_⟩
    obtain⟨yl,hyl⟩:∃ yl,(y::ys).getLast?=some yl:=⟨(y::ys).getLast (List.cons_ne_nil _ _),List.getLast?_eq_some_getLast _⟩;have ml:yl∈y::ys:=List.mem_of_getLast? hyl;have sw1:=hsw y CB;have sw2:=hsw yl ml;have hM:=x9 ok pl l6 rel6;have i1:=su hRS6 hM k612 sw1;have i2:=su hRS6 hM k612 sw2;have lu:=sw1.sp.len;have lv:=sw2.sp.len;refine⟨p6,(y::ys).map Prod.snd,y.2,yl.2,rfl,by rw [g16,C3]; rfl,rfl,by rw [List.getLast?_map,hyl]; rfl,by omega,i1,i2,λS17 e17=>?_⟩
    refine⟨many,fx,rods,pts,(y.2.zip yl.2).map λx=>uI x.1 x.2,rfl,ok,pl,wY lu lv i1 i2,?_⟩
    rw [sM ok lu lv (qh ok l6 rel6 hRS6 sw1) (qh ok l6 rel6 hRS6 sw2)];exact hN _ _ ⟨_,_,_,_,_,_,_,_,_,_,_,_,_,_,_,_,rfl⟩
  ·intro d hd;obtain⟨n,_,rfl⟩:=Cu.mp hd;exact⟨_,rfl,by omega⟩
theorem vk (ns:List Int) (h:ns.length<=63):nw [.rl (List.map D.int ns)] (λ_=>none) (λd _=>d=.bl true):=⟨ns,rfl,h,λ_=>rfl⟩
end My
def PySem.W.Fast.tw9514319622330095999:Unit:=()
def PySem.W.Fast.tw6343318783445066001:Unit:=()
def PySem.W.Fast.tw10622057369902710209:Unit:=()
def PySem.W.Fast.tw16038841236614837804:Unit:=()
def PySem.W.Fast.tw1576075037172119329:Unit:=()
def PySem.W.Fast.tw14450199003812602476:Unit:=()
def PySem.W.Fast.tw10427386782993376298:Unit:=()
def PySem.W.Fast.tw17853029277883778655:Unit:=()
def PySem.W.Fast.tw8404712318127855419:Unit:=()
def PySem.W.Fast.tw106404888699612442:Unit:=()
def PySem.W.Fast.tw3848770778885091368:Unit:=()
def PySem.W.Fast.tw7530483786346348765:Unit:=()
def PySem.W.Fast.tw6891510847559766036:Unit:=()
def PySem.W.Fast.tw213998137518000022:Unit:=()
def PySem.W.Fast.tw15784097973722662533:Unit:=()
def PySem.W.Fast.tw3252176369027870462:Unit:=()
def PySem.W.Fast.tw10872056334125827818:Unit:=()
def PySem.W.Fast.tw12291341770626205160:Unit:=()
def PySem.W.Fast.tw7372816180778750998:Unit:=()
def PySem.W.Fast.tw18319290851992592994:Unit:=()
def PySem.W.Fast.tw4581430842247547674:Unit:=()
def PySem.W.Fast.tw14959450277663130296:Unit:=()
def PySem.W.Fast.tw16141872466395043457:Unit:=()
def PySem.W.Fast.tw2122197805873359527:Unit:=()
def PySem.W.Fast.tw1824261877472737061:Unit:=()
def PySem.W.Fast.tw12146485843562016009:Unit:=()
def PySem.W.Fast.tw835271849359609646:Unit:=()
def PySem.W.Fast.tw764498217884406415:Unit:=()
def PySem.W.Fast.tw2949855989980168973:Unit:=()
def PySem.W.Fast.tw13903924015669048491:Unit:=()
def PySem.W.Fast.tw972643926777526465:Unit:=()
def PySem.W.Fast.tw15111685395473183116:Unit:=()
def PySem.W.Fast.tw6379521600397755046:Unit:=()
def PySem.W.Fast.tw5155777283598247663:Unit:=()
def PySem.W.Fast.tw17379219579261087219:Unit:=()
def PySem.W.Fast.tw17327323993758100730:Unit:=()
def PySem.W.Fast.tw8934656565218852552:Unit:=()
def PySem.W.Fast.tw14518321448862944826:Unit:=()
def PySem.W.Fast.tw15519678491831591163:Unit:=()
def PySem.W.Fast.tw6532762160699705227:Unit:=()
def PySem.W.Fast.tw14661918277451748818:Unit:=()
def PySem.W.Fast.tw12831215614896674354:Unit:=()
def PySem.W.Fast.tw6559849931254703683:Unit:=()
def PySem.W.Fast.tw15004056356128720226:Unit:=()
def PySem.W.Fast.tw12473191963829464997:Unit:=()
def PySem.W.Fast.tw2026404478859589134:Unit:=()
def PySem.W.Fast.tw764022039659194832:Unit:=()
def PySem.W.Fast.tw16825264468021059715:Unit:=()
def PySem.W.Fast.tw5962724727792612750:Unit:=()
def PySem.W.Fast.tw7494065923262650246:Unit:=()
def PySem.W.Fast.tw14320376922176191574:Unit:=()
def PySem.W.Fast.tw12758555114952736104:Unit:=()
def PySem.W.Fast.tw10148585838649940104:Unit:=()
def PySem.W.Fast.tw5143022616686444254:Unit:=()
def PySem.W.Fast.tw2770051341524013213:Unit:=()
def PySem.W.Fast.tw5350889607681343414:Unit:=()
def PySem.W.Fast.tw14668833215883523461:Unit:=()
def PySem.W.Fast.tw16688666587027603140:Unit:=()
def PySem.W.Fast.tw409740532179433941:Unit:=()
def PySem.W.Fast.tw7319392354912476115:Unit:=()
def PySem.W.Fast.tw1438562082601018726:Unit:=()
def PySem.W.Fast.tw2360668276185784973:Unit:=()
def PySem.W.Fast.tw9639354079519180501:Unit:=()
def PySem.W.Fast.tw3619260295382029868:Unit:=()
def PySem.W.Fast.tw11585356554659263021:Unit:=()
def PySem.W.Fast.tw8159471303123382916:Unit:=()
def PySem.W.Fast.tw6429091343615136257:Unit:=()
def PySem.W.Fast.tw10332318925207207785:Unit:=()
def PySem.W.Fast.tw13172756952087604291:Unit:=()
def PySem.W.Fast.tw13341606952407762042:Unit:=()
def PySem.W.Fast.tw14395374043762768133:Unit:=()
def PySem.W.Fast.tw12348652627672661195:Unit:=()
def PySem.W.Fast.tw28258122912156713:Unit:=()
def PySem.W.Fast.tw10450172903012110221:Unit:=()
def PySem.W.Fast.tw4501062977942347054:Unit:=()
def PySem.W.Fast.tw18259937022994192389:Unit:=()
def PySem.W.Fast.tw15272237457866319741:Unit:=()
def PySem.W.Fast.tw6752899146337364625:Unit:=()
def PySem.W.Fast.tw5650129551348452744:Unit:=()
def PySem.W.Fast.tw8752792330646313614:Unit:=()
def PySem.W.Fast.tw10041952080175778159:Unit:=()
def PySem.W.Fast.tw17350352121895084086:Unit:=()
def PySem.W.Fast.tw8137035031726336904:Unit:=()
def PySem.W.Fast.tw15598874129151063674:Unit:=()
def PySem.W.Fast.tw16272823431816203015:Unit:=()
def PySem.W.Fast.tw6497076059237348153:Unit:=()
def PySem.W.Fast.tw7038178076233813784:Unit:=()
def PySem.W.Fast.tw6964986508906021068:Unit:=()
def PySem.W.Fast.tw11506193504720355111:Unit:=()
def PySem.W.Fast.tw4072953364859382319:Unit:=()
namespace My
open PySem PySem.Spec PyProof.Rows L2 DL HM
set_option maxHeartbeats 4000000
theorem xM {l:PySem.W.OpenLaw} {w:DC} {K:Fg} {h:DD} {mg:Str->Dw Du} {fa:Dv} (X:K.In h) (G:h.Ns mainGlobals mg) (hfa:mg "law"=some (.ref fa))
  {f1 f2 f3 f4 f5 f6 f7 f8 f9 f10 f11 f12 f13 f14 f15 f16 f17 f18 f19 f20 f21 f22 f23 f24 f25 f26 f27 f28 f29 f30 f31 f32 f33 f34 f35 f36 f37 f38 f39 f40 f41 f42 f43:Dv} {cd1 cd2 cd3 cd4 cd5 cd6 cd7 cd8 cd9 cd10 cd11 cd12 cd13 cd14 cd15 cd16 cd17 cd18 cd19 cd20 cd21 cd22 cd23 cd24 cd25 cd26 cd27 cd28 cd29 cd30 cd31 cd32 cd33 cd34 cd35 cd36 cd37 cd38 cd39 cd40 cd41 cd42 cd43:Du}
  {o6:Dv} {u9:Dw Dv} {uV:DJ (Dw Du)} {ye:Nat} {p0_REST:Dv} {od0_REST:Dw Dv} {sl0_REST:DJ (Dw Du)} {n0_REST:Nat} {t0_0_REST t1_0_REST:Tok} {p1_REST:Dv} {od1_REST:Dw Dv} {sl1_REST:DJ (Dw Du)} {n1_REST:Nat} {t0_1_REST t1_1_REST:Tok}
  {jG:Dv} {qQ:Dw Dv} {qW:DJ (Dw Du)} {sX:Nat} {rK qR:Tok}
  (d1:DI K "common_divisor" cC f1 cd1)
  (d2:DI K "ratio" lX f2 cd2)
  (d3:DI K "plus" oJ f3 cd3)
  (d4:DI K "minus" mx f4 cd4)
  (d5:DI K "times" mR f5 cd5)
  (d6:DI K "negative" gJ f6 cd6)
  (d7:DI K "place_of" gC f7 cd7)
  (d8:DI K "plain_way" fF f8 cd8)
  (d9:DI K "product_of_ways" cj f9 cd9)
  (d10:DI K "in_whole_numbers" b7 f10 cd10)
  (d11:DI K "cleared" iN f11 cd11)
  (d12:DI K "first_with" eW f12 cd12)
  (d13:DI K "reduced" iV f13 cd13)
  (d14:DI K "without_shared" cA f14 cd14)
  (d15:DI K "solutions" fI f15 cd15)
  (d16:DI K "free_joints" dX f16 cd16)
  (d17:DI K "way_of_rod" eQ f17 cd17)
  (d18:DI K "keep" o_ f18 cd18)
  (d19:DI K "row_of_rod" eZ f19 cd19)
  (d20:DI K "rows_of_rods" dr f20 cd20)
  (d21:DI K "speeds_of" fL f21 cd21)
  (d22:DI K "swings" jx f22 cd22)
  (d23:DI K "rank_of" iH f23 cd23)
  (d24:DI K "many_swings" dZ f24 cd24)
  (d25:DI K "_law_cell_at" dD f25 cd25)
  (d26:DI K "_law_state" eV f26 cd26)
  (d27:DI K "_law_take" ft f27 cd27)
  (d28:DI K "_law_divisor" dG f28 cd28)
  (d29:DI K "_law_ratio" eK f29 cd29)
  (d30:DI K "_law_plus" fT f30 cd30)
  (d31:DI K "_law_times" eP f31 cd31)
  (d32:DI K "_law_fraction" cR f32 cd32)
  (d33:DI K "_law_plain_point" cb f33 cd33)
  (d34:DI K "_law_linkage" df f34 cd34)
  (d35:DI K "freedom" iA f35 cd35)
  (d36:DI K "pull_at" iE f36 cd36)
  (d37:DI K "balance" iT f37 cd37)
  (d38:DI K "column_of" fD f38 cd38)
  (d39:DI K "paper_of" gG f39 cd39)
  (d40:DI K "is_right" gD f40 cd40)
  (d41:DI K "_law_moved" eG f41 cd41)
  (d42:DI K "_law_summed" dR f42 cd42)
  (d43:DI K "law" sP f43 cd43)
  (mN:PySem.W.nsIn K mainGlobals "REST"=some (some (.ref o6))) (mE:K.lookup o6=some ⟨.type "tuple",u9,.seq #[.ref p0_REST,.ref p1_REST] ye,uV⟩) (lg0_REST:K.lookup p0_REST=some ⟨.type "tuple",od0_REST,.seq #[.int 0 t0_0_REST,.int 1 t1_0_REST] n0_REST,sl0_REST⟩) (lg1_REST:K.lookup p1_REST=some ⟨.type "tuple",od1_REST,.seq #[.int 0 t0_1_REST,.int 1 t1_1_REST] n1_REST,sl1_REST⟩)
  (iJ:PySem.W.nsIn K mainGlobals "NOUGHT"=some (some (.ref jG))) (iB:K.lookup jG=some ⟨.type "tuple",qQ,.seq #[.int 0 rK,.int 1 qR] sX,qW⟩)
  (uh:PySem.W.nsIn K mainGlobals "abs"=some none) (tT:PySem.W.nsIn K mainGlobals "zip"=some none) (mw:PySem.W.nsIn K mainGlobals "range"=some none) (tK:PySem.W.nsIn K mainGlobals "len"=some none) (fw:PySem.W.nsIn K mainGlobals "enumerate"=some none) (lS:PySem.W.nsIn K mainGlobals "tuple"=some none) (tQ:PySem.W.nsIn K mainGlobals "all"=some none) (rZ:PySem.W.nsIn K mainGlobals "max"=some none) (rQ:PySem.W.nsIn K mainGlobals "min"=some none) (sa:PySem.W.nsIn K mainGlobals "set"=some none):
  ∃ fd:FuncData,(∀ (s:Dt) (v:Du),BindsTo s fd ⟨[v],[]⟩ [("script",v)])/\∀ base:DD,K.In base->base.Ns mainGlobals mg->aW l.prog w K mg base cx 10 fa fd ["script"] (cO K nw):=by
 have e:=hfa.symm.trans (PySem.W.mg_of X G d43.a);cases e;have jN:=C9 X G uh;have fk:=C9 X G tT;have aH:=C9 X G mw;have aX:=C9 X G tK;have fR:=C9 X G fw;have aY:=C9 X G lS;have qi:=C9 X G tQ;have uD:=C9 X G rZ;have tD:=C9 X G rQ;have uf:=C9 X G sa;have ca:kj K mg "REST" [[0,1],[0,1]]:=⟨o6,_,_,_,PySem.W.mg_of X G mN,mE,rfl,rfl,CJ rfl,.cons lg0_REST rfl rfl (CJ rfl) (.cons ⟨_,rfl⟩ (.cons ⟨_,rfl⟩ (.nil))) (.cons lg1_REST rfl rfl (CJ rfl) (.cons ⟨_,rfl⟩ (.cons ⟨_,rfl⟩ (.nil))) (.nil))⟩
 have eB:u7 K mg "NOUGHT" [0,1]:=⟨jG,_,_,_,PySem.W.mg_of X G iJ,iB,rfl,rfl,CJ rfl,.cons ⟨_,rfl⟩ (.cons ⟨_,rfl⟩ (.nil))⟩
 obtain⟨fd,Fn,hc,hb⟩:=d43.fn;refine⟨fd,hb,λbase _ _=>?_⟩
 have zb:Bs l.prog w base:=.mk;have aI:=d1.own zb X G λ_ F _=>ib F jN
 have c9:=d2.own zb X G λ_ F _=>tu F aI
 have gM:=d3.own zb X G λ_ F _=>vj F c9
 have dI:=d4.own zb X G λ_ F _=>tU F c9
 have cI:=d5.own zb X G λ_ F _=>ur F c9
 have eI:=d6.own zb X G λ_ F _=>og F
 have fc:=d7.own zb X G λ_ F _=>nz F
 have cf:=d8.own zb X G λ_ F _=>mi F dI
 have cr:=d9.own zb X G λ_ F _=>gF F gM cI
 have b5:=d10.own zb X G λ_ F _=>gh F aI
 have iO:=d11.own zb X G λ_ F _=>oY F fk
 have eM:=d12.own zb X G λ_ F _=>kB F aH aX
 have dc:=d13.own zb X G λ_ F _=>oD F b5 eM iO aH aX
 have cB:=d14.own zb X G λ_ F _=>ig F aI
 have ce:=d15.own zb X G λ_ F _=>lZ F dc cB aH fk
 have av:=d16.own zb X G λ_ F _=>jU F aH
 have ba:=d17.own zb X G λ_ F _=>kD F cf fc
 have oy:=d18.own zb X G λ_ F _=>u8 F cf cr ba ca eB
 have eO:=d19.own zb X G λ_ F _=>kI F ba eI ca
 have aQ:=d20.own zb X G λ_ F _=>jf F av eO
 have fv:=d21.own zb X G λ_ F _=>lM F av fR aY ca
 have jH:=d22.own zb X G λ_ F _=>rh F av ce aQ fv aX
 have iS:=d23.own zb X G λ_ F _=>ph F dc aX
 have aP:=d24.own zb X G λ_ F _=>jJ F av iS aQ aX
 have de:=d25.own zb X G λ_ F _=>i_ F aX
 have eS:=d26.own zb X G λ_ F _=>kz F de
 have aB:=d27.own zb X G λ_ F _=>mO F
 have dk:=d28.own zb X G λ_ F _=>jc F jN
 have bc:=d29.own zb X G λ_ F _=>kx F dk
 have bN:=d30.own zb X G λ_ F _=>mY F bc
 have bp:=d31.own zb X G λ_ F _=>kw F bc
 have aU:=d32.own zb X G λ_ F _=>iQ F bc aB
 have b6:=d33.own zb X G λ_ F _=>f' F aU
 have dy:=d34.own zb X G λ_ F _=>ji F aB b6 aY aH aX
 have cy:=d35.own zb X G λ_ F _=>pI F aX
 have iz:=d36.own zb X G λ_ F _=>pw F ba gM cI dI fk ca
 have iq:=d37.own zb X G λ_ F _=>oN F av iz qi ca eB
 have fG:=d38.own zb X G λ_ F _=>mB F
 have gB:=d39.own zb X G λ_ F _=>nA F aQ av fG ce aH aX aY
 have gA:=d40.own zb X G λ_ F _=>nN F aP cy iq
 have eL:=d41.own zb X G λ_ F _=>ky F bN bp aY
 have dQ:=d42.own zb X G λ_ F _=>j7 F bN bp fk aY aH
 exact xq Fn eS dy aP gB cy gA aB eL aU jH oy dQ aH uD tD aX uf aY
theorem walk {l:PySem.W.OpenLaw} {q:Dy} {loose:List Str} {XP:(Str->Dw Du)->DD->Prop} {YP:DC->DD->Prop} {d:DefRec} {K:Params->Fg} (hn:l.most=some 63) (hdf:d.params.defaults=[])
  (hY:∀ (w:DC) (h:DD),YP w h->(K w.params).In h)
  (F:∀ (w:DC) (mg:Str->Dw Du) (fa:Dv) (h:DD),(K w.params).In h->h.Ns mainGlobals mg->mg d.name=some (.ref fa)->
   ∃ fd:FuncData,(∀ (s:Dt) (u:Du),BindsTo s fd ⟨[u],[]⟩ [("script",u)])/\∀ base:DD,(K w.params).In base->base.Ns mainGlobals mg->aW l.prog w (K w.params) mg base cx 10 fa fd ["script"] (cO (K w.params) nw)):
  PySem.W.WalkO q loose XP YP l.row.toRowW d [] (λf vs=>PySem.call f vs):=
 L2.uZ (n:=63) (k:=10) (x:="script") (CX:=λ_=>cx) (sp:=λw=>cO (K w.params) nw) hn (by decide) hdf ⟨rfl,by decide,by decide⟩ hY F
  (λw H a ns hl ho hS=>DL.xN ho hS (vk ns hl)) λ_ _ _ _ _ z=>z
end My
open PySem PySem.W PyProof.Rows
set_option maxRecDepth 100000 in
set_option maxHeartbeats 0 in
theorem PySem.Challenge.cw_hingedraw_k36_whole_swings_and_weights_holds : PySem.Challenge.rw_hingedraw_k36_whole_swings_and_weights.Holds := by
 w_on; o_law; k_head; (case hw=>w_witness2)
 k_fill
 refine My.walk (l := PySem.Challenge.rw_hingedraw_k36_whole_swings_and_weights) rfl rfl (λw h Y => PySem.W.kIn_of Y) ?F
 case F=>
  intro w mg fa h KX G hmg;refine' My.xM KX G hmg ?d1 ?d2 ?d3 ?d4 ?d5 ?d6 ?d7 ?d8 ?d9 ?d10 ?d11 ?d12 ?d13 ?d14 ?d15 ?d16 ?d17 ?d18 ?d19 ?d20 ?d21 ?d22 ?d23 ?d24 ?d25 ?d26 ?d27 ?d28 ?d29 ?d30 ?d31 ?d32 ?d33 ?d34 ?d35 ?d36 ?d37 ?d38 ?d39 ?d40 ?d41 ?d42 ?d43 ?mN ?mE ?lg0_REST ?lg1_REST ?iJ ?iB ?uh ?tT ?mw ?tK ?fw ?lS ?tQ ?rZ ?rQ ?sa
  case d1 | d2 | d3 | d4 | d5 | d6 | d7 | d8 | d9 | d10 | d11 | d12 | d13 | d14 | d15 | d16 | d17 | d18 | d19 | d20 | d21 | d22 | d23 | d24 | d25 | d26 | d27 | d28 | d29 | d30 | d31 | d32 | d33 | d34 | d35 | d36 | d37 | d38 | d39 | d40 | d41 | d42 | d43=>refine' ⟨?a,.mk ?l,?e,?k⟩; (case a=>k_is); (case l=>k_is); (case e=>k_is); (case k=>k_is)
  (case mN=>k_is)
  (case mE=>k_is)
  (case lg0_REST=>k_is)
  (case lg1_REST=>k_is)
  (case iJ=>k_is)
  (case iB=>k_is)
  (case uh=>k_is)
  (case tT=>k_is)
  (case mw=>k_is)
  (case tK=>k_is)
  (case fw=>k_is)
  (case lS=>k_is)
  (case tQ=>k_is)
  (case rZ=>k_is)
  (case rQ=>k_is)
  (case sa=>k_is)
